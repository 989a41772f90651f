/-
  Part 3 of what the proof rests on: values that are told, code that is walked, what comes out.
-/
import Derived.Test.YtnhfobhdbablaaaMr2
import Derived.Test.YtnhfobhdbablaaaChecked
import Derived.KernelRfl
import Derived.Shelf.Strings.Builder1
import Derived.Shelf.Strings.Builder2
import Derived.Shelf.Strings.OnBuilder
import Derived.Shelf.Strings.BuilderF
import Derived.Shelf.Strings.Search1
import Derived.Shelf.Strings.Search2
import Derived.Shelf.Strings.Search3
import Derived.Shelf.LaysM
import Derived.Shelf.Strings.Shaped
import Derived.Shelf.Strings.Prefix
import Derived.Shelf.Bits.Mul64
import Derived.Test.YtnhfobhdbablaaaProg
import Derived.Lib.AppendStr
import Derived.ProofKit
import Derived.OpenShut
import Derived.SizedLaws
import Derived.Laws.Runes
import Derived.Laws.BytesArg
import Derived.WalkKit
import Derived.Tactics
import Derived.Tactics2
import Derived.StillTactics
import Derived.Laws.Pointers
import Derived.Laws.Externs
import Derived.Laws.Entries
import Derived.Lib.Builder
import Derived.Lib.UnsafeStr
set_option linter.unusedSimpArgs false
set_option linter.unusedVariables false
set_option maxRecDepth 100000
namespace Go.Proofs.Ytnhfobhdbablaaa
open Go
def sideOK (n : Int) : Bool := decide (n = 1) || (decide (n = 2) || decide (n = 3))
/-- A side of a conflict; why there is none. -/
def ofS (p : Pt) (n : Int) : BS × Int := if sideOK n = false then ([], 5) else if n = 1 then (p.2.2.2.2.2.1, 0) else if n = 3 then (p.2.2.2.2.2.2.2.1, 0) else if p.2.2.2.2.2.2.2.2 = false then ([], 1) else (p.2.2.2.2.2.2.1, 0)
theorem ofS_len (p : Pt) (n : Int) : (ofS p n).1.length ≤ p.2.2.2.2.2.1.length + p.2.2.2.2.2.2.1.length + p.2.2.2.2.2.2.2.1.length := by
  unfold ofS
  split
  · simp
  · split
    · simp only; omega
    · split
      · simp only; omega
      · split
        · simp
        · simp only; omega
def textV : List Pt → List Int → BS → BS × Int
  | [], _, acc => (acc, 0)
  | p :: d, ss, acc => if hkP p = true then (if (ofS p (ss.getD 0 0)).2 ≠ 0 then ([], (ofS p (ss.getD 0 0)).2) else textV d ss.tail (acc ++ (ofS p (ss.getD 0 0)).1)) else textV d ss (acc ++ p.2.2.2.2.1)
def allR (d : List Pt) (n : Int) : BS × Int := if rightD d = false then ([], 11) else if sideOK n = false then ([], 5) else textV d (List.replicate (conflD d) n) []
def eachR (d : List Pt) (ss : List Int) : BS × Int := if rightD d = false then ([], 11) else if ss.length ≠ conflD d then ([], 1) else textV d ss []
theorem confl_cons (p : Pt) (d : List Pt) : conflD (p :: d) = (if hkP p = true then 1 else 0) + conflD d := by
  unfold conflD
  rw [List.filter_cons]
  split
  · rw [List.length_cons]; omega
  · omega
theorem all_each {d : List Pt} {n : Int} (h1 : rightD d = true) (h2 : sideOK n = true) : allR d n = eachR d (List.replicate (conflD d) n) := by
  unfold allR eachR
  rw [if_neg (by rw [h1]; simp), if_neg (by rw [h2]; simp), if_neg (by rw [h1]; simp), if_neg (by simp)]
/-- Which Part the n-th conflict is. -/
def placeG : List Pt → Nat → Int → Int
  | [], _, _ => -1
  | p :: d, i, n => if hkP p = true then (if n = 0 then (i : Int) else placeG d (i + 1) (n - 1)) else placeG d (i + 1) n
theorem place_neg : ∀ (d : List Pt) (i : Nat) (n : Int), n < 0 → placeG d i n = -1
  | [], _, _, _ => rfl
  | p :: d, i, n, h => by
    rw [placeG]
    split
    · rw [if_neg (by omega), place_neg d _ _ (by omega)]
    · exact place_neg d _ _ h
theorem place_spec : ∀ (d : List Pt) (i : Nat) (n : Int), 0 ≤ n → ((conflD d : Int) ≤ n → placeG d i n = -1) ∧ (n < conflD d → ∃ k : Nat, placeG d i n = ((i + k : Nat) : Int) ∧ k < d.length ∧ hkP (d.getD k ePt.dflt) = true ∧ (conflD (d.take k) : Int) = n)
  | [], i, n, h => ⟨fun _ => rfl, fun h2 => by simp [conflD] at h2; omega⟩
  | p :: d, i, n, h => by
    rw [placeG, confl_cons]
    by_cases hk : hkP p = true
    · rw [if_pos hk, if_pos hk]
      by_cases hn : n = 0
      · rw [if_pos hn]
        exact ⟨fun h2 => by omega, fun _ => ⟨0, by simp, by simp, by simpa using hk, by simp [conflD, hn]⟩⟩
      · rw [if_neg hn]
        obtain ⟨h1, h2⟩ := place_spec d (i + 1) (n - 1) (by omega)
        refine ⟨fun g => h1 (by omega), fun g => ?_⟩
        obtain ⟨k, g1, g2, g3, g4⟩ := h2 (by omega)
        refine ⟨k + 1, by rw [g1]; congr 1; omega, by simpa using g2, by simpa using g3, ?_⟩
        rw [List.take_succ_cons, confl_cons, if_pos hk]
        omega
    · rw [if_neg hk, if_neg hk]
      obtain ⟨h1, h2⟩ := place_spec d (i + 1) n h
      refine ⟨fun g => h1 (by omega), fun g => ?_⟩
      obtain ⟨k, g1, g2, g3, g4⟩ := h2 (by omega)
      refine ⟨k + 1, by rw [g1]; congr 1; omega, by simpa using g2, by simpa using g3, ?_⟩
      rw [List.take_succ_cons, confl_cons, if_neg hk]
      omega
/-- One conflict is resolved. -/
def oneD (d : List Pt) (n side : Int) : List Pt × Int :=
  if rightD d = false then ([], 11) else if placeG d 0 n < 0 then ([], 1) else
  if (ofS (d.getD (placeG d 0 n).toNat ePt.dflt) side).2 ≠ 0 then ([], (ofS (d.getD (placeG d 0 n).toNat ePt.dflt) side).2) else
  if (ofS (d.getD (placeG d 0 n).toNat ePt.dflt) side).1 ≠ [] ∧ endsL (ofS (d.getD (placeG d 0 n).toNat ePt.dflt) side).1 = false ∧ placeG d 0 n < (d.length : Int) - 1 then ([], 11)
  else (ofD (d.set (placeG d 0 n).toNat (textP (ofS (d.getD (placeG d 0 n).toNat ePt.dflt) side).1)), 0)
theorem set_getPt (d : List Pt) (k i : Nat) (q : Pt) (hk : k < d.length) : (d.set k q).getD i ePt.dflt = if i = k then q else d.getD i ePt.dflt := by
  by_cases h : i = k
  · subst h
    simp [List.getD, hk]
  · rw [if_neg h]
    simp [List.getD, List.getElem?_set_ne (Ne.symm h)]
theorem one_right {d : List Pt} {n side : Int} (h : (oneD d n side).2 = 0) : rightD (oneD d n side).1 = true := by
  unfold oneD at *
  by_cases h1 : rightD d = false
  · rw [if_pos h1] at h; simp at h
  rw [if_neg h1] at h ⊢
  by_cases h2 : placeG d 0 n < 0
  · rw [if_pos h2] at h; simp at h
  rw [if_neg h2] at h ⊢
  generalize hk : (placeG d 0 n).toNat = k at *
  by_cases h3 : (ofS (d.getD k ePt.dflt) side).2 ≠ 0
  · rw [if_pos h3] at h; exact absurd h h3
  rw [if_neg h3] at h ⊢
  generalize (ofS (d.getD k ePt.dflt) side).1 = t at *
  by_cases h4 : t ≠ [] ∧ endsL t = false ∧ placeG d 0 n < (d.length : Int) - 1
  · rw [if_pos h4] at h; simp at h
  rw [if_neg h4] at h ⊢
  have h1 : rightD d = true := by simpa using h1
  have hn : 0 ≤ n := by
    rcases Int.lt_or_le n 0 with g | g
    · rw [place_neg d 0 n g] at h2; simp at h2
    · exact g
  have hkl : k < d.length := by
    rcases Int.lt_or_le n (conflD d) with g | g
    · obtain ⟨k', g1, g2, _, _⟩ := (place_spec d 0 n hn).2 g
      rw [g1] at hk
      simp at hk
      omega
    · rw [(place_spec d 0 n hn).1 g] at h2
      simp at h2
  have hall : ∀ i, i < d.length → okAt d i = true := of_decide_eq_true h1
  have hget : ∀ i, i < d.length → confD ((d.set k (textP t)).getD i ePt.dflt) = true ∨ (isTextD ((d.set k (textP t)).getD i ePt.dflt) = true ∧ (i + 1 < d.length → txP ((d.set k (textP t)).getD i ePt.dflt) = [] ∨ endsL (txP ((d.set k (textP t)).getD i ePt.dflt)) = true)) := fun i hi => by
    rw [set_getPt d k i _ hkl]
    by_cases e : i = k
    · rw [if_pos e]
      refine .inr ⟨isText_textP _, fun hlt => ?_⟩
      show t = [] ∨ endsL t = true
      by_cases ht : t = []
      · exact .inl ht
      · right
        cases he : endsL t with
        | true => rfl
        | false => exact absurd ⟨ht, he, by omega⟩ h4
    · rw [if_neg e]
      have := hall i hi
      unfold okAt at this
      simp only [Bool.and_eq_true, Bool.or_eq_true] at this
      rcases this.2 with g | g
      · exact .inl g
      · unfold aheadD at g
        simp only [Bool.and_eq_true, decide_eq_true_eq] at g
        refine .inr ⟨g.1, fun hlt => .inr ?_⟩
        have := g.2.2
        rw [decide_eq_true hlt] at this
        simpa using this
  refine of_right (fun p hp => ?_) (fun p hp => ?_)
  · obtain ⟨i, hi, rfl⟩ := List.getElem_of_mem hp
    rw [List.length_set] at hi
    rw [← gd_lt _ ePt.dflt (by simpa using hi)]
    rcases hget i hi with g | g
    · exact .inl g
    · exact .inr g.1
  · obtain ⟨i, hi, rfl⟩ := List.getElem_of_mem hp
    rw [List.length_dropLast, List.length_set] at hi
    rw [List.getElem_dropLast, ← gd_lt _ ePt.dflt (by simp; omega)]
    rcases hget i (by omega) with g | g
    · exact .inl g
    · exact .inr ⟨g.1, g.2 (by omega)⟩
end Go.Proofs.Ytnhfobhdbablaaa
namespace Go.Proofs.Ytnhfobhdbablaaa
open Go
theorem mixed : Try.prog.follows .mixedOrders = true := by kernel_rfl
attribute [go_sem] Try.underlying2
@[go_sem] theorem agg2 : aggT Try.prog 2 = some false := by kernel_rfl
@[go_sem] theorem cells2 : Try.prog.cellsOf 2 = 1 := by kernel_rfl
@[go_sem] theorem bytes2 : Try.prog.bytesOf 2 = 8 := by kernel_rfl
@[go_sem] theorem parts2 : eqParts Try.prog 2 = none := by kernel_rfl
@[go_sem] theorem zeroV2 : zero1 Try.prog 2 = some (.int .i64 0) := by kernel_rfl
@[go_sem] theorem zero2 : zeroC Try.prog 2 = some [.int .i64 0] := by kernel_rfl
attribute [go_sem] Try.underlying3
@[go_sem] theorem agg3 : aggT Try.prog 3 = some false := by kernel_rfl
@[go_sem] theorem cells3 : Try.prog.cellsOf 3 = 1 := by kernel_rfl
@[go_sem] theorem bytes3 : Try.prog.bytesOf 3 = 8 := by kernel_rfl
@[go_sem] theorem parts3 : eqParts Try.prog 3 = none := by kernel_rfl
@[go_sem] theorem zeroV3 : zero1 Try.prog 3 = some (.int .i64 0) := by kernel_rfl
@[go_sem] theorem zero3 : zeroC Try.prog 3 = some [.int .i64 0] := by kernel_rfl
attribute [go_sem] Try.underlying4
@[go_sem] theorem agg4 : aggT Try.prog 4 = some false := by kernel_rfl
@[go_sem] theorem cells4 : Try.prog.cellsOf 4 = 1 := by kernel_rfl
@[go_sem] theorem bytes4 : Try.prog.bytesOf 4 = 1 := by kernel_rfl
@[go_sem] theorem parts4 : eqParts Try.prog 4 = none := by kernel_rfl
@[go_sem] theorem zeroV4 : zero1 Try.prog 4 = some (.bool false) := by kernel_rfl
@[go_sem] theorem zero4 : zeroC Try.prog 4 = some [.bool false] := by kernel_rfl
attribute [go_sem] Try.underlying5
@[go_sem] theorem agg5 : aggT Try.prog 5 = some false := by kernel_rfl
@[go_sem] theorem cells5 : Try.prog.cellsOf 5 = 1 := by kernel_rfl
@[go_sem] theorem bytes5 : Try.prog.bytesOf 5 = 1 := by kernel_rfl
@[go_sem] theorem parts5 : eqParts Try.prog 5 = none := by kernel_rfl
@[go_sem] theorem zeroV5 : zero1 Try.prog 5 = some (.int .u8 0) := by kernel_rfl
@[go_sem] theorem zero5 : zeroC Try.prog 5 = some [.int .u8 0] := by kernel_rfl
attribute [go_sem] Try.underlying6
@[go_sem] theorem agg6 : aggT Try.prog 6 = some false := by kernel_rfl
@[go_sem] theorem cells6 : Try.prog.cellsOf 6 = 1 := by kernel_rfl
@[go_sem] theorem bytes6 : Try.prog.bytesOf 6 = 1 := by kernel_rfl
@[go_sem] theorem parts6 : eqParts Try.prog 6 = none := by kernel_rfl
@[go_sem] theorem zeroV6 : zero1 Try.prog 6 = some (.int .u8 0) := by kernel_rfl
@[go_sem] theorem zero6 : zeroC Try.prog 6 = some [.int .u8 0] := by kernel_rfl
@[go_sem] theorem agg7 : aggT Try.prog 7 = some true := by kernel_rfl
@[go_sem] theorem cells7 : Try.prog.cellsOf 7 = 4 := by kernel_rfl
@[go_sem] theorem bytes7 : Try.prog.bytesOf 7 = 24 := by kernel_rfl
@[go_sem] theorem zero7 : zeroC Try.prog 7 = some [.int .i64 0, .int .i64 0, .bool false, .int .u8 0] := by kernel_rfl
@[go_sem] theorem fld7_0 : fld Try.prog 7 0 = some (0, 2) := by kernel_rfl
@[go_sem] theorem fld7_1 : fld Try.prog 7 1 = some (1, 3) := by kernel_rfl
@[go_sem] theorem fld7_2 : fld Try.prog 7 2 = some (2, 4) := by kernel_rfl
@[go_sem] theorem fld7_3 : fld Try.prog 7 3 = some (3, 6) := by kernel_rfl
@[go_sem] theorem lay7 : layOf Try.prog 7 = some [(0, 1), (1, 1), (2, 1), (3, 1)] := by kernel_rfl
@[go_sem] theorem sized7 : sized Try.prog 7 = true := by kernel_rfl
@[go_sem] theorem agg8 : aggT Try.prog 8 = some true := by kernel_rfl
@[go_sem] theorem cells8 : Try.prog.cellsOf 8 = 4 := by kernel_rfl
@[go_sem] theorem bytes8 : Try.prog.bytesOf 8 = 24 := by kernel_rfl
@[go_sem] theorem zero8 : zeroC Try.prog 8 = some [.int .i64 0, .int .i64 0, .bool false, .int .u8 0] := by kernel_rfl
@[go_sem] theorem fld8_0 : fld Try.prog 8 0 = some (0, 2) := by kernel_rfl
@[go_sem] theorem fld8_1 : fld Try.prog 8 1 = some (1, 3) := by kernel_rfl
@[go_sem] theorem fld8_2 : fld Try.prog 8 2 = some (2, 4) := by kernel_rfl
@[go_sem] theorem fld8_3 : fld Try.prog 8 3 = some (3, 6) := by kernel_rfl
@[go_sem] theorem lay8 : layOf Try.prog 8 = some [(0, 1), (1, 1), (2, 1), (3, 1)] := by kernel_rfl
@[go_sem] theorem sized8 : sized Try.prog 8 = true := by kernel_rfl
attribute [go_sem] Try.underlying9
@[go_sem] theorem agg9 : aggT Try.prog 9 = some false := by kernel_rfl
@[go_sem] theorem cells9 : Try.prog.cellsOf 9 = 1 := by kernel_rfl
@[go_sem] theorem bytes9 : Try.prog.bytesOf 9 = 16 := by kernel_rfl
@[go_sem] theorem parts9 : eqParts Try.prog 9 = none := by kernel_rfl
@[go_sem] theorem zeroV9 : zero1 Try.prog 9 = some (.string ⟨#[]⟩) := by kernel_rfl
@[go_sem] theorem zero9 : zeroC Try.prog 9 = some [.string ⟨#[]⟩] := by kernel_rfl
attribute [go_sem] Try.underlying10
@[go_sem] theorem agg10 : aggT Try.prog 10 = some false := by kernel_rfl
@[go_sem] theorem cells10 : Try.prog.cellsOf 10 = 1 := by kernel_rfl
@[go_sem] theorem bytes10 : Try.prog.bytesOf 10 = 16 := by kernel_rfl
@[go_sem] theorem parts10 : eqParts Try.prog 10 = none := by kernel_rfl
@[go_sem] theorem zeroV10 : zero1 Try.prog 10 = some (.string ⟨#[]⟩) := by kernel_rfl
@[go_sem] theorem zero10 : zeroC Try.prog 10 = some [.string ⟨#[]⟩] := by kernel_rfl
attribute [go_sem] Try.underlying11
@[go_sem] theorem agg11 : aggT Try.prog 11 = some false := by kernel_rfl
@[go_sem] theorem cells11 : Try.prog.cellsOf 11 = 1 := by kernel_rfl
@[go_sem] theorem bytes11 : Try.prog.bytesOf 11 = 16 := by kernel_rfl
@[go_sem] theorem parts11 : eqParts Try.prog 11 = none := by kernel_rfl
@[go_sem] theorem zeroV11 : zero1 Try.prog 11 = some (.string ⟨#[]⟩) := by kernel_rfl
@[go_sem] theorem zero11 : zeroC Try.prog 11 = some [.string ⟨#[]⟩] := by kernel_rfl
attribute [go_sem] Try.underlying12
@[go_sem] theorem agg12 : aggT Try.prog 12 = some false := by kernel_rfl
@[go_sem] theorem cells12 : Try.prog.cellsOf 12 = 1 := by kernel_rfl
@[go_sem] theorem bytes12 : Try.prog.bytesOf 12 = 8 := by kernel_rfl
@[go_sem] theorem parts12 : eqParts Try.prog 12 = none := by kernel_rfl
@[go_sem] theorem zeroV12 : zero1 Try.prog 12 = some (.int .u64 0) := by kernel_rfl
@[go_sem] theorem zero12 : zeroC Try.prog 12 = some [.int .u64 0] := by kernel_rfl
@[go_sem] theorem agg13 : aggT Try.prog 13 = some true := by kernel_rfl
@[go_sem] theorem cells13 : Try.prog.cellsOf 13 = 2 := by kernel_rfl
@[go_sem] theorem bytes13 : Try.prog.bytesOf 13 = 24 := by kernel_rfl
@[go_sem] theorem zero13 : zeroC Try.prog 13 = some [.string ⟨#[]⟩, .int .u64 0] := by kernel_rfl
@[go_sem] theorem fld13_0 : fld Try.prog 13 0 = some (0, 9) := by kernel_rfl
@[go_sem] theorem fld13_1 : fld Try.prog 13 1 = some (1, 12) := by kernel_rfl
@[go_sem] theorem lay13 : layOf Try.prog 13 = some [(0, 1), (1, 1)] := by kernel_rfl
@[go_sem] theorem sized13 : sized Try.prog 13 = true := by kernel_rfl
@[go_sem] theorem agg14 : aggT Try.prog 14 = some true := by kernel_rfl
@[go_sem] theorem cells14 : Try.prog.cellsOf 14 = 2 := by kernel_rfl
@[go_sem] theorem bytes14 : Try.prog.bytesOf 14 = 24 := by kernel_rfl
@[go_sem] theorem zero14 : zeroC Try.prog 14 = some [.string ⟨#[]⟩, .int .u64 0] := by kernel_rfl
@[go_sem] theorem fld14_0 : fld Try.prog 14 0 = some (0, 9) := by kernel_rfl
@[go_sem] theorem fld14_1 : fld Try.prog 14 1 = some (1, 12) := by kernel_rfl
@[go_sem] theorem lay14 : layOf Try.prog 14 = some [(0, 1), (1, 1)] := by kernel_rfl
@[go_sem] theorem sized14 : sized Try.prog 14 = true := by kernel_rfl
attribute [go_sem] Try.underlying15
@[go_sem] theorem agg15 : aggT Try.prog 15 = some false := by kernel_rfl
@[go_sem] theorem cells15 : Try.prog.cellsOf 15 = 1 := by kernel_rfl
@[go_sem] theorem bytes15 : Try.prog.bytesOf 15 = 8 := by kernel_rfl
@[go_sem] theorem parts15 : eqParts Try.prog 15 = none := by kernel_rfl
@[go_sem] theorem zeroV15 : zero1 Try.prog 15 = some (.pointer none) := by kernel_rfl
@[go_sem] theorem zero15 : zeroC Try.prog 15 = some [.pointer none] := by kernel_rfl
attribute [go_sem] Try.underlying16
@[go_sem] theorem agg16 : aggT Try.prog 16 = some false := by kernel_rfl
@[go_sem] theorem cells16 : Try.prog.cellsOf 16 = 1 := by kernel_rfl
@[go_sem] theorem bytes16 : Try.prog.bytesOf 16 = 8 := by kernel_rfl
@[go_sem] theorem parts16 : eqParts Try.prog 16 = none := by kernel_rfl
@[go_sem] theorem zeroV16 : zero1 Try.prog 16 = some (.pointer none) := by kernel_rfl
@[go_sem] theorem zero16 : zeroC Try.prog 16 = some [.pointer none] := by kernel_rfl
attribute [go_sem] Try.underlying17
@[go_sem] theorem agg17 : aggT Try.prog 17 = some false := by kernel_rfl
@[go_sem] theorem cells17 : Try.prog.cellsOf 17 = 1 := by kernel_rfl
@[go_sem] theorem bytes17 : Try.prog.bytesOf 17 = 8 := by kernel_rfl
@[go_sem] theorem parts17 : eqParts Try.prog 17 = none := by kernel_rfl
@[go_sem] theorem zeroV17 : zero1 Try.prog 17 = some (.pointer none) := by kernel_rfl
@[go_sem] theorem zero17 : zeroC Try.prog 17 = some [.pointer none] := by kernel_rfl
@[go_sem] theorem agg18 : aggT Try.prog 18 = some true := by kernel_rfl
@[go_sem] theorem cells18 : Try.prog.cellsOf 18 = 1 := by kernel_rfl
@[go_sem] theorem bytes18 : Try.prog.bytesOf 18 = 8 := by kernel_rfl
@[go_sem] theorem zero18 : zeroC Try.prog 18 = some [.pointer none] := by kernel_rfl
@[go_sem] theorem fld18_0 : fld Try.prog 18 0 = some (0, 17) := by kernel_rfl
@[go_sem] theorem lay18 : layOf Try.prog 18 = some [(0, 1)] := by kernel_rfl
@[go_sem] theorem sized18 : sized Try.prog 18 = true := by kernel_rfl
@[go_sem] theorem agg19 : aggT Try.prog 19 = some true := by kernel_rfl
@[go_sem] theorem cells19 : Try.prog.cellsOf 19 = 1 := by kernel_rfl
@[go_sem] theorem bytes19 : Try.prog.bytesOf 19 = 8 := by kernel_rfl
@[go_sem] theorem zero19 : zeroC Try.prog 19 = some [.pointer none] := by kernel_rfl
@[go_sem] theorem fld19_0 : fld Try.prog 19 0 = some (0, 17) := by kernel_rfl
@[go_sem] theorem lay19 : layOf Try.prog 19 = some [(0, 1)] := by kernel_rfl
@[go_sem] theorem sized19 : sized Try.prog 19 = true := by kernel_rfl
@[go_sem] theorem agg20 : aggT Try.prog 20 = some false := by kernel_rfl
@[go_sem] theorem cells20 : Try.prog.cellsOf 20 = 1 := by kernel_rfl
@[go_sem] theorem bytes20 : Try.prog.bytesOf 20 = 16 := by kernel_rfl
@[go_sem] theorem parts20 : eqParts Try.prog 20 = none := by kernel_rfl
@[go_sem] theorem zeroV20 : zero1 Try.prog 20 = some (.nilIface) := by kernel_rfl
@[go_sem] theorem zero20 : zeroC Try.prog 20 = some [.nilIface] := by kernel_rfl
attribute [go_sem] Try.underlying21
@[go_sem] theorem agg21 : aggT Try.prog 21 = some false := by kernel_rfl
@[go_sem] theorem cells21 : Try.prog.cellsOf 21 = 1 := by kernel_rfl
@[go_sem] theorem bytes21 : Try.prog.bytesOf 21 = 4 := by kernel_rfl
@[go_sem] theorem parts21 : eqParts Try.prog 21 = none := by kernel_rfl
@[go_sem] theorem zeroV21 : zero1 Try.prog 21 = some (.int .i32 0) := by kernel_rfl
@[go_sem] theorem zero21 : zeroC Try.prog 21 = some [.int .i32 0] := by kernel_rfl
attribute [go_sem] Try.underlying22
@[go_sem] theorem agg22 : aggT Try.prog 22 = some true := by kernel_rfl
@[go_sem] theorem cells22 : Try.prog.cellsOf 22 = 3 := by kernel_rfl
@[go_sem] theorem bytes22 : Try.prog.bytesOf 22 = 48 := by kernel_rfl
@[go_sem] theorem lay22 : layOf Try.prog 22 = none := by kernel_rfl
@[go_sem] theorem arr22 : arrOf Try.prog 22 = some 1 := by kernel_rfl
@[go_sem] theorem parts22 : eqParts Try.prog 22 = some [(0, 9), (1, 9), (2, 9)] := by kernel_rfl
@[go_sem] theorem eqg22 : Try.prog.eqGuardType Try.prog.depth 22 = false := by kernel_rfl
@[go_sem] theorem zero22 : zeroC Try.prog 22 = some [.string ⟨#[]⟩, .string ⟨#[]⟩, .string ⟨#[]⟩] := by kernel_rfl
@[go_sem] theorem agg23 : aggT Try.prog 23 = some true := by kernel_rfl
@[go_sem] theorem cells23 : Try.prog.cellsOf 23 = 9 := by kernel_rfl
@[go_sem] theorem bytes23 : Try.prog.bytesOf 23 = 128 := by kernel_rfl
@[go_sem] theorem parts23 : eqParts Try.prog 23 = some [(0, 9), (1, 9), (2, 9), (3, 4), (4, 9), (5, 9), (6, 9), (7, 9), (8, 4)] := by kernel_rfl
@[go_sem] theorem eqg23 : Try.prog.eqGuardType Try.prog.depth 23 = false := by kernel_rfl
@[go_sem] theorem zero23 : zeroC Try.prog 23 = some [.string ⟨#[]⟩, .string ⟨#[]⟩, .string ⟨#[]⟩, .bool false, .string ⟨#[]⟩, .string ⟨#[]⟩, .string ⟨#[]⟩, .string ⟨#[]⟩, .bool false] := by kernel_rfl
@[go_sem] theorem fld23_0 : fld Try.prog 23 0 = some (0, 9) := by kernel_rfl
@[go_sem] theorem fld23_1 : fld Try.prog 23 1 = some (1, 9) := by kernel_rfl
@[go_sem] theorem fld23_2 : fld Try.prog 23 2 = some (2, 9) := by kernel_rfl
@[go_sem] theorem fld23_3 : fld Try.prog 23 3 = some (3, 4) := by kernel_rfl
@[go_sem] theorem fld23_4 : fld Try.prog 23 4 = some (4, 9) := by kernel_rfl
@[go_sem] theorem fld23_5 : fld Try.prog 23 5 = some (5, 9) := by kernel_rfl
@[go_sem] theorem fld23_6 : fld Try.prog 23 6 = some (6, 9) := by kernel_rfl
@[go_sem] theorem fld23_7 : fld Try.prog 23 7 = some (7, 9) := by kernel_rfl
@[go_sem] theorem fld23_8 : fld Try.prog 23 8 = some (8, 4) := by kernel_rfl
@[go_sem] theorem lay23 : layOf Try.prog 23 = some [(0, 1), (1, 1), (2, 1), (3, 1), (4, 1), (5, 1), (6, 1), (7, 1), (8, 1)] := by kernel_rfl
@[go_sem] theorem sized23 : sized Try.prog 23 = true := by kernel_rfl
@[go_sem] theorem agg24 : aggT Try.prog 24 = some true := by kernel_rfl
@[go_sem] theorem cells24 : Try.prog.cellsOf 24 = 9 := by kernel_rfl
@[go_sem] theorem bytes24 : Try.prog.bytesOf 24 = 128 := by kernel_rfl
@[go_sem] theorem parts24 : eqParts Try.prog 24 = some [(0, 9), (1, 9), (2, 9), (3, 4), (4, 9), (5, 9), (6, 9), (7, 9), (8, 4)] := by kernel_rfl
@[go_sem] theorem eqg24 : Try.prog.eqGuardType Try.prog.depth 24 = false := by kernel_rfl
@[go_sem] theorem zero24 : zeroC Try.prog 24 = some [.string ⟨#[]⟩, .string ⟨#[]⟩, .string ⟨#[]⟩, .bool false, .string ⟨#[]⟩, .string ⟨#[]⟩, .string ⟨#[]⟩, .string ⟨#[]⟩, .bool false] := by kernel_rfl
@[go_sem] theorem fld24_0 : fld Try.prog 24 0 = some (0, 9) := by kernel_rfl
@[go_sem] theorem fld24_1 : fld Try.prog 24 1 = some (1, 9) := by kernel_rfl
@[go_sem] theorem fld24_2 : fld Try.prog 24 2 = some (2, 9) := by kernel_rfl
@[go_sem] theorem fld24_3 : fld Try.prog 24 3 = some (3, 4) := by kernel_rfl
@[go_sem] theorem fld24_4 : fld Try.prog 24 4 = some (4, 9) := by kernel_rfl
@[go_sem] theorem fld24_5 : fld Try.prog 24 5 = some (5, 9) := by kernel_rfl
@[go_sem] theorem fld24_6 : fld Try.prog 24 6 = some (6, 9) := by kernel_rfl
@[go_sem] theorem fld24_7 : fld Try.prog 24 7 = some (7, 9) := by kernel_rfl
@[go_sem] theorem fld24_8 : fld Try.prog 24 8 = some (8, 4) := by kernel_rfl
@[go_sem] theorem lay24 : layOf Try.prog 24 = some [(0, 1), (1, 1), (2, 1), (3, 1), (4, 1), (5, 1), (6, 1), (7, 1), (8, 1)] := by kernel_rfl
@[go_sem] theorem sized24 : sized Try.prog 24 = true := by kernel_rfl
attribute [go_sem] Try.underlying26
@[go_sem] theorem agg26 : aggT Try.prog 26 = some false := by kernel_rfl
@[go_sem] theorem cells26 : Try.prog.cellsOf 26 = 1 := by kernel_rfl
@[go_sem] theorem bytes26 : Try.prog.bytesOf 26 = 24 := by kernel_rfl
@[go_sem] theorem parts26 : eqParts Try.prog 26 = none := by kernel_rfl
@[go_sem] theorem zeroV26 : zero1 Try.prog 26 = some (.slice none 0 0) := by kernel_rfl
@[go_sem] theorem zero26 : zeroC Try.prog 26 = some [.slice none 0 0] := by kernel_rfl
attribute [go_sem] Try.underlying28
@[go_sem] theorem agg28 : aggT Try.prog 28 = some false := by kernel_rfl
@[go_sem] theorem cells28 : Try.prog.cellsOf 28 = 1 := by kernel_rfl
@[go_sem] theorem bytes28 : Try.prog.bytesOf 28 = 24 := by kernel_rfl
@[go_sem] theorem parts28 : eqParts Try.prog 28 = none := by kernel_rfl
@[go_sem] theorem zeroV28 : zero1 Try.prog 28 = some (.slice none 0 0) := by kernel_rfl
@[go_sem] theorem zero28 : zeroC Try.prog 28 = some [.slice none 0 0] := by kernel_rfl
@[go_sem] theorem agg29 : aggT Try.prog 29 = some true := by kernel_rfl
@[go_sem] theorem cells29 : Try.prog.cellsOf 29 = 3 := by kernel_rfl
@[go_sem] theorem bytes29 : Try.prog.bytesOf 29 = 72 := by kernel_rfl
@[go_sem] theorem parts29 : eqParts Try.prog 29 = some [(0, 28), (1, 28), (2, 28)] := by kernel_rfl
@[go_sem] theorem eqg29 : Try.prog.eqGuardType Try.prog.depth 29 = false := by kernel_rfl
@[go_sem] theorem zero29 : zeroC Try.prog 29 = some [.slice none 0 0, .slice none 0 0, .slice none 0 0] := by kernel_rfl
@[go_sem] theorem fld29_0 : fld Try.prog 29 0 = some (0, 28) := by kernel_rfl
@[go_sem] theorem fld29_1 : fld Try.prog 29 1 = some (1, 28) := by kernel_rfl
@[go_sem] theorem fld29_2 : fld Try.prog 29 2 = some (2, 28) := by kernel_rfl
@[go_sem] theorem lay29 : layOf Try.prog 29 = some [(0, 1), (1, 1), (2, 1)] := by kernel_rfl
@[go_sem] theorem sized29 : sized Try.prog 29 = true := by kernel_rfl
@[go_sem] theorem agg30 : aggT Try.prog 30 = some true := by kernel_rfl
@[go_sem] theorem cells30 : Try.prog.cellsOf 30 = 3 := by kernel_rfl
@[go_sem] theorem bytes30 : Try.prog.bytesOf 30 = 72 := by kernel_rfl
@[go_sem] theorem parts30 : eqParts Try.prog 30 = some [(0, 28), (1, 28), (2, 28)] := by kernel_rfl
@[go_sem] theorem eqg30 : Try.prog.eqGuardType Try.prog.depth 30 = false := by kernel_rfl
@[go_sem] theorem zero30 : zeroC Try.prog 30 = some [.slice none 0 0, .slice none 0 0, .slice none 0 0] := by kernel_rfl
@[go_sem] theorem fld30_0 : fld Try.prog 30 0 = some (0, 28) := by kernel_rfl
@[go_sem] theorem fld30_1 : fld Try.prog 30 1 = some (1, 28) := by kernel_rfl
@[go_sem] theorem fld30_2 : fld Try.prog 30 2 = some (2, 28) := by kernel_rfl
@[go_sem] theorem lay30 : layOf Try.prog 30 = some [(0, 1), (1, 1), (2, 1)] := by kernel_rfl
@[go_sem] theorem sized30 : sized Try.prog 30 = true := by kernel_rfl
attribute [go_sem] Try.underlying31
@[go_sem] theorem agg31 : aggT Try.prog 31 = some false := by kernel_rfl
@[go_sem] theorem cells31 : Try.prog.cellsOf 31 = 1 := by kernel_rfl
@[go_sem] theorem bytes31 : Try.prog.bytesOf 31 = 24 := by kernel_rfl
@[go_sem] theorem parts31 : eqParts Try.prog 31 = none := by kernel_rfl
@[go_sem] theorem zeroV31 : zero1 Try.prog 31 = some (.slice none 0 0) := by kernel_rfl
@[go_sem] theorem zero31 : zeroC Try.prog 31 = some [.slice none 0 0] := by kernel_rfl
@[go_sem] theorem agg35 : aggT Try.prog 35 = some true := by kernel_rfl
@[go_sem] theorem cells35 : Try.prog.cellsOf 35 = 3 := by kernel_rfl
@[go_sem] theorem bytes35 : Try.prog.bytesOf 35 = 72 := by kernel_rfl
@[go_sem] theorem parts35 : eqParts Try.prog 35 = some [(0, 28), (1, 28), (2, 28)] := by kernel_rfl
@[go_sem] theorem eqg35 : Try.prog.eqGuardType Try.prog.depth 35 = false := by kernel_rfl
@[go_sem] theorem zero35 : zeroC Try.prog 35 = some [.slice none 0 0, .slice none 0 0, .slice none 0 0] := by kernel_rfl
@[go_sem] theorem fld35_0 : fld Try.prog 35 0 = some (0, 28) := by kernel_rfl
@[go_sem] theorem fld35_1 : fld Try.prog 35 1 = some (1, 28) := by kernel_rfl
@[go_sem] theorem fld35_2 : fld Try.prog 35 2 = some (2, 28) := by kernel_rfl
@[go_sem] theorem lay35 : layOf Try.prog 35 = some [(0, 1), (1, 1), (2, 1)] := by kernel_rfl
@[go_sem] theorem sized35 : sized Try.prog 35 = true := by kernel_rfl
attribute [go_sem] Try.underlying37
@[go_sem] theorem agg37 : aggT Try.prog 37 = some false := by kernel_rfl
@[go_sem] theorem cells37 : Try.prog.cellsOf 37 = 1 := by kernel_rfl
@[go_sem] theorem bytes37 : Try.prog.bytesOf 37 = 24 := by kernel_rfl
@[go_sem] theorem parts37 : eqParts Try.prog 37 = none := by kernel_rfl
@[go_sem] theorem zeroV37 : zero1 Try.prog 37 = some (.slice none 0 0) := by kernel_rfl
@[go_sem] theorem zero37 : zeroC Try.prog 37 = some [.slice none 0 0] := by kernel_rfl
attribute [go_sem] Try.underlying39
@[go_sem] theorem agg39 : aggT Try.prog 39 = some false := by kernel_rfl
@[go_sem] theorem cells39 : Try.prog.cellsOf 39 = 1 := by kernel_rfl
@[go_sem] theorem bytes39 : Try.prog.bytesOf 39 = 24 := by kernel_rfl
@[go_sem] theorem parts39 : eqParts Try.prog 39 = none := by kernel_rfl
@[go_sem] theorem zeroV39 : zero1 Try.prog 39 = some (.slice none 0 0) := by kernel_rfl
@[go_sem] theorem zero39 : zeroC Try.prog 39 = some [.slice none 0 0] := by kernel_rfl
attribute [go_sem] Try.underlying40
@[go_sem] theorem agg40 : aggT Try.prog 40 = some false := by kernel_rfl
@[go_sem] theorem cells40 : Try.prog.cellsOf 40 = 1 := by kernel_rfl
@[go_sem] theorem bytes40 : Try.prog.bytesOf 40 = 24 := by kernel_rfl
@[go_sem] theorem parts40 : eqParts Try.prog 40 = none := by kernel_rfl
@[go_sem] theorem zeroV40 : zero1 Try.prog 40 = some (.slice none 0 0) := by kernel_rfl
@[go_sem] theorem zero40 : zeroC Try.prog 40 = some [.slice none 0 0] := by kernel_rfl
attribute [go_sem] Try.underlying41
@[go_sem] theorem agg41 : aggT Try.prog 41 = some false := by kernel_rfl
@[go_sem] theorem cells41 : Try.prog.cellsOf 41 = 1 := by kernel_rfl
@[go_sem] theorem bytes41 : Try.prog.bytesOf 41 = 8 := by kernel_rfl
@[go_sem] theorem parts41 : eqParts Try.prog 41 = none := by kernel_rfl
@[go_sem] theorem zeroV41 : zero1 Try.prog 41 = some (.int .i64 0) := by kernel_rfl
@[go_sem] theorem zero41 : zeroC Try.prog 41 = some [.int .i64 0] := by kernel_rfl
@[go_sem] theorem agg44 : aggT Try.prog 44 = some true := by kernel_rfl
@[go_sem] theorem cells44 : Try.prog.cellsOf 44 = 3 := by kernel_rfl
@[go_sem] theorem bytes44 : Try.prog.bytesOf 44 = 48 := by kernel_rfl
@[go_sem] theorem parts44 : eqParts Try.prog 44 = some [(0, 9), (1, 9), (2, 9)] := by kernel_rfl
@[go_sem] theorem eqg44 : Try.prog.eqGuardType Try.prog.depth 44 = false := by kernel_rfl
@[go_sem] theorem zero44 : zeroC Try.prog 44 = some [.string ⟨#[]⟩, .string ⟨#[]⟩, .string ⟨#[]⟩] := by kernel_rfl
@[go_sem] theorem fld44_0 : fld Try.prog 44 0 = some (0, 9) := by kernel_rfl
@[go_sem] theorem fld44_1 : fld Try.prog 44 1 = some (1, 9) := by kernel_rfl
@[go_sem] theorem fld44_2 : fld Try.prog 44 2 = some (2, 9) := by kernel_rfl
@[go_sem] theorem lay44 : layOf Try.prog 44 = some [(0, 1), (1, 1), (2, 1)] := by kernel_rfl
@[go_sem] theorem sized44 : sized Try.prog 44 = true := by kernel_rfl
@[go_sem] theorem agg45 : aggT Try.prog 45 = some true := by kernel_rfl
@[go_sem] theorem cells45 : Try.prog.cellsOf 45 = 3 := by kernel_rfl
@[go_sem] theorem bytes45 : Try.prog.bytesOf 45 = 48 := by kernel_rfl
@[go_sem] theorem parts45 : eqParts Try.prog 45 = some [(0, 9), (1, 9), (2, 9)] := by kernel_rfl
@[go_sem] theorem eqg45 : Try.prog.eqGuardType Try.prog.depth 45 = false := by kernel_rfl
@[go_sem] theorem zero45 : zeroC Try.prog 45 = some [.string ⟨#[]⟩, .string ⟨#[]⟩, .string ⟨#[]⟩] := by kernel_rfl
@[go_sem] theorem fld45_0 : fld Try.prog 45 0 = some (0, 9) := by kernel_rfl
@[go_sem] theorem fld45_1 : fld Try.prog 45 1 = some (1, 9) := by kernel_rfl
@[go_sem] theorem fld45_2 : fld Try.prog 45 2 = some (2, 9) := by kernel_rfl
@[go_sem] theorem lay45 : layOf Try.prog 45 = some [(0, 1), (1, 1), (2, 1)] := by kernel_rfl
@[go_sem] theorem sized45 : sized Try.prog 45 = true := by kernel_rfl
@[go_sem] theorem agg56 : aggT Try.prog 56 = some true := by kernel_rfl
@[go_sem] theorem cells56 : Try.prog.cellsOf 56 = 2 := by kernel_rfl
@[go_sem] theorem bytes56 : Try.prog.bytesOf 56 = 16 := by kernel_rfl
@[go_sem] theorem parts56 : eqParts Try.prog 56 = some [(0, 3), (1, 3)] := by kernel_rfl
@[go_sem] theorem eqg56 : Try.prog.eqGuardType Try.prog.depth 56 = false := by kernel_rfl
@[go_sem] theorem zero56 : zeroC Try.prog 56 = some [.int .i64 0, .int .i64 0] := by kernel_rfl
@[go_sem] theorem fld56_0 : fld Try.prog 56 0 = some (0, 3) := by kernel_rfl
@[go_sem] theorem fld56_1 : fld Try.prog 56 1 = some (1, 3) := by kernel_rfl
@[go_sem] theorem lay56 : layOf Try.prog 56 = some [(0, 1), (1, 1)] := by kernel_rfl
@[go_sem] theorem sized56 : sized Try.prog 56 = true := by kernel_rfl
@[go_sem] theorem agg57 : aggT Try.prog 57 = some true := by kernel_rfl
@[go_sem] theorem cells57 : Try.prog.cellsOf 57 = 2 := by kernel_rfl
@[go_sem] theorem bytes57 : Try.prog.bytesOf 57 = 16 := by kernel_rfl
@[go_sem] theorem parts57 : eqParts Try.prog 57 = some [(0, 3), (1, 3)] := by kernel_rfl
@[go_sem] theorem eqg57 : Try.prog.eqGuardType Try.prog.depth 57 = false := by kernel_rfl
@[go_sem] theorem zero57 : zeroC Try.prog 57 = some [.int .i64 0, .int .i64 0] := by kernel_rfl
@[go_sem] theorem fld57_0 : fld Try.prog 57 0 = some (0, 3) := by kernel_rfl
@[go_sem] theorem fld57_1 : fld Try.prog 57 1 = some (1, 3) := by kernel_rfl
@[go_sem] theorem lay57 : layOf Try.prog 57 = some [(0, 1), (1, 1)] := by kernel_rfl
@[go_sem] theorem sized57 : sized Try.prog 57 = true := by kernel_rfl
@[go_sem] theorem agg58 : aggT Try.prog 58 = some true := by kernel_rfl
@[go_sem] theorem cells58 : Try.prog.cellsOf 58 = 7 := by kernel_rfl
@[go_sem] theorem bytes58 : Try.prog.bytesOf 58 = 56 := by kernel_rfl
@[go_sem] theorem parts58 : eqParts Try.prog 58 = some [(0, 4), (1, 57), (3, 57), (5, 57)] := by kernel_rfl
@[go_sem] theorem eqg58 : Try.prog.eqGuardType Try.prog.depth 58 = false := by kernel_rfl
@[go_sem] theorem zero58 : zeroC Try.prog 58 = some [.bool false, .int .i64 0, .int .i64 0, .int .i64 0, .int .i64 0, .int .i64 0, .int .i64 0] := by kernel_rfl
@[go_sem] theorem fld58_0 : fld Try.prog 58 0 = some (0, 4) := by kernel_rfl
@[go_sem] theorem fld58_1 : fld Try.prog 58 1 = some (1, 57) := by kernel_rfl
@[go_sem] theorem fld58_2 : fld Try.prog 58 2 = some (3, 57) := by kernel_rfl
@[go_sem] theorem fld58_3 : fld Try.prog 58 3 = some (5, 57) := by kernel_rfl
@[go_sem] theorem lay58 : layOf Try.prog 58 = some [(0, 1), (1, 2), (3, 2), (5, 2)] := by kernel_rfl
@[go_sem] theorem sized58 : sized Try.prog 58 = true := by kernel_rfl
@[go_sem] theorem agg59 : aggT Try.prog 59 = some true := by kernel_rfl
@[go_sem] theorem cells59 : Try.prog.cellsOf 59 = 7 := by kernel_rfl
@[go_sem] theorem bytes59 : Try.prog.bytesOf 59 = 56 := by kernel_rfl
@[go_sem] theorem parts59 : eqParts Try.prog 59 = some [(0, 4), (1, 57), (3, 57), (5, 57)] := by kernel_rfl
@[go_sem] theorem eqg59 : Try.prog.eqGuardType Try.prog.depth 59 = false := by kernel_rfl
@[go_sem] theorem zero59 : zeroC Try.prog 59 = some [.bool false, .int .i64 0, .int .i64 0, .int .i64 0, .int .i64 0, .int .i64 0, .int .i64 0] := by kernel_rfl
@[go_sem] theorem fld59_0 : fld Try.prog 59 0 = some (0, 4) := by kernel_rfl
@[go_sem] theorem fld59_1 : fld Try.prog 59 1 = some (1, 57) := by kernel_rfl
@[go_sem] theorem fld59_2 : fld Try.prog 59 2 = some (3, 57) := by kernel_rfl
@[go_sem] theorem fld59_3 : fld Try.prog 59 3 = some (5, 57) := by kernel_rfl
@[go_sem] theorem lay59 : layOf Try.prog 59 = some [(0, 1), (1, 2), (3, 2), (5, 2)] := by kernel_rfl
@[go_sem] theorem sized59 : sized Try.prog 59 = true := by kernel_rfl
@[go_sem] theorem agg61 : aggT Try.prog 61 = some true := by kernel_rfl
@[go_sem] theorem cells61 : Try.prog.cellsOf 61 = 9 := by kernel_rfl
@[go_sem] theorem bytes61 : Try.prog.bytesOf 61 = 128 := by kernel_rfl
@[go_sem] theorem parts61 : eqParts Try.prog 61 = some [(0, 45), (3, 4), (4, 9), (5, 9), (6, 9), (7, 9), (8, 4)] := by kernel_rfl
@[go_sem] theorem eqg61 : Try.prog.eqGuardType Try.prog.depth 61 = false := by kernel_rfl
@[go_sem] theorem zero61 : zeroC Try.prog 61 = some [.string ⟨#[]⟩, .string ⟨#[]⟩, .string ⟨#[]⟩, .bool false, .string ⟨#[]⟩, .string ⟨#[]⟩, .string ⟨#[]⟩, .string ⟨#[]⟩, .bool false] := by kernel_rfl
@[go_sem] theorem fld61_0 : fld Try.prog 61 0 = some (0, 45) := by kernel_rfl
@[go_sem] theorem fld61_1 : fld Try.prog 61 1 = some (3, 4) := by kernel_rfl
@[go_sem] theorem fld61_2 : fld Try.prog 61 2 = some (4, 9) := by kernel_rfl
@[go_sem] theorem fld61_3 : fld Try.prog 61 3 = some (5, 9) := by kernel_rfl
@[go_sem] theorem fld61_4 : fld Try.prog 61 4 = some (6, 9) := by kernel_rfl
@[go_sem] theorem fld61_5 : fld Try.prog 61 5 = some (7, 9) := by kernel_rfl
@[go_sem] theorem fld61_6 : fld Try.prog 61 6 = some (8, 4) := by kernel_rfl
@[go_sem] theorem lay61 : layOf Try.prog 61 = some [(0, 3), (3, 1), (4, 1), (5, 1), (6, 1), (7, 1), (8, 1)] := by kernel_rfl
@[go_sem] theorem sized61 : sized Try.prog 61 = true := by kernel_rfl
@[go_sem] theorem agg62 : aggT Try.prog 62 = some true := by kernel_rfl
@[go_sem] theorem cells62 : Try.prog.cellsOf 62 = 9 := by kernel_rfl
@[go_sem] theorem bytes62 : Try.prog.bytesOf 62 = 128 := by kernel_rfl
@[go_sem] theorem parts62 : eqParts Try.prog 62 = some [(0, 45), (3, 4), (4, 9), (5, 9), (6, 9), (7, 9), (8, 4)] := by kernel_rfl
@[go_sem] theorem eqg62 : Try.prog.eqGuardType Try.prog.depth 62 = false := by kernel_rfl
@[go_sem] theorem zero62 : zeroC Try.prog 62 = some [.string ⟨#[]⟩, .string ⟨#[]⟩, .string ⟨#[]⟩, .bool false, .string ⟨#[]⟩, .string ⟨#[]⟩, .string ⟨#[]⟩, .string ⟨#[]⟩, .bool false] := by kernel_rfl
@[go_sem] theorem fld62_0 : fld Try.prog 62 0 = some (0, 45) := by kernel_rfl
@[go_sem] theorem fld62_1 : fld Try.prog 62 1 = some (3, 4) := by kernel_rfl
@[go_sem] theorem fld62_2 : fld Try.prog 62 2 = some (4, 9) := by kernel_rfl
@[go_sem] theorem fld62_3 : fld Try.prog 62 3 = some (5, 9) := by kernel_rfl
@[go_sem] theorem fld62_4 : fld Try.prog 62 4 = some (6, 9) := by kernel_rfl
@[go_sem] theorem fld62_5 : fld Try.prog 62 5 = some (7, 9) := by kernel_rfl
@[go_sem] theorem fld62_6 : fld Try.prog 62 6 = some (8, 4) := by kernel_rfl
@[go_sem] theorem lay62 : layOf Try.prog 62 = some [(0, 3), (3, 1), (4, 1), (5, 1), (6, 1), (7, 1), (8, 1)] := by kernel_rfl
@[go_sem] theorem sized62 : sized Try.prog 62 = true := by kernel_rfl
attribute [go_sem] Try.underlying66
@[go_sem] theorem agg66 : aggT Try.prog 66 = some false := by kernel_rfl
@[go_sem] theorem cells66 : Try.prog.cellsOf 66 = 1 := by kernel_rfl
@[go_sem] theorem bytes66 : Try.prog.bytesOf 66 = 24 := by kernel_rfl
@[go_sem] theorem parts66 : eqParts Try.prog 66 = none := by kernel_rfl
@[go_sem] theorem zeroV66 : zero1 Try.prog 66 = some (.slice none 0 0) := by kernel_rfl
@[go_sem] theorem zero66 : zeroC Try.prog 66 = some [.slice none 0 0] := by kernel_rfl
attribute [go_sem] Try.underlying79
@[go_sem] theorem agg79 : aggT Try.prog 79 = some false := by kernel_rfl
@[go_sem] theorem cells79 : Try.prog.cellsOf 79 = 1 := by kernel_rfl
@[go_sem] theorem bytes79 : Try.prog.bytesOf 79 = 24 := by kernel_rfl
@[go_sem] theorem parts79 : eqParts Try.prog 79 = none := by kernel_rfl
@[go_sem] theorem zeroV79 : zero1 Try.prog 79 = some (.slice none 0 0) := by kernel_rfl
@[go_sem] theorem zero79 : zeroC Try.prog 79 = some [.slice none 0 0] := by kernel_rfl
attribute [go_sem] Try.underlying81
@[go_sem] theorem agg81 : aggT Try.prog 81 = some false := by kernel_rfl
@[go_sem] theorem cells81 : Try.prog.cellsOf 81 = 1 := by kernel_rfl
@[go_sem] theorem bytes81 : Try.prog.bytesOf 81 = 24 := by kernel_rfl
@[go_sem] theorem parts81 : eqParts Try.prog 81 = none := by kernel_rfl
@[go_sem] theorem zeroV81 : zero1 Try.prog 81 = some (.slice none 0 0) := by kernel_rfl
@[go_sem] theorem zero81 : zeroC Try.prog 81 = some [.slice none 0 0] := by kernel_rfl
attribute [go_sem] Try.underlying84
@[go_sem] theorem agg84 : aggT Try.prog 84 = some false := by kernel_rfl
@[go_sem] theorem cells84 : Try.prog.cellsOf 84 = 1 := by kernel_rfl
@[go_sem] theorem bytes84 : Try.prog.bytesOf 84 = 24 := by kernel_rfl
@[go_sem] theorem parts84 : eqParts Try.prog 84 = none := by kernel_rfl
@[go_sem] theorem zeroV84 : zero1 Try.prog 84 = some (.slice none 0 0) := by kernel_rfl
@[go_sem] theorem zero84 : zeroC Try.prog 84 = some [.slice none 0 0] := by kernel_rfl
@[go_sem] theorem agg86 : aggT Try.prog 86 = some true := by kernel_rfl
@[go_sem] theorem cells86 : Try.prog.cellsOf 86 = 2 := by kernel_rfl
@[go_sem] theorem bytes86 : Try.prog.bytesOf 86 = 16 := by kernel_rfl
@[go_sem] theorem parts86 : eqParts Try.prog 86 = some [(0, 3), (1, 3)] := by kernel_rfl
@[go_sem] theorem eqg86 : Try.prog.eqGuardType Try.prog.depth 86 = false := by kernel_rfl
@[go_sem] theorem zero86 : zeroC Try.prog 86 = some [.int .i64 0, .int .i64 0] := by kernel_rfl
@[go_sem] theorem fld86_0 : fld Try.prog 86 0 = some (0, 3) := by kernel_rfl
@[go_sem] theorem fld86_1 : fld Try.prog 86 1 = some (1, 3) := by kernel_rfl
@[go_sem] theorem lay86 : layOf Try.prog 86 = some [(0, 1), (1, 1)] := by kernel_rfl
@[go_sem] theorem sized86 : sized Try.prog 86 = true := by kernel_rfl
@[go_sem] theorem agg87 : aggT Try.prog 87 = some true := by kernel_rfl
@[go_sem] theorem cells87 : Try.prog.cellsOf 87 = 7 := by kernel_rfl
@[go_sem] theorem bytes87 : Try.prog.bytesOf 87 = 56 := by kernel_rfl
@[go_sem] theorem parts87 : eqParts Try.prog 87 = some [(0, 4), (1, 86), (3, 86), (5, 86)] := by kernel_rfl
@[go_sem] theorem eqg87 : Try.prog.eqGuardType Try.prog.depth 87 = false := by kernel_rfl
@[go_sem] theorem zero87 : zeroC Try.prog 87 = some [.bool false, .int .i64 0, .int .i64 0, .int .i64 0, .int .i64 0, .int .i64 0, .int .i64 0] := by kernel_rfl
@[go_sem] theorem fld87_0 : fld Try.prog 87 0 = some (0, 4) := by kernel_rfl
@[go_sem] theorem fld87_1 : fld Try.prog 87 1 = some (1, 86) := by kernel_rfl
@[go_sem] theorem fld87_2 : fld Try.prog 87 2 = some (3, 86) := by kernel_rfl
@[go_sem] theorem fld87_3 : fld Try.prog 87 3 = some (5, 86) := by kernel_rfl
@[go_sem] theorem lay87 : layOf Try.prog 87 = some [(0, 1), (1, 2), (3, 2), (5, 2)] := by kernel_rfl
@[go_sem] theorem sized87 : sized Try.prog 87 = true := by kernel_rfl
@[go_sem] theorem agg88 : aggT Try.prog 88 = some true := by kernel_rfl
@[go_sem] theorem cells88 : Try.prog.cellsOf 88 = 7 := by kernel_rfl
@[go_sem] theorem bytes88 : Try.prog.bytesOf 88 = 56 := by kernel_rfl
@[go_sem] theorem parts88 : eqParts Try.prog 88 = some [(0, 4), (1, 86), (3, 86), (5, 86)] := by kernel_rfl
@[go_sem] theorem eqg88 : Try.prog.eqGuardType Try.prog.depth 88 = false := by kernel_rfl
@[go_sem] theorem zero88 : zeroC Try.prog 88 = some [.bool false, .int .i64 0, .int .i64 0, .int .i64 0, .int .i64 0, .int .i64 0, .int .i64 0] := by kernel_rfl
@[go_sem] theorem fld88_0 : fld Try.prog 88 0 = some (0, 4) := by kernel_rfl
@[go_sem] theorem fld88_1 : fld Try.prog 88 1 = some (1, 86) := by kernel_rfl
@[go_sem] theorem fld88_2 : fld Try.prog 88 2 = some (3, 86) := by kernel_rfl
@[go_sem] theorem fld88_3 : fld Try.prog 88 3 = some (5, 86) := by kernel_rfl
@[go_sem] theorem lay88 : layOf Try.prog 88 = some [(0, 1), (1, 2), (3, 2), (5, 2)] := by kernel_rfl
@[go_sem] theorem sized88 : sized Try.prog 88 = true := by kernel_rfl
@[go_sem] theorem agg115 : aggT Try.prog 115 = some true := by kernel_rfl
@[go_sem] theorem cells115 : Try.prog.cellsOf 115 = 2 := by kernel_rfl
@[go_sem] theorem bytes115 : Try.prog.bytesOf 115 = 16 := by kernel_rfl
@[go_sem] theorem parts115 : eqParts Try.prog 115 = some [(0, 3), (1, 3)] := by kernel_rfl
@[go_sem] theorem eqg115 : Try.prog.eqGuardType Try.prog.depth 115 = false := by kernel_rfl
@[go_sem] theorem zero115 : zeroC Try.prog 115 = some [.int .i64 0, .int .i64 0] := by kernel_rfl
@[go_sem] theorem fld115_0 : fld Try.prog 115 0 = some (0, 3) := by kernel_rfl
@[go_sem] theorem fld115_1 : fld Try.prog 115 1 = some (1, 3) := by kernel_rfl
@[go_sem] theorem lay115 : layOf Try.prog 115 = some [(0, 1), (1, 1)] := by kernel_rfl
@[go_sem] theorem sized115 : sized Try.prog 115 = true := by kernel_rfl
@[go_sem] theorem agg116 : aggT Try.prog 116 = some true := by kernel_rfl
@[go_sem] theorem cells116 : Try.prog.cellsOf 116 = 2 := by kernel_rfl
@[go_sem] theorem bytes116 : Try.prog.bytesOf 116 = 16 := by kernel_rfl
@[go_sem] theorem parts116 : eqParts Try.prog 116 = some [(0, 3), (1, 3)] := by kernel_rfl
@[go_sem] theorem eqg116 : Try.prog.eqGuardType Try.prog.depth 116 = false := by kernel_rfl
@[go_sem] theorem zero116 : zeroC Try.prog 116 = some [.int .i64 0, .int .i64 0] := by kernel_rfl
@[go_sem] theorem fld116_0 : fld Try.prog 116 0 = some (0, 3) := by kernel_rfl
@[go_sem] theorem fld116_1 : fld Try.prog 116 1 = some (1, 3) := by kernel_rfl
@[go_sem] theorem lay116 : layOf Try.prog 116 = some [(0, 1), (1, 1)] := by kernel_rfl
@[go_sem] theorem sized116 : sized Try.prog 116 = true := by kernel_rfl
attribute [go_sem] Try.underlying122
@[go_sem] theorem agg122 : aggT Try.prog 122 = some false := by kernel_rfl
@[go_sem] theorem cells122 : Try.prog.cellsOf 122 = 1 := by kernel_rfl
@[go_sem] theorem bytes122 : Try.prog.bytesOf 122 = 8 := by kernel_rfl
@[go_sem] theorem parts122 : eqParts Try.prog 122 = none := by kernel_rfl
@[go_sem] theorem zeroV122 : zero1 Try.prog 122 = some (.pointer none) := by kernel_rfl
@[go_sem] theorem zero122 : zeroC Try.prog 122 = some [.pointer none] := by kernel_rfl
attribute [go_sem] Try.underlying123
@[go_sem] theorem agg123 : aggT Try.prog 123 = some false := by kernel_rfl
@[go_sem] theorem cells123 : Try.prog.cellsOf 123 = 1 := by kernel_rfl
@[go_sem] theorem bytes123 : Try.prog.bytesOf 123 = 24 := by kernel_rfl
@[go_sem] theorem parts123 : eqParts Try.prog 123 = none := by kernel_rfl
@[go_sem] theorem zeroV123 : zero1 Try.prog 123 = some (.slice none 0 0) := by kernel_rfl
@[go_sem] theorem zero123 : zeroC Try.prog 123 = some [.slice none 0 0] := by kernel_rfl
@[go_sem] theorem agg124 : aggT Try.prog 124 = some true := by kernel_rfl
@[go_sem] theorem cells124 : Try.prog.cellsOf 124 = 2 := by kernel_rfl
@[go_sem] theorem bytes124 : Try.prog.bytesOf 124 = 32 := by kernel_rfl
@[go_sem] theorem zero124 : zeroC Try.prog 124 = some [.pointer none, .slice none 0 0] := by kernel_rfl
@[go_sem] theorem fld124_0 : fld Try.prog 124 0 = some (0, 122) := by kernel_rfl
@[go_sem] theorem fld124_1 : fld Try.prog 124 1 = some (1, 123) := by kernel_rfl
@[go_sem] theorem lay124 : layOf Try.prog 124 = some [(0, 1), (1, 1)] := by kernel_rfl
@[go_sem] theorem sized124 : sized Try.prog 124 = true := by kernel_rfl
@[go_sem] theorem agg125 : aggT Try.prog 125 = some true := by kernel_rfl
@[go_sem] theorem cells125 : Try.prog.cellsOf 125 = 2 := by kernel_rfl
@[go_sem] theorem bytes125 : Try.prog.bytesOf 125 = 32 := by kernel_rfl
@[go_sem] theorem zero125 : zeroC Try.prog 125 = some [.pointer none, .slice none 0 0] := by kernel_rfl
@[go_sem] theorem fld125_0 : fld Try.prog 125 0 = some (0, 122) := by kernel_rfl
@[go_sem] theorem fld125_1 : fld Try.prog 125 1 = some (1, 123) := by kernel_rfl
@[go_sem] theorem lay125 : layOf Try.prog 125 = some [(0, 1), (1, 1)] := by kernel_rfl
@[go_sem] theorem sized125 : sized Try.prog 125 = true := by kernel_rfl
@[go_sem] theorem agg126 : aggT Try.prog 126 = some false := by kernel_rfl
@[go_sem] theorem cells126 : Try.prog.cellsOf 126 = 1 := by kernel_rfl
@[go_sem] theorem bytes126 : Try.prog.bytesOf 126 = 16 := by kernel_rfl
@[go_sem] theorem parts126 : eqParts Try.prog 126 = none := by kernel_rfl
@[go_sem] theorem zeroV126 : zero1 Try.prog 126 = some (.nilIface) := by kernel_rfl
@[go_sem] theorem zero126 : zeroC Try.prog 126 = some [.nilIface] := by kernel_rfl
@[go_sem] theorem agg127 : aggT Try.prog 127 = some false := by kernel_rfl
@[go_sem] theorem cells127 : Try.prog.cellsOf 127 = 1 := by kernel_rfl
@[go_sem] theorem bytes127 : Try.prog.bytesOf 127 = 16 := by kernel_rfl
@[go_sem] theorem parts127 : eqParts Try.prog 127 = none := by kernel_rfl
@[go_sem] theorem zeroV127 : zero1 Try.prog 127 = some (.nilIface) := by kernel_rfl
@[go_sem] theorem zero127 : zeroC Try.prog 127 = some [.nilIface] := by kernel_rfl
attribute [go_sem] Try.underlying131
@[go_sem] theorem agg131 : aggT Try.prog 131 = some false := by kernel_rfl
@[go_sem] theorem cells131 : Try.prog.cellsOf 131 = 1 := by kernel_rfl
@[go_sem] theorem bytes131 : Try.prog.bytesOf 131 = 8 := by kernel_rfl
@[go_sem] theorem parts131 : eqParts Try.prog 131 = none := by kernel_rfl
@[go_sem] theorem zeroV131 : zero1 Try.prog 131 = some (.int .u64 0) := by kernel_rfl
@[go_sem] theorem zero131 : zeroC Try.prog 131 = some [.int .u64 0] := by kernel_rfl
attribute [go_sem] Try.underlying136
@[go_sem] theorem agg136 : aggT Try.prog 136 = some false := by kernel_rfl
@[go_sem] theorem cells136 : Try.prog.cellsOf 136 = 1 := by kernel_rfl
@[go_sem] theorem bytes136 : Try.prog.bytesOf 136 = 8 := by kernel_rfl
@[go_sem] theorem parts136 : eqParts Try.prog 136 = none := by kernel_rfl
@[go_sem] theorem zeroV136 : zero1 Try.prog 136 = some (.pointer none) := by kernel_rfl
@[go_sem] theorem zero136 : zeroC Try.prog 136 = some [.pointer none] := by kernel_rfl
attribute [go_sem] Try.underlying137
@[go_sem] theorem agg137 : aggT Try.prog 137 = some false := by kernel_rfl
@[go_sem] theorem cells137 : Try.prog.cellsOf 137 = 1 := by kernel_rfl
@[go_sem] theorem bytes137 : Try.prog.bytesOf 137 = 4 := by kernel_rfl
@[go_sem] theorem parts137 : eqParts Try.prog 137 = none := by kernel_rfl
@[go_sem] theorem zeroV137 : zero1 Try.prog 137 = some (.int .u32 0) := by kernel_rfl
@[go_sem] theorem zero137 : zeroC Try.prog 137 = some [.int .u32 0] := by kernel_rfl
attribute [go_sem] Try.underlying140
@[go_sem] theorem agg140 : aggT Try.prog 140 = some false := by kernel_rfl
@[go_sem] theorem cells140 : Try.prog.cellsOf 140 = 1 := by kernel_rfl
@[go_sem] theorem bytes140 : Try.prog.bytesOf 140 = 8 := by kernel_rfl
@[go_sem] theorem parts140 : eqParts Try.prog 140 = none := by kernel_rfl
@[go_sem] theorem zeroV140 : zero1 Try.prog 140 = some (.int .u64 0) := by kernel_rfl
@[go_sem] theorem zero140 : zeroC Try.prog 140 = some [.int .u64 0] := by kernel_rfl
attribute [go_sem] Try.underlying144
@[go_sem] theorem agg144 : aggT Try.prog 144 = some false := by kernel_rfl
@[go_sem] theorem cells144 : Try.prog.cellsOf 144 = 1 := by kernel_rfl
@[go_sem] theorem bytes144 : Try.prog.bytesOf 144 = 8 := by kernel_rfl
@[go_sem] theorem parts144 : eqParts Try.prog 144 = none := by kernel_rfl
@[go_sem] theorem zeroV144 : zero1 Try.prog 144 = some (.pointer none) := by kernel_rfl
@[go_sem] theorem zero144 : zeroC Try.prog 144 = some [.pointer none] := by kernel_rfl
@[go_sem] theorem agg150 : aggT Try.prog 150 = some true := by kernel_rfl
@[go_sem] theorem cells150 : Try.prog.cellsOf 150 = 4 := by kernel_rfl
@[go_sem] theorem bytes150 : Try.prog.bytesOf 150 = 40 := by kernel_rfl
@[go_sem] theorem zero150 : zeroC Try.prog 150 = some [.pointer none, .pointer none, .pointer none, .string ⟨#[]⟩] := by kernel_rfl
@[go_sem] theorem fld150_0 : fld Try.prog 150 0 = some (0, 17) := by kernel_rfl
@[go_sem] theorem fld150_1 : fld Try.prog 150 1 = some (1, 17) := by kernel_rfl
@[go_sem] theorem fld150_2 : fld Try.prog 150 2 = some (2, 17) := by kernel_rfl
@[go_sem] theorem fld150_3 : fld Try.prog 150 3 = some (3, 9) := by kernel_rfl
@[go_sem] theorem lay150 : layOf Try.prog 150 = some [(0, 1), (1, 1), (2, 1), (3, 1)] := by kernel_rfl
@[go_sem] theorem sized150 : sized Try.prog 150 = true := by kernel_rfl
@[go_sem] theorem agg151 : aggT Try.prog 151 = some true := by kernel_rfl
@[go_sem] theorem cells151 : Try.prog.cellsOf 151 = 4 := by kernel_rfl
@[go_sem] theorem bytes151 : Try.prog.bytesOf 151 = 40 := by kernel_rfl
@[go_sem] theorem zero151 : zeroC Try.prog 151 = some [.pointer none, .pointer none, .pointer none, .string ⟨#[]⟩] := by kernel_rfl
@[go_sem] theorem fld151_0 : fld Try.prog 151 0 = some (0, 17) := by kernel_rfl
@[go_sem] theorem fld151_1 : fld Try.prog 151 1 = some (1, 17) := by kernel_rfl
@[go_sem] theorem fld151_2 : fld Try.prog 151 2 = some (2, 17) := by kernel_rfl
@[go_sem] theorem fld151_3 : fld Try.prog 151 3 = some (3, 9) := by kernel_rfl
@[go_sem] theorem lay151 : layOf Try.prog 151 = some [(0, 1), (1, 1), (2, 1), (3, 1)] := by kernel_rfl
@[go_sem] theorem sized151 : sized Try.prog 151 = true := by kernel_rfl
attribute [go_sem] Try.underlying152
@[go_sem] theorem agg152 : aggT Try.prog 152 = some true := by kernel_rfl
@[go_sem] theorem cells152 : Try.prog.cellsOf 152 = 0 := by kernel_rfl
@[go_sem] theorem bytes152 : Try.prog.bytesOf 152 = 0 := by kernel_rfl
@[go_sem] theorem lay152 : layOf Try.prog 152 = none := by kernel_rfl
@[go_sem] theorem arr152 : arrOf Try.prog 152 = some 1 := by kernel_rfl
@[go_sem] theorem parts152 : eqParts Try.prog 152 = some [] := by kernel_rfl
@[go_sem] theorem eqg152 : Try.prog.eqGuardType Try.prog.depth 152 = false := by kernel_rfl
@[go_sem] theorem zero152 : zeroC Try.prog 152 = some [] := by kernel_rfl
@[go_sem] theorem agg153 : aggT Try.prog 153 = some true := by kernel_rfl
@[go_sem] theorem cells153 : Try.prog.cellsOf 153 = 0 := by kernel_rfl
@[go_sem] theorem bytes153 : Try.prog.bytesOf 153 = 0 := by kernel_rfl
@[go_sem] theorem zero153 : zeroC Try.prog 153 = some [] := by kernel_rfl
@[go_sem] theorem fld153_0 : fld Try.prog 153 0 = some (0, 152) := by kernel_rfl
@[go_sem] theorem lay153 : layOf Try.prog 153 = some [(0, 0)] := by kernel_rfl
@[go_sem] theorem sized153 : sized Try.prog 153 = true := by kernel_rfl
@[go_sem] theorem agg154 : aggT Try.prog 154 = some true := by kernel_rfl
@[go_sem] theorem cells154 : Try.prog.cellsOf 154 = 0 := by kernel_rfl
@[go_sem] theorem bytes154 : Try.prog.bytesOf 154 = 0 := by kernel_rfl
@[go_sem] theorem zero154 : zeroC Try.prog 154 = some [] := by kernel_rfl
@[go_sem] theorem fld154_0 : fld Try.prog 154 0 = some (0, 152) := by kernel_rfl
@[go_sem] theorem lay154 : layOf Try.prog 154 = some [(0, 0)] := by kernel_rfl
@[go_sem] theorem sized154 : sized Try.prog 154 = true := by kernel_rfl
attribute [go_sem] Try.underlying155
@[go_sem] theorem agg155 : aggT Try.prog 155 = some false := by kernel_rfl
@[go_sem] theorem cells155 : Try.prog.cellsOf 155 = 1 := by kernel_rfl
@[go_sem] theorem bytes155 : Try.prog.bytesOf 155 = 1 := by kernel_rfl
@[go_sem] theorem parts155 : eqParts Try.prog 155 = none := by kernel_rfl
@[go_sem] theorem zeroV155 : zero1 Try.prog 155 = some (.int .u8 0) := by kernel_rfl
@[go_sem] theorem zero155 : zeroC Try.prog 155 = some [.int .u8 0] := by kernel_rfl
attribute [go_sem] Try.underlying156
@[go_sem] theorem agg156 : aggT Try.prog 156 = some false := by kernel_rfl
@[go_sem] theorem cells156 : Try.prog.cellsOf 156 = 1 := by kernel_rfl
@[go_sem] theorem bytes156 : Try.prog.bytesOf 156 = 1 := by kernel_rfl
@[go_sem] theorem parts156 : eqParts Try.prog 156 = none := by kernel_rfl
@[go_sem] theorem zeroV156 : zero1 Try.prog 156 = some (.int .u8 0) := by kernel_rfl
@[go_sem] theorem zero156 : zeroC Try.prog 156 = some [.int .u8 0] := by kernel_rfl
attribute [go_sem] Try.underlying158
@[go_sem] theorem agg158 : aggT Try.prog 158 = some false := by kernel_rfl
@[go_sem] theorem cells158 : Try.prog.cellsOf 158 = 1 := by kernel_rfl
@[go_sem] theorem bytes158 : Try.prog.bytesOf 158 = 4 := by kernel_rfl
@[go_sem] theorem parts158 : eqParts Try.prog 158 = none := by kernel_rfl
@[go_sem] theorem zeroV158 : zero1 Try.prog 158 = some (.int .i32 0) := by kernel_rfl
@[go_sem] theorem zero158 : zeroC Try.prog 158 = some [.int .i32 0] := by kernel_rfl
attribute [go_sem] Try.underlying159
@[go_sem] theorem agg159 : aggT Try.prog 159 = some false := by kernel_rfl
@[go_sem] theorem cells159 : Try.prog.cellsOf 159 = 1 := by kernel_rfl
@[go_sem] theorem bytes159 : Try.prog.bytesOf 159 = 4 := by kernel_rfl
@[go_sem] theorem parts159 : eqParts Try.prog 159 = none := by kernel_rfl
@[go_sem] theorem zeroV159 : zero1 Try.prog 159 = some (.int .i32 0) := by kernel_rfl
@[go_sem] theorem zero159 : zeroC Try.prog 159 = some [.int .i32 0] := by kernel_rfl
@[go_sem] theorem agg160 : aggT Try.prog 160 = some true := by kernel_rfl
@[go_sem] theorem cells160 : Try.prog.cellsOf 160 = 11 := by kernel_rfl
@[go_sem] theorem bytes160 : Try.prog.bytesOf 160 = 48 := by kernel_rfl
@[go_sem] theorem zero160 : zeroC Try.prog 160 = some [.int .u64 0, .int .u64 0, .int .u32 0, .int .u8 0, .int .u8 0, .int .u8 0, .int .u8 0, .nilFunc, .pointer none, .int .i32 0, .int .i32 0] := by kernel_rfl
@[go_sem] theorem fld160_0 : fld Try.prog 160 0 = some (0, 12) := by kernel_rfl
@[go_sem] theorem fld160_1 : fld Try.prog 160 1 = some (1, 12) := by kernel_rfl
@[go_sem] theorem fld160_2 : fld Try.prog 160 2 = some (2, 137) := by kernel_rfl
@[go_sem] theorem fld160_3 : fld Try.prog 160 3 = some (3, 155) := by kernel_rfl
@[go_sem] theorem fld160_4 : fld Try.prog 160 4 = some (4, 5) := by kernel_rfl
@[go_sem] theorem fld160_5 : fld Try.prog 160 5 = some (5, 5) := by kernel_rfl
@[go_sem] theorem fld160_6 : fld Try.prog 160 6 = some (6, 156) := by kernel_rfl
@[go_sem] theorem fld160_7 : fld Try.prog 160 7 = some (7, 157) := by kernel_rfl
@[go_sem] theorem fld160_8 : fld Try.prog 160 8 = some (8, 136) := by kernel_rfl
@[go_sem] theorem fld160_9 : fld Try.prog 160 9 = some (9, 158) := by kernel_rfl
@[go_sem] theorem fld160_10 : fld Try.prog 160 10 = some (10, 159) := by kernel_rfl
@[go_sem] theorem lay160 : layOf Try.prog 160 = some [(0, 1), (1, 1), (2, 1), (3, 1), (4, 1), (5, 1), (6, 1), (7, 1), (8, 1), (9, 1), (10, 1)] := by kernel_rfl
@[go_sem] theorem sized160 : sized Try.prog 160 = true := by kernel_rfl
@[go_sem] theorem agg161 : aggT Try.prog 161 = some true := by kernel_rfl
@[go_sem] theorem cells161 : Try.prog.cellsOf 161 = 11 := by kernel_rfl
@[go_sem] theorem bytes161 : Try.prog.bytesOf 161 = 48 := by kernel_rfl
@[go_sem] theorem zero161 : zeroC Try.prog 161 = some [.int .u64 0, .int .u64 0, .int .u32 0, .int .u8 0, .int .u8 0, .int .u8 0, .int .u8 0, .nilFunc, .pointer none, .int .i32 0, .int .i32 0] := by kernel_rfl
@[go_sem] theorem fld161_0 : fld Try.prog 161 0 = some (0, 12) := by kernel_rfl
@[go_sem] theorem fld161_1 : fld Try.prog 161 1 = some (1, 12) := by kernel_rfl
@[go_sem] theorem fld161_2 : fld Try.prog 161 2 = some (2, 137) := by kernel_rfl
@[go_sem] theorem fld161_3 : fld Try.prog 161 3 = some (3, 155) := by kernel_rfl
@[go_sem] theorem fld161_4 : fld Try.prog 161 4 = some (4, 5) := by kernel_rfl
@[go_sem] theorem fld161_5 : fld Try.prog 161 5 = some (5, 5) := by kernel_rfl
@[go_sem] theorem fld161_6 : fld Try.prog 161 6 = some (6, 156) := by kernel_rfl
@[go_sem] theorem fld161_7 : fld Try.prog 161 7 = some (7, 157) := by kernel_rfl
@[go_sem] theorem fld161_8 : fld Try.prog 161 8 = some (8, 136) := by kernel_rfl
@[go_sem] theorem fld161_9 : fld Try.prog 161 9 = some (9, 158) := by kernel_rfl
@[go_sem] theorem fld161_10 : fld Try.prog 161 10 = some (10, 159) := by kernel_rfl
@[go_sem] theorem lay161 : layOf Try.prog 161 = some [(0, 1), (1, 1), (2, 1), (3, 1), (4, 1), (5, 1), (6, 1), (7, 1), (8, 1), (9, 1), (10, 1)] := by kernel_rfl
@[go_sem] theorem sized161 : sized Try.prog 161 = true := by kernel_rfl
end Go.Proofs.Ytnhfobhdbablaaa
set_option linter.unusedSimpArgs false
set_option linter.unusedVariables false
namespace Go.Proofs.Ytnhfobhdbablaaa
open Go
theorem ASle.still {st : AS} (s q v e m : Nat) (c : Nat → AV) (hs : st.fr s = .pt q v 0) (hrow : st.hp q = .box v e m c) (hfl : ∀ j, j < m → (c j).flat = true) :
    ASle st ⟨updA st.fr s (.ps m c), updR st.hp q .dead, st.sz, st.top, st.nx, st.df⟩ := by
  intro ct η a w h
  have hver : ∀ p u, (updR st.hp q .dead p).ver = some u → (st.hp p).ver = some u ∧ p ≠ q := fun p u hv => by
    by_cases e : p = q
    · subst e; rw [updR_at] at hv; cases hv
    · rw [updR_ne _ _ e] at hv; exact ⟨hv, e⟩
  have hblk : ∀ p b, (updR st.hp q .dead p).blk η = some b → (st.hp p).blk η = some b ∧ p ≠ q := fun p b hb => by
    by_cases e : p = q
    · subst e; rw [updR_at] at hb; cases hb
    · rw [updR_ne _ _ e] at hb; exact ⟨hb, e⟩
  have hL : ∀ b, Lset ct η (updR st.hp q .dead) b → Lset ct η st.hp b := by
    rintro b (hl | ⟨p, hp⟩)
    · exact .inl hl
    · exact .inr ⟨p, (hblk p b hp).1⟩
  have less : ∀ {x u}, Rep w η (Lset ct η st.hp) x u → Rep w η (Lset ct η (updR st.hp q .dead)) x u := fun h => Rep.less (fun b _ hb => hL b hb) h
  have lessN : ∀ {x u}, Rep w noEnv (Lset ct η st.hp) x u → Rep w noEnv (Lset ct η (updR st.hp q .dead)) x u := fun h => Rep.less (fun b _ hb => hL b hb) h
  refine ⟨η, ⟨⟨h.hs.fr, h.hs.lx, fun p => ?_, fun p p' u hp hq => h.hs.vers p p' u (hver p u hp).1 (hver p' u hq).1, fun p u hp => h.hs.bnd p u (hver p u hp).1,
    fun p p' b hp hq => h.hs.disj p p' b (hblk p b hp).1 (hblk p' b hq).1, fun p b hp => h.hs.own p b (hblk p b hp).1, h.hs.fresh, h.hs.env⟩, fun p hp => ?_, h.size,
    fun t => ?_, h.defs⟩⟩
  · show RowOK w η (Lset ct η (updR st.hp q .dead)) (if p = q then .dead else st.hp p)
    by_cases e : p = q
    · rw [if_pos e]; trivial
    · rw [if_neg e]
      exact RowOK.less hL (h.hs.rows p)
  · show (if p = q then Row.dead else st.hp p) = .dead
    by_cases e : p = q
    · rw [if_pos e]
    · rw [if_neg e]
      exact h.dead p hp
  · by_cases et : t = s
    · subst et
      show Rep w η (Lset ct η (updR st.hp q .dead)) (if t = t then .ps m c else st.fr t) _
      rw [if_pos rfl]
      have hr := h.slots t
      rw [hs] at hr
      obtain ⟨g, cap, hη, hv⟩ := hr
      have hrr := h.hs.rows q
      rw [hrow] at hrr
      obtain ⟨b, cur, hg, hh, hsz, hc⟩ := hrr (some g) cap hη
      have hg : g = b := Option.some.inj hg
      subst hg
      have hbk : (st.hp q).blk η = some g := by rw [hrow]; simp [Row.blk, Row.ver, hη]
      refine ⟨g, 0, hv, fun _ => ?_, fun j hj => ?_⟩
      · rintro (hl | ⟨p', hp'⟩)
        · exact (h.hs.own q g hbk).2.1 hl
        · obtain ⟨h1, h2⟩ := hblk p' g hp'
          exact h2 (h.hs.disj p' q g h1 hbk)
      · obtain ⟨u, hu, h1, hrep⟩ := hc j hj
        exact ⟨u, by rw [cell_heap hh, Nat.zero_add]; exact hu, h1, lessN (flat_rep (hfl j hj) hrep)⟩
    · show Rep w η (Lset ct η (updR st.hp q .dead)) (if t = s then .ps m c else st.fr t) _
      rw [if_neg et]
      exact less (h.slots t)
theorem AW.still {P : Program} {x : Code} {Q : Exit → AS → Prop} {st : AS} (s q v e m : Nat) (c : Nat → AV) (hs : st.fr s = .pt q v 0) (hrow : st.hp q = .box v e m c) (hfl : ∀ j, j < m → (c j).flat = true)
    (k : AW P x Q ⟨updA st.fr s (.ps m c), updR st.hp q .dead, st.sz, st.top, st.nx, st.df⟩) : AW P x Q st := AW.le (ASle.still s q v e m c hs hrow hfl) k
/-! ### five and six parameters -/
section
variable {α β γ δ ε ζ : Type}
def Spec.f5 (A : Kd α) (B : Kd β) (C : Kd γ) (D : Kd δ) (E : Kd ε) (dom : α → β → γ → δ → ε → Prop) (out : α → β → γ → δ → ε → AV) : Spec where
  pre | [x, y, z, u, v] => A.ok x ∧ B.ok y ∧ C.ok z ∧ D.ok u ∧ E.ok v ∧ dom (A.dec x) (B.dec y) (C.dec z) (D.dec u) (E.dec v)
      | _ => False
  res | [x, y, z, u, v] => out (A.dec x) (B.dec y) (C.dec z) (D.dec u) (E.dec v)
      | _ => .any
def Spec.f6 (A : Kd α) (B : Kd β) (C : Kd γ) (D : Kd δ) (E : Kd ε) (F : Kd ζ) (dom : α → β → γ → δ → ε → ζ → Prop) (out : α → β → γ → δ → ε → ζ → AV) : Spec where
  pre | [x, y, z, u, v, w] => A.ok x ∧ B.ok y ∧ C.ok z ∧ D.ok u ∧ E.ok v ∧ F.ok w ∧ dom (A.dec x) (B.dec y) (C.dec z) (D.dec u) (E.dec v) (F.dec w)
      | _ => False
  res | [x, y, z, u, v, w] => out (A.dec x) (B.dec y) (C.dec z) (D.dec u) (E.dec v) (F.dec w)
      | _ => .any
variable {P : Program} {f : FuncId} {fn : Func} {code : Code} {l : List ResultVar}
theorem SpecOK.f5 {A : Kd α} {B : Kd β} {C : Kd γ} {D : Kd δ} {E : Kd ε} {dom : α → β → γ → δ → ε → Prop} {out : α → β → γ → δ → ε → AV} (hf : P.funcs[f]? = some fn) (hb : fn.body = some code) (hn : (fn.name == "runtime.NumGoroutine") = false) (hl : fn.results = l.toArray) {n : Nat} (ht : fn.ntmps = n) (hm : 5 ≤ n)
    (h : ∀ a b c d e, dom a b c d e → AW P code (retQ P l (out a b c d e)) (st0 n [A.enc a, B.enc b, C.enc c, D.enc d, E.enc e])) : SpecOK P f (Spec.f5 A B C D E dom out) := by
  subst ht
  refine SpecOK.mk hf hb hn hl fun args hp => ?_
  match args, hp with
  | [x, y, z, u, v], hp => exact ⟨hm, AW.le (st0_le (.cons hp.1 (.cons hp.2.1 (.cons hp.2.2.1 (.cons hp.2.2.2.1 (.cons hp.2.2.2.2.1 .nil)))))) (h _ _ _ _ _ hp.2.2.2.2.2)⟩
theorem SpecOK.f6 {A : Kd α} {B : Kd β} {C : Kd γ} {D : Kd δ} {E : Kd ε} {F : Kd ζ} {dom : α → β → γ → δ → ε → ζ → Prop} {out : α → β → γ → δ → ε → ζ → AV} (hf : P.funcs[f]? = some fn) (hb : fn.body = some code) (hn : (fn.name == "runtime.NumGoroutine") = false) (hl : fn.results = l.toArray) {n : Nat} (ht : fn.ntmps = n) (hm : 6 ≤ n)
    (h : ∀ a b c d e g, dom a b c d e g → AW P code (retQ P l (out a b c d e g)) (st0 n [A.enc a, B.enc b, C.enc c, D.enc d, E.enc e, F.enc g])) : SpecOK P f (Spec.f6 A B C D E F dom out) := by
  subst ht
  refine SpecOK.mk hf hb hn hl fun args hp => ?_
  match args, hp with
  | [x, y, z, u, v, w], hp => exact ⟨hm, AW.le (st0_le (.cons hp.1 (.cons hp.2.1 (.cons hp.2.2.1 (.cons hp.2.2.2.1 (.cons hp.2.2.2.2.1 (.cons hp.2.2.2.2.2.1 .nil))))))) (h _ _ _ _ _ _ hp.2.2.2.2.2.2)⟩
end
attribute [go_sem] Spec.f5 Spec.f6
end Go.Proofs.Ytnhfobhdbablaaa
set_option linter.unusedSimpArgs false
set_option linter.unusedVariables false
set_option maxRecDepth 100000
namespace Go.Proofs.Ytnhfobhdbablaaa
open Go
attribute [local irreducible] AW AVle ASle RowLe
/-! ### Number -/
def sNumber : Spec := Spec.f1 (kL (eL eS)) (fun l => l.length ≤ 1000000 ∧ ∀ f ∈ l, f.length ≤ 1000000) (fun l => sL (eL eI) (numF [] l))
theorem numF_snoc (ks : List (List UInt8)) (fs : List (List (List UInt8))) (f : List (List UInt8)) : numF ks (fs ++ [f]) = numF ks fs ++ [(numL (fs.foldl (fun k f => (numL k f).1) ks) f).2] := by
  rw [numF_app]; rfl
theorem take_snoc {α : Type} (l : List α) (d : α) {i : Nat} (h : i < l.length) : l.take (i + 1) = l.take i ++ [l.getD i d] := by
  rw [List.take_add_one, gd_lt _ _ h]; simp [h]
theorem numL_snoc (ks f : List (List UInt8)) {k : Nat} (h : k < f.length) : numL ks (f.take (k + 1)) =
    (if f.getD k [] ∈ (numL ks (f.take k)).1 then (numL ks (f.take k)).1 else (numL ks (f.take k)).1 ++ [f.getD k []], (numL ks (f.take k)).2 ++ [((numL ks (f.take k)).1.idxOf (f.getD k []) : Int)]) := by
  rw [take_snoc f [] h, numL_app]
  simp [numL]
theorem idx_at : ∀ (ks : List (List UInt8)) (x : List UInt8) (n : Nat), n ≤ ks.length → (∀ m, m < n → ks.getD m [] ≠ x) → (n < ks.length → ks.getD n [] = x) → n = ks.idxOf x
  | [], x, n, h, _, _ => by simp at h; simp [h]
  | y :: ks, x, 0, _, _, h => by
    have : y = x := by simpa using h (by simp)
    subst this
    simp
  | y :: ks, x, n + 1, h, hm, hn => by
    have h0 : y ≠ x := by simpa using hm 0 (by omega)
    have ih := idx_at ks x n (by simpa using h) (fun m h' => by simpa using hm (m + 1) (by omega)) fun hl => by simpa using hn (by simpa using hl)
    have hb : (y == x) = false := by simpa using h0
    rw [List.idxOf_cons, hb, ih]
    rfl
def sRefNumber : Spec := Spec.f1 (kL (eL eS)) (fun l => l.length ≤ 1000000 ∧ ∀ f ∈ l, f.length ≤ 1000000) (fun l => sL (eL eI) (numF [] l))
theorem okRefNumber : SpecOK Try.prog 36 sRefNumber := by
  refine SpecOK.f1 Try.func36 rfl (by decide) Try.results36 Try.ntmps36 (by decide) fun fs ⟨hl, hf⟩ => ?_
  have hΓ : GOK Try.prog (gam []) := GOK.nil
  refine AW.of hΓ mixed [] _ _ _ rfl ?_
  simp only [go_sem]
  refine AW.adopt 3 9 1 (fun _ _ => .any) rfl ?_
  refine AW.adopt 4 66 1 (fun _ _ => .any) rfl ?_
  refine AW.round (α := { x : Nat × Nat × Nat × Nat // x.1 ≤ fs.length ∧ x.2.1 < x.2.2.2 ∧ x.2.2.1 < x.2.2.2 ∧ ((fs.take x.1).foldl (fun k f => (numL k f).1) []).length ≤ x.1 * 1000000 })
    (fun x => ⟨[(0, sL (eL eS) fs), (3, .ow 0 x.1.2.1 ((fs.take x.1.1).foldl (fun k f => (numL k f).1) []).length), (4, .ow 1 x.1.2.2.1 x.1.1), (5, .val (.int .i64 x.1.1))],
      [(0, rowL x.1.2.1 9 eS ((fs.take x.1.1).foldl (fun k f => (numL k f).1) [])), (1, rowL x.1.2.2.1 66 (eL eI) (numF [] (fs.take x.1.1)))], 67, 2, x.1.2.2.2, []⟩) (fun x => fs.length - x.1.1) ⟨(0, 0, 1, 2), by simp⟩ ?_ ?_
  · simp only [go_sem]
    exact ⟨rfl, row_nil rfl, row_nil rfl⟩
  · rintro ⟨⟨i, v, u, nx⟩, hi, hv, hu, hks⟩
    simp only at hi hv hu hks
    refine AW.of hΓ mixed [7] _ _ _ rfl ?_
    simp only [go_sem]
    refine ⟨fun hil => ?_, fun hil => ?_⟩
    · have hlt : i < fs.length := by omega
      have hfi := hf _ (gd_lt fs [] hlt ▸ List.getElem_mem hlt)
      generalize hfe : fs.getD i [] = f at *
      obtain ⟨ks0, hke⟩ : ∃ ks0, (fs.take i).foldl (fun k f => (numL k f).1) [] = ks0 := ⟨_, rfl⟩
      have hks0 := hks
      rw [hke] at hks0
      refine AW.adopt 6 3 1 (fun _ _ => .any) rfl ?_
      refine AW.to (fun x : { x : Nat × Nat // nx < x.2 ∧ x.1 < x.2 } => Sh.st ⟨[(0, sL (eL eS) fs), (3, .ow 0 x.1.1 (numL ks0 f).1.length), (4, .ow 1 u i), (5, .val (.int .i64 i)), (6, sL eI (numL ks0 f).2)],
        [(0, rowL x.1.1 9 eS (numL ks0 f).1), (1, rowL u 66 (eL eI) (numF [] (fs.take i)))], 67, 3, x.1.2, []⟩) ?_ ?_
      · refine AW.block (AW.round (α := { x : Nat × Nat × Nat × Nat // x.1 ≤ f.length ∧ x.2.1 < x.2.2.2 ∧ x.2.2.1 < x.2.2.2 ∧ nx < x.2.2.2 })
          (fun x => ⟨[(0, sL (eL eS) fs), (3, .ow 0 x.1.2.1 (numL ks0 (f.take x.1.1)).1.length), (4, .ow 1 u i), (5, .val (.int .i64 i)), (6, .ow 2 x.1.2.2.1 x.1.1), (7, .val (.int .i64 x.1.1))],
          [(0, rowL x.1.2.1 9 eS (numL ks0 (f.take x.1.1)).1), (1, rowL u 66 (eL eI) (numF [] (fs.take i))), (2, rowL x.1.2.2.1 3 eI (numL ks0 (f.take x.1.1)).2)], 67, 3, x.1.2.2.2, []⟩) (fun x => f.length - x.1.1) ⟨(0, v, nx, nx + 1), by simp; omega⟩ ?_ ?_)
        · simp only [go_sem, hke]
          exact ⟨rfl, by simpa [numL] using RowLe.refl _, RowLe.refl _, row_nil rfl⟩
        · rintro ⟨⟨k, v', w, nx'⟩, hk, hv', hw, hnx⟩
          simp only at hk hv' hw hnx
          have hlen : (numL ks0 (f.take k)).2.length = k := by rw [numL_len]; simp; omega
          have hkl : (numL ks0 (f.take k)).1.length ≤ ks0.length + k := by
            have := numL_ks ks0 (f.take k)
            simp at this; omega
          by_cases hkf : k < f.length
          · have hs := numL_snoc ks0 f hkf
            have hkc : (k : Int) < f.length := by omega
            generalize hx : f.getD k [] = x at *
            refine AW.of hΓ mixed [10] _ _ _ rfl ?_
            simp only [go_sem, hkc, hx, hfe]
            generalize hks' : (numL ks0 (f.take k)).1 = ks at *
            generalize hns' : (numL ks0 (f.take k)).2 = ns at *
            have hidx : ks.idxOf x ≤ ks.length := List.idxOf_le_length
            refine ⟨by omega, ?_⟩
            refine AW.seqTo (fun _ : Unit => Sh.st ⟨[(0, sL (eL eS) fs), (3, .ow 0 v' ks.length), (4, .ow 1 u i), (5, .val (.int .i64 i)), (6, .ow 2 w k), (7, .val (.int .i64 k)), (8, .val (.int .i64 (ks.idxOf x)))],
              [(0, rowL v' 9 eS ks), (1, rowL u 66 (eL eI) (numF [] (fs.take i))), (2, rowL w 3 eI ns)], 67, 3, nx', []⟩) ?_ ?_
            · refine AW.block (AW.round (α := { n : Nat // n ≤ ks.length ∧ ∀ m, m < n → ks.getD m [] ≠ x })
                (fun n => ⟨[(0, sL (eL eS) fs), (3, .ow 0 v' ks.length), (4, .ow 1 u i), (5, .val (.int .i64 i)), (6, .ow 2 w k), (7, .val (.int .i64 k)), (8, .val (.int .i64 n.1))],
                [(0, rowL v' 9 eS ks), (1, rowL u 66 (eL eI) (numF [] (fs.take i))), (2, rowL w 3 eI ns)], 67, 3, nx', []⟩) (fun n => ks.length - n.1) ⟨0, Nat.zero_le _, fun m h => absurd h (Nat.not_lt_zero _)⟩ ?_ ?_)
              · simp only [go_sem]
                exact ⟨RowLe.refl _, RowLe.refl _, RowLe.refl _⟩
              · rintro ⟨n, hn, hm⟩
                refine AW.of hΓ mixed [99999] _ _ _ rfl ?_
                simp only [go_sem, hx, hfe]
                refine ⟨fun _ => by omega, fun _ => by omega, fun _ => by omega, fun _ => by omega, fun h => ?_, fun h => ?_⟩
                · refine ⟨by omega, ⟨n + 1, by omega, fun m hm' => ?_⟩, ⟨by dsimp only; omega, RowLe.refl _, RowLe.refl _, RowLe.refl _⟩, by dsimp only; omega⟩
                  rcases Nat.lt_or_ge m n with h' | h'
                  · exact hm m h'
                  · obtain rfl : m = n := by omega
                    exact h.2
                · have hne : n = ks.idxOf x := idx_at ks x n hn hm fun hl => Decidable.not_not.1 (h (by omega))
                  refine ⟨(), toFits ?_⟩
                  simp only [go_sem]
                  exact ⟨by omega, RowLe.refl _, RowLe.refl _, RowLe.refl _⟩
            · intro _
              by_cases hb : x ∈ ks
              · have hlt : ks.idxOf x < ks.length := List.idxOf_lt_length_of_mem hb
                have hne : ¬ ((ks.idxOf x : Int) = ks.length) := by omega
                rw [if_pos hb] at hs
                refine AW.of hΓ mixed [99999] _ _ _ rfl ?_
                simp only [go_sem, hne, hx, hfe]
                refine ⟨⟨by omega, by omega⟩, by omega, ⟨(k + 1, v', nx', nx' + 1), by dsimp only; omega, by dsimp only; omega, by dsimp only; omega, by dsimp only; omega⟩, ⟨Nat.le_refl _, ⟨⟨rfl, by dsimp only; rw [hs]⟩, ⟨rfl, rfl⟩, by dsimp only; omega⟩, ?_, RowLe.refl _, ?_⟩, by dsimp only; omega⟩
                · dsimp only; rw [hs]; exact RowLe.refl _
                · dsimp only; rw [hs]; exact row_app1 rfl rfl hlen.symm rfl rfl fun _ _ => AVle.refl _
              · have heq : ks.idxOf x = ks.length := List.idxOf_eq_length hb
                rw [if_neg hb] at hs
                refine AW.of hΓ mixed [99999] _ _ _ rfl ?_
                simp only [go_sem, heq, hx, hfe]
                refine ⟨by omega, by omega, by omega, ⟨by omega, by omega⟩, by omega, ⟨(k + 1, nx', nx' + 1, nx' + 1 + 1), by dsimp only; omega, by dsimp only; omega, by dsimp only; omega, by dsimp only; omega⟩, ⟨Nat.le_refl _, ⟨⟨rfl, by dsimp only; rw [hs]; simp⟩, ⟨rfl, rfl⟩, by dsimp only; omega⟩, ?_, RowLe.refl _, ?_⟩, by dsimp only; omega⟩
                · dsimp only; rw [hs]; exact row_app1 rfl rfl rfl rfl (by simp) fun _ _ => AVle.refl _
                · dsimp only; rw [hs, heq]; exact row_app1 rfl rfl hlen.symm rfl rfl fun _ _ => AVle.refl _
          · obtain rfl : k = f.length := by omega
            refine AW.of hΓ mixed [10] _ _ _ rfl ?_
            simp only [go_sem, hfe]
            have hlf : (numL ks0 f).2.length = f.length := numL_len ks0 f
            refine ⟨by omega, ⟨(v', nx'), hnx, hv'⟩, ASle.trans (ASle.freeze 2 w 3 1 _ _ rfl fun _ _ _ _ => rfl) (toFits ?_)⟩
            simp only [go_sem, hlf]
            exact ⟨vw_all rfl rfl hlf.symm, RowLe.refl _, RowLe.refl _⟩
      · rintro ⟨⟨v', nx'⟩, hnx, hvn⟩
        simp only at hnx hvn
        simp only [go_sem]
        have hft : fs.take (i + 1) = fs.take i ++ [f] := by rw [take_snoc fs [] hlt, hfe]
        have hfo : (fs.take (i + 1)).foldl (fun k f => (numL k f).1) [] = (numL ks0 f).1 := by rw [hft, List.foldl_append, hke]; rfl
        have hkl := numL_ks ks0 f
        refine ⟨⟨by rw [numF_len]; simp; omega, by omega⟩, by omega, ⟨(i + 1, v', nx', nx' + 1), by dsimp only; omega, by dsimp only; omega, by dsimp only; omega, by dsimp only; rw [hfo]; omega⟩, ⟨Nat.le_refl _, ⟨⟨rfl, by dsimp only; rw [hfo]⟩, ⟨rfl, rfl⟩, by dsimp only; omega⟩, ?_, ?_⟩, by dsimp only; omega⟩
        · dsimp only
          rw [hfo]
          exact RowLe.refl _
        · dsimp only
          rw [hft, numF_snoc, hke]
          exact row_app1 rfl rfl (by rw [numF_len]; simp; omega) rfl (by simp [numF_len]) fun _ _ => AVle.refl _
    · obtain rfl : i = fs.length := by omega
      refine ⟨by rw [numF_len]; simp, ?_⟩
      rw [List.take_length]
      exact vw_all rfl rfl (by rw [numF_len])
end Go.Proofs.Ytnhfobhdbablaaa
set_option linter.unusedSimpArgs false
set_option linter.unusedVariables false
set_option maxRecDepth 100000
set_option maxHeartbeats 2000000
namespace Go.Proofs.Ytnhfobhdbablaaa
open Go
attribute [local irreducible] AW AVle ASle RowLe
@[go_sem] theorem kCell_str (l : Array UInt8) : kCell (.string ⟨l⟩) = .st l.toList := rfl
theorem ends_drop (a : List UInt8) : (decide (1 ≤ (a.length : Int)) && decide (List.drop ((a.length : Int) - 1).toNat a = [10])) = endsL a := by
  unfold endsL
  have e : ((a.length : Int) - 1).toNat = a.length - 1 := by omega
  rw [e, Bool.eq_iff_iff]
  simp only [Bool.and_eq_true, decide_eq_true_eq]
  rcases a.eq_nil_or_concat with rfl | ⟨m, c, rfl⟩
  · simp
  · rw [List.concat_eq_append]
    have e2 : (m ++ [c]).length - 1 = m.length := by simp
    rw [e2, List.drop_left]
    simp
    omega
def sHasSufL : Spec := Spec.f2 kS kS (fun a b => a.length ≤ 100000000000 ∧ b = [10]) (fun a _ => kB.enc (endsL a))
theorem okHasSufL : SpecOK Try.prog 86 sHasSufL := by
  refine SpecOK.f2 Try.func86 rfl (by decide) Try.results86 Try.ntmps86 (by decide) fun a b ⟨ha, h⟩ => ?_
  have hΓ : GOK Try.prog (gam []) := GOK.nil
  subst h
  refine AW.of hΓ mixed [] _ _ _ rfl ?_
  simp only [go_sem]
  exact ⟨by omega, by omega, ends_drop a⟩
def sHasSuf : Spec := Spec.f2 kS kS (fun a b => a.length ≤ 100000000000 ∧ b = [10]) (fun a _ => kB.enc (endsL a))
theorem okHasSuf : SpecOK Try.prog 66 sHasSuf := by
  refine SpecOK.f2 Try.func66 rfl (by decide) Try.results66 Try.ntmps66 (by decide) fun a b ⟨ha, h⟩ => ?_
  have hΓ : GOK Try.prog (gam [(86, sHasSufL)]) := (.cons okHasSufL .nil)
  subst h
  refine AW.of hΓ mixed [] _ _ _ rfl ?_
  simp only [go_sem, sHasSufL]
  exact ha
theorem isText_iff (ll bl rl : BS) (h : Bool) (t l b r : BS) (hb : Bool) : isTextD (ll, bl, rl, h, t, l, b, r, hb) = true ↔ ll = [] ∧ bl = [] ∧ rl = [] ∧ h = false ∧ l = [] ∧ b = [] ∧ r = [] ∧ hb = false := by
  simp [isTextD, textP, txP]
def sIsText : Spec := Spec.f1 (kA ePt) (fun _ => True) (fun p => kB.enc (isTextD p))
theorem okIsText : SpecOK Try.prog 76 sIsText := by
  refine SpecOK.f1 Try.func76 rfl (by decide) Try.results76 Try.ntmps76 (by decide) fun p _ => ?_
  have hΓ : GOK Try.prog (gam []) := GOK.nil
  obtain ⟨ll, bl, rl, h, t, l, b, r, hb⟩ := p
  refine AW.of hΓ mixed [] _ _ _ rfl ?_
  simp only [go_sem]
  rw [Bool.eq_iff_iff, isText_iff]
  simp only [Bool.and_eq_true, decide_eq_true_eq, and_assoc]
def sRefText : Spec := Spec.f1 (kA ePt) (fun _ => True) (fun p => kB.enc (isTextD p))
theorem okRefText : SpecOK Try.prog 79 sRefText := by
  refine SpecOK.f1 Try.func79 rfl (by decide) Try.results79 Try.ntmps79 (by decide) fun p _ => ?_
  have hΓ : GOK Try.prog (gam []) := GOK.nil
  obtain ⟨ll, bl, rl, h, t, l, b, r, hb⟩ := p
  refine AW.of hΓ mixed [] _ _ _ rfl ?_
  simp only [go_sem]
  rw [Bool.eq_iff_iff, isText_iff]
  simp only [Bool.and_eq_true, decide_eq_true_eq, and_assoc]
theorem pt_le {ll bl rl : BS} {h : Bool} {t l b r : BS} {hb : Bool} {c : Nat → AV} (h0 : c 0 = .st ll) (h1 : c 1 = .st bl) (h2 : c 2 = .st rl) (h3 : c 3 = .val (.bool h)) (h4 : c 4 = .st t) (h5 : c 5 = .st l) (h6 : c 6 = .st b) (h7 : c 7 = .st r) (h8 : c 8 = .val (.bool hb)) :
    AVle (.ag 9 c) (.ag 9 (ePt.enc (ll, bl, rl, h, t, l, b, r, hb))) := AVle.ag fun j hj => AVle.of_eq (match j, hj with
  | 0, _ => h0
  | 1, _ => h1
  | 2, _ => h2
  | 3, _ => h3
  | 4, _ => h4
  | 5, _ => h5
  | 6, _ => h6
  | 7, _ => h7
  | 8, _ => h8)
def sPartD : Spec := Spec.f1 (kA ePt) (fun _ => True) (fun p => (kA ePt).enc p)
theorem okPartD : SpecOK Try.prog 56 sPartD := by
  refine SpecOK.f1 Try.func56 rfl (by decide) Try.results56 Try.ntmps56 (by decide) fun p _ => ?_
  have hΓ : GOK Try.prog (gam []) := GOK.nil
  obtain ⟨ll, bl, rl, h, t, l, b, r, hb⟩ := p
  refine AW.of hΓ mixed [] _ _ _ rfl ?_
  simp only [go_sem]
  exact pt_le rfl rfl rfl rfl rfl rfl rfl rfl rfl
def sOneD : Spec := Spec.f1 (kA ePt) (fun _ => True) (fun p => (kA ePt).enc p)
theorem okOneD : SpecOK Try.prog 52 sOneD := by
  refine SpecOK.f1 Try.func52 rfl (by decide) Try.results52 Try.ntmps52 (by decide) fun p _ => ?_
  have hΓ : GOK Try.prog (gam []) := GOK.nil
  obtain ⟨ll, bl, rl, h, t, l, b, r, hb⟩ := p
  refine AW.of hΓ mixed [] _ _ _ rfl ?_
  simp only [go_sem]
  exact pt_le rfl rfl rfl rfl rfl rfl rfl rfl rfl
theorem ptEq (x y : Pt) : (decide (x.1 = y.1) && (decide (x.2.1 = y.2.1) && (decide (x.2.2.1 = y.2.2.1) && (decide (x.2.2.2.1 = y.2.2.2.1) && (decide (x.2.2.2.2.1 = y.2.2.2.2.1) && (decide (x.2.2.2.2.2.1 = y.2.2.2.2.2.1) && (decide (x.2.2.2.2.2.2.1 = y.2.2.2.2.2.2.1) && (decide (x.2.2.2.2.2.2.2.1 = y.2.2.2.2.2.2.2.1) && decide (x.2.2.2.2.2.2.2.2 = y.2.2.2.2.2.2.2.2))))))))) = decide (x = y) := by
  obtain ⟨ll, bl, rl, h, t, l, b, r, hb⟩ := x
  obtain ⟨ll', bl', rl', h', t', l', b', r', hb'⟩ := y
  rw [Bool.eq_iff_iff]
  simp only [Bool.and_eq_true, decide_eq_true_eq, Prod.mk.injEq]
def sSameD : Spec := Spec.f2 (kL ePt) (kL ePt) (fun a b => a.length < 1000000000 ∧ b.length < 1000000000) (fun a b => kB.enc (decide (a = b)))
theorem okSameD : SpecOK Try.prog 16 sSameD := by
  refine SpecOK.f2 Try.func16 rfl (by decide) Try.results16 Try.ntmps16 (by decide) fun a b ⟨ha, hb⟩ => ?_
  have hΓ : GOK Try.prog (gam []) := GOK.nil
  refine AW.of hΓ mixed [] _ _ _ rfl ?_
  simp only [go_sem]
  refine ⟨fun h e => h (by rw [e]), fun h => ?_⟩
  have hab : a.length = b.length := by omega
  refine AW.round (α := { x : Nat × Nat // x.1 ≤ a.length ∧ ∀ k, k < x.1 → a.getD k ePt.dflt = b.getD k ePt.dflt })
    (fun x => ⟨[(0, sL ePt a), (1, sL ePt b), (5, .val (.int .i64 x.1.1))], [], 26, 0, x.1.2, []⟩) (fun x => a.length - x.1.1) ⟨(0, 0), Nat.zero_le _, fun k hk => absurd hk (Nat.not_lt_zero _)⟩ ?_ ?_
  · simp only [go_sem]
  · rintro ⟨⟨i, nx⟩, hi, he⟩
    simp only at hi he
    refine AW.of hΓ mixed [99999] _ _ _ rfl ?_
    simp only [go_sem]
    rw [ptEq]
    refine ⟨fun hlt => ⟨by omega, by omega, fun hn e => ?_, fun hn => ⟨by omega, ⟨(i + 1, nx), by dsimp only; omega, fun k hk => ?_⟩, ⟨Nat.le_refl _, by dsimp only; omega⟩, by dsimp only; omega⟩⟩, fun hge => ?_⟩
    · rw [e, decide_eq_true rfl] at hn
      cases hn
    · dsimp only at hk
      rcases Nat.lt_or_ge k i with h' | h'
      · exact he k h'
      · obtain rfl : k = i := by omega
        simpa using hn
    · exact list_ext_getD ePt.dflt hab fun k hk => he k (by omega)
theorem ptEqN (x y : Pt) : ((decide (x.1 = y.1) && (decide (x.2.1 = y.2.1) && decide (x.2.2.1 = y.2.2.1))) && (decide (x.2.2.2.1 = y.2.2.2.1) && (decide (x.2.2.2.2.1 = y.2.2.2.2.1) && (decide (x.2.2.2.2.2.1 = y.2.2.2.2.2.1) && (decide (x.2.2.2.2.2.2.1 = y.2.2.2.2.2.2.1) && (decide (x.2.2.2.2.2.2.2.1 = y.2.2.2.2.2.2.2.1) && decide (x.2.2.2.2.2.2.2.2 = y.2.2.2.2.2.2.2.2))))))) = decide (x = y) := by
  rw [← ptEq]
  simp only [Bool.and_assoc]
def sEqD : Spec := Spec.f2 (kL ePt) (kL ePt) (fun a b => a.length < 1000000000 ∧ b.length < 1000000000) (fun a b => kB.enc (decide (a = b)))
def sSameDD : Spec := Spec.f2 (kL ePt) (kL ePt) (fun a b => a.length < 1000000000 ∧ b.length < 1000000000) (fun a b => kB.enc (decide (a = b)))
def sToD : Spec := Spec.f1 (kL ePt) (fun l => l.length < 100000000) (fun l => sL ePt l)
theorem okToD : SpecOK Try.prog 28 sToD := by
  refine SpecOK.f1 Try.func28 rfl (by decide) Try.results28 Try.ntmps28 (by decide) fun l hl => ?_
  have hΓ : GOK Try.prog (gam [(56, sPartD)]) := (.cons okPartD .nil)
  refine AW.of hΓ mixed [] _ _ _ rfl ?_
  simp only [go_sem, sPartD]
  refine AW.adopt 3 62 9 (fun i => ePt.enc (([] : List Pt).getD i ePt.dflt)) rfl ?_
  refine AW.round (α := { x : Nat × Nat × Nat // x.1 ≤ l.length })
    (fun x => ⟨[(0, sL ePt l), (3, .ow 0 x.1.2.1 x.1.1), (4, .val (.int .i64 x.1.1))], [(0, rowL x.1.2.1 62 ePt (l.take x.1.1))], 20, 1, x.1.2.2, []⟩) (fun x => l.length - x.1.1) ⟨(0, 0, 1), Nat.zero_le _⟩ ?_ ?_
  · simp only [go_sem, sPartD]
    exact RowLe.refl _
  · rintro ⟨⟨i, v, nx⟩, hi⟩
    simp only at hi
    refine AW.of hΓ mixed [99999] _ _ _ rfl ?_
    simp only [go_sem, sPartD]
    refine ⟨fun hlt => ⟨by omega, by omega, by omega, ⟨(i + 1, nx, nx + 1), by dsimp only; omega⟩, ⟨Nat.le_refl _, ⟨⟨rfl, rfl⟩, by dsimp only; omega⟩, ?_⟩, by dsimp only; omega⟩, fun hge => ?_⟩
    · refine row_app1 (E := ePt) (x := l.getD i ePt.dflt) rfl (take_snoc l ePt.dflt (by omega)) (by simp; omega) rfl (by simp) fun j hj => AVle.refl _
    · obtain rfl : i = l.length := by omega
      rw [List.take_length]
      exact ⟨by simp, vw_all (E := ePt) rfl rfl rfl⟩
def sFromD : Spec := Spec.f1 (kL ePt) (fun l => l.length < 100000000) (fun l => sL ePt l)
theorem okFromD : SpecOK Try.prog 17 sFromD := by
  refine SpecOK.f1 Try.func17 rfl (by decide) Try.results17 Try.ntmps17 (by decide) fun l hl => ?_
  have hΓ : GOK Try.prog (gam [(52, sOneD)]) := (.cons okOneD .nil)
  refine AW.of hΓ mixed [] _ _ _ rfl ?_
  simp only [go_sem, sOneD]
  refine AW.adopt 3 24 9 (fun i => ePt.enc (([] : List Pt).getD i ePt.dflt)) rfl ?_
  refine AW.round (α := { x : Nat × Nat × Nat // x.1 ≤ l.length })
    (fun x => ⟨[(0, sL ePt l), (3, .ow 0 x.1.2.1 x.1.1), (4, .val (.int .i64 x.1.1))], [(0, rowL x.1.2.1 24 ePt (l.take x.1.1))], 20, 1, x.1.2.2, []⟩) (fun x => l.length - x.1.1) ⟨(0, 0, 1), Nat.zero_le _⟩ ?_ ?_
  · simp only [go_sem, sOneD]
    exact RowLe.refl _
  · rintro ⟨⟨i, v, nx⟩, hi⟩
    simp only at hi
    refine AW.of hΓ mixed [99999] _ _ _ rfl ?_
    simp only [go_sem, sOneD]
    refine ⟨fun hlt => ⟨by omega, by omega, by omega, ⟨(i + 1, nx, nx + 1), by dsimp only; omega⟩, ⟨Nat.le_refl _, ⟨⟨rfl, rfl⟩, by dsimp only; omega⟩, ?_⟩, by dsimp only; omega⟩, fun hge => ?_⟩
    · refine row_app1 (E := ePt) (x := l.getD i ePt.dflt) rfl (take_snoc l ePt.dflt (by omega)) (by simp; omega) rfl (by simp) fun j hj => AVle.refl _
    · obtain rfl : i = l.length := by omega
      rw [List.take_length]
      exact ⟨by simp, vw_all (E := ePt) rfl rfl rfl⟩
theorem sumT_mem {l : List Pt} {p : Pt} (h : p ∈ l) : (txP p).length ≤ sumT l := by
  induction l with
  | nil => cases h
  | cons t l ih =>
    have e : sumT (t :: l) = (txP t).length + sumT l := by simp [sumT]
    rcases List.mem_cons.1 h with rfl | h
    · omega
    · have := ih h
      omega
theorem pt_eta (p : Pt) : (p.1, p.2.1, p.2.2.1, p.2.2.2.1, p.2.2.2.2.1, p.2.2.2.2.2.1, p.2.2.2.2.2.2.1, p.2.2.2.2.2.2.2.1, p.2.2.2.2.2.2.2.2) = p := rfl
theorem stE_text {m : List Pt} {q : Pt} {x : BS} (hq : isTextD q = true) : ∀ i, i < m.length + 1 → ∀ j, j < 9 → AVle (stE (fun i => ePt.enc ((m ++ [q]).getD i ePt.dflt)) m.length 4 1 (fun _ => AV.st x) i j) (ePt.enc ((m ++ [textP x]).getD i ePt.dflt) j) := fun i hi j hj => by
  simp only [stE]
  by_cases e : i = m.length
  · subst e
    have e1 : ∀ c : Pt, (m ++ [c]).getD m.length ePt.dflt = c := fun c => by simp [List.getD]
    rw [e1, e1, isText_eq hq]
    match j, hj with
    | 0, _ => rw [if_neg (by omega)]; exact AVle.refl _
    | 1, _ => rw [if_neg (by omega)]; exact AVle.refl _
    | 2, _ => rw [if_neg (by omega)]; exact AVle.refl _
    | 3, _ => rw [if_neg (by omega)]; exact AVle.refl _
    | 4, _ => rw [if_pos ⟨rfl, by omega, by omega⟩]; exact AVle.refl _
    | 5, _ => rw [if_neg (by omega)]; exact AVle.refl _
    | 6, _ => rw [if_neg (by omega)]; exact AVle.refl _
    | 7, _ => rw [if_neg (by omega)]; exact AVle.refl _
    | 8, _ => rw [if_neg (by omega)]; exact AVle.refl _
  · rw [if_neg (fun h => e h.1)]
    have e3 : ∀ c : Pt, (m ++ [c]).getD i ePt.dflt = m.getD i ePt.dflt := fun c => by simp [List.getD, List.getElem?_append_left (show i < m.length by omega)]
    rw [e3, e3]
    exact AVle.refl _
theorem snocP (m : List Pt) (c d : Pt) : (m ++ [c]).getD m.length d = c := by simp [List.getD]
def sRefOf : Spec := Spec.f1 (kL ePt) (fun l => l.length < 100000000 ∧ sumT l ≤ 1000000000) (fun l => sL ePt (ofD l))
theorem okRefOf : SpecOK Try.prog 51 sRefOf := by
  refine SpecOK.f1 Try.func51 rfl (by decide) Try.results51 Try.ntmps51 (by decide) fun l ⟨hl, hs⟩ => ?_
  have hΓ : GOK Try.prog (gam [(79, sRefText)]) := (.cons okRefText .nil)
  refine AW.of hΓ mixed [] _ _ _ rfl ?_
  simp only [go_sem, sRefText]
  refine AW.adopt 3 24 9 (fun i => ePt.enc (([] : List Pt).getD i ePt.dflt)) rfl ?_
  refine AW.round (α := { x : Nat × List Pt × Nat × Nat // x.1 ≤ l.length ∧ x.2.1 = (l.take x.1).foldl joinR [] })
    (fun x => ⟨[(0, sL ePt l), (3, .ow 0 x.1.2.2.1 x.1.2.1.length), (4, .val (.int .i64 x.1.1))], [(0, rowL x.1.2.2.1 24 ePt x.1.2.1)], 69, 1, x.1.2.2.2, []⟩) (fun x => l.length - x.1.1) ⟨(0, [], 0, 1), Nat.zero_le _, rfl⟩ ?_ ?_
  · simp only [go_sem, sRefText]
    exact RowLe.refl _
  · rintro ⟨⟨i, out, v, nx⟩, hi, ho⟩
    simp only at hi ho
    rcases Nat.lt_or_ge i l.length with hlt | hge
    · have hsum := fold_sum (l.take i) []
      rw [← ho] at hsum
      have hst := sumT_take l i
      have hpl : (txP (l.getD i ePt.dflt)).length ≤ sumT l := by
        rw [gd_lt l _ hlt]
        exact sumT_mem (List.getElem_mem _)
      have hstep : (l.take (i + 1)).foldl joinR [] = joinR out (l.getD i ePt.dflt) := by
        rw [take_snoc l ePt.dflt hlt, List.foldl_append, ← ho]
        rfl
      have hlen : out.length ≤ i := by
        have := hsum.2
        simp at this
        omega
      have hlI : ((i : Int) < (l.length : Nat)) = True := eq_true (by omega)
      generalize hp : l.getD i ePt.dflt = p at *
      rcases out.eq_nil_or_concat with rfl | ⟨m, q, hms⟩
      · refine AW.of hΓ mixed [99999] _ _ _ rfl ?_
        simp only [go_sem, sRefText, hp, hlI, pt_eta]
        refine ⟨by omega, fun _ => by omega, fun h => ⟨by omega, ⟨(i + 1, [], v, nx), by dsimp only; omega, by dsimp only; rw [hstep, join_em h.1 h.2]⟩, ⟨Nat.le_refl _, ⟨⟨rfl, rfl⟩, by dsimp only; omega⟩, RowLe.refl _⟩, by dsimp only; omega⟩,
          fun h => ⟨by omega, by omega, by omega, ⟨(i + 1, [p], nx, nx + 1), by dsimp only; omega, by dsimp only; rw [hstep, joinR_nil fun hh => h hh.1 hh.2]⟩, ⟨Nat.le_refl _, ⟨⟨rfl, rfl⟩, by dsimp only; omega⟩, ?_⟩, by dsimp only; omega⟩⟩
        exact row_app1 (E := ePt) (l := []) (x := p) rfl rfl rfl rfl rfl fun j hj => AVle.refl _
      · rw [List.concat_eq_append] at hms
        subst hms
        have e1 : (((m.length + 1 : Nat) : Int) - 1) = (m.length : Int) := by omega
        have e2 : (0 ≤ (m.length : Int)) = True := eq_true (by omega)
        have e3 : (0 < ((m.length + 1 : Nat) : Int)) = True := eq_true (by omega)
        have hlm : m.length + 1 ≤ i := by simpa using hlen
        have hq : (txP q).length ≤ sumT l := by
          have h1 := sumT_app m [q]
          rw [sumT_one] at h1
          have h2 := hsum.1
          simp only [sumT, List.map_nil, List.sum_nil] at h2
          simp only [sumT] at *
          omega
        have hpq : (txP q).length + (txP p).length ≤ 9223372036854775807 := by omega
        refine AW.of hΓ mixed [99999] _ _ _ rfl ?_
        simp only [go_sem, sRefText, hp, hlI, e1, e2, e3, snocP, pt_eta]
        refine ⟨by omega, fun _ => by omega, fun h => ⟨by omega, ⟨(i + 1, m ++ [q], v, nx), by dsimp only; omega, by dsimp only; rw [hstep, join_em h.1 h.2]⟩, ⟨Nat.le_refl _, ⟨⟨rfl, by simp⟩, by dsimp only; omega⟩, RowLe.sl (by simp) fun _ _ _ _ => AVle.refl _⟩, by dsimp only; omega⟩,
          fun h => ⟨by omega, fun _ => by omega, fun _ => by omega, fun _ => by omega, fun h2 => ?_, fun h2 => ?_⟩⟩
        · have hj := join_two (m := m) h2.1 (h h2.1) h2.2
          refine ⟨by omega, by omega, by omega, by omega, by omega, hpq, by omega, by omega, by omega, ⟨(i + 1, m ++ [textP (txP q ++ txP p)], v, nx), by dsimp only; omega, by dsimp only; rw [hstep, hj]⟩, ⟨Nat.le_refl _, ⟨⟨rfl, by simp⟩, by dsimp only; omega⟩, ?_⟩, by dsimp only; omega⟩
          exact RowLe.sl (by simp) (stE_text h2.2)
        · have hj : joinR (m ++ [q]) p = m ++ [q] ++ [p] := by
            cases hp2 : isTextD p with
            | false => exact join_no hp2
            | true => exact join_new (fun hh => h hp2 hh.2) (h2 hp2)
          refine ⟨by omega, by omega, by omega, ⟨(i + 1, m ++ [q] ++ [p], nx, nx + 1), by dsimp only; omega, by dsimp only; rw [hstep, hj]⟩, ⟨Nat.le_refl _, ⟨⟨rfl, by simp⟩, by dsimp only; omega⟩, ?_⟩, by dsimp only; omega⟩
          exact row_app1 (E := ePt) (l := m ++ [q]) (x := p) rfl rfl (by simp) rfl (by simp) fun j hj => AVle.refl _
    · have hlI : ((i : Int) < (l.length : Nat)) = False := eq_false (by omega)
      obtain rfl : i = l.length := by omega
      refine AW.of hΓ mixed [99999] _ _ _ rfl ?_
      simp only [go_sem, sRefText, hlI]
      rw [List.take_length, ← ofD_eq] at ho
      rw [← ho]
      exact vw_all (E := ePt) rfl rfl rfl
end Go.Proofs.Ytnhfobhdbablaaa
namespace Go.Proofs
open Go.Shelf
def Try.lays156_ren : Go.Shelf.Ren := ⟨fun | 156 => 89 | 165 => 96 | 166 => 82 | 169 => 83 | 240 => 92 | 241 => 102 | 276 => 97 | 277 => 105 | n => n, fun | 31 => 28 | 9 => 9 | 3 => 3 | 4 => 4 | 0 => 0 | 20 => 20 | 72 => 125 | 76 => 128 | 70 => 122 | 37 => 123 | 75 => 127 | 127 => 136 | 164 => 144 | 5 => 5 | 80 => 130 | n => n, fun | n => n⟩
theorem Try.lays156 : Go.Proofs.Lays.n156 Try.prog Try.lays156_ren := {
  mixed := by kernel_rfl
  f156 := Try.func89.trans (congrArg some (by kernel_rfl))
  f165 := Try.func96.trans (congrArg some (by kernel_rfl))
  f166 := Try.func82.trans (congrArg some (by kernel_rfl))
  f169 := Try.func83.trans (congrArg some (by kernel_rfl))
  f240 := Try.func92.trans (congrArg some (by kernel_rfl))
  f241 := Try.func102.trans (congrArg some (by kernel_rfl))
  f276 := Try.func97.trans (congrArg some (by kernel_rfl))
  f277 := Try.func105.trans (congrArg some (by kernel_rfl))
  t0 := Try.underlying0
  a0 := Try.isAgg0
  z0 := Try.sizeOf0
  v0 := Try.zeroValue0
  t3 := Try.underlying3
  a3 := Try.isAgg3
  z3 := Try.sizeOf3
  v3 := Try.zeroValue3
  t4 := Try.underlying4
  a4 := Try.isAgg4
  z4 := Try.sizeOf4
  v4 := Try.zeroValue4
  t9 := Try.underlying9
  a9 := Try.isAgg9
  z9 := Try.sizeOf9
  v9 := Try.zeroValue9
  t20 := Try.underlying20
  a20 := Try.isAgg20
  z20 := Try.sizeOf20
  v20 := Try.zeroValue20
  t31 := Try.underlying28
  a31 := Try.isAgg28
  z31 := Try.sizeOf28
  v31 := Try.zeroValue28
  t37 := Try.underlying123
  a37 := Try.isAgg123
  z37 := Try.sizeOf123
  v37 := Try.zeroValue123
  t70 := Try.underlying122
  a70 := Try.isAgg122
  z70 := Try.sizeOf122
  v70 := Try.zeroValue122
  t72 := Try.underlying125
  a72 := Try.isAgg125
  z72 := Try.sizeOf125
  v72 := Try.zeroValue125
  t75 := Try.underlying127
  a75 := Try.isAgg127
  z75 := Try.sizeOf127
  v75 := Try.zeroValue127
  t76 := Try.underlying128
  a76 := Try.isAgg128
  z76 := Try.sizeOf128
  v76 := Try.zeroValue128
  t127 := Try.underlying136
  a127 := Try.isAgg136
  z127 := Try.sizeOf136
  v127 := Try.zeroValue136
  t164 := Try.underlying144
  a164 := Try.isAgg144
  z164 := Try.sizeOf144
  v164 := Try.zeroValue144 }
theorem Try.Builder_Extra_156 : Builder.Extra Try.prog Try.lays156_ren := {
  sizeBuilder := by kernel_rfl
  liesBuilder := by kernel_rfl
  t5 := Try.underlying5
  a5 := Try.isAgg5
  z5 := Try.sizeOf5
  v5 := Try.zeroValue5
  infoByte := by kernel_rfl
  cellsByte := by kernel_rfl
  sizeByte := by kernel_rfl
  neB5 := by decide }
open Go.RowKit in
theorem Try.strings_Join_none (a : Option Addr) (c : Nat) (sep : ByteArray) (w : World) :
    Calls Try.prog 89 #[.slice a 0 c, .string sep] w fun e w' => e = .returned (.string ⟨#[]⟩) ∧ w' = w := Any.strings_Join_none Try.lays156 Try.Builder_Extra_156 a c sep w
open Go.RowKit in
theorem Try.strings_Join (bk o c : Nat) (xs : List ByteArray) (sep : ByteArray) (w : World) (hcells : ∀ (j : Nat) x, xs[j]? = some x → w.cell? ⟨bk, o + j, none⟩ = some (.string x)) (hbk : bk < w.heap.size) (hN : xs.length ≤ 140737488355328) (hcap : xs.length ≤ c) (hlen : (Lib.join (xs.map (·.data.toList)) sep.data.toList).length ≤ 140737488355328) :
    Calls Try.prog 89 #[.slice (some ⟨bk, o, none⟩) xs.length c, .string sep] w fun e w' => e = .returned (.string ⟨(Lib.join (xs.map (·.data.toList)) sep.data.toList).toArray⟩) ∧ Below w.heap.size w w' := Any.strings_Join Try.lays156 Try.Builder_Extra_156 bk o c xs sep w hcells hbk hN hcap hlen
def Try.lays143_ren : Go.Shelf.Ren := ⟨fun | 143 => 87 | 219 => 95 | 217 => 98 | 225 => 99 | 224 => 100 | 267 => 101 | 266 => 103 | 314 => 104 | n => n, fun | 9 => 9 | 3 => 3 | 4 => 4 | 5 => 5 | 46 => 131 | 146 => 138 | 51 => 137 | n => n, fun | 1 => 0 | n => n⟩
theorem Try.lays143 : Go.Proofs.Lays.n143 Try.prog Try.lays143_ren := {
  mixed := by kernel_rfl
  f143 := Try.func87.trans (congrArg some (by kernel_rfl))
  f217 := Try.func98.trans (congrArg some (by kernel_rfl))
  f219 := Try.func95.trans (congrArg some (by kernel_rfl))
  f224 := Try.func100.trans (congrArg some (by kernel_rfl))
  f225 := Try.func99.trans (congrArg some (by kernel_rfl))
  f266 := Try.func103.trans (congrArg some (by kernel_rfl))
  f267 := Try.func101.trans (congrArg some (by kernel_rfl))
  f314 := Try.func104.trans (congrArg some (by kernel_rfl))
  t3 := Try.underlying3
  a3 := Try.isAgg3
  z3 := Try.sizeOf3
  v3 := Try.zeroValue3
  t4 := Try.underlying4
  a4 := Try.isAgg4
  z4 := Try.sizeOf4
  v4 := Try.zeroValue4
  t5 := Try.underlying5
  a5 := Try.isAgg5
  z5 := Try.sizeOf5
  v5 := Try.zeroValue5
  t9 := Try.underlying9
  a9 := Try.isAgg9
  z9 := Try.sizeOf9
  v9 := Try.zeroValue9
  t46 := Try.underlying131
  a46 := Try.isAgg131
  z46 := Try.sizeOf131
  v46 := Try.zeroValue131
  t51 := Try.underlying137
  a51 := Try.isAgg137
  z51 := Try.sizeOf137
  v51 := Try.zeroValue137
  t146 := Try.underlying138
  a146 := Try.isAgg138
  z146 := Try.sizeOf138
  v146 := Try.zeroValue138
  g1 := by kernel_rfl }
open Go.RowKit Go.Lib in
theorem Try.strings_Index_one (s : ByteArray) (c : UInt8) (w : World) :
    Calls Try.prog 87 #[.string s, .string ⟨#[c]⟩] w fun e w' => e = .returned (.int .i64 (Lib.indexByte s.data.toList c)) ∧ w' = w := Any.strings_Index_one Try.lays143 s c w
def Try.lays264_ren : Go.Shelf.Ren := ⟨fun | 264 => 94 | n => n, fun | 53 => 140 | 46 => 131 | n => n, fun | n => n⟩
theorem Try.lays264 : Go.Proofs.Lays.n264 Try.prog Try.lays264_ren := {
  mixed := by kernel_rfl
  f264 := Try.func94.trans (congrArg some (by kernel_rfl))
  t46 := Try.underlying131
  a46 := Try.isAgg131
  z46 := Try.sizeOf131
  v46 := Try.zeroValue131
  t53 := Try.underlying140
  a53 := Try.isAgg140
  z53 := Try.sizeOf140
  v53 := Try.zeroValue140 }
open Go.RowKit Go.Lib in
theorem Try.bits_Mul64 (x y : Nat) (hx : x < 18446744073709551616) (hy : y < 18446744073709551616) (w : World) :
    Calls Try.prog 94 #[.int .u64 x, .int .u64 y] w fun e w' => e = .returned (.tuple #[.int .u64 ((x * y / 18446744073709551616 : Nat) : Int), .int .u64 ((x * y % 18446744073709551616 : Nat) : Int)]) ∧ w' = w := Any.bits_Mul64 Try.lays264 x y hx hy w
def Try.lays212_ren : Go.Shelf.Ren := ⟨fun | 212 => 84 | 263 => 93 | 264 => 94 | n => n, fun | 46 => 131 | 51 => 137 | 146 => 138 | 53 => 140 | 148 => 141 | n => n, fun | n => n⟩
theorem Try.lays212 : Go.Proofs.Lays.n212 Try.prog Try.lays212_ren := {
  mixed := by kernel_rfl
  f212 := Try.func84.trans (congrArg some (by kernel_rfl))
  f263 := Try.func93.trans (congrArg some (by kernel_rfl))
  f264 := Try.func94.trans (congrArg some (by kernel_rfl))
  t46 := Try.underlying131
  a46 := Try.isAgg131
  z46 := Try.sizeOf131
  v46 := Try.zeroValue131
  t51 := Try.underlying137
  a51 := Try.isAgg137
  z51 := Try.sizeOf137
  v51 := Try.zeroValue137
  t53 := Try.underlying140
  a53 := Try.isAgg140
  z53 := Try.sizeOf140
  v53 := Try.zeroValue140
  t146 := Try.underlying138
  a146 := Try.isAgg138
  z146 := Try.sizeOf138
  v146 := Try.zeroValue138
  t148 := Try.underlying141
  a148 := Try.isAgg141
  z148 := Try.sizeOf141
  v148 := Try.zeroValue141 }
open Go.RowKit Go.Lib in
theorem Try.bits_Mul (x y : Nat) (hx : x < 18446744073709551616) (hy : y < 18446744073709551616) (w : World) :
    Calls Try.prog 84 #[.int .u64 x, .int .u64 y] w fun e w' => e = .returned (.tuple #[.int .u64 ((x * y / 18446744073709551616 : Nat) : Int), .int .u64 ((x * y % 18446744073709551616 : Nat) : Int)]) ∧ w' = w := Any.bits_Mul Try.lays212 x y hx hy w
end Go.Proofs
set_option linter.unusedSimpArgs false
set_option linter.unusedVariables false
set_option maxRecDepth 100000
namespace Go.Proofs.Ytnhfobhdbablaaa
open Go
attribute [local irreducible] AW AVle ASle RowLe

/-! ### the library's -/
def sIndex1 : Spec := Spec.f2 kS kS (fun _ b => b = [10]) (fun a _ => kI.enc (Lib.indexByte a 10))
theorem okIndex1 : SpecOK Try.prog 87 sIndex1 := by
  refine SpecOK.ss Try.func87 rfl (by decide) fun a b hd w => ?_
  subst hd
  refine (Try.strings_Index_one ⟨a.toArray⟩ 10 w).mono ?_
  rintro e w' ⟨rfl, rfl⟩
  exact ⟨_, rfl, Fr.refl _ _, fun _ => rfl⟩
def sCount1 : Spec := Spec.f2 kS kS (fun _ b => b = [10]) (fun a _ => kI.enc (a.count 10 : Nat))
/-! ### Split -/
theorem spA_step {r : List UInt8} (h : (10 : UInt8) ∈ r) : ∃ m : Nat, Lib.indexByte r 10 = m ∧ m + 1 ≤ r.length ∧ spA r = r.take (m + 1) :: spA (r.drop (m + 1)) ∧ (r.drop (m + 1)).count 10 + 1 = r.count 10 := by
  rcases idx_cases r with ⟨_, h'⟩ | ⟨p, q, rfl, hp, hm⟩
  · exact absurd h h'
  · have e0 : p ++ 10 :: q = (p ++ [10]) ++ q := by simp
    have el : p.length + 1 = (p ++ [10]).length := by simp
    have e1 : (p ++ 10 :: q).take (p.length + 1) = p ++ [10] := by rw [e0, el, List.take_left]
    have e2 : (p ++ 10 :: q).drop (p.length + 1) = q := by rw [e0, el, List.drop_left]
    refine ⟨p.length, hm, by simp, ?_, ?_⟩
    · rw [e1, e2, spA_cut p q hp]
    · rw [e2, List.count_append, List.count_eq_zero.2 hp]
      simp
def sGenSplit : Spec := Spec.f4 kS kS kI kI (fun s b k n => s.length ≤ 100000000 ∧ b = [10] ∧ k = 1 ∧ n = -1) (fun s _ _ _ => sL eS (spA s))
def sSplitAfter : Spec := Spec.f2 kS kS (fun s b => s.length ≤ 100000000 ∧ b = [10]) (fun s _ => sL eS (spA s))
def sSplit : Spec := Spec.f1 kS (fun s => s.length ≤ 100000000) (fun s => sL eS (splitL s))
/-! ### Join -/
/-- A list that can be looked at. -/
def okLs (l : List (List UInt8)) : Prop := l.length ≤ 100000000 ∧ l.flatten.length ≤ 100000000000
theorem flat_len (l : List (List UInt8)) (i : Nat) : (l.getD i []).length ≤ l.flatten.length := by
  rcases Nat.lt_or_ge i l.length with h | h
  · rw [gd_lt _ _ h]
    exact (List.sublist_flatten_of_mem (List.getElem_mem h)).length_le
  · simp [List.getD, List.getElem?_eq_none h]
theorem join_nil (xs : List (List UInt8)) : Lib.join xs [] = xs.flatten := by
  cases xs with
  | nil => rfl
  | cons x r => rw [Lib.join_cons]; simp [Lib.joinTail]
def sJoinS : Spec := Spec.f2 (kL eS) kS (fun l b => l.length ≤ 100000000 ∧ l.flatten.length ≤ 100000000000 ∧ b = []) (fun l _ => kS.enc l.flatten)
theorem okJoinS : SpecOK Try.prog 89 sJoinS := by
  refine SpecOK.raw Try.func89 rfl (by decide) fun args hp w L vs hL ha => ?_
  match args, hp with
  | [x, y], hp =>
    obtain ⟨h1, h2, h3, h4, h5⟩ := hp
    cases ha with
    | cons hx hr => cases hr with
      | cons hy hr => cases hr with
        | nil =>
          have ex := okGet h1 hx
          have ey := okGet h2 hy
          show Calls _ _ _ _ fun e w' => ∃ v, e = .returned v ∧ Fr (fun _ => False) w w' ∧ Rep w' noEnv L (kS.enc ((kL eS).dec x).flatten) v
          generalize (kL eS).dec x = l at *
          rw [h5] at ey
          obtain ⟨a, cap, rfl, hcap, hc⟩ := ex
          obtain rfl := ey
          rcases Nat.eq_zero_or_pos l.length with h0 | h0
          · rw [h0]
            refine (Try.strings_Join_none a cap ⟨#[]⟩ w).mono ?_
            rintro e w' ⟨rfl, rfl⟩
            have : l = [] := List.length_eq_zero_iff.1 h0
            subst this
            exact ⟨_, rfl, Fr.refl _ _, rfl⟩
          · obtain ⟨b, off, rfl, hb, hcells⟩ := hc h0 (by decide)
            have hget : ∀ (j : Nat) y, (l.map fun y => (⟨y.toArray⟩ : ByteArray))[j]? = some y → w.cell? ⟨b, off + j, none⟩ = some (.string y) := fun j y hj => by
              rw [List.getElem?_map] at hj
              cases hl : l[j]? with
              | none => rw [hl] at hj; cases hj
              | some z =>
                rw [hl] at hj
                simp only [Option.map_some, Option.some.injEq] at hj
                subst hj
                obtain ⟨hlt, _⟩ := List.getElem?_eq_some_iff.1 hl
                obtain ⟨u, hu, _, hrep⟩ := hcells j hlt 0 (by decide)
                have e : l.getD j eS.dflt = z := by simp [List.getD, hl]
                have hrep : Rep w noEnv L (eS.enc (l.getD j eS.dflt) 0) u := hrep
                rw [e] at hrep
                have : u = .string ⟨z.toArray⟩ := hrep
                subst this
                simpa [eS_sz] using hu
            have e1 : (l.map fun y => (⟨y.toArray⟩ : ByteArray)).map (·.data.toList) = l := by simp [Function.comp_def]
            have hbs : b < w.heap.size := by
              obtain ⟨u, hu, _⟩ := hcells 0 h0 0 (by decide)
              exact World.block_lt_of_cell? w _ hu
            have hJ := Try.strings_Join b off cap (l.map fun y => ⟨y.toArray⟩) ⟨#[]⟩ w hget hbs (by simp; omega) (by simpa using hcap) (by rw [e1]; show (Lib.join l []).length ≤ _; rw [join_nil]; omega)
            rw [e1, List.length_map] at hJ
            refine hJ.mono ?_
            rintro e w' ⟨rfl, hbel⟩
            refine ⟨_, rfl, Fr.of_below hbel _, ?_⟩
            show Value.string ⟨(Lib.join l []).toArray⟩ = .string ⟨l.flatten.toArray⟩
            rw [join_nil]
def sJoin : Spec := Spec.f1 (kL eS) okLs (fun l => kS.enc l.flatten)
theorem okJoin : SpecOK Try.prog 75 sJoin := by
  refine SpecOK.f1 Try.func75 rfl (by decide) Try.results75 Try.ntmps75 (by decide) fun l ⟨h1, h2⟩ => ?_
  have hΓ : GOK Try.prog (gam [(89, sJoinS)]) := (.cons okJoinS .nil)
  refine AW.of hΓ mixed [] _ _ _ rfl ?_
  simp only [go_sem, sJoinS]
  exact ⟨h1, h2⟩
/-! ### Whole -/
theorem whole_step (l : List (List UInt8)) (i : Nat) (hi : i < l.length) :
    ((¬(0 ≤ Lib.indexByte (l.getD i []) 10 ∧ Lib.indexByte (l.getD i []) 10 = ((l.getD i []).length : Int) - 1) ∧ ¬(Lib.indexByte (l.getD i []) 10 < 0 ∧ l.getD i [] ≠ [] ∧ (i : Int) = (l.length : Int) - 1)) → wholeL l = false) ∧
    (((0 ≤ Lib.indexByte (l.getD i []) 10 ∧ Lib.indexByte (l.getD i []) 10 = ((l.getD i []).length : Int) - 1) ∨ (Lib.indexByte (l.getD i []) 10 < 0 ∧ l.getD i [] ≠ [] ∧ (i : Int) = (l.length : Int) - 1)) → oneL (l.getD i []) = true ∧ (i + 1 < l.length → endsL (l.getD i []) = true)) := by
  have hw := wholeL_iff l
  generalize hx : l.getD i [] = x
  rcases idx_cases x with ⟨h1, h2⟩ | ⟨p, r, rfl, h2, h1⟩
  · rw [h1]
    refine ⟨fun ⟨_, h⟩ => ?_, fun h => ?_⟩
    · refine Bool.eq_false_iff.2 fun hh => ?_
      have := hw.1 hh i hi
      rw [hx, oneL_no x h2, endsL_no x h2] at this
      exact h ⟨by omega, by simpa using this.1, by
        rcases Nat.lt_or_ge (i + 1) l.length with h' | h'
        · exact absurd (this.2 h') (by decide)
        · omega⟩
    · rcases h with h | ⟨_, h3, h4⟩
      · omega
      · exact ⟨by rw [oneL_no x h2]; simpa using h3, fun h => by omega⟩
  · rw [h1]
    have e : ((p ++ 10 :: r).length : Int) = p.length + 1 + r.length := by simp; omega
    refine ⟨fun ⟨h, _⟩ => ?_, fun h => ?_⟩
    · refine Bool.eq_false_iff.2 fun hh => ?_
      have := hw.1 hh i hi
      rw [hx, oneL_cut p r h2] at this
      obtain rfl : r = [] := by simpa using this.1
      exact h ⟨by omega, by rw [e]; simp⟩
    · rcases h with ⟨_, h⟩ | ⟨h, _⟩
      · obtain rfl : r = [] := List.length_eq_zero_iff.1 (by omega)
        exact ⟨by rw [oneL_cut p [] h2]; rfl, fun _ => by simp [endsL]⟩
      · omega
def sWhole : Spec := Spec.f1 (kL eS) okLs (fun l => kB.enc (wholeL l))
end Go.Proofs.Ytnhfobhdbablaaa
set_option linter.unusedSimpArgs false
set_option linter.unusedVariables false
set_option maxRecDepth 100000
namespace Go.Proofs.Ytnhfobhdbablaaa
open Go
attribute [local irreducible] AW AVle ASle RowLe

/-! ### Run -/
def sRun : Spec := Spec.f1 kS (fun l => l.length ≤ 100000000000) (fun l => kI.enc (runL l))
def sIndexByte : Spec := Spec.f2 kS kU (fun _ _ => True) (fun a c => kI.enc (Lib.indexByte a c.toNat.toUInt8))
theorem ix_iff (c : UInt8) : Lib.indexByte [60, 124, 61, 62] c.toNat.toUInt8 < 0 ↔ ¬ (c = 60 ∨ c = 124 ∨ c = 61 ∨ c = 62) := by
  have e : c.toNat.toUInt8 = c := by simp
  rw [e]
  constructor
  · intro h0 h1
    rcases h1 with rfl | rfl | rfl | rfl <;> exact absurd h0 (by decide)
  · intro h0
    rcases Int.lt_or_le (Lib.indexByte [60, 124, 61, 62] c) 0 with h1 | h1
    · exact h1
    · obtain ⟨o, ho⟩ := Int.eq_ofNat_of_zero_le h1
      have := (Lib.indexByte_some (o := o) ho).1
      have hm := List.mem_of_getElem? this
      simp only [List.mem_cons, List.not_mem_nil, or_false] at hm
      exact absurd hm h0
theorem run_head (l : List UInt8) (h : l ≠ []) : (Lib.indexByte [60, 124, 61, 62] (l.getD 0 0).toNat.toUInt8 < 0 → runL l = 0) ∧
    (¬ Lib.indexByte [60, 124, 61, 62] (l.getD 0 0).toNat.toUInt8 < 0 → ∀ n, 1 ≤ n → n ≤ l.length → (∀ k, k < n → l.getD k 0 = l.getD 0 0) → (n < l.length → l.getD n 0 ≠ l.getD 0 0) → n = runL l) := by
  cases l with
  | nil => exact absurd rfl h
  | cons c r =>
    have e : ∀ c : UInt8, c.toNat.toUInt8 = c := fun c => by simp
    simp only [List.getD_cons_zero, e]
    have hc : Lib.indexByte [60, 124, 61, 62] c < 0 ↔ ¬ (c = 60 ∨ c = 124 ∨ c = 61 ∨ c = 62) := by
      constructor
      · intro h0 h1
        rcases h1 with rfl | rfl | rfl | rfl <;> exact absurd h0 (by decide)
      · intro h0
        rcases Int.lt_or_le (Lib.indexByte [60, 124, 61, 62] c) 0 with h1 | h1
        · exact h1
        · obtain ⟨o, ho⟩ := Int.eq_ofNat_of_zero_le h1
          have := (Lib.indexByte_some (o := o) ho).1
          have hm := List.mem_of_getElem? this
          simp only [List.mem_cons, List.not_mem_nil, or_false] at hm
          exact absurd hm h0
    refine ⟨fun h0 => ?_, fun h0 n h1 h2 h3 h4 => ?_⟩
    · rw [runL, if_neg (hc.1 h0)]
    · rw [runL, if_pos (Decidable.not_not.1 fun hh => h0 (hc.2 hh))]
      obtain ⟨m, rfl⟩ : ∃ m, n = m + 1 := ⟨n - 1, by omega⟩
      rw [takeWhile_at c r m (by simpa using h2) (fun k hk => by simpa using h3 (k + 1) (by omega)) (fun hm => by simpa using h4 (by simpa using hm))]
      omega
def sRefRun : Spec := Spec.f1 kS (fun l => l.length ≤ 100000000000) (fun l => kI.enc (runL l))
theorem longL_snoc (l : List (List UInt8)) (x : List UInt8) : longL (l ++ [x]) = max (longL l) (runL x) := by
  unfold longL
  rw [List.foldl_append]
  rfl
theorem longL_app (l m : List (List UInt8)) : longL (l ++ m) = max (longL l) (longL m) := by
  have h : ∀ (m : List (List UInt8)) (n : Nat), m.foldl (fun n x => max n (runL x)) n = max n (longL m) := by
    intro m
    induction m with
    | nil => intro n; simp [longL]
    | cons x m ih => intro n; simp only [longL, List.foldl_cons]; rw [ih, ih]; omega
  unfold longL
  rw [List.foldl_append, h]
  rfl
def sLongest : Spec := Spec.f1 (kL (eL eS)) (fun l => l.length ≤ 100000000 ∧ ∀ f ∈ l, okLs f) (fun l => kI.enc (longL l.flatten))
def sRefLongest : Spec := Spec.f1 (kL eS) okLs (fun l => kI.enc (longL l))
theorem split_step {s : List UInt8} {a i : Nat} (h1 : a ≤ i) (h2 : i < s.length) (h3 : ∀ k, a ≤ k → k < i → s.getD k 0 ≠ 10) (h4 : s.getD i 0 = 10 ∨ i + 1 = s.length) :
    splitL (s.drop a) = (s.take (i + 1)).drop a :: splitL (s.drop (i + 1)) := by
  have e1 : s.drop a = (s.take i).drop a ++ s.getD i 0 :: s.drop (i + 1) := by
    have : s = s.take i ++ s.getD i 0 :: s.drop (i + 1) := by
      rw [gd_lt _ _ h2, ← List.drop_eq_getElem_cons h2, List.take_append_drop]
    conv => lhs; rw [this]
    rw [List.drop_append_of_le_length (by simp; omega)]
  have e2 : (s.take (i + 1)).drop a = (s.take i).drop a ++ [s.getD i 0] := by
    rw [take_snoc s 0 h2, List.drop_append_of_le_length (by simp; omega)]
  have hno : (10 : UInt8) ∉ (s.take i).drop a := by
    intro hm
    obtain ⟨k, hk, hx⟩ := List.mem_iff_getElem.1 hm
    simp only [List.length_drop, List.length_take] at hk
    rw [List.getElem_drop, List.getElem_take] at hx
    exact h3 (a + k) (by omega) (by omega) (by rw [gd_lt _ _ (by omega)]; exact hx)
  rw [e1, e2]
  by_cases hc : s.getD i 0 = 10
  · rw [hc, splitL_cut _ _ hno]
  · have hl : i + 1 = s.length := h4.resolve_left hc
    rw [hl, List.drop_length]
    have : (10 : UInt8) ∉ (s.take i).drop a ++ [s.getD i 0] := by
      simp only [List.mem_append, List.mem_singleton, not_or]
      exact ⟨hno, fun h => hc h.symm⟩
    rw [splitL_one _ this (by simp)]
    rfl
def sRefSplit : Spec := Spec.f1 kS (fun l => l.length ≤ 100000000) (fun l => sL eS (splitL l))
theorem okRefSplit : SpecOK Try.prog 35 sRefSplit := by
  refine SpecOK.f1 Try.func35 rfl (by decide) Try.results35 Try.ntmps35 (by decide) fun s hs => ?_
  have hΓ : GOK Try.prog (gam []) := GOK.nil
  refine AW.of hΓ mixed [] _ _ _ rfl ?_
  simp only [go_sem]
  refine AW.adopt 3 9 1 (fun _ _ => .any) rfl ?_
  refine AW.round (α := { x : Nat × Nat × List (List UInt8) × Nat × Nat // x.2.1 ≤ x.1 ∧ x.1 ≤ s.length ∧ x.2.2.1 ++ splitL (s.drop x.2.1) = splitL s ∧ (∀ k, x.2.1 ≤ k → k < x.1 → s.getD k 0 ≠ 10) ∧ (x.1 = s.length → x.2.1 = s.length) ∧ x.2.2.1.length ≤ x.1 })
    (fun x => ⟨[(0, .st s), (3, .ow 0 x.1.2.2.2.1 x.1.2.2.1.length), (4, .val (.int .i64 x.1.2.1)), (5, .val (.int .i64 x.1.1))], [(0, rowL x.1.2.2.2.1 9 eS x.1.2.2.1)], 34, 1, x.1.2.2.2.2, []⟩) (fun x => s.length - x.1.1) ⟨(0, 0, [], 0, 1), by simp⟩ ?_ ?_
  · simp only [go_sem]
    exact row_nil rfl
  · rintro ⟨⟨i, from_, out, v, nx⟩, h1, h2, h3, h4, h5, h6⟩
    simp only at h1 h2 h3 h4 h5 h6
    refine AW.of hΓ mixed [99999] _ _ _ rfl ?_
    simp only [go_sem]
    refine ⟨fun hil => ?_, fun hil => ?_⟩
    · have hlt : i < s.length := by omega
      refine ⟨by omega, fun _ => by omega, fun h => by simpa using h, fun hb => ?_, fun hb => ?_⟩
      · have hst := split_step h1 hlt h4 (by simp only [Bool.or_eq_true, decide_eq_true_eq] at hb; rcases hb with hb | hb; exact .inl hb; exact .inr (by omega))
        refine ⟨by omega, by omega, by omega, by omega, by omega, ⟨(i + 1, i + 1, out ++ [(s.take (i + 1)).drop from_], nx, nx + 1), ?_⟩, ⟨Nat.le_refl _, ⟨⟨rfl, by simp⟩, by dsimp only; omega, by dsimp only; omega⟩, ?_⟩, by dsimp only; omega⟩
        · dsimp only
          refine ⟨Nat.le_refl _, by omega, ?_, fun k ha hb => by omega, fun h => h, by simp; omega⟩
          rw [← h3, hst]
          simp
        · exact row_app1 rfl rfl rfl rfl (by simp) fun _ _ => AVle.refl _
      · simp only [Bool.or_eq_false_iff, decide_eq_false_iff_not] at hb
        refine ⟨by omega, ⟨(i + 1, from_, out, v, nx), ?_⟩, ⟨Nat.le_refl _, ⟨⟨rfl, rfl⟩, rfl, by dsimp only; omega⟩, RowLe.refl _⟩, by dsimp only; omega⟩
        dsimp only
        refine ⟨by omega, by omega, h3, fun k ha hk => ?_, fun h => by omega, by omega⟩
        rcases Nat.lt_or_ge k i with h' | h'
        · exact h4 k ha h'
        · obtain rfl : k = i := by omega
          exact hb.1
    · obtain rfl : i = s.length := by omega
      obtain rfl := h5 rfl
      rw [List.drop_length] at h3
      have h3 : out = splitL s := by simpa [splitL] using h3
      rw [h3]
      exact vw_all rfl rfl rfl
def sRefJoin : Spec := Spec.f1 (kL eS) okLs (fun l => kS.enc l.flatten)
theorem okRefJoin : SpecOK Try.prog 24 sRefJoin := by
  refine SpecOK.f1 Try.func24 rfl (by decide) Try.results24 Try.ntmps24 (by decide) fun l ⟨hl, hf⟩ => ?_
  have hΓ : GOK Try.prog (gam []) := GOK.nil
  refine AW.of hΓ mixed [] _ _ _ rfl ?_
  simp only [go_sem]
  refine AW.round (α := { i : Nat // i ≤ l.length }) (fun i => ⟨[(0, sL eS l), (3, .st (l.take i.1).flatten), (4, .val (.int .i64 i.1))], [], 18, 0, 0, []⟩) (fun i => l.length - i.1) ⟨0, by simp⟩ ?_ ?_
  · simp only [go_sem]
    rfl
  · rintro ⟨i, hi⟩
    refine AW.of hΓ mixed [99999] _ _ _ rfl ?_
    simp only [go_sem]
    refine ⟨fun hil => ?_, fun hil => ?_⟩
    · have hlt : i < l.length := by omega
      have hft : (l.take (i + 1)).flatten = (l.take i).flatten ++ l.getD i [] := by rw [take_snoc l [] hlt]; simp
      have hle : l.flatten = (l.take (i + 1)).flatten ++ (l.drop (i + 1)).flatten := by rw [← List.flatten_append, List.take_append_drop]
      have hle := congrArg List.length hle
      rw [hft, List.length_append, List.length_append] at hle
      exact ⟨by omega, by omega, by omega, ⟨i + 1, by omega⟩, ⟨by dsimp only; rw [hft], by dsimp only; omega⟩, by dsimp only; omega⟩
    · obtain rfl : i = l.length := by omega
      rw [List.take_length]
def sRefEnds : Spec := Spec.f1 kS (fun l => l.length ≤ 100000000000) (fun l => kB.enc (endsL l))
theorem okRefEnds : SpecOK Try.prog 68 sRefEnds := by
  refine SpecOK.f1 Try.func68 rfl (by decide) Try.results68 Try.ntmps68 (by decide) fun l hl => ?_
  have hΓ : GOK Try.prog (gam []) := GOK.nil
  refine AW.of hΓ mixed [] _ _ _ rfl ?_
  simp only [go_sem]
  refine ⟨fun _ => by omega, fun _ => by omega, ?_⟩
  unfold endsL
  rcases Nat.eq_zero_or_pos l.length with h | h
  · obtain rfl := List.length_eq_zero_iff.1 h
    rfl
  · have e : ((l.length : Int) - 1).toNat = l.length - 1 := by omega
    rw [e, List.getLast?_eq_getElem?, gd_lt _ _ (by omega), List.getElem?_eq_getElem (by omega)]
    simp [h]
end Go.Proofs.Ytnhfobhdbablaaa
set_option linter.unusedSimpArgs false
set_option linter.unusedVariables false
set_option maxRecDepth 100000
set_option maxHeartbeats 2000000
namespace Go.Proofs.Ytnhfobhdbablaaa
open Go
attribute [local irreducible] AW AVle ASle RowLe
def sContains : Spec := Spec.f2 kS kS (fun _ b => b = [10]) (fun a _ => kB.enc (!plainB a))
theorem okContains : SpecOK Try.prog 72 sContains := by
  refine SpecOK.f2 Try.func72 rfl (by decide) Try.results72 Try.ntmps72 (by decide) fun a b h => ?_
  have hΓ : GOK Try.prog (gam [(87, sIndex1)]) := (.cons okIndex1 .nil)
  subst h
  refine AW.of hΓ mixed [] _ _ _ rfl ?_
  simp only [go_sem, sIndex1]
  exact plain_ix a
def sPlainL : Spec := Spec.f1 (kA eLb) (fun l => l.1.length ≤ 1000000000 ∧ l.2.1.length ≤ 1000000000 ∧ l.2.2.length ≤ 1000000000) (fun l => kB.enc (plainB l.1 && (plainB l.2.1 && plainB l.2.2)))
theorem okPlainL : SpecOK Try.prog 42 sPlainL := by
  refine SpecOK.f1 Try.func42 rfl (by decide) Try.results42 Try.ntmps42 (by decide) fun l ⟨h1, h2, h3⟩ => ?_
  have hΓ : GOK Try.prog (gam [(72, sContains)]) := (.cons okContains .nil)
  obtain ⟨a, b, c⟩ := l
  simp only at h1 h2 h3
  refine AW.of hΓ mixed [] _ _ _ rfl ?_
  simp only [go_sem, sContains, plain_app]
  refine ⟨by omega, by omega, ?_⟩
  rw [Bool.not_not, Bool.and_assoc]
def okPt (p : Pt) : Prop := (p.1.length ≤ 1000000000 ∧ p.2.1.length ≤ 1000000000 ∧ p.2.2.1.length ≤ 1000000000) ∧ (txP p).length ≤ 100000000 ∧ p.2.2.2.2.2.1.length ≤ 100000000 ∧ p.2.2.2.2.2.2.1.length ≤ 100000000 ∧ p.2.2.2.2.2.2.2.1.length ≤ 100000000
def sIsConf : Spec := Spec.f1 (kA ePt) okPt (fun p => kB.enc (confD p))
theorem okIsConf : SpecOK Try.prog 53 sIsConf := by
  refine SpecOK.f1 Try.func53 rfl (by decide) Try.results53 Try.ntmps53 (by decide) fun p ⟨⟨h1, h2, h3⟩, _⟩ => ?_
  have hΓ : GOK Try.prog (gam [(42, sPlainL)]) := (.cons okPlainL .nil)
  obtain ⟨ll, bl, rl, h, t, l, b, r, hb⟩ := p
  simp only at h1 h2 h3
  refine AW.of hΓ mixed [] _ _ _ rfl ?_
  simp only [go_sem, sPlainL]
  refine ⟨fun h h' => ?_, fun _ => ⟨h1, h2, h3⟩, ?_⟩
  · rw [h.1, h.2, h']
    rfl
  · unfold confD plainD
    simp only [Bool.and_assoc]
def sAhead : Spec := Spec.f2 (kA ePt) kB (fun p _ => okPt p) (fun p b => kB.enc (aheadD p b))
theorem okAhead : SpecOK Try.prog 54 sAhead := by
  refine SpecOK.f2 Try.func54 rfl (by decide) Try.results54 Try.ntmps54 (by decide) fun p an ⟨_, h1, _⟩ => ?_
  have hΓ : GOK Try.prog (gam [(76, sIsText), (66, sHasSuf)]) := (.cons okIsText (.cons okHasSuf .nil))
  obtain ⟨ll, bl, rl, h, t, l, b, r, hb⟩ := p
  simp only [txP] at h1
  refine AW.of hΓ mixed [] _ _ _ rfl ?_
  simp only [go_sem, sIsText, sHasSuf]
  refine ⟨fun _ => by omega, fun h h' => ?_, ?_⟩
  · rw [h.1, decide_eq_true h.2]
    simpa using h'
  · unfold aheadD
    simp only [Bool.and_assoc]
theorem right_no {l : List Pt} {i : Nat} (h : i < l.length) (h2 : okAt l i = false) : rightD l = false := decide_eq_false fun hh => by
  rw [hh i h] at h2
  cases h2
theorem right_yes {l : List Pt} (h : ∀ i, i < l.length → okAt l i = true) : rightD l = true := decide_eq_true h
def sRightD : Spec := Spec.f1 (kL ePt) (fun l => l.length < 100000000 ∧ ∀ p ∈ l, okPt p) (fun l => kB.enc (rightD l))
theorem okRightD : SpecOK Try.prog 21 sRightD := by
  refine SpecOK.f1 Try.func21 rfl (by decide) Try.results21 Try.ntmps21 (by decide) fun l ⟨hl, hp⟩ => ?_
  have hΓ : GOK Try.prog (gam [(53, sIsConf), (54, sAhead)]) := (.cons okIsConf (.cons okAhead .nil))
  refine AW.of hΓ mixed [] _ _ _ rfl ?_
  simp only [go_sem, sIsConf, sAhead]
  refine AW.round (α := { x : Nat × Nat × Nat // x.1 ≤ l.length ∧ ∀ k, k < x.1 → okAt l k = true })
    (fun x => ⟨[(0, sL ePt l), (5, sL ePt l), (6, .val (.int .i64 l.length)), (7, .val (.int .i64 x.1.1))], [], 42, x.1.2.2, x.1.2.1, []⟩) (fun x => l.length - x.1.1) ⟨(0, 0, 0), Nat.zero_le _, fun k hk => absurd hk (Nat.not_lt_zero _)⟩ ?_ ?_
  · simp only [go_sem, sIsConf, sAhead]
  · rintro ⟨⟨i, nx, tp⟩, hi, hk⟩
    simp only at hi hk
    rcases Nat.lt_or_ge i l.length with hlt | hge
    · have hlI : ((i : Int) < (l.length : Nat)) = True := eq_true (by omega)
      have e1 : ((i : Int) - 1).toNat = i - 1 := by omega
      have e2 : ((i : Int) < (l.length : Nat) - 1) = (i + 1 < l.length) := propext (by omega)
      have e3 : (0 < (i : Int)) = (0 < i) := propext (by omega)
      have hok : okAt l i = ((hkP (l.getD i ePt.dflt) || (decide (i = 0) || hkP (l.getD (i - 1) ePt.dflt))) && (confD (l.getD i ePt.dflt) || aheadD (l.getD i ePt.dflt) (decide (i + 1 < l.length)))) := rfl
      have hpi : okPt (l.getD i ePt.dflt) := by
        rw [gd_lt l _ hlt]
        exact hp _ (List.getElem_mem _)
      generalize hpe : l.getD i ePt.dflt = p at *
      refine AW.of hΓ mixed [99999] _ _ _ rfl ?_
      simp only [go_sem, sIsConf, sAhead, hlI, e1, e2, e3, hpe, pt_eta]
      generalize hqe : l.getD (i - 1) ePt.dflt = q at *
      refine ⟨by omega, fun _ => by omega, fun _ => by omega, fun h => ?_, fun h => ⟨hpi, fun _ => by omega, fun _ => hpi, fun h2 => ?_, fun h2 => ⟨by omega, ⟨(i + 1, nx + 1, 0), by dsimp only; omega, fun k hk' => ?_⟩, ⟨Nat.le_refl _, by dsimp only; omega⟩, by dsimp only; omega⟩⟩⟩
      · refine (right_no hlt ?_).symm
        obtain ⟨⟨h1, h2⟩, h3⟩ := h
        simp only [Bool.not_eq_true'] at h1 h3
        rw [hok]
        simp only [hkP, h1, h3, decide_eq_false (show ¬ i = 0 by omega)]
        rfl
      · refine (right_no hlt ?_).symm
        simp only [Bool.not_eq_true'] at h2
        rw [hok, h2.1, h2.2, Bool.or_self, Bool.and_false]
      · dsimp only at hk'
        rcases Nat.lt_or_ge k i with h' | h'
        · exact hk k h'
        · obtain rfl : k = i := by omega
          rw [hok, Bool.and_eq_true]
          refine ⟨?_, ?_⟩
          · simp only [hkP, Bool.or_eq_true, decide_eq_true_eq]
            by_cases c : p.2.2.2.1 = true
            · exact .inl c
            · by_cases c2 : k = 0
              · exact .inr (.inl c2)
              · have := h ⟨by simpa using c, by omega⟩
                exact .inr (.inr (by simpa using this))
          · cases c : confD p with
            | true => rfl
            | false =>
              have := h2 (by rw [c]; rfl)
              simpa using this
    · have hlI : ((i : Int) < (l.length : Nat)) = False := eq_false (by omega)
      refine AW.of hΓ mixed [99999] _ _ _ rfl ?_
      simp only [go_sem, sIsConf, sAhead, hlI]
      exact (right_yes fun k hk' => hk k (by omega)).symm
theorem confl_snoc (l : List Pt) (p : Pt) : conflD (l ++ [p]) = conflD l + if p.2.2.2.1 = true then 1 else 0 := by
  unfold conflD
  rw [List.filter_append, List.length_append]
  cases h : p.2.2.2.1 with
  | true => simp [hkP, h]
  | false => simp [hkP, h]
theorem confl_le (l : List Pt) : conflD l ≤ l.length := List.length_filter_le _ _
def sConflD : Spec := Spec.f1 (kL ePt) (fun l => l.length < 100000000) (fun l => kI.enc (conflD l))
theorem okConflD : SpecOK Try.prog 22 sConflD := by
  refine SpecOK.f1 Try.func22 rfl (by decide) Try.results22 Try.ntmps22 (by decide) fun l hl => ?_
  have hΓ : GOK Try.prog (gam []) := GOK.nil
  refine AW.of hΓ mixed [] _ _ _ rfl ?_
  simp only [go_sem]
  refine AW.round (α := { x : Nat × Nat × Nat // x.1 ≤ l.length })
    (fun x => ⟨[(3, .val (.int .i64 (conflD (l.take x.1.1)))), (6, sL ePt l), (7, .val (.int .i64 l.length)), (8, .val (.int .i64 x.1.1))], [], 18, x.1.2.2, x.1.2.1, []⟩) (fun x => l.length - x.1.1) ⟨(0, 0, 0), Nat.zero_le _⟩ ?_ ?_
  · simp only [go_sem]
    rfl
  · rintro ⟨⟨i, nx, tp⟩, hi⟩
    simp only at hi
    refine AW.of hΓ mixed [99999] _ _ _ rfl ?_
    simp only [go_sem]
    have hc := confl_le (l.take i)
    rw [List.length_take] at hc
    refine ⟨fun hlt => ?_, fun hge => ?_⟩
    · have e := confl_snoc (l.take i) (l.getD i ePt.dflt)
      rw [← take_snoc l ePt.dflt (by omega)] at e
      refine ⟨by omega, fun h => ⟨by omega, by omega, ⟨(i + 1, nx + 1, 0), by dsimp only; omega⟩, ⟨Nat.le_refl _, ?_, by dsimp only; omega⟩, by dsimp only; omega⟩, fun h => ⟨by omega, ⟨(i + 1, nx + 1, 0), by dsimp only; omega⟩, ⟨Nat.le_refl _, ?_, by dsimp only; omega⟩, by dsimp only; omega⟩⟩
      · dsimp only
        rw [e, if_pos h]
        omega
      · dsimp only
        rw [e, if_neg (by rw [h]; exact Bool.false_ne_true)]
        omega
    · obtain rfl : i = l.length := by omega
      rw [List.take_length]
theorem foldMax_le {α : Type} {m : Nat} (f : α → Nat) : ∀ (l : List α) (n : Nat), n ≤ m → (∀ x ∈ l, f x ≤ m) → l.foldl (fun n x => max n (f x)) n ≤ m
  | [], n, h, _ => h
  | x :: l, n, h, h2 => foldMax_le f l (max n (f x)) (Nat.max_le.2 ⟨h, h2 x (List.mem_cons_self ..)⟩) fun y hy => h2 y (List.mem_cons_of_mem _ hy)
theorem longL_le {l : List BS} {m : Nat} (h : ∀ x ∈ l, x.length ≤ m) : longL l ≤ m := foldMax_le runL l 0 (Nat.zero_le _) fun x hx => Nat.le_trans (runL_le x) (h x hx)
theorem split_mem {s x : BS} (h : x ∈ splitL s) : x.length ≤ s.length := by
  have := (List.sublist_flatten_of_mem h).length_le
  rwa [splitL_flat] at this
theorem longT_le {l : List BS} {m : Nat} (h : ∀ x ∈ l, x.length ≤ m) : longT l ≤ m := foldMax_le (fun s => longL (splitL s)) l 0 (Nat.zero_le _) fun x hx => Nat.le_trans (longL_le fun y hy => split_mem hy) (h x hx)
theorem okLs_split {s : BS} (h : s.length ≤ 100000000) : okLs (splitL s) := by
  refine ⟨?_, ?_⟩
  · have := splitL_len s
    omega
  · rw [splitL_flat]
    omega
def sLongestD : Spec := Spec.f1 (kL eS) (fun l => l.length < 100000000 ∧ ∀ s ∈ l, s.length ≤ 100000000) (fun l => kI.enc (longT l))
def sWidthD : Spec := Spec.f2 kI (kL eS) (fun _ l => l.length < 100000000 ∧ ∀ s ∈ l, s.length ≤ 100000000) (fun n l => kI.enc (max n ((longT l : Nat) + 1)))
theorem four_le {p : Pt} (h : okPt p) : ∀ s ∈ fourP p, s.length ≤ 100000000 := fun s hs => by
  obtain ⟨_, h1, h2, h3, h4⟩ := h
  simp only [fourP, List.mem_cons, List.not_mem_nil, or_false] at hs
  rcases hs with rfl | rfl | rfl | rfl
  · exact h1
  · exact h2
  · exact h3
  · exact h4
def sFitsD : Spec := Spec.f2 (kL ePt) kI (fun l _ => l.length < 100000000 ∧ ∀ p ∈ l, okPt p) (fun l w => kB.enc (fitsD l w))
end Go.Proofs.Ytnhfobhdbablaaa
set_option linter.unusedSimpArgs false
set_option linter.unusedVariables false
namespace Go.Proofs.Ytnhfobhdbablaaa
open Go
section
variable {P : Program} {Γ : Gam} {ops : Array Oper} {st : AS} {K : AS → Prop}
/-- Operations one behind the other, of which some have laws of their own. -/
def xOpsO (P : Program) (Γ : Gam) (ops : Array Oper) : List Bool → List Oper → AS → (AS → Prop) → Prop
  | _, [], st, K => K st
  | true :: W, o :: r, st, K => o.guard = none ∧ OpW P o st fun st' => xOpsO P Γ ops W r st' K
  | false :: W, o :: r, st, K => match gop P Γ ops st o with
    | some (pre, z, row) => (dstOK st.sz o.dst ∧ pre) ∧ xOpsO P Γ ops W r (st.put o.dst z row) K
    | none => o.guard = none ∧ bop P Γ st o fun st' => xOpsO P Γ ops W r st' K
  | [], l, st, K => xOps P Γ ops l st K
theorem xOpsO_seq (hΓ : GOK P Γ) {ops : Array Oper} {Q : Exit → Act → World → Prop} : ∀ (W : List Bool) (l : List Oper) (c : Ctx) (st : AS) (K : AS → Prop) (η : Env) (a : Act) (w : World), SR c st η a w → xOpsO P Γ ops W l st K →
    (∀ st' η' a' w', SR c st' η' a' w' → K st' → Q .normal a' w') → wpList P ops Q l a w
  | [], [], _, _, _, η, a, w, hsr, h, hQ => hQ _ η a w hsr h
  | _ :: _, [], _, _, _, η, a, w, hsr, h, hQ => hQ _ η a w hsr (by unfold xOpsO at h; exact h)
  | [], o :: r, c, st, K, η, a, w, hsr, h, hQ => xOps_seq hΓ (o :: r) c st K η a w hsr h hQ
  | true :: W, o :: r, c, st, K, η, a, w, hsr, h, hQ => by
    unfold xOpsO at h
    refine wpList_step fun KK hKK => ?_
    rw [if_pos (wanted_none h.1)]
    exact h.2 c η a w KK Q hsr fun st' η' a' w' hsr' hx => hKK _ _ (xOpsO_seq hΓ W r c st' K η' a' w' hsr' hx hQ)
  | false :: W, o :: r, c, st, K, η, a, w, hsr, h, hQ => by
    unfold xOpsO at h
    split at h
    · rename_i pre z row hg
      refine wpList_step fun KK hKK => gop_wp hΓ hsr hg h.1.2 h.1.1 fun η' a' w' hsr' => hKK _ _ (xOpsO_seq hΓ W r c _ K η' a' w' hsr' h.2 hQ)
    · refine wpList_step fun KK hKK => ?_
      rw [if_pos (wanted_none h.1)]
      exact bop_wp hΓ h.2 c η a w KK Q hsr fun st' η' a' w' hsr' hx => hKK _ _ (xOpsO_seq hΓ W r c st' K η' a' w' hsr' hx hQ)
/-- What follows. -/
def contO (P : Program) (Γ : Gam) (ops : Array Oper) (W : List Bool) (r : List Oper) (K : AS → Prop) : AS → Prop := fun st => xOpsO P Γ ops W r st K
theorem contO_app {W : List Bool} {r : List Oper} : contO P Γ ops W r K st = xOpsO P Γ ops W r st K := rflN rfl
def goO (P : Program) (Γ : Gam) (ops : Array Oper) (W : List Bool) (o : Oper) (r : List Oper) (K : AS → Prop) (st : AS) : AOut → Prop
  | some (pre, z, row) => (dstOK st.sz o.dst ∧ pre) ∧ xOpsO P Γ ops W r (st.put o.dst z row) K
  | none => o.guard = none ∧ bop P Γ st o (contO P Γ ops W r K)
theorem goO_some {W : List Bool} {o : Oper} {r : List Oper} {pre : Prop} {z : AV} {row : Row} : goO P Γ ops W o r K st (some (pre, z, row)) = ((dstOK st.sz o.dst ∧ pre) ∧ xOpsO P Γ ops W r (st.put o.dst z row) K) := rflN rfl
theorem goO_none {W : List Bool} {o : Oper} {r : List Oper} : goO P Γ ops W o r K st none = (o.guard = none ∧ bop P Γ st o (contO P Γ ops W r K)) := rflN rfl
theorem xOpsO_nil {W : List Bool} : xOpsO P Γ ops W [] st K = K st := rflN (by cases W with
  | nil => rfl
  | cons b W => cases b <;> rfl)
theorem xOpsO_out {o : Oper} {r : List Oper} : xOpsO P Γ ops [] (o :: r) st K = xOps P Γ ops (o :: r) st K := rflN rfl
theorem xOpsO_f {W : List Bool} {o : Oper} {r : List Oper} : xOpsO P Γ ops (false :: W) (o :: r) st K = goO P Γ ops W o r K st (gop P Γ ops st o) := rflN rfl
theorem xOpsO_t {W : List Bool} {o : Oper} {r : List Oper} : xOpsO P Γ ops (true :: W) (o :: r) st K = (o.guard = none ∧ OpW P o st (contO P Γ ops W r K)) := rflN rfl
theorem AW.regionO (hΓ : GOK P Γ) {Q : Exit → AS → Prop} {id : Nat} {l : List Oper} (W : List Bool) (h : xOpsO P Γ l.toArray W l st (Q .normal)) : AW P (.region id l.toArray false) Q st := by
  intro c η a w hsr
  exact wp_region_lit (xOpsO_seq hΓ W l c st _ η a w hsr h fun st' η' a' w' hsr' hq => ⟨st', η', hq, hsr'⟩)
end
attribute [go_sem high] xOpsO_f xOpsO_t
attribute [go_sem] contO_app goO_some goO_none xOpsO_nil xOpsO_out
/-! ### a text appended to bytes -/
section
variable {w : World}
theorem run_append_empty {P : Program} {t t' e ty : TypeId} (ht : P.underlying t = some (.slice e)) (hu : P.underlying t' = some .string) {k : Nat} (hk : P.cellsOf e = k) (h0 : 0 < k) {a : Option Addr} {n cap : Nat} (hn : n ≤ cap) :
    (Builtin.append_ #[t, t'] ty #[.slice a n cap, .string ⟨#[]⟩]).run P w = .ok (.slice a n cap) w := by
  have e0 : ByteArray.size ⟨#[]⟩ = 0 := rfl
  have hf := Lib.run_firstCells_string (P := P) w k ⟨#[]⟩
  rw [e0] at hf
  have e1 : Lib.strCells ⟨#[]⟩ = [] := rfl
  rw [e1] at hf
  cases a <;> simp [Builtin.append_, run_underlying ht, run_underlying hu, run_sizeOf' (P := P) (w := w) hk h0, Builtin.lenOf, e0, hn, hf, storeCells]
def byteC (s : List UInt8) : Nat → Nat → AV := fun i _ => .val (.int .u8 (s.getD i 0).toNat)
theorem strCells_at (s : List UInt8) {η : Env} {L : Nat → Prop} (i : Nat) (hi : i < s.length) (j : Nat) (hj : j < 1) :
    ∃ u, (Lib.strCells ⟨s.toArray⟩)[i * 1 + j]? = some u ∧ u.oneCell' = true ∧ Rep w η L (byteC s i j) u := by
  obtain rfl : j = 0 := by omega
  refine ⟨.int .u8 (s.getD i 0).toNat, ?_, rfl, rfl⟩
  simp [Lib.strCells, List.getD, hi]
theorem strCells_len (s : List UInt8) : (Lib.strCells ⟨s.toArray⟩).length = s.length := by
  rw [Lib.strCells_length]
  simp [ByteArray.size]
theorem appS_wp {P : Program} {st : AS} {o : Oper} {t t' e : TypeId} {x y : Operand} {K : AS → Prop} {p v n : Nat} {cc : Nat → Nat → AV} {s : List UInt8} (ho : o.op = .call ⟨.builtin .append, ⟨[x, y]⟩, ⟨[t, t']⟩⟩) (hu : P.underlying t = some (.slice e)) (hu' : P.underlying t' = some .string)
    (hxe : st.ev x = .ow p v n) (hye : st.ev y = .st s) (hrow : st.hp p = .sl v e 1 n cc) (hd : dstOK st.sz o.dst) (hok : appOK P e 1 (n + s.length))
    (hK : K ⟨updO st.fr o.dst (.ow p st.nx (n + s.length)), updR st.hp p (.sl st.nx e 1 (n + s.length) (apC n cc (byteC s))), st.sz, st.top, st.nx + 1, st.df⟩) : OpW P o st K := by
  intro c η a w next Q hsr hnext
  have hev : ∀ x, Rep w η (Lset c η st.hp) (st.ev x) (a.eval x) := rep_ev hsr.slots
  have fin : ∀ v w', (Builtin.append_ #[t, t'] o.type #[a.eval x, a.eval y]).run P w = .ok v w' → next (a.put o.dst v) w' → o.wp P a w next Q := fun v w' hr hn => by
    unfold Oper.wp
    have : (execOp a.eval o).run P w = .ok (.value v) w' := by
      unfold execOp
      rw [ho]
      simp [resolve, invoke, builtin, hr]
    rw [this]
    exact hn
  have hx := hev x
  have hyv : a.eval y = .string ⟨s.toArray⟩ := by
    have hy := hev y
    rw [hye] at hy
    exact hy
  rw [hxe] at hx
  obtain ⟨hsz, h0, hb0, hbytes, zl, hz, hzl⟩ := hok
  obtain ⟨i, zv, hi, hiz, hzc, his, hib⟩ := info_of hz
  have hisz : i.size = 1 := by rw [his, hsz]
  have hss : (⟨s.toArray⟩ : ByteArray).size = s.length := by simp [ByteArray.size]
  obtain ⟨g, cap, hη, hv⟩ := hx
  have hr := hsr.hs.rows p
  rw [hrow] at hr
  have hr := hr g cap hη
  have hdead : ∀ q row, st.top ≤ q → updR st.hp p row q = .dead ∨ q = p := fun q row hq => by
    by_cases e : q = p
    · exact .inr e
    · rw [updR_ne _ _ e]; exact .inl (hsr.dead q hq)
  have hpt : p < st.top := by
    rcases Nat.lt_or_ge p st.top with h | h
    · exact h
    · rw [hsr.dead p h] at hrow; cases hrow
  have finish : ∀ (v' : Value) (w' : World) (r : Option Nat × Nat) (O : Nat → Prop), (Builtin.append_ #[t, t'] o.type #[a.eval x, a.eval y]).run P w = .ok v' w' → Fr O w w' →
      (∀ k, k < w.heap.size → O k → (st.hp p).blk η = some k) → (∀ g, r.1 = some g → (st.hp p).blk η = some g ∨ (w.heap.size ≤ g ∧ g < w'.heap.size)) →
      ((∀ x u, Rep w η (Lset c η st.hp) x u → Rep w' (layAt η st.nx r) (Lset c (layAt η st.nx r) (updR st.hp p (.sl st.nx e 1 (n + s.length) (apC n cc (byteC s))))) x u) →
        RowOK w' (layAt η st.nx r) (Lset c (layAt η st.nx r) (updR st.hp p (.sl st.nx e 1 (n + s.length) (apC n cc (byteC s))))) (.sl st.nx e 1 (n + s.length) (apC n cc (byteC s)))) →
      (match r.1 with | none => n + s.length = 0 ∧ ∃ a, v' = .slice a 0 0 | some g => v' = .slice (some ⟨g, 0, none⟩) (n + s.length) r.2 ∧ n + s.length ≤ r.2) → o.wp P a w next Q := by
    intro v' w' r O hrun hf hO hrb hrok hval
    obtain ⟨hs', hkeep⟩ := hsr.hs.swap (p := p) (row := .sl st.nx e 1 (n + s.length) (apC n cc (byteC s))) (r := r) rfl hf hO hrb hrok
    refine fin v' w' hrun (hnext _ (layAt η st.nx r) _ _ (hsr.put hd hs' (fun q hq => (hdead q _ hq).resolve_right (by omega)) hkeep ?_) hK)
    exact ⟨r.1, r.2, layAt_at _ _ _, hval⟩
  have hmb : (n + s.length) * 1 ≤ (n + s.length) * P.bytesOf e := Nat.mul_le_mul_left _ hb0
  by_cases hk0 : s.length = 0
  · -- nothing is added
    obtain rfl := List.length_eq_zero_iff.1 hk0
    have hcapn : ∃ av nn cp, a.eval x = .slice av nn cp ∧ nn ≤ cp := by
      cases g with
      | none => obtain ⟨_, av, e⟩ := hv; exact ⟨av, 0, 0, e, Nat.le_refl _⟩
      | some g => obtain ⟨e, hc⟩ := hv; exact ⟨_, _, _, e, hc⟩
    obtain ⟨av, nn, cp, hxv, hcp⟩ := hcapn
    refine finish (a.eval x) w (g, cap) (fun _ => False) (by rw [hxv, hyv]; exact run_append_empty hu hu' hsz h0 hcp) (Fr.refl _ _) (fun _ _ h => h.elim) (fun g' hg' => .inl ?_) (fun hkeep => ?_) ?_
    · simp only at hg'
      rw [hrow]; simp [Row.blk, Row.ver, hη, hg']
    · intro g' cap' he
      rw [layAt_at] at he
      simp only [Option.some.injEq, Prod.mk.injEq] at he
      obtain ⟨rfl, rfl⟩ := he
      cases g with
      | none => simpa using hr
      | some g =>
        obtain ⟨cur, hh, hcs, hnc, hcm, hc⟩ := hr
        refine ⟨cur, hh, hcs, by simp; omega, hcm, fun i hi j hj => ?_⟩
        have hi : i < n := by simpa using hi
        obtain ⟨u, hu', h1, hrep⟩ := hc i hi j hj
        exact ⟨u, hu', h1, by unfold apC; rw [if_pos hi]; exact hkeep _ _ hrep⟩
    · cases g with
      | none => simpa using hv
      | some g => simpa using hv
  · have hnl := strCells_len s
    have hmx : n + s.length ≤ maxLen := by simp only [maxLen]; omega
    cases g with
    | none =>
      obtain ⟨rfl, av, hxv⟩ := hv
      have hgrow : ∃ cap', (Builtin.append_ #[t, t'] o.type #[a.eval x, a.eval y]).run P w = .ok (.slice (some ⟨w.heap.size, 0, none⟩) s.length cap')
          (w.drew.alloc (.cells ((Lib.strCells ⟨s.toArray⟩).toArray ++ Builtin.zeroCells zv.cells (cap' - s.length)) e)) ∧ s.length ≤ cap' ∧ cap' ≤ maxLen := by
        refine ⟨grownCap w s.length 0 e, ?_, grownCap_ge _ _ _ _, grownCap_le_maxLen _ _ _ _ (by omega)⟩
        rw [hxv, hyv]
        cases av with
        | none =>
          have hr := run_append_nil_string (P := P) w t t' o.type e i zv hu hu' hi hiz ⟨s.toArray⟩ (by rw [hss]; omega) (by rw [hss]; omega) (by rw [hss, hib]; simp only [Nat.zero_add] at hbytes; omega)
          have e1 : ((⟨s.toArray⟩ : ByteArray).data.map fun b => Value.int .u8 b.toNat) = (Lib.strCells ⟨s.toArray⟩).toArray := by
            apply Array.ext'
            simp [Lib.strCells]
          rw [hss] at hr
          rw [← e1]
          exact hr
        | some ad =>
          have := Lib.run_append_grow_string (P := P) w t t' o.type e i zv hu hu' hi hiz ad 0 0 [] (by simp) (by simp) ⟨s.toArray⟩ (by rw [hss]; omega) (by rw [hss]; omega) (growslice_fits (by rw [hss]; omega) (by rw [hss, hib]; exact hbytes))
          rw [hss] at this
          simpa using this
      obtain ⟨cap', hrun, hge, hle⟩ := hgrow
      have hf : Fr (fun _ => False) w (w.drew.alloc (.cells ((Lib.strCells ⟨s.toArray⟩).toArray ++ Builtin.zeroCells zv.cells (cap' - s.length)) e)) := (Fr.refl _ w).drew.trans (Fr.alloc _ _ _)
      refine finish _ _ (some w.heap.size, cap') (fun _ => False) hrun hf (fun _ _ h => h.elim) (fun g' hg' => .inr ?_) (fun hkeep => ?_) ⟨by rw [Nat.zero_add], by omega⟩
      · simp only [Option.some.injEq] at hg'
        subst hg'
        simp
      · intro g' cap'' he
        rw [layAt_at] at he
        simp only [Option.some.injEq, Prod.mk.injEq] at he
        obtain ⟨rfl, rfl⟩ := he
        refine ⟨_, heap_alloc_new w.drew _, ?_, by omega, hle, ?_⟩
        · simp only [Array.size_append, List.size_toArray, size_zeroCells, hzc, hzl, hnl]
          omega
        · refine apC_cells (olds := []) (news := Lib.strCells ⟨s.toArray⟩) (by simp) (fun q hq => ?_) (fun i hi => absurd hi (by omega)) (fun i hi j hj => strCells_at s i hi j hj)
          rw [Nat.zero_add] at hq
          rw [List.nil_append, Array.getElem?_append_left (by simp only [List.size_toArray]; omega), List.getElem?_toArray]
    | some g =>
      obtain ⟨hxv, hcap⟩ := hv
      obtain ⟨cur, hh, hcs, hncap, hcm, hc⟩ := hr
      have hblk : (st.hp p).blk η = some g := by rw [hrow]; simp [Row.blk, Row.ver, hη]
      have hold : (cur.toList.take (n * 1)).length = n * 1 := by
        simp; omega
      have holdr : ∀ (w' : World) (η' : Env) (L' : Nat → Prop), (∀ x u, Rep w η (Lset c η st.hp) x u → Rep w' η' L' x u) → ∀ i, i < n → ∀ j, j < 1 → ∃ u, (cur.toList.take (n * 1))[i * 1 + j]? = some u ∧ u.oneCell' = true ∧ Rep w' η' L' (cc i j) u := by
        intro w' η' L' hkeep i hi j hj
        obtain ⟨u, hu', h1, hrep⟩ := hc i hi j hj
        exact ⟨u, by rw [List.getElem?_take, if_pos (by omega), Array.getElem?_toList]; exact hu', h1, hkeep _ _ hrep⟩
      by_cases hroom : n + s.length ≤ cap
      · have hrun := Lib.run_append_room_string (P := P) w t t' o.type e i hu hu' hi hisz g n cap cur hh ⟨s.toArray⟩ (by rw [hss]; exact hroom) (by rw [hss]; omega)
        rw [hss] at hrun
        refine finish _ _ (some g, cap) (fun b => b = g) (by rw [hxv, hyv]; exact hrun) (fr_setRow w g _) (fun k _ e => by rw [e]; exact hblk) (fun g' hg' => .inl (by simp only [Option.some.injEq] at hg'; rw [← hg']; exact hblk)) (fun hkeep => ?_) ⟨rfl, hroom⟩
        intro g' cap'' he
        rw [layAt_at] at he
        simp only [Option.some.injEq, Prod.mk.injEq] at he
        obtain ⟨rfl, rfl⟩ := he
        refine ⟨_, setRow_heap w g cur _ e (0, 0) hh, ?_, hroom, hcm, ?_⟩
        · simp only [List.size_toArray, List.length_append, List.length_take, List.length_drop, Array.length_toList, hnl]
          omega
        · refine apC_cells (olds := cur.toList.take (n * 1)) (news := Lib.strCells ⟨s.toArray⟩) hold (fun q hq => ?_) (holdr _ _ _ hkeep) (fun i hi j hj => strCells_at s i hi j hj)
          rw [List.getElem?_toArray]
          have e1 : cur.toList.take n = cur.toList.take (n * 1) := by rw [Nat.mul_one]
          rw [e1, List.getElem?_append_left (by rw [List.length_append, hold, hnl]; omega)]
      · have hrun := Lib.run_append_grow_string (P := P) w t t' o.type e i zv hu hu' hi hiz ⟨g, 0, none⟩ n cap (cur.toList.take (n * 1)) (by rw [hisz]; exact hold) (fun j v hj => by
            rw [add_off, Nat.zero_add, cell_heap hh, ← Array.getElem?_toList]
            rw [List.getElem?_take] at hj
            split at hj
            · exact hj
            · cases hj) ⟨s.toArray⟩ (by rw [hss]; omega) (by rw [hss]; omega) (growslice_fits (by rw [hss]; omega) (by rw [hss, hib]; exact hbytes))
        rw [hss] at hrun
        have hge := grownCap_ge w (n + s.length) cap e
        have hle := grownCap_le_maxLen w (n + s.length) cap e hmx
        generalize grownCap w (n + s.length) cap e = cap' at hrun hge hle
        have hf : Fr (fun _ => False) w (w.drew.alloc (.cells ((cur.toList.take (n * 1)).toArray ++ (Lib.strCells ⟨s.toArray⟩).toArray ++ Builtin.zeroCells zv.cells (cap' - (n + s.length))) e)) := (Fr.refl _ w).drew.trans (Fr.alloc _ _ _)
        refine finish _ _ (some w.heap.size, cap') (fun _ => False) (by rw [hxv, hyv]; exact hrun) hf (fun _ _ h => h.elim) (fun g' hg' => .inr ?_) (fun hkeep => ?_) ⟨rfl, hge⟩
        · simp only [Option.some.injEq] at hg'
          subst hg'
          simp
        · intro g' cap'' he
          rw [layAt_at] at he
          simp only [Option.some.injEq, Prod.mk.injEq] at he
          obtain ⟨rfl, rfl⟩ := he
          refine ⟨_, heap_alloc_new w.drew _, ?_, hge, hle, ?_⟩
          · simp only [Array.size_append, List.size_toArray, size_zeroCells, hzc, hzl, hnl, hold]
            omega
          · refine apC_cells (olds := cur.toList.take (n * 1)) (news := Lib.strCells ⟨s.toArray⟩) hold (fun q hq => ?_) (holdr _ _ _ hkeep) (fun i hi j hj => strCells_at s i hi j hj)
            rw [Array.getElem?_append_left (by simp only [Array.size_append, List.size_toArray, hold, hnl]; omega)]
            simp only [List.append_toArray, List.getElem?_toArray]
end
/-! ### a row is given up -/
section
variable {c : Ctx} {hp : Nat → Row} {nx : Nat} {η : Env} {w w' : World}
theorem HS.sink (h : HS c hp nx η w) {p g : Nat} (hb : (hp p).blk η = some g) (hf : Fr (fun b => b = g) w w') :
    HS c (updR hp p .dead) nx η w' ∧ ∀ x u, Rep w η (Lset c η hp) x u → Rep w' η (Lset c η (updR hp p .dead)) x u := by
  have hbk : ∀ q b, (updR hp p .dead q).blk η = some b → q ≠ p ∧ (hp q).blk η = some b := fun q b hq => by
    by_cases e : q = p
    · subst e; rw [updR_at] at hq; cases hq
    · rw [updR_ne _ _ e] at hq; exact ⟨e, hq⟩
  have hver : ∀ q v, (updR hp p .dead q).ver = some v → (hp q).ver = some v := fun q v hq => by
    by_cases e : q = p
    · subst e; rw [updR_at] at hq; cases hq
    · rw [updR_ne _ _ e] at hq; exact hq
  have hL : ∀ b, Lset c η (updR hp p .dead) b → Lset c η hp b := by
    rintro b (hl | ⟨q, hq⟩)
    · exact .inl hl
    · exact .inr ⟨q, (hbk q b hq).2⟩
  have hO : ∀ k, k < w.heap.size → k = g → Lset c η hp k := fun k _ e => .inr ⟨p, by rw [e]; exact hb⟩
  refine ⟨⟨h.fr.trans' hf ?_, h.lx, fun q => ?_, fun q r v hq hr => h.vers q r v (hver q v hq) (hver r v hr), fun q v hq => h.bnd q v (hver q v hq), fun q r b hq hr => h.disj q r b (hbk q b hq).2 (hbk r b hr).2, fun q b hq => ?_, h.fresh, h.env⟩,
    fun x u hx => Rep.keep hf hO (fun k _ hl => hL k hl) x η η u (Env.le_refl _) hx⟩
  · intro k hk e
    subst e
    exact (h.own p k hb).1.resolve_right (by omega)
  · by_cases e : q = p
    · subst e; rw [updR_at]; trivial
    · rw [updR_ne _ _ e]
      exact RowOK.keep hf (Env.le_refl _) hO (fun k _ hl => hL k hl) (fun _ _ => rfl) (fun b hq => by
        refine hf.block b (h.own q b hq).2.2 fun e' => e ?_
        subst e'
        exact h.disj q p b hq hb) (h.rows q)
  · have := h.own q b (hbk q b hq).2
    exact ⟨this.1, this.2.1, Nat.lt_of_lt_of_le this.2.2 hf.size⟩
end
end Go.Proofs.Ytnhfobhdbablaaa
set_option linter.unusedSimpArgs false
namespace Go.Proofs.Ytnhfobhdbablaaa
open Go Go.ChangeShapes Go.WideShapes Go.ChangeAt Go.RowKit

/-- No string, slice or map within is longer than any machine bears. -/
def reachW {H : Type} (P : Program) (t : TypeId) (d : DataW H) : Prop := ∀ n ∈ d.weights P t, n ≤ reachBytes
/-- What is read as a value of this type is an element of this kind. -/
structure Opens (P : Program) (t : TypeId) {α : Type} (E : El α) (good : α → Prop) : Prop where
  size : P.cellsOf t = E.sz
  read : ∀ (H : Type) (enc : TypeId × Value → H) (w : World) (base : Nat) (spare : Nat → Bool) (held : Bool) (fuel : Nat) (cs : List Value) (x : DataW H × List MemPlace),
    DataW.trod enc P w base spare held fuel t cs = some x → reachW P t x.1 → ∃ a, good a ∧ ∀ j, j < E.sz → ∃ u, cs[j]? = some u ∧ u.oneCell' = true ∧ Rep w noEnv (fun _ => False) (E.enc a j) u
def gI (n : Int) : Prop := -9223372036854775808 ≤ n ∧ n ≤ 9223372036854775807
def gB (_ : Bool) : Prop := True
def gS (l : List UInt8) : Prop := l.length ≤ 140737488351232
def gLs {α : Type} (g : α → Prop) (l : List α) : Prop := l.length ≤ 140737488351232 ∧ ∀ a ∈ l, g a
def gP {α β : Type} (g : α → Prop) (h : β → Prop) (p : α × β) : Prop := g p.1 ∧ h p.2

section
variable {P : Program} {t e : TypeId}
theorem one_cell {w : World} {α : Type} {E : El α} {a : α} {v : Value} (hs : E.sz = 1) (h1 : v.oneCell' = true) (hr : Rep w noEnv (fun _ => False) (E.enc a 0) v) :
    ∀ j, j < E.sz → ∃ u, [v][j]? = some u ∧ u.oneCell' = true ∧ Rep w noEnv (fun _ => False) (E.enc a j) u := fun j hj => by
  obtain rfl : j = 0 := by omega
  exact ⟨v, rfl, h1, hr⟩
theorem opens_int (ht : P.underlying t = some (.int .i64)) (hs : P.cellsOf t = 1) : Opens P t eI gI := by
  refine ⟨hs, fun H enc w base spare held fuel cs x h hz => ?_⟩
  cases fuel with
  | zero => simp [DataW.trod] at h
  | succ n =>
    unfold DataW.trod at h
    rw [ht] at h
    split at h <;> simp only [reduceCtorEq, Option.some.injEq, TypeDesc.int.injEq] at *
    rename_i m heq
    subst heq
    split at h
    · rename_i hw
      obtain ⟨rfl, hw⟩ := hw
      refine ⟨m, ?_, one_cell rfl rfl rfl⟩
      simp only [Lit.wf, IntKind.min, IntKind.max, IntKind.signed, IntKind.bits, Bool.and_eq_true, decide_eq_true_eq] at hw
      unfold gI
      simp at hw
      omega
    · cases h
theorem opens_bool (ht : P.underlying t = some .bool) (hs : P.cellsOf t = 1) : Opens P t eB gB := by
  refine ⟨hs, fun H enc w base spare held fuel cs x h hz => ?_⟩
  cases fuel with
  | zero => simp [DataW.trod] at h
  | succ n =>
    unfold DataW.trod at h
    rw [ht] at h
    split at h <;> simp only [reduceCtorEq, Option.some.injEq] at *
    rename_i b _
    exact ⟨b, trivial, one_cell rfl rfl rfl⟩
theorem opens_string (ht : P.underlying t = some .string) (hs : P.cellsOf t = 1) : Opens P t eS gS := by
  refine ⟨hs, fun H enc w base spare held fuel cs x h hz => ?_⟩
  cases fuel with
  | zero => simp [DataW.trod] at h
  | succ n =>
    unfold DataW.trod at h
    rw [ht] at h
    split at h <;> simp only [reduceCtorEq, Option.some.injEq] at *
    rename_i s _
    split at h
    · rename_i hm
      refine ⟨s.data.toList, ?_, one_cell rfl rfl rfl⟩
      simp only [Option.some.injEq] at h
      subst h
      have h2 := hz s.data.toList.length (by simp [DataW.weights])
      unfold reachBytes at h2
      exact h2
    · cases h

theorem weights_all {H : Type} {d : DataW H} : ∀ {l : List (DataW H)}, d ∈ l → ∀ n ∈ d.weights P e, n ∈ DataW.weightsAll P e l
  | x :: l, h, n, hn => by
    simp only [DataW.weightsAll, List.mem_append]
    rcases List.mem_cons.1 h with rfl | h
    · exact .inl hn
    · exact .inr (weights_all h n hn)
theorem add_block (a : Addr) (k : Nat) : (a.add k).block = a.block := by unfold Addr.add; split <;> rfl
theorem choose_list {α : Type} (d : α) (Q : Nat → α → Prop) : ∀ n, (∀ i, i < n → ∃ a, Q i a) → ∃ l : List α, l.length = n ∧ ∀ i, i < n → Q i (l.getD i d)
  | 0, _ => ⟨[], rfl, fun i hi => absurd hi (Nat.not_lt_zero _)⟩
  | n + 1, h => by
    obtain ⟨l, hl, hq⟩ := choose_list d Q n fun i hi => h i (by omega)
    obtain ⟨a, ha⟩ := h n (by omega)
    refine ⟨l ++ [a], by simp [hl], fun i hi => ?_⟩
    rcases Nat.lt_or_ge i n with h1 | h1
    · have := hq i h1
      simpa [List.getD, List.getElem?_append_left (show i < l.length by omega)] using this
    · obtain rfl : i = n := by omega
      simpa [List.getD, List.getElem?_append_right (show l.length ≤ i by omega), hl] using ha
theorem mem_getD {α : Type} (d : α) {l : List α} {x : α} (h : x ∈ l) : ∃ i, i < l.length ∧ l.getD i d = x := by
  obtain ⟨i, hi, rfl⟩ := List.getElem_of_mem h
  exact ⟨i, hi, by simp [List.getD, hi]⟩
theorem opens_slice {α : Type} {E : El α} {g : α → Prop} (ht : P.underlying t = some (.slice e)) (hs : P.cellsOf t = 1) (he : Opens P e E g) (h0 : 0 < E.sz) (hby : 0 < P.bytesOf e) : Opens P t (eL E) (gLs g) := by
  refine ⟨hs, fun H enc w base spare held fuel cs x h hz => ?_⟩
  rcases DataW.trod_slice ht h with ⟨rfl, _⟩ | ⟨a, len, cap, elems, rest, n, _, rfl, hx, hb, hl, hm, hlen, hel, _, _⟩
  · refine ⟨[], ⟨Nat.zero_le _, fun _ h => by cases h⟩, one_cell rfl rfl ?_⟩
    exact em_sL E w noEnv _ _ ⟨_, rfl⟩
  · subst hx
    have hw : ∀ m ∈ (elems.map (·.1)).length.add (rest.map (·.1)).length * P.bytesOf e :: (DataW.weightsAll P e (elems.map (·.1)) ++ DataW.weightsAll P e (rest.map (·.1))), m ≤ reachBytes := fun m hm => hz m (by
      simp only [DataW.weights, ht]
      exact hm)
    have hlr : len ≤ 140737488351232 := by
      have h1 := hw _ (List.mem_cons_self ..)
      have h2 : (elems.map (·.1)).length.add (rest.map (·.1)).length ≤ (elems.map (·.1)).length.add (rest.map (·.1)).length * P.bytesOf e := Nat.le_mul_of_pos_right _ hby
      have h3 : (elems.map (·.1)).length.add (rest.map (·.1)).length = len + rest.length := by simp [hlen]
      unfold reachBytes at h1
      omega
    have each : ∀ i, i < len → ∃ y, g y ∧ ∀ j, j < E.sz → ∃ u, w.cell? ((a.add (i * E.sz)).add j) = some u ∧ u.oneCell' = true ∧ Rep w noEnv (fun _ => False) (E.enc y j) u := by
      intro i hi
      have h1 := hel i hi
      rw [List.getElem?_eq_getElem (by omega)] at h1
      obtain ⟨cs, hcs, htr⟩ := Option.bind_eq_some_iff.1 h1
      obtain ⟨y, hy, hj⟩ := he.read H enc w base spare held n cs _ htr fun m hm => hw m (List.mem_cons_of_mem _ (List.mem_append_left _ (weights_all (List.mem_map_of_mem (List.getElem_mem _)) m hm)))
      refine ⟨y, hy, fun j hjs => ?_⟩
      obtain ⟨u, hu, r⟩ := hj j hjs
      refine ⟨u, ?_, r⟩
      unfold World.cells? at hcs
      rw [if_pos (by rw [add_block]; exact hb)] at hcs
      have := mapM_some_get hcs j j (by simp [he.size, hjs])
      rw [he.size] at this
      rw [this, hu]
    obtain ⟨l, hl1, hl2⟩ := choose_list E.dflt _ len each
    refine ⟨l, ⟨by omega, fun x hx => ?_⟩, one_cell rfl rfl ?_⟩
    · obtain ⟨i, hi, rfl⟩ := mem_getD E.dflt hx
      exact (hl2 i (by omega)).1
    · show Rep w noEnv (fun _ => False) (sL E l) _
      refine ⟨some a, cap, by rw [hl1], by omega, fun hp _ => ?_⟩
      obtain ⟨b, off, spot⟩ := a
      obtain ⟨u, hu, _⟩ := (hl2 0 (by omega)).2 0 h0
      have hspot : spot = none := by simpa [Addr.add] using World.cell?_spot hu
      subst hspot
      refine ⟨b, off, rfl, not_false, fun i hi j hj => ?_⟩
      obtain ⟨u, hu, r⟩ := (hl2 i (by omega)).2 j hj
      refine ⟨u, ?_, r⟩
      rwa [add_off, add_off, Nat.add_assoc] at hu

/-- Parts of a value that lie one behind the other. -/
def OpensL (P : Program) (l : List (Nat × TypeId)) (off : Nat) {α : Type} (E : El α) (good : α → Prop) : Prop :=
  ∀ (H : Type) (enc : TypeId × Value → H) (w : World) (base : Nat) (spare : Nat → Bool) (held : Bool) (fuel : Nat) (cs : List Value),
    (∀ (i : Nat) (x : Nat × TypeId), l[i]? = some x → ∃ y, DataW.trod enc P w base spare held fuel x.2 ((cs.drop x.1).take (P.cellsOf x.2)) = some y ∧ reachW P x.2 y.1) →
    ∃ a, good a ∧ ∀ j, j < E.sz → ∃ u, cs[off + j]? = some u ∧ u.oneCell' = true ∧ Rep w noEnv (fun _ => False) (E.enc a j) u
theorem opensL_one {α : Type} {E : El α} {g : α → Prop} {off : Nat} (h : Opens P t E g) : OpensL P [(off, t)] off E g := by
  intro H enc w base spare held fuel cs hx
  obtain ⟨y, hy, hz⟩ := hx 0 _ rfl
  obtain ⟨a, ha, hj⟩ := h.read H enc w base spare held fuel _ y hy hz
  refine ⟨a, ha, fun j hjs => ?_⟩
  obtain ⟨u, hu, r⟩ := hj j hjs
  refine ⟨u, ?_, r⟩
  rw [List.getElem?_take] at hu
  split at hu
  · simpa using hu
  · cases hu
theorem opensL_cons {α β : Type} {A : El α} {B : El β} {g : α → Prop} {k : β → Prop} {off : Nat} {l : List (Nat × TypeId)} (h : Opens P t A g) (hl : OpensL P l (off + A.sz) B k) : OpensL P ((off, t) :: l) off (eP A B) (gP g k) := by
  intro H enc w base spare held fuel cs hx
  obtain ⟨a, ha, h1⟩ := opensL_one h H enc w base spare held fuel cs fun i x hi => hx 0 x (by
    cases i with
    | zero => simpa using hi
    | succ i => simp at hi)
  obtain ⟨b, hb, h2⟩ := hl H enc w base spare held fuel cs fun i x hi => hx (i + 1) x (by simpa using hi)
  refine ⟨(a, b), ⟨ha, hb⟩, fun j hj => ?_⟩
  show ∃ u, _ ∧ _ ∧ Rep w noEnv (fun _ => False) (if j < A.sz then A.enc a j else B.enc b (j - A.sz)) u
  split
  · rename_i hjA
    exact h1 j hjA
  · rename_i hjA
    have hj' : j < A.sz + B.sz := hj
    obtain ⟨u, hu, r⟩ := h2 (j - A.sz) (by omega)
    exact ⟨u, by rw [← hu]; congr 1; omega, r⟩
theorem opens_struct {α : Type} {E : El α} {g : α → Prop} {fs : Array Field} (ht : P.underlying t = some (.struct fs)) (hs : P.cellsOf t = E.sz) {l : List (Nat × TypeId)} (hl : fs.toList.map (fun f => (f.offset, f.type)) = l) (h : OpensL P l 0 E g) : Opens P t E g := by
  refine ⟨hs, fun H enc w base spare held fuel cs x hx hz => ?_⟩
  obtain ⟨xs, n, _, rfl, hlen, hxs, hf⟩ := DataW.trod_struct ht hx
  obtain ⟨a, ha, hj⟩ := h H enc w base spare held n cs fun i y hi => by
    subst hl
    rw [List.getElem?_map] at hi
    cases hfi : fs.toList[i]? with
    | none => rw [hfi] at hi; cases hi
    | some f =>
      rw [hfi] at hi
      simp only [Option.map_some, Option.some.injEq] at hi
      subst hi
      have hi : i < fs.size := by simpa using (List.getElem?_eq_some_iff.1 hfi).1
      have := hf i f (by simpa using hfi)
      rw [List.getElem?_eq_getElem (by omega)] at this
      refine ⟨_, this, fun m hm => hz m ?_⟩
      simp only [DataW.weights, ht]
      exact DataW.weights_mem_each (j := i) (by simp [hfi]) (by simp [show i < xs.length by omega]) m hm
  exact ⟨a, ha, fun j hjs => by simpa using hj j hjs⟩
theorem opens_array {α : Type} {E : El α} {g : α → Prop} {n : Nat} (ht : P.underlying t = some (.array n e)) (hs : P.cellsOf t = E.sz) {l : List (Nat × TypeId)} (hl : (List.range n).map (fun i => (i * P.cellsOf e, e)) = l) (h : OpensL P l 0 E g) : Opens P t E g := by
  refine ⟨hs, fun H enc w base spare held fuel cs x hx hz => ?_⟩
  obtain ⟨xs, m, _, rfl, hlen, hxs, hf⟩ := DataW.trod_array ht hx
  obtain ⟨a, ha, hj⟩ := h H enc w base spare held m cs fun i y hi => by
    subst hl
    rw [List.getElem?_map] at hi
    cases hfi : (List.range n)[i]? with
    | none => rw [hfi] at hi; cases hi
    | some k =>
      rw [hfi] at hi
      simp only [Option.map_some, Option.some.injEq] at hi
      subst hi
      have hi : i < n := by simpa using (List.getElem?_eq_some_iff.1 hfi).1
      obtain rfl : i = k := by
        have := (List.getElem?_eq_some_iff.1 hfi).2
        simpa using this
      have := hf i hi
      rw [List.getElem?_eq_getElem (by omega)] at this
      refine ⟨_, this, fun m hm => hz m ?_⟩
      simp only [DataW.weights, ht]
      exact weights_all (List.mem_map_of_mem (List.getElem_mem _)) m hm
  exact ⟨a, ha, fun j hjs => by simpa using hj j hjs⟩
end
end Go.Proofs.Ytnhfobhdbablaaa
set_option linter.unusedSimpArgs false
namespace Go.Proofs.Ytnhfobhdbablaaa
open Go Go.ChangeShapes Go.WideShapes Go.ChangeAt Go.RowKit

section
variable {P : Program}
/-- An argument of this type is told by this kind. -/
def OpensK (P : Program) (t : TypeId) {α : Type} (K : Kd α) (good : α → Prop) : Prop :=
  ∀ (H : Type) (enc : TypeId × Value → H) (W : World) (base : Nat) (v : Value) (d : DataW H) (p : List MemPlace), Value.okWide P W .any base t v → DataW.Trod enc P W 0 (fun _ => true) true t v d p → reachW P t d →
    ∃ a, good a ∧ Rep W noEnv (fun _ => False) (K.enc a) v
theorem opensK_one {t : TypeId} {α : Type} {E : El α} {g : α → Prop} {K : Kd α} (h : Opens P t E g) (hs : E.sz = 1) (hK : ∀ a, K.enc a = E.enc a 0) (hv : ∀ (W : World) (base : Nat) (v : Value), Value.okWide P W .any base t v → v.cells = #[v]) : OpensK P t K g := by
  intro H enc W base v d p hok ⟨fuel, htr⟩ hz
  obtain ⟨a, ha, hj⟩ := h.read H enc W 0 _ _ fuel _ _ htr hz
  obtain ⟨u, hu, _, hr⟩ := hj 0 (by omega)
  rw [hv W base v hok] at hu
  simp only [List.getElem?_cons_zero, Option.some.injEq] at hu
  subst hu
  exact ⟨a, ha, by rw [hK]; exact hr⟩
theorem opensK_int {t : TypeId} (ht : P.underlying t = some (.int .i64)) (hs : P.cellsOf t = 1) : OpensK P t kI gI :=
  opensK_one (opens_int ht hs) rfl (fun _ => rfl) fun W base v h => by obtain ⟨n, rfl⟩ := okWide_int ht h; rfl
theorem opensK_bool {t : TypeId} (ht : P.underlying t = some .bool) (hs : P.cellsOf t = 1) : OpensK P t kB gB :=
  opensK_one (opens_bool ht hs) rfl (fun _ => rfl) fun W base v h => by obtain ⟨n, rfl⟩ := okWide_bool ht h; rfl
theorem opensK_string {t : TypeId} (ht : P.underlying t = some .string) (hs : P.cellsOf t = 1) : OpensK P t kS gS :=
  opensK_one (opens_string ht hs) rfl (fun _ => rfl) fun W base v h => by obtain ⟨n, rfl⟩ := okWide_string ht h; rfl
theorem opensK_slice {t e : TypeId} {α : Type} {E : El α} {g : α → Prop} (ht : P.underlying t = some (.slice e)) (hs : P.cellsOf t = 1) (he : Opens P e E g) (h0 : 0 < E.sz) (hby : 0 < P.bytesOf e) : OpensK P t (kL E) (gLs g) :=
  opensK_one (opens_slice ht hs he h0 hby) rfl (fun _ => rfl) fun W base v h => by obtain ⟨_, _, _, rfl⟩ := okWide_slice ht h; rfl
theorem opensK_agg {t : TypeId} {α : Type} {E : El α} {g : α → Prop} (hu : aggT P t = some true) (h : Opens P t E g) : OpensK P t (kA E) g := by
  intro H enc W base v d p hok ⟨fuel, htr⟩ hz
  obtain ⟨a, ha, hj⟩ := h.read H enc W 0 _ _ fuel _ _ htr hz
  have : ∃ cs, v = .agg cs ∧ cs.size = P.cellsOf t := by
    unfold aggT at hu
    unfold Value.okWide at hok
    split at hok
    · obtain ⟨cs, hv, hsz, _⟩ := hok; exact ⟨cs, hv, hsz⟩
    · obtain ⟨cs, hv, hsz, _⟩ := hok; exact ⟨cs, hv, hsz⟩
    · rename_i hns hna
      cases hq : P.underlying t with
      | none => rw [hq] at hu; cases hu
      | some q =>
        rw [hq] at hu
        cases q with
        | struct fs => exact absurd hq (hns fs)
        | array n e => exact absurd hq (hna n e)
        | _ => cases hu
  obtain ⟨cs, rfl, hsz⟩ := this
  exact ⟨a, ha, cs, rfl, by rw [hsz, h.size], fun j hjs => by simpa [Value.cells] using hj j hjs⟩

def OpenAll (P : Program) (ts : List TypeId) (Q : List AV → Prop) : Prop :=
  ∀ (H : Type) (enc : TypeId × Value → H) (W : World) (base : Nat) (vs : List Value) (ds : List (DataW H)) (ps : List MemPlace), DataW.TrodAll enc P W 0 (fun _ => true) true ts vs ds ps →
    (∀ (j : Nat) t v, ts[j]? = some t → vs[j]? = some v → Value.okWide P W .any base t v) → (∀ (j : Nat) t d, ts[j]? = some t → ds[j]? = some d → reachW P t d) → ∃ avs, Q avs ∧ All2 (Rep W noEnv fun _ => False) avs vs
theorem openAll_nil : OpenAll P [] (· = []) := by
  intro H enc W base vs ds ps h _ _
  match vs, ds, h with
  | [], [], _ => exact ⟨[], rfl, .nil⟩
theorem openAll_cons {t : TypeId} {ts : List TypeId} {α : Type} {K : Kd α} {g : α → Prop} {Q : List AV → Prop} (h : OpensK P t K g) (k : OpenAll P ts Q) : OpenAll P (t :: ts) (fun avs => ∃ a r, avs = K.enc a :: r ∧ g a ∧ Q r) := by
  intro H enc W base vs ds ps hA hok hz
  match vs, ds, hA with
  | v :: vs, d :: ds, ⟨p, q, h1, h2, _⟩ =>
    obtain ⟨a, ha, hr⟩ := h H enc W base v d p (hok 0 t v rfl rfl) h1 (hz 0 t d rfl rfl)
    obtain ⟨avs, hQ, hrs⟩ := k H enc W base vs ds q h2 (fun j t' v' ht hv => hok (j + 1) t' v' ht hv) fun j t' d' ht hd => hz (j + 1) t' d' ht hd
    exact ⟨K.enc a :: avs, ⟨a, avs, rfl, ha, hQ⟩, .cons hr hrs⟩
theorem trodAll_below {H : Type} {enc : TypeId × Value → H} (hl : laidOutB P = true) {W W' : World} (hb : Below W.heap.size W W') : ∀ (ts : List TypeId) (vs : List Value) (ds : List (DataW H)) (ps : List MemPlace),
    (∀ t ∈ ts, P.readableRec t = true ∧ t < P.types.size) → DataW.TrodAll enc P W 0 (fun _ => true) true ts vs ds ps → (∀ x ∈ ps, x.block < W.heap.size) →
    DataW.TrodAll enc P W' 0 (fun b => decide (b < W.heap.size)) true ts vs ds ps
  | [], [], [], _, _, h, _ => h
  | t :: ts, v :: vs, d :: ds, ps, ht, ⟨p, q, h1, h2, e⟩, hlt => by
    subst e
    exact ⟨p, q, Below.trod hl (ht t (List.mem_cons_self ..)).1 (ht t (List.mem_cons_self ..)).2 h1 hb fun x hx => hlt x (List.mem_append_left _ hx),
      trodAll_below hl hb ts vs ds q (fun t h => ht t (List.mem_cons_of_mem _ h)) h2 fun x hx => hlt x (List.mem_append_right _ hx), rfl⟩
  | [], _ :: _, _, _, _, h, _ => h.elim
  | [], [], _ :: _, _, _, h, _ => h.elim
  | _ :: _, [], _, _, _, h, _ => h.elim
  | _ :: _, _ :: _, [], _, _, h, _ => h.elim

theorem law_calls {H : Type} {enc : TypeId × Value → H} {f : FuncId} {fn : Func} {s : ChangeSpec} {sp : Spec} {ts : List TypeId} {tb : TypeId} {Q : List AV → Prop} (hl : laidOutB P = true) (hs : SpecOK P f sp) (hp : fn.params.toList = ts) (hr : fn.resultTypes = #[tb])
    (hb : P.underlying tb = some .bool) (hopen : OpenAll P ts Q) (hts' : ts.all (fun t => P.readableRec t && decide (t < P.types.size)) = true) (hpre : ∀ avs, Q avs → sp.pre avs ∧ sp.res avs = .val (.bool true))
    (hsv : s.vars = []) (hsf : ∀ ds : List (DataW H), ds.length = ts.length → (s.fn H ds).results = [.lit (.bool true)] ∧ (s.fn H ds).args = ds ∧ (s.fn H ds).vars = [])
    (W : World) (base : Nat) (args : Array Value) (ds gs : List (DataW H)) (before : List MemPlace)
    (hval : ∀ (j : Nat) t v, fn.params[j]? = some t → args[j]? = some v → Value.okWide P W .any base t v)
    (hW : DataW.Whole enc P fn.params.toList s.vars false W args.toList ds gs before) (hz : (DataW.weightsEach P (fn.params.toList ++ s.plain.varTypes P) (ds ++ gs)).all (· ≤ reachBytes) = true) :
    Calls P f args W fun e W' => ∃ v, e = .returned v ∧ s.post enc P fn false true false false W args v W' := by
  have hts : ∀ t ∈ ts, P.readableRec t = true ∧ t < P.types.size := fun t ht => by simpa using List.all_eq_true.1 hts' t ht
  have hW' := hW
  obtain ⟨p, q, hA, hV, hbe, hfz, hnd⟩ := hW
  rw [hsv] at hV
  obtain ⟨rfl, rfl⟩ := trodVars_none hV
  rw [hp] at hA
  obtain ⟨avs, hQ, hreps⟩ := hopen H enc W base args.toList ds p hA (fun j t v ht hv => hval j t v (by
    have : fn.params.toList[j]? = some t := by rw [hp]; exact ht
    simpa using this) (by simpa using hv)) fun j t d ht hd n hn => by
    have h1 : (fn.params.toList ++ s.plain.varTypes P)[j]? = some t := by
      rw [hp, List.getElem?_append_left (List.getElem?_eq_some_iff.1 ht).1]
      exact ht
    have h2 : (ds ++ [])[j]? = some d := by rw [List.append_nil]; exact hd
    simpa using List.all_eq_true.1 hz n (DataW.weights_mem_each h1 h2 n hn)
  obtain ⟨h1, h2⟩ := hpre avs hQ
  have hlen : ds.length = ts.length := by
    have : ∀ (ts : List TypeId) (vs : List Value) (ds : List (DataW H)) (ps : List MemPlace), DataW.TrodAll enc P W 0 (fun _ => true) true ts vs ds ps → ds.length = ts.length := by
      intro ts
      induction ts with
      | nil =>
        intro vs ds ps h
        match vs, ds, h with
        | [], [], _ => rfl
      | cons t ts ih =>
        intro vs ds ps h
        match vs, ds, h with
        | v :: vs, d :: ds, ⟨p, q, _, h2, _⟩ => simp [ih vs ds q h2]
    exact this ts _ _ _ hA
  have hlt : ∀ x ∈ p, x.block < W.heap.size := fun x hx => by
    refine hW'.lt x ?_
    rw [hbe]
    exact List.mem_append_left _ hx
  have hc := hs.2 avs h1 W (fun _ => False) args.toList (fun _ h => h.elim) hreps
  refine (show Calls P f args W _ by simpa using hc).mono ?_
  rintro e W' ⟨v, rfl, hf, hr'⟩
  rw [h2] at hr'
  have hv : v = .bool true := hr'
  subst hv
  obtain ⟨e1, e2, e3⟩ := hsf ds hlen
  refine ⟨_, rfl, ds, [], before, [], p, [], hW', ?_, ?_, ?_, hf.below.frame _, fun h => by cases h⟩
  · rw [hr, List.append_nil, e1]
    exact trodAll_cons_mk (shut_bool hb _) trodAll_mk0
  · rw [hp, List.append_nil, e2]
    exact trodAll_below hl hf.below ts _ _ _ hts hA hlt
  · rw [hsv, List.append_nil, e3]
    rfl
theorem pre_f1 {α : Type} {A : Kd α} {gA : α → Prop} {dom : α → Prop} {out : α → AV} (h : ∀ a, gA a → dom a ∧ out a = .val (.bool true)) (avs : List AV) (hQ : ∃ a r, avs = A.enc a :: r ∧ gA a ∧ r = []) :
    (Spec.f1 A dom out).pre avs ∧ (Spec.f1 A dom out).res avs = .val (.bool true) := by
  obtain ⟨a, _, rfl, ha, rfl⟩ := hQ
  obtain ⟨h1, h2⟩ := h a ha
  simp only [Spec.f1, A.law]
  exact ⟨⟨A.ok_enc a, h1⟩, h2⟩
theorem pre_f2 {α β : Type} {A : Kd α} {B : Kd β} {gA : α → Prop} {gB : β → Prop} {dom : α → β → Prop} {out : α → β → AV} (h : ∀ a b, gA a → gB b → dom a b ∧ out a b = .val (.bool true)) (avs : List AV)
    (hQ : ∃ a r, avs = A.enc a :: r ∧ gA a ∧ ∃ b r', r = B.enc b :: r' ∧ gB b ∧ r' = []) : (Spec.f2 A B dom out).pre avs ∧ (Spec.f2 A B dom out).res avs = .val (.bool true) := by
  obtain ⟨a, _, rfl, ha, b, _, rfl, hb, rfl⟩ := hQ
  obtain ⟨h1, h2⟩ := h a b ha hb
  simp only [Spec.f2, A.law, B.law]
  exact ⟨⟨A.ok_enc a, B.ok_enc b, h1⟩, h2⟩
theorem pre_f3 {α β γ : Type} {A : Kd α} {B : Kd β} {C : Kd γ} {gA : α → Prop} {gB : β → Prop} {gC : γ → Prop} {dom : α → β → γ → Prop} {out : α → β → γ → AV} (h : ∀ a b c, gA a → gB b → gC c → dom a b c ∧ out a b c = .val (.bool true)) (avs : List AV)
    (hQ : ∃ a r, avs = A.enc a :: r ∧ gA a ∧ ∃ b r', r = B.enc b :: r' ∧ gB b ∧ ∃ c r'', r' = C.enc c :: r'' ∧ gC c ∧ r'' = []) : (Spec.f3 A B C dom out).pre avs ∧ (Spec.f3 A B C dom out).res avs = .val (.bool true) := by
  obtain ⟨a, _, rfl, ha, b, _, rfl, hb, c, _, rfl, hc, rfl⟩ := hQ
  obtain ⟨h1, h2⟩ := h a b c ha hb hc
  simp only [Spec.f3, A.law, B.law, C.law]
  exact ⟨⟨A.ok_enc a, B.ok_enc b, C.ok_enc c, h1⟩, h2⟩
end
end Go.Proofs.Ytnhfobhdbablaaa
set_option linter.unusedSimpArgs false
set_option linter.unusedVariables false
namespace Go.Proofs.Ytnhfobhdbablaaa
open Go Go.ChangeShapes Go.WideShapes Go.ChangeAt Go.RowKit
def eU : El Int := ⟨1, fun n _ => .val (.int .u8 n), fun c => (c 0).int, 0, fun _ => rfl, fun _ _ h => by rw [h 0 Nat.one_pos]⟩
@[go_sem] theorem eU_sz : eU.sz = 1 := (rfl)
@[go_sem] theorem eU_enc (n : Int) (j : Nat) : eU.enc n j = .val (.int .u8 n) := rfl
@[go_sem] theorem eU_d : eU.dflt = 0 := rfl
@[go_sem] theorem okc_U (n : Int) : eU.okc (fun _ => .val (.int .u8 n)) = True := eq_true fun _ _ => AVle.refl _
@[go_sem] theorem dec_U (n : Int) : eU.dec (fun _ => .val (.int .u8 n)) = n := rfl
@[go_sem] theorem eU_flat (x : Int) (j : Nat) : (eU.enc x j).flat = true := rfl
@[go_sem] theorem eU_dec (c : Nat → AV) : eU.dec c = kU.dec (c 0) := rfl
@[go_sem] theorem eU_okc (c : Nat → AV) : eU.okc c = kU.ok (c 0) := okc_1 rfl (fun _ => rfl) (fun _ => rfl) c
@[go_sem] theorem eqLf_u8 (k : IntKind) (a b : Int) : eqLf (some (.int k)) (.val (.int .u8 a)) (.val (.int .u8 b)) = some (decide (a = b)) := rfl
theorem nil_em : AVle (.val (.slice none 0 0)) .em := fun _ _ _ _ h => ⟨none, h⟩
def gU (n : Int) : Prop := 0 ≤ n ∧ n ≤ 255
theorem opens_u8 {P : Program} {t : TypeId} (ht : P.underlying t = some (.int .u8)) (hs : P.cellsOf t = 1) : Opens P t eU gU := by
  refine ⟨hs, fun H enc w base spare held fuel cs x h hz => ?_⟩
  cases fuel with
  | zero => simp [DataW.trod] at h
  | succ n =>
    unfold DataW.trod at h
    rw [ht] at h
    split at h <;> simp only [reduceCtorEq, Option.some.injEq, TypeDesc.int.injEq] at *
    rename_i m heq
    subst heq
    split at h
    · rename_i hw
      obtain ⟨rfl, hw⟩ := hw
      refine ⟨m, ?_, one_cell rfl rfl rfl⟩
      simp only [Lit.wf, IntKind.min, IntKind.max, IntKind.signed, IntKind.bits, Bool.and_eq_true, decide_eq_true_eq] at hw
      unfold gU
      simp at hw
      omega
    · cases h
section
variable {P : Program} {st : AS} {K : AS → Prop} {o : Oper}
/-- What is reckoned out of a value, and writes nothing. -/
theorem pure_wp {z : AV} (hd : dstOK st.sz o.dst) (h : ∀ (c : Ctx) (η : Env) (a : Act) (w : World), SR c st η a w → ∃ v, (execOp a.eval o).run P w = .ok (.value v) w ∧ Rep w η (Lset c η st.hp) z v)
    (hK : K ⟨updO st.fr o.dst z, st.hp, st.sz, st.top, st.nx, st.df⟩) : OpW P o st K := by
  intro c η a w next Q hsr hnext
  obtain ⟨v, e, hr⟩ := h c η a w hsr
  unfold Oper.wp
  rw [e]
  exact hnext _ η _ w (hsr.put hd hsr.hs hsr.dead (fun _ _ h => h) hr) hK
/-- A new variable, its cells as they lie. -/
theorem alloc_wp {e : TypeId} {zl : List Value} (ho : o.op = .alloc e) (hz : zeroC P e = some zl) (hd : dstOK st.sz o.dst)
    (hK : K ⟨updO st.fr o.dst (.pt st.top st.nx 0), updR st.hp st.top (.box st.nx e zl.length fun j => .val (zl.getD j undef)), st.sz, st.top + 1, st.nx + 1, st.df⟩) : OpW P o st K := by
  intro c η a w next Q hsr hnext
  obtain ⟨hs', hL⟩ := hsr.hs.declare (p := st.top) (row := .box st.nx e zl.length fun j => .val (zl.getD j undef)) rfl
  obtain ⟨zv, hzr, hzc, hz1⟩ := run_zero (w := w) hz
  have hrow : updR st.hp st.top (.box st.nx e zl.length fun j => .val (zl.getD j undef)) st.top = .box st.nx e zl.length fun j => .val (zl.getD j undef) := updR_at ..
  have hlay := hs'.lay (p := st.top) (ver := st.nx) (cap := 0) (by rw [hrow]; rfl) (hsr.hs.fresh _ (Nat.le_refl _)) hsr.hs.env.2.1 (.cells zl.toArray e) (by
    rw [hrow]
    intro g cap he
    rw [layAt_at] at he
    simp only [Option.some.injEq, Prod.mk.injEq] at he
    obtain ⟨rfl, rfl⟩ := he
    refine ⟨_, _, rfl, heap_alloc_new w _, by simp, fun j hj => ⟨zl[j], by simp [hj], List.all_eq_true.1 hz1 _ (List.getElem_mem hj), ?_⟩⟩
    show zl[j] = zl.getD j undef
    simp [List.getD, hj])
  have run : (execOp a.eval o).run P w = .ok (.value (.pointer (some ⟨w.heap.size, 0, none⟩))) (w.alloc (.cells zl.toArray e)) := by
    simp [execOp, ho, Instr.alloc, hzr, newVar, newRow, hzc]
  unfold Oper.wp
  rw [run]
  have hrep : Rep (w.alloc (.cells zl.toArray e)) (layAt η st.nx (some w.heap.size, 0)) (Lset c (layAt η st.nx (some w.heap.size, 0)) (updR st.hp st.top (.box st.nx e zl.length fun j => .val (zl.getD j undef)))) (.pt st.top st.nx 0) (.pointer (some ⟨w.heap.size, 0, none⟩)) := ⟨w.heap.size, 0, layAt_at _ _ _, rfl⟩
  refine hnext _ (layAt η st.nx (some w.heap.size, 0)) _ _ (hsr.put hd hlay.1 (fun p hp => ?_) (fun x u hx => hlay.2.rep (Rep.less (fun b _ hb => hL b hb) hx)) hrep) hK
  rw [updR_ne _ _ (by omega)]
  exact hsr.dead p (by omega)
theorem rune_wp {s d : TypeId} {x : Operand} {k : IntKind} {n : Int} {l : List UInt8} (ho : o.op = .convert s d x) (hs : (P.underlying s).isSome = true) (hd : P.underlying d = some .string) (hx : st.ev x = .val (.int k n)) (hl : Utf8.encode n = ⟨l.toArray⟩) (hdst : dstOK st.sz o.dst)
    (hK : K ⟨updO st.fr o.dst (.st l), st.hp, st.sz, st.top, st.nx, st.df⟩) : OpW P o st K := by
  refine pure_wp hdst (fun c η a w hsr => ?_) hK
  have hv := rep_ev hsr.slots x
  unfold AS.ev at hx
  rw [hx] at hv
  have hv : a.eval x = .int k n := hv
  refine ⟨.string ⟨l.toArray⟩, ?_, rfl⟩
  unfold execOp
  rw [ho]
  simp [hv, run_convert_int_string w s d k n hs hd, hl]
/-- A text that bytes at hand are. -/
theorem str_wp {s d e : TypeId} {x : Operand} {p v n : Nat} {cc : Nat → Nat → AV} {l : List UInt8} (ho : o.op = .convert s d x) (hs : P.underlying s = some (.slice e)) (he : P.underlying e = some (.int .u8)) (hd : P.underlying d = some .string) (hx : st.ev x = .ow p v n) (hrow : st.hp p = .sl v e 1 n cc)
    (hl : l.length = n) (hc : ∀ i, i < n → cc i 0 = .val (.int .u8 (l.getD i 0).toNat)) (hdst : dstOK st.sz o.dst)
    (hK : K ⟨updO st.fr o.dst (.st l), st.hp, st.sz, st.top, st.nx, st.df⟩) : OpW P o st K := by
  refine pure_wp hdst (fun c η a w hsr => ?_) hK
  have hv := rep_ev hsr.slots x
  unfold AS.ev at hx
  rw [hx] at hv
  obtain ⟨g, cap, hη, hv⟩ := hv
  refine ⟨.string ⟨l.toArray⟩, ?_, rfl⟩
  have key : (convert s d (a.eval x)).run P w = .ok (.string ⟨l.toArray⟩) w := by
    cases g with
    | none =>
      obtain ⟨rfl, av, hv⟩ := hv
      obtain rfl := List.length_eq_zero_iff.1 hl
      rw [hv]
      cases av with
      | none => exact run_convert_bytes_nil w s e hs he 0 0 d hd
      | some ad =>
        rw [run_convert_bytes_string w s d e _ 0 0 hs he hd, run_bytesToString w ad 0 0 [] (run_loadCells_list w ad [] fun j v h => by simp at h)]
        rfl
    | some g =>
      obtain ⟨hv, hcap⟩ := hv
      have hr := hsr.hs.rows p
      rw [hrow] at hr
      obtain ⟨cur, hh, hsz, hn, hm, hcell⟩ := hr (some g) cap hη
      rw [hv, run_convert_bytes_arg w s e hs he g 0 n cap (l.map fun x => (x.toNat : Int)) (by simpa using hl) (fun i hi => by
        obtain ⟨u, hu, _, hrep⟩ := hcell i hi 0 (by decide)
        rw [hc i hi] at hrep
        have hrep : u = .int .u8 (l.getD i 0).toNat := hrep
        rw [Nat.mul_one, Nat.add_zero] at hu
        rw [Nat.zero_add, cell_heap hh, hu, hrep]
        simp [List.getD, show i < l.length by omega]) d hd]
      congr 2
      simp [strOfNums, List.map_map]
      conv => rhs; rw [← List.map_id l]
      apply List.map_congr_left
      intro b _
      simp
  unfold execOp
  rw [ho]
  simp [key]
theorem str_wpS {s d e : TypeId} {x : Operand} {n : Nat} {cc : Nat → Nat → AV} {l : List UInt8} (ho : o.op = .convert s d x) (hs : P.underlying s = some (.slice e)) (he : P.underlying e = some (.int .u8)) (hd : P.underlying d = some .string) (hx : st.ev x = .sn n 1 cc)
    (hl : l.length = n) (h0 : l ≠ []) (hc : ∀ i, i < n → cc i 0 = .val (.int .u8 (l.getD i 0).toNat)) (hdst : dstOK st.sz o.dst)
    (hK : K ⟨updO st.fr o.dst (.st l), st.hp, st.sz, st.top, st.nx, st.df⟩) : OpW P o st K := by
  refine pure_wp hdst (fun c η a w hsr => ?_) hK
  have hv := rep_ev hsr.slots x
  unfold AS.ev at hx
  rw [hx] at hv
  obtain ⟨ad, cap, hv, hcap, hcell⟩ := hv
  have hpos : 0 < l.length := List.length_pos_iff.2 h0
  obtain ⟨b, off, rfl, _, hcell⟩ := hcell (by omega) (by decide)
  refine ⟨.string ⟨l.toArray⟩, ?_, rfl⟩
  have key : (convert s d (a.eval x)).run P w = .ok (.string ⟨l.toArray⟩) w := by
    rw [hv, run_convert_bytes_arg w s e hs he b off n cap (l.map fun x => (x.toNat : Int)) (by simpa using hl) (fun i hi => by
      obtain ⟨u, hu, _, hrep⟩ := hcell i hi 0 (by decide)
      rw [hc i hi] at hrep
      have hrep : u = .int .u8 (l.getD i 0).toNat := hrep
      rw [Nat.mul_one, Nat.add_zero] at hu
      rw [hu, hrep]
      simp [List.getD, show i < l.length by omega]) d hd]
    congr 2
    simp [strOfNums, List.map_map]
    conv => rhs; rw [← List.map_id l]
    apply List.map_congr_left
    intro b _
    simp
  unfold execOp
  rw [ho]
  simp [key]
end
end Go.Proofs.Ytnhfobhdbablaaa
set_option linter.unusedSimpArgs false
set_option linter.unusedVariables false
namespace Go.Proofs.Ytnhfobhdbablaaa
open Go
section
variable {P : Program} {st : AS} {K : AS → Prop} {o : Oper}
theorem sub_wp {t t' : TypeId} {x y : Operand} {p q : Int} (ho : o.op = .binOp .sub t x y t') (hxe : st.ev x = .val (.int .i64 p)) (hye : st.ev y = .val (.int .i64 q)) (hd : dstOK st.sz o.dst)
    (hK : K ⟨updO st.fr o.dst (.val (.int .i64 (IntKind.i64.wrap (p - q)))), st.hp, st.sz, st.top, st.nx, st.df⟩) : OpW P o st K := by
  refine pure_wp hd (fun c η a w hsr => ?_) hK
  have hev : ∀ x, Rep w η (Lset c η st.hp) (st.ev x) (a.eval x) := rep_ev hsr.slots
  have hx : a.eval x = .int .i64 p := by
    have hx := hev x
    rw [hxe] at hx
    exact hx
  have hy : a.eval y = .int .i64 q := by
    have hy := hev y
    rw [hye] at hy
    exact hy
  exact ⟨.int .i64 (IntKind.i64.wrap (p - q)), by simp [execOp, ho, hx, hy, binOp, Op.intArith, eqGuard], rfl⟩
end
end Go.Proofs.Ytnhfobhdbablaaa
set_option linter.unusedSimpArgs false
set_option linter.unusedVariables false
set_option maxRecDepth 100000
set_option maxHeartbeats 2000000
namespace Go.Proofs.Ytnhfobhdbablaaa
open Go
attribute [local irreducible] AW AVle ASle RowLe
def sIsSide : Spec := Spec.f1 kI (fun _ => True) (fun n => kB.enc (sideOK n))
theorem okIsSide : SpecOK Try.prog 57 sIsSide := by
  refine SpecOK.f1 Try.func57 rfl (by decide) Try.results57 Try.ntmps57 (by decide) fun n _ => ?_
  have hΓ : GOK Try.prog (gam []) := GOK.nil
  refine AW.of hΓ mixed [] _ _ _ rfl ?_
  simp only [go_sem]
  refine ⟨fun h => by rw [decide_eq_false h]; rfl, fun h => by rw [h]; rfl, ?_⟩
  unfold sideOK
  rw [Bool.or_assoc]
def sOfS : Spec := Spec.f2 (kA ePt) kI (fun _ _ => True) (fun p n => tu2 (kS.enc (ofS p n).1) (kI.enc (ofS p n).2))
theorem okOfS : SpecOK Try.prog 65 sOfS := by
  refine SpecOK.f2 Try.func65 rfl (by decide) Try.results65 Try.ntmps65 (by decide) fun p n _ => ?_
  have hΓ : GOK Try.prog (gam [(57, sIsSide)]) := (.cons okIsSide .nil)
  obtain ⟨ll, bl, rl, h, t, l, b, r, hb⟩ := p
  unfold ofS
  cases hs : sideOK n with
  | false =>
    refine AW.of hΓ mixed [] _ _ _ rfl ?_
    simp only [go_sem, sIsSide, hs]
  | true =>
    rw [if_neg (by simp)]
    by_cases h1 : n = 1
    · subst h1
      refine AW.of hΓ mixed [] _ _ _ rfl ?_
      simp only [go_sem, sIsSide, hs]
    · rw [if_neg h1]
      by_cases h3 : n = 3
      · subst h3
        refine AW.of hΓ mixed [] _ _ _ rfl ?_
        simp only [go_sem, sIsSide, hs]
      · rw [if_neg h3]
        cases hb with
        | false =>
          refine AW.of hΓ mixed [] _ _ _ rfl ?_
          simp only [go_sem, sIsSide, hs, h1, h3]
        | true =>
          refine AW.of hΓ mixed [] _ _ _ rfl ?_
          simp only [go_sem, sIsSide, hs, h1, h3]
def sPick : Spec := Spec.f2 (kA ePt) kI (fun _ _ => True) (fun p n => tu2 (kS.enc (ofS p n).1) (kI.enc (ofS p n).2))
theorem okPick : SpecOK Try.prog 63 sPick := by
  refine SpecOK.f2 Try.func63 rfl (by decide) Try.results63 Try.ntmps63 (by decide) fun p n _ => ?_
  have hΓ : GOK Try.prog (gam []) := GOK.nil
  obtain ⟨ll, bl, rl, h, t, l, b, r, hb⟩ := p
  unfold ofS
  cases hs : sideOK n with
  | false =>
    unfold sideOK at hs
    simp only [Bool.or_eq_false_iff, decide_eq_false_iff_not] at hs
    refine AW.of hΓ mixed [] _ _ _ rfl ?_
    simp only [go_sem]
    refine ⟨fun h => by rw [decide_eq_false h]; rfl, fun h => ?_⟩
    simp only [Bool.or_eq_false_iff, decide_eq_false_iff_not] at h
    omega
  | true =>
    rw [if_neg (by simp)]
    unfold sideOK at hs
    simp only [Bool.or_eq_true, decide_eq_true_eq] at hs
    rcases hs with rfl | rfl | rfl
    · refine AW.of hΓ mixed [] _ _ _ rfl ?_
      simp only [go_sem]
    · cases hb with
      | false =>
        refine AW.of hΓ mixed [] _ _ _ rfl ?_
        simp only [go_sem]
      | true =>
        refine AW.of hΓ mixed [] _ _ _ rfl ?_
        simp only [go_sem]
    · refine AW.of hΓ mixed [] _ _ _ rfl ?_
      simp only [go_sem]
theorem place_drop {d : List Pt} {i : Nat} (h : i < d.length) (j : Nat) (n : Int) : placeG (d.drop i) j n = if hkP (d.getD i ePt.dflt) = true then (if n = 0 then (j : Int) else placeG (d.drop (i + 1)) (j + 1) (n - 1)) else placeG (d.drop (i + 1)) (j + 1) n := by
  rw [List.drop_eq_getElem_cons h, placeG, gd_lt d ePt.dflt h]
theorem place_wrap (d : List Pt) (i : Nat) {m : Int} (h : gI m) (hd : d.length < 100000000) : gI (IntKind.i64.wrap (m - 1)) ∧ placeG d i (m - 1) = placeG d i (IntKind.i64.wrap (m - 1)) := by
  obtain ⟨h1, h2⟩ := h
  by_cases hm : m = -9223372036854775808
  · subst hm
    have e : IntKind.i64.wrap (-9223372036854775808 - 1) = 9223372036854775807 := by decide +kernel
    have hc := confl_le d
    rw [e, place_neg d i _ (by omega), (place_spec d i 9223372036854775807 (by omega)).1 (by omega)]
    exact ⟨⟨by omega, by omega⟩, rfl⟩
  · rw [wrap_i64 _ (by omega)]
    exact ⟨⟨by omega, by omega⟩, rfl⟩
def sPlace : Spec := Spec.f2 (kL ePt) kI (fun l n => l.length < 100000000 ∧ gI n) (fun l n => kI.enc (placeG l 0 n))
theorem okPlace : SpecOK Try.prog 64 sPlace := by
  refine SpecOK.f2 Try.func64 rfl (by decide) Try.results64 Try.ntmps64 (by decide) fun d n ⟨hl, hn⟩ => ?_
  have hΓ : GOK Try.prog (gam []) := GOK.nil
  refine AW.of hΓ mixed [] _ _ _ rfl ?_
  simp only [go_sem]
  refine AW.round (α := { x : Nat × Int × Nat // x.1 ≤ d.length ∧ gI x.2.1 ∧ placeG d 0 n = placeG (d.drop x.1) x.1 x.2.1 })
    (fun x => ⟨[(1, .val (.int .i64 x.1.2.1)), (7, sL ePt d), (8, .val (.int .i64 d.length)), (9, .val (.int .i64 x.1.1))], [], 23, 0, x.1.2.2, []⟩) (fun x => d.length - x.1.1) ⟨(0, n, 0), Nat.zero_le _, hn, rfl⟩ ?_ ?_
  · simp only [go_sem]
  · rintro ⟨⟨i, m, nx⟩, hi, hg, he⟩
    simp only at hi hg he
    refine AW.of hΓ mixed [3, 6, 99999] _ _ _ rfl ?_
    simp only [go_sem]
    refine ⟨fun hlt => ⟨by omega, ?_⟩, fun hge => ?_⟩
    · have hlt' : i < d.length := by omega
      rw [place_drop hlt'] at he
      generalize hpe : d.getD i ePt.dflt = p at *
      refine AW.cut ⟨[(1, .val (.int .i64 m)), (5, .val (.int .i64 i)), (6, .pt 0 nx 0), (7, sL ePt d), (8, .val (.int .i64 d.length)), (9, .val (.int .i64 i))], [(0, .box nx 62 9 (ePt.enc p))], 23, 1, nx + 1, []⟩ ?_ ?_
      · simp only [go_sem]
        exact RowLe.box fun j hj => AVle.of_eq (stC_in (Nat.zero_le _) (by omega))
      refine AW.still 6 0 nx 62 9 _ rfl rfl (fun j hj => match j, hj with | 0, _ => rfl | 1, _ => rfl | 2, _ => rfl | 3, _ => rfl | 4, _ => rfl | 5, _ => rfl | 6, _ => rfl | 7, _ => rfl | 8, _ => rfl) ?_
      obtain ⟨ll, bl, rl, h, t, l, b, r, hb⟩ := p
      cases h with
      | false =>
        rw [if_neg (by simp [hkP])] at he
        refine AW.of hΓ mixed [99999] _ _ _ rfl ?_
        simp only [go_sem]
        exact ⟨by omega, ⟨(i + 1, m, nx + 1), by dsimp only; omega, hg, he⟩, ⟨Nat.le_refl _, by dsimp only; omega⟩, by dsimp only; omega⟩
      | true =>
        rw [if_pos rfl] at he
        by_cases hm : m = 0
        · subst hm
          rw [if_pos rfl] at he
          refine AW.of hΓ mixed [99999] _ _ _ rfl ?_
          simp only [go_sem]
          rw [he]
        · rw [if_neg hm] at he
          refine AW.fork ?_
          refine AW.of hΓ mixed [] _ _ _ rfl ?_
          simp only [go_sem]
          refine AW.fork ?_
          refine AW.of hΓ mixed [] _ _ _ rfl ?_
          simp only [go_sem, hm]
          refine AW.regionO hΓ [false, true, false] ?_
          simp only [go_sem]
          refine sub_wp rfl rfl rfl (Nat.lt_of_lt_of_le (by decide : 21 < 23) (Nat.le_refl _)) ?_
          simp only [go_sem]
          obtain ⟨g1, g2⟩ := place_wrap (d.drop (i + 1)) (i + 1) hg (by simp; omega)
          exact ⟨by omega, ⟨(i + 1, IntKind.i64.wrap (m - 1), nx + 1), by dsimp only; omega, g1, he.trans g2⟩, ⟨Nat.le_refl _, rfl, by dsimp only; omega⟩, by dsimp only; omega⟩
    · obtain rfl : i = d.length := by omega
      rw [he, List.drop_length]
      rfl
end Go.Proofs.Ytnhfobhdbablaaa
set_option linter.unusedVariables false
set_option maxRecDepth 100000
set_option maxHeartbeats 2000000
namespace Go.Proofs.Ytnhfobhdbablaaa
open Go Go.RowKit
theorem bldSize : (Try.prog.info? 125).map (·.size) = some 2 := by kernel_rfl
theorem bldLies : liesAt Try.prog Try.prog.depth 125 (2 / Try.prog.cellsOf 125) 0 125 1 = true := by kernel_rfl
theorem check_used (b : Nat) (w : World) (h0 : w.cell? ⟨b, 0, none⟩ = some (.pointer (some ⟨b, 0, none⟩))) :
    Calls Try.prog 92 #[.pointer (some ⟨b, 0, none⟩)] w fun e w' => e = .returned (.tuple #[]) ∧ w' = w := by
  obtain ⟨j, hj, _⟩ := Option.map_eq_some_iff.1 bldSize
  go_enter Try.func92, Try.ntmps92
  go_wp2
  rw [Lib.run_neq_ptr_same w _ Try.underlying122 hj]
  go_wp2
  go_end0
  exact ⟨rfl, rfl⟩
theorem check_fresh (b : Nat) (w : World) (h0 : w.cell? ⟨b, 0, none⟩ = some (.pointer none)) (hsh : w.shape? b = some (125, 2)) (hfz : w.frozen? ⟨b, 0, none⟩ = false) :
    Calls Try.prog 92 #[.pointer (some ⟨b, 0, none⟩)] w fun e w' => e = .returned (.tuple #[]) ∧ w' = w.setCell ⟨b, 0, none⟩ (.pointer (some ⟨b, 0, none⟩)) := by
  obtain ⟨j, hj, hjs⟩ := Option.map_eq_some_iff.1 bldSize
  go_enter Try.func92, Try.ntmps92
  go_wp2
  rw [Lib.run_to_unsafe w ⟨b, 0, none⟩ Try.underlying122 Try.underlying144 hj (by rw [hjs]; decide) hsh (Nat.zero_lt_succ 1)]
  simp only [Result.andThen]
  rw [Oper.upon_value]
  go_wp2
  rw [run_callFunc_extern Try.func97 (by kernel_rfl) (by kernel_rfl) (by kernel_rfl) (e := Extern.AbiNoEscape.same) (by kernel_rfl)]
  rw [Lib.run_noEscape]
  simp only [Result.andThen]
  rw [Oper.upon_value]
  go_wp2
  rw [Lib.run_from_unsafe w ⟨b, 0, none⟩ Try.underlying144 Try.underlying122 hj hsh bldLies]
  simp only [Result.andThen]
  rw [Oper.upon_value]
  go_wp2
  go_end0
  exact ⟨rfl, rfl⟩
theorem fr_freeze (w : World) (g n : Nat) : Fr (fun b => b = g) w (w.freeze ⟨g, 0, none⟩ n) := by
  unfold World.freeze
  split
  · exact Fr.refl _ _
  · exact ⟨rfl, rfl, rfl, by simp, fun k _ hk => by simp [Array.getElem?_modify, Ne.symm hk]⟩
theorem cellByte : Try.prog.cellsOf 5 = 1 := by kernel_rfl
theorem str_some (b g cap : Nat) (p : Value) (cur : Array Value) (l : List UInt8) (w : World) (hbk : w.heap[b]? = some (.cells #[p, .slice (some ⟨g, 0, none⟩) l.length cap] 125 (0, 0)))
    (hg : w.heap[g]? = some (.cells cur 5 (0, 0))) (h0 : l ≠ []) (hn : l.length ≤ cur.size) (hcap : cap ≠ 0) (h63 : l.length ≤ 9223372036854775807) (hc : ∀ (j : Nat) (x : UInt8), l[j]? = some x → cur[j]? = some (Value.int .u8 x.toNat)) :
    Calls Try.prog 83 #[.pointer (some ⟨b, 0, none⟩)] w fun e w' => e = .returned (.string ⟨l.toArray⟩) ∧ Fr (fun k => k = g) w w' := by
  have c1 : w.drew.cell? ⟨b, 1, none⟩ = some (.slice (some ⟨g, 0, none⟩) l.length cap) := by
    have : w.drew.heap[b]? = some (.cells #[p, .slice (some ⟨g, 0, none⟩) l.length cap] 125 (0, 0)) := hbk
    simp [World.cell?, this]
  have hSD : (Builtin.unsafeSliceData_ #[123] 136 #[.slice (some ⟨g, 0, none⟩) l.length cap]).run Try.prog w.drew = .ok (.pointer (some ⟨g, 0, none⟩)) w.drew :=
    Lib.run_unsafeSliceData_row _ _ _ _ _ _ hcap
  have hg' : w.drew.heap[g]? = some (.cells cur 5 (0, 0)) := hg
  have hUS : (Builtin.unsafeString_ #[136, 3] 9 #[.pointer (some ⟨g, 0, none⟩), .int .i64 l.length]).run Try.prog w.drew = .ok (.string ⟨l.toArray⟩) (w.drew.freeze ⟨g, 0, none⟩ l.length) := by
    refine Lib.run_unsafeString_row w.drew 136 3 9 5 Try.underlying136 cellByte g cur.size (by simp [World.shape?, hg']) l h0 hn h63 ?_
    intro j x hx
    have hj := hc j x hx
    rw [add_off, Nat.zero_add]
    simp only [World.cell?, hg']
    exact hj
  go_enter Try.func83, Try.ntmps83
  go_wp2
  go_region
  all_goals (go_wp2; go_ret; exact ⟨rfl, (Fr.refl _ w).drew.trans (fr_freeze _ _ _)⟩)
theorem str_none (b : Nat) (p : Value) (w : World) (hbk : w.heap[b]? = some (.cells #[p, .slice none 0 0] 125 (0, 0))) :
    Calls Try.prog 83 #[.pointer (some ⟨b, 0, none⟩)] w fun e w' => e = .returned (.string ⟨#[]⟩) ∧ Fr (fun _ => False) w w' := by
  have c1 : w.drew.cell? ⟨b, 1, none⟩ = some (.slice none 0 0) := by
    have : w.drew.heap[b]? = some (.cells #[p, .slice none 0 0] 125 (0, 0)) := hbk
    simp [World.cell?, this]
  have hSD : (Builtin.unsafeSliceData_ #[123] 136 #[.slice none 0 0]).run Try.prog w.drew = .ok (.pointer none) w.drew := rfl
  have hUS : ∀ (W : World) (q : Option Addr), (Builtin.unsafeString_ #[136, 3] 9 #[.pointer q, .int .i64 0]).run Try.prog W = .ok (.string .empty) W := fun W q => Lib.run_unsafeString_none W _ _ _ q
  go_enter Try.func83, Try.ntmps83
  go_wp2
  go_region
  all_goals (go_wp2; go_ret; exact ⟨rfl, (Fr.refl _ w).drew⟩)
end Go.Proofs.Ytnhfobhdbablaaa
set_option linter.unusedSimpArgs false
set_option linter.unusedVariables false
set_option maxRecDepth 100000
set_option maxHeartbeats 2000000
namespace Go.Proofs.Ytnhfobhdbablaaa
open Go
/-- A builder's two cells, as they lie: used or not; its bytes in another row. -/
def bldC (f : Bool) (q v r u n : Nat) : Nat → AV := fun j => if j = 0 then (if f = true then .pt q v 0 else .val (.pointer none)) else .ow r u n
def sCheck : MSpec := fun args hp top nx K => ∃ (f : Bool) (q v r u n : Nat), args = [.pt q v 0] ∧ hp q = .box v 125 2 (bldC f q v r u n) ∧ K (.val (.tuple #[])) (updR hp q (.box v 125 2 (bldC true q v r u n))) top nx
theorem fr_setCell (w : World) (g o : Nat) (x : Value) : Fr (fun b => b = g) w (w.setCell ⟨g, o, none⟩ x) :=
  ⟨rfl, rfl, rfl, by simp [World.setCell], fun k _ hk => by simp [World.setCell, Array.getElem?_modify, Ne.symm hk]⟩
theorem okCheck : MethOK Try.prog 92 sCheck := by
  refine ⟨enters Try.func92 rfl (by decide), ?_⟩
  rintro args hp top nx K ⟨f, q, v, r, u, n, rfl, hrow, hK⟩ c η w vs hs hdead hargs
  cases hargs with
  | cons hx hr => cases hr with
    | nil =>
      obtain ⟨g, cap, hη, rfl⟩ := hx
      have hr := hs.rows q
      rw [hrow] at hr
      obtain ⟨b, cur, hb, hh, hsz, hc⟩ := hr _ _ hη
      obtain rfl : g = b := by simpa using hb
      obtain ⟨x0, hx0, ho0, hr0⟩ := hc 0 (by decide)
      have hblk : (hp q).blk η = some g := by rw [hrow]; simp [Row.blk, Row.ver, hη]
      have hcell : w.cell? ⟨g, 0, none⟩ = some x0 := by rw [cell_heap hh]; exact hx0
      cases f with
      | true =>
        have hr0 : ∃ g' cap', η v = some (some g', cap') ∧ x0 = .pointer (some ⟨g', 0, none⟩) := hr0
        obtain ⟨g', cap', h1, rfl⟩ := hr0
        rw [hη] at h1
        simp only [Option.some.injEq, Prod.mk.injEq] at h1
        obtain ⟨rfl, rfl⟩ := h1
        refine (check_used g w hcell).mono ?_
        rintro e w' ⟨rfl, rfl⟩
        have e : updR hp q (.box v 125 2 (bldC true q v r u n)) = hp := by
          rw [← hrow]
          funext p
          unfold updR
          split
          · rename_i h; rw [h]
          · rfl
        rw [e] at hK
        exact ⟨_, _, _, _, _, η, rfl, hK, hs, hdead, rfl⟩
      | false =>
        have hr0 : x0 = .pointer none := hr0
        subst hr0
        refine (check_fresh g w hcell (by simp [World.shape?, hh, hsz]) (by simp [World.frozen?, hh])).mono ?_
        rintro e w' ⟨rfl, rfl⟩
        have hf := fr_setCell w g 0 (.pointer (some ⟨g, 0, none⟩))
        have hO : ∀ k, k < w.heap.size → k = g → Lset c η hp k := fun k _ e => .inr ⟨q, by rw [e]; exact hblk⟩
        have hwr := hs.write (row := .box v 125 2 (bldC true q v r u n)) hblk (by rw [hrow]; rfl) hf (by
          intro g' cap' he
          rw [hη] at he
          simp only [Option.some.injEq, Prod.mk.injEq] at he
          obtain ⟨rfl, rfl⟩ := he
          refine ⟨g, cur.setIfInBounds 0 (.pointer (some ⟨g, 0, none⟩)), rfl, by simp [World.setCell, Array.getElem?_modify, hh], by simp [hsz], fun j hj => ?_⟩
          match j, hj with
          | 0, _ => exact ⟨_, by simp [hsz], rfl, g, cap, hη, rfl⟩
          | 1, _ =>
            obtain ⟨x1, hx1, ho1, hr1⟩ := hc 1 (by decide)
            exact ⟨x1, by rw [Array.getElem?_setIfInBounds_ne (by decide)]; exact hx1, ho1, Rep.keep hf hO (fun _ _ h => h) _ _ _ _ (Env.le_refl _) hr1⟩)
        refine ⟨_, _, _, _, _, η, rfl, hK, hwr.1, fun p hp' => ?_, rfl⟩
        by_cases e : p = q
        · subst e; rw [hdead p hp'] at hrow; cases hrow
        · rw [updR_ne _ _ e]; exact hdead p hp'
attribute [local irreducible] AW AVle ASle RowLe
/-- Bytes at hand. -/
def rowB (u : Nat) (l : List UInt8) : Row := .sl u 5 1 l.length (byteC l)
theorem rowB_app {nx n m : Nat} {l s : List UInt8} (hn : n = l.length) (hm : m = n + s.length) : RowLe (.sl nx 5 1 m (apC n (byteC l) (byteC s))) (rowB nx (l ++ s)) := by
  subst hn hm
  refine RowLe.sl (by simp) fun i hi j hj => AVle.of_eq ?_
  unfold apC byteC
  by_cases h : i < l.length
  · rw [if_pos h]
    simp [List.getD, List.getElem?_append_left h]
  · rw [if_neg h]
    simp [List.getD, List.getElem?_append_right (Nat.le_of_not_lt h)]
theorem bldC1 (f : Bool) (q v r u n : Nat) : bldC f q v r u n 1 = .ow r u n := rfl
def sWriteS0 : MSpec := fun args hp top nx K => ∃ (f : Bool) (v u : Nat) (l s : List UInt8), args = [.pt 0 v 0, .st s] ∧ hp = rws [(0, .box v 125 2 (bldC f 0 v 1 u l.length)), (1, rowB u l)] ∧ top = 2 ∧ l.length + s.length ≤ 100000000000 ∧
  ∀ u' nx', (u' = u ∨ nx ≤ u') → nx ≤ nx' → K (tu2 (.val (.int .i64 s.length)) (.val .nilIface)) (rws [(0, .box v 125 2 (bldC true 0 v 1 u' (l ++ s).length)), (1, rowB u' (l ++ s))]) 2 nx'
theorem okWriteS0 : MethOK Try.prog 82 sWriteS0 := by
  refine MethOK.mk Try.func82 rfl (by decide) Try.results82 Try.ntmps82 ?_
  rintro args hp top nx K ⟨f, v, u, l, s, rfl, rfl, rfl, hl, hK⟩
  have hΓ : GOK Try.prog (gam [(92, sCheck)]) := (.cons okCheck .nil)
  refine ⟨Nat.le_of_ble_eq_true rfl, AW.late ?_⟩
  refine AW.of hΓ mixed [1] _ _ _ rfl ?_
  simp only [go_sem, sCheck]
  refine ⟨f, 0, v, 1, u, l.length, rfl, rfl, ?_⟩
  refine AW.cut ⟨[(0, .pt 0 v 0), (1, .st s)], [(0, .box v 125 2 (bldC true 0 v 1 u l.length)), (1, rowB u l)], 19, 2, nx, []⟩ ?_ ?_
  · simp only [go_sem, sCheck]
    exact ⟨RowLe.refl _, RowLe.refl _⟩
  refine AW.fork (AW.regionO hΓ [false, false, false, false, false, false, true] ?_)
  simp only [go_sem, sCheck, bldC1]
  refine appS_wp rfl Try.underlying123 Try.underlying9 rfl rfl rfl (Nat.lt_of_lt_of_le (by decide : 14 < 19) (Nat.le_refl _)) ⟨cells5, by decide, by rw [bytes5]; decide, by rw [bytes5]; omega, _, zero5, rfl⟩ ?_
  simp only [go_sem, sCheck, bldC1]
  refine AW.of hΓ mixed [] _ _ _ rfl ?_
  simp only [go_sem, sCheck]
  refine ⟨_, toFitsV (fun p => p) (l := [(4, .val (.int .i64 s.length)), (5, .val .nilIface)]) (r := [(0, .box v 125 2 (bldC true 0 v 1 nx (l ++ s).length)), (1, rowB nx (l ++ s))]) (sz := 19) (top := 2) (nx := nx + 1) (df := []) ?_, ?_⟩
  · simp only [go_sem, sCheck]
    refine ⟨AVle.refl _, RowLe.box fun j hj => ?_, rowB_app rfl rfl⟩
    match j, hj with
    | 0, _ => exact AVle.refl _
    | 1, _ => exact AVle.refl _
  · simp only [go_sem, sCheck]
    have := hK nx (nx + 1) (.inr (Nat.le_refl _)) (by omega)
    rwa [List.length_append] at this
def sWriteS : MSpec := framed sWriteS0
theorem okWriteS : MethOK Try.prog 82 sWriteS := okWriteS0.frame
theorem rows_2 {hp : Nat → Row} {p q : Nat} {r s : Row} (h : RowLe (hp p) r) (h2 : RowLe (hp q) s) : ∀ (i o : Nat), [p, q][i]? = some o → RowLe (hp o) (rws [(0, r), (1, s)] i) := by
  intro i o hq
  match i with
  | 0 =>
    simp only [List.getElem?_cons_zero, Option.some.injEq] at hq
    subst hq
    exact h
  | 1 =>
    simp only [List.getElem?_cons_succ, List.getElem?_cons_zero, Option.some.injEq] at hq
    subst hq
    exact h2
  | i + 2 => simp at hq
theorem bld_le (f : Bool) (p q p' q' v u n : Nat) : RowLe (.box v 125 2 (bldC f p v q u n)) (.box v 125 2 (bldC f p' v q' u n)) := RowLe.box fun j hj => by
  match j, hj with
  | 0, _ =>
    cases f with
    | true => exact AVle.pt
    | false => exact AVle.refl _
  | 1, _ => exact AVle.ow
theorem write_go {f : Bool} {p q v u n : Nat} {l s : List UInt8} {hp : Nat → Row} {top nx : Nat} {K : AV → (Nat → Row) → Nat → Nat → Prop} (hn : n = l.length) (hpq : p ≠ q)
    (hr : RowLe (hp p) (.box v 125 2 (bldC f p v q u n))) (hr2 : RowLe (hp q) (rowB u l)) (ht : p < top ∧ q < top) (hl : l.length + s.length ≤ 100000000000)
    (hK : ∀ u' nx', (u' = u ∨ nx ≤ u') → nx ≤ nx' → K (tu2 (.val (.int .i64 s.length)) (.val .nilIface)) (updR (updR hp p (.box v 125 2 (bldC true p v q u' (l ++ s).length))) q (rowB u' (l ++ s))) top nx') :
    sWriteS [.pt p v 0, .st s] hp top nx K := by
  subst hn
  have e1 : (hp p).ver = some v := hr.vers.symm
  have e2 : (hp q).ver = some u := hr2.vers.symm
  refine ⟨[p, q], [.pt 0 v 0, .st s], rws [(0, .box v 125 2 (bldC f 0 v 1 u l.length)), (1, rowB u l)], by simp [hpq], by simp; omega, .cons AVle.pt (.cons (AVle.refl _) .nil), rows_2 (hr.trans (bld_le f p q 0 1 v u _)) hr2, fun i hi => rws_top (top := 2) (by simp) i (by simpa using hi), f, v, u, l, s, rfl, rfl, rfl, hl, fun u' nx' h1 h3 => ?_⟩
  refine ⟨_, _, AVle.refl _, fun i o ho => ?_, fun o ho => ?_, fun o ho w hv => ?_, hK u' nx' h1 h3⟩
  · match i with
    | 0 =>
      simp only [List.getElem?_cons_zero, Option.some.injEq] at ho
      subst ho
      rw [updR_ne _ _ hpq, updR_at]
      exact bld_le true 0 1 p q v u' _
    | 1 =>
      simp only [List.getElem?_cons_succ, List.getElem?_cons_zero, Option.some.injEq] at ho
      subst ho
      rw [updR_at]
      exact RowLe.refl _
    | i + 2 => simp at ho
  · simp only [List.mem_cons, List.not_mem_nil, or_false, not_or] at ho
    rw [updR_ne _ _ ho.2, updR_ne _ _ ho.1]
  · simp only [List.mem_cons, List.not_mem_nil, or_false] at ho
    rcases ho with rfl | rfl
    · rw [updR_ne _ _ hpq, updR_at] at hv
      have : some v = some w := hv
      obtain rfl := Option.some.inj this
      exact .inl e1
    · rw [updR_at] at hv
      have : some u' = some w := hv
      obtain rfl := Option.some.inj this
      rcases h1 with rfl | h1
      · exact .inl e2
      · exact .inr h1
theorem bld_len {f : Bool} {p v q u n m : Nat} (h : n = m) : RowLe (.box v 125 2 (bldC f p v q u n)) (.box v 125 2 (bldC f p v q u m)) := by
  subst h
  exact RowLe.refl _
theorem rowB_eq {u : Nat} {l m : List UInt8} (h : l = m) : RowLe (rowB u l) (rowB u m) := by
  subst h
  exact RowLe.refl _
/-- A builder that nothing was written to. -/
def bld0 : Nat → AV := fun j => if j = 0 then .val (.pointer none) else .val (.slice none 0 0)
def sStr : MSpec := fun args hp top nx K => (∃ (f : Bool) (p v q u : Nat) (l : List UInt8), args = [.pt p v 0] ∧ hp p = .box v 125 2 (bldC f p v q u l.length) ∧ hp q = rowB u l ∧ l ≠ [] ∧ l.length ≤ 100000000000 ∧ K (.st l) (updR hp q .dead) top nx) ∨
  ∃ (p v : Nat), args = [.pt p v 0] ∧ hp p = .box v 125 2 bld0 ∧ K (.st []) hp top nx
theorem okStr : MethOK Try.prog 83 sStr := by
  refine ⟨enters Try.func83 rfl (by decide), ?_⟩
  intro args hp top nx K hS c η w vs hs hdead hargs
  rcases hS with ⟨f, p, v, q, u, l, rfl, hrow, hrow2, h0, hlen, hK⟩ | ⟨p, v, rfl, hrow, hK⟩
  · cases hargs with
    | cons hx hr => cases hr with
      | nil =>
        obtain ⟨b, cap, hη, rfl⟩ := hx
        have hr := hs.rows p
        rw [hrow] at hr
        obtain ⟨b', cur, hb, hh, hsz, hc⟩ := hr _ _ hη
        obtain rfl : b = b' := by simpa using hb
        obtain ⟨x0, hx0, _, _⟩ := hc 0 (by decide)
        obtain ⟨x1, hx1, _, hr1⟩ := hc 1 (by decide)
        obtain ⟨g, cap', hη', hv⟩ := hr1
        have hr2 := hs.rows q
        rw [hrow2] at hr2
        have hr2 := hr2 g cap' hη'
        have hpos : 0 < l.length := List.length_pos_iff.2 h0
        cases g with
        | none => exact absurd hv.1 (by omega)
        | some g =>
          obtain ⟨rfl, hcap⟩ := hv
          obtain ⟨cur2, hh2, hsz2, hn2, hm2, hc2⟩ := hr2
          have hcur : cur = #[x0, .slice (some ⟨g, 0, none⟩) l.length cap'] := by
            apply Array.ext
            · simp [hsz]
            · intro i h1 h2
              match i, h2 with
              | 0, _ => rw [Array.getElem?_eq_getElem h1] at hx0; exact Option.some.inj hx0
              | 1, _ => rw [Array.getElem?_eq_getElem h1] at hx1; exact Option.some.inj hx1
          have hblk : (hp q).blk η = some g := by rw [hrow2]; simp [rowB, Row.blk, Row.ver, hη']
          refine (str_some b g cap' x0 cur2 l w (by rw [hh, hcur]) hh2 h0 (by omega) (by omega) (by omega) fun j x hj => ?_).mono ?_
          · obtain ⟨hjl, rfl⟩ := List.getElem?_eq_some_iff.1 hj
            obtain ⟨y, hy, _, hry⟩ := hc2 j hjl 0 (by decide)
            have hry : y = .int .u8 (l.getD j 0).toNat := hry
            rw [Nat.mul_one, Nat.add_zero] at hy
            rw [hy, hry]
            simp [List.getD, hjl]
          · rintro e w' ⟨rfl, hf⟩
            obtain ⟨hs', _⟩ := hs.sink hblk hf
            refine ⟨_, _, _, _, _, η, rfl, hK, hs', fun o ho => ?_, rfl⟩
            by_cases e : o = q
            · subst e; rw [updR_at]
            · rw [updR_ne _ _ e]; exact hdead o ho
  · cases hargs with
    | cons hx hr => cases hr with
      | nil =>
        obtain ⟨b, cap, hη, rfl⟩ := hx
        have hr := hs.rows p
        rw [hrow] at hr
        obtain ⟨b', cur, hb, hh, hsz, hc⟩ := hr _ _ hη
        obtain rfl : b = b' := by simpa using hb
        obtain ⟨x0, hx0, _, _⟩ := hc 0 (by decide)
        obtain ⟨x1, hx1, _, hr1⟩ := hc 1 (by decide)
        have hr1 : x1 = .slice none 0 0 := hr1
        subst hr1
        have hcur : cur = #[x0, .slice none 0 0] := by
          apply Array.ext
          · simp [hsz]
          · intro i h1 h2
            match i, h2 with
            | 0, _ => rw [Array.getElem?_eq_getElem h1] at hx0; exact Option.some.inj hx0
            | 1, _ => rw [Array.getElem?_eq_getElem h1] at hx1; exact Option.some.inj hx1
        refine (str_none b x0 w (by rw [hh, hcur])).mono ?_
        rintro e w' ⟨rfl, hf⟩
        exact ⟨_, _, _, _, _, η, rfl, hK, hs.world hf, hdead, rfl⟩
end Go.Proofs.Ytnhfobhdbablaaa
set_option linter.unusedSimpArgs false
set_option linter.unusedVariables false
set_option maxRecDepth 100000
set_option maxHeartbeats 2000000
namespace Go.Proofs.Ytnhfobhdbablaaa
open Go
attribute [local irreducible] AW AVle ASle RowLe
theorem All2.same : ∀ (xs : List AV), All2 AVle xs xs
  | [] => .nil
  | x :: xs => .cons (AVle.refl x) (All2.same xs)
/-- Of what is handed in: what is written, what comes out. -/
def sBld (dom : List AV → List UInt8 → AV → Prop) : MSpec := fun args hp top nx K => ∃ (f : Bool) (v u : Nat) (l : List UInt8) (xs : List AV) (a : List UInt8) (r : AV), args = .pt 0 v 0 :: xs ∧ dom xs a r ∧
  hp = rws [(0, .box v 125 2 (bldC f 0 v 1 u l.length)), (1, rowB u l)] ∧ top = 2 ∧ l.length + a.length ≤ 100000000000 ∧
  ∀ u' nx', (u' = u ∨ nx ≤ u') → nx ≤ nx' → K r (rws [(0, .box v 125 2 (bldC true 0 v 1 u' (l ++ a).length)), (1, rowB u' (l ++ a))]) 2 nx'
theorem bld_go {dom : List AV → List UInt8 → AV → Prop} {xs : List AV} {a : List UInt8} {z : AV} {f : Bool} {p q v u n : Nat} {l : List UInt8} {hp : Nat → Row} {top nx : Nat} {K : AV → (Nat → Row) → Nat → Nat → Prop} (hd : dom xs a z) (hn : n = l.length) (hpq : p ≠ q)
    (hr : RowLe (hp p) (.box v 125 2 (bldC f p v q u n))) (hr2 : RowLe (hp q) (rowB u l)) (ht : p < top ∧ q < top) (hl : l.length + a.length ≤ 100000000000)
    (hK : ∀ u' nx', (u' = u ∨ nx ≤ u') → nx ≤ nx' → K z (updR (updR hp p (.box v 125 2 (bldC true p v q u' (l ++ a).length))) q (rowB u' (l ++ a))) top nx') :
    framed (sBld dom) (.pt p v 0 :: xs) hp top nx K := by
  subst hn
  have e1 : (hp p).ver = some v := hr.vers.symm
  have e2 : (hp q).ver = some u := hr2.vers.symm
  refine ⟨[p, q], .pt 0 v 0 :: xs, rws [(0, .box v 125 2 (bldC f 0 v 1 u l.length)), (1, rowB u l)], by simp [hpq], by simp; omega, .cons AVle.pt (All2.same xs), rows_2 (hr.trans (bld_le f p q 0 1 v u _)) hr2, fun i hi => rws_top (top := 2) (by simp) i (by simpa using hi), f, v, u, l, xs, a, z, rfl, hd, rfl, rfl, hl, fun u' nx' h1 h3 => ?_⟩
  refine ⟨_, _, AVle.refl _, fun i o ho => ?_, fun o ho => ?_, fun o ho w hv => ?_, hK u' nx' h1 h3⟩
  · match i with
    | 0 =>
      simp only [List.getElem?_cons_zero, Option.some.injEq] at ho
      subst ho
      rw [updR_ne _ _ hpq, updR_at]
      exact bld_le true 0 1 p q v u' _
    | 1 =>
      simp only [List.getElem?_cons_succ, List.getElem?_cons_zero, Option.some.injEq] at ho
      subst ho
      rw [updR_at]
      exact RowLe.refl _
    | i + 2 => simp at ho
  · simp only [List.mem_cons, List.not_mem_nil, or_false, not_or] at ho
    rw [updR_ne _ _ ho.2, updR_ne _ _ ho.1]
  · simp only [List.mem_cons, List.not_mem_nil, or_false] at ho
    rcases ho with rfl | rfl
    · rw [updR_ne _ _ hpq, updR_at] at hv
      have : some v = some w := hv
      obtain rfl := Option.some.inj this
      exact .inl e1
    · rw [updR_at] at hv
      have : some u' = some w := hv
      obtain rfl := Option.some.inj this
      rcases h1 with rfl | h1
      · exact .inl e2
      · exact .inr h1
end Go.Proofs.Ytnhfobhdbablaaa
set_option linter.unusedSimpArgs false
set_option linter.unusedVariables false
set_option maxRecDepth 100000
set_option maxHeartbeats 2000000
namespace Go.Proofs.Ytnhfobhdbablaaa
open Go
/-- A builder's cells: used or not; its second one. -/
def bldG (f : Bool) (q v : Nat) (x : AV) : Nat → AV := fun j => if j = 0 then (if f = true then .pt q v 0 else .val (.pointer none)) else x
theorem bldG1 (f : Bool) (q v : Nat) (x : AV) : bldG f q v x 1 = x := rfl
def sCheckG : MSpec := fun args hp top nx K => ∃ (f : Bool) (q v : Nat) (x : AV), args = [.pt q v 0] ∧ hp q = .box v 125 2 (bldG f q v x) ∧ K (.val (.tuple #[])) (updR hp q (.box v 125 2 (bldG true q v x))) top nx
theorem okCheckG : MethOK Try.prog 92 sCheckG := by
  refine ⟨enters Try.func92 rfl (by decide), ?_⟩
  rintro args hp top nx K ⟨f, q, v, x, rfl, hrow, hK⟩ c η w vs hs hdead hargs
  cases hargs with
  | cons hx hr => cases hr with
    | nil =>
      obtain ⟨g, cap, hη, rfl⟩ := hx
      have hr := hs.rows q
      rw [hrow] at hr
      obtain ⟨b, cur, hb, hh, hsz, hc⟩ := hr _ _ hη
      obtain rfl : g = b := by simpa using hb
      obtain ⟨x0, hx0, ho0, hr0⟩ := hc 0 (by decide)
      have hblk : (hp q).blk η = some g := by rw [hrow]; simp [Row.blk, Row.ver, hη]
      have hcell : w.cell? ⟨g, 0, none⟩ = some x0 := by rw [cell_heap hh]; exact hx0
      cases f with
      | true =>
        have hr0 : ∃ g' cap', η v = some (some g', cap') ∧ x0 = .pointer (some ⟨g', 0, none⟩) := hr0
        obtain ⟨g', cap', h1, rfl⟩ := hr0
        rw [hη] at h1
        simp only [Option.some.injEq, Prod.mk.injEq] at h1
        obtain ⟨rfl, rfl⟩ := h1
        refine (check_used g w hcell).mono ?_
        rintro e w' ⟨rfl, rfl⟩
        have e : updR hp q (.box v 125 2 (bldG true q v x)) = hp := by
          rw [← hrow]
          funext p
          unfold updR
          split
          · rename_i h; rw [h]
          · rfl
        rw [e] at hK
        exact ⟨_, _, _, _, _, η, rfl, hK, hs, hdead, rfl⟩
      | false =>
        have hr0 : x0 = .pointer none := hr0
        subst hr0
        refine (check_fresh g w hcell (by simp [World.shape?, hh, hsz]) (by simp [World.frozen?, hh])).mono ?_
        rintro e w' ⟨rfl, rfl⟩
        have hf := fr_setCell w g 0 (.pointer (some ⟨g, 0, none⟩))
        have hO : ∀ k, k < w.heap.size → k = g → Lset c η hp k := fun k _ e => .inr ⟨q, by rw [e]; exact hblk⟩
        have hwr := hs.write (row := .box v 125 2 (bldG true q v x)) hblk (by rw [hrow]; rfl) hf (by
          intro g' cap' he
          rw [hη] at he
          simp only [Option.some.injEq, Prod.mk.injEq] at he
          obtain ⟨rfl, rfl⟩ := he
          refine ⟨g, cur.setIfInBounds 0 (.pointer (some ⟨g, 0, none⟩)), rfl, by simp [World.setCell, Array.getElem?_modify, hh], by simp [hsz], fun j hj => ?_⟩
          match j, hj with
          | 0, _ => exact ⟨_, by simp [hsz], rfl, g, cap, hη, rfl⟩
          | 1, _ =>
            obtain ⟨x1, hx1, ho1, hr1⟩ := hc 1 (by decide)
            exact ⟨x1, by rw [Array.getElem?_setIfInBounds_ne (by decide)]; exact hx1, ho1, Rep.keep hf hO (fun _ _ h => h) _ _ _ _ (Env.le_refl _) hr1⟩)
        refine ⟨_, _, _, _, _, η, rfl, hK, hwr.1, fun p hp' => ?_, rfl⟩
        by_cases e : p = q
        · subst e; rw [hdead p hp'] at hrow; cases hrow
        · rw [updR_ne _ _ e]; exact hdead p hp'
section
variable {P : Program} {st : AS} {K : AS → Prop} {o : Oper}
/-- A text appended to nothing. -/
theorem appN_wp {t t' e : TypeId} {x y : Operand} {s : List UInt8} (ho : o.op = .call ⟨.builtin .append, ⟨[x, y]⟩, ⟨[t, t']⟩⟩) (hu : P.underlying t = some (.slice e)) (hu' : P.underlying t' = some .string)
    (hxe : st.ev x = .val (.slice none 0 0)) (hye : st.ev y = .st s) (h0 : s ≠ []) (hd : dstOK st.sz o.dst) (hok : appOK P e 1 s.length)
    (hK : K ⟨updO st.fr o.dst (.ow st.top st.nx s.length), updR st.hp st.top (.sl st.nx e 1 s.length (byteC s)), st.sz, st.top + 1, st.nx + 1, st.df⟩) : OpW P o st K := by
  intro c η a w next Q hsr hnext
  have hev : ∀ x, Rep w η (Lset c η st.hp) (st.ev x) (a.eval x) := rep_ev hsr.slots
  have hxv : a.eval x = .slice none 0 0 := by
    have hx := hev x
    rw [hxe] at hx
    exact hx
  have hyv : a.eval y = .string ⟨s.toArray⟩ := by
    have hy := hev y
    rw [hye] at hy
    exact hy
  have hnl := strCells_len s
  obtain ⟨hsz, hz0, hb0, hbytes, zl, hz, hzl⟩ := hok
  obtain ⟨i, zv, hi, hiz, hzc, his, hib⟩ := info_of hz
  have hisz : i.size = 1 := by rw [his, hsz]
  have hss : (⟨s.toArray⟩ : ByteArray).size = s.length := by simp [ByteArray.size]
  have hmb : s.length * 1 ≤ s.length * P.bytesOf e := Nat.mul_le_mul_left _ hb0
  have hmx : s.length ≤ maxLen := by simp only [maxLen]; omega
  have hpos : 0 < s.length := List.length_pos_iff.2 h0
  obtain ⟨cap', hrun, hge, hle⟩ : ∃ cap', (Builtin.append_ #[t, t'] o.type #[a.eval x, a.eval y]).run P w = .ok (.slice (some ⟨w.heap.size, 0, none⟩) s.length cap')
      (w.drew.alloc (.cells ((Lib.strCells ⟨s.toArray⟩).toArray ++ Builtin.zeroCells zv.cells (cap' - s.length)) e)) ∧ s.length ≤ cap' ∧ cap' ≤ maxLen := by
    refine ⟨grownCap w s.length 0 e, ?_, grownCap_ge _ _ _ _, grownCap_le_maxLen _ _ _ _ hmx⟩
    rw [hxv, hyv]
    have hr := run_append_nil_string (P := P) w t t' o.type e i zv hu hu' hi hiz ⟨s.toArray⟩ (by rw [hss]; omega) (by rw [hss]; omega) (by rw [hss, hib]; omega)
    have e1 : ((⟨s.toArray⟩ : ByteArray).data.map fun b => Value.int .u8 b.toNat) = (Lib.strCells ⟨s.toArray⟩).toArray := by
      apply Array.ext'
      simp [Lib.strCells]
    rw [hss] at hr
    rw [← e1]
    exact hr
  generalize hw' : w.drew.alloc (.cells ((Lib.strCells ⟨s.toArray⟩).toArray ++ Builtin.zeroCells zv.cells (cap' - s.length)) e) = w' at hrun
  obtain ⟨hs', hL⟩ := hsr.hs.declare (p := st.top) (row := .sl st.nx e 1 s.length (byteC s)) rfl
  have hs'' : HS c (updR st.hp st.top (.sl st.nx e 1 s.length (byteC s))) (st.nx + 1) η w.drew := hs'.world (Fr.refl _ _).drew
  have hrow : updR st.hp st.top (.sl st.nx e 1 s.length (byteC s)) st.top = .sl st.nx e 1 s.length (byteC s) := updR_at ..
  have hlay := hs''.lay (p := st.top) (ver := st.nx) (cap := cap') (by rw [hrow]; rfl) (hsr.hs.fresh _ (Nat.le_refl _)) hsr.hs.env.2.1 (.cells ((Lib.strCells ⟨s.toArray⟩).toArray ++ Builtin.zeroCells zv.cells (cap' - s.length)) e) (by
    rw [hrow]
    intro g cap he
    rw [layAt_at] at he
    simp only [Option.some.injEq, Prod.mk.injEq] at he
    obtain ⟨rfl, rfl⟩ := he
    refine ⟨_, heap_alloc_new w.drew _, ?_, hge, hle, fun i hi j hj => ?_⟩
    · simp only [Array.size_append, List.size_toArray, size_zeroCells, hzc, hzl, hnl]
      omega
    · obtain ⟨u, hu1, hu2, hu3⟩ := strCells_at (η := layAt η st.nx (some w.drew.heap.size, cap')) (L := Lset c (layAt η st.nx (some w.drew.heap.size, cap')) (updR st.hp st.top (.sl st.nx e 1 s.length (byteC s)))) s i hi j hj
      refine ⟨u, ?_, hu2, ?_⟩
      · rw [Array.getElem?_append_left (by simp only [List.size_toArray, hnl]; omega), List.getElem?_toArray]
        exact hu1
      · exact hu3)
  rw [hw'] at hlay
  have hexec : (execOp a.eval o).run P w = .ok (.value (.slice (some ⟨w.heap.size, 0, none⟩) s.length cap')) w' := by
    unfold execOp
    rw [ho]
    simp [resolve, invoke, builtin, hrun]
  unfold Oper.wp
  rw [hexec]
  have hrep : Rep w' (layAt η st.nx (some w.drew.heap.size, cap')) (Lset c (layAt η st.nx (some w.drew.heap.size, cap')) (updR st.hp st.top (.sl st.nx e 1 s.length (byteC s)))) (.ow st.top st.nx s.length) (.slice (some ⟨w.heap.size, 0, none⟩) s.length cap') :=
    ⟨some w.drew.heap.size, cap', layAt_at _ _ _, rfl, hge⟩
  refine hnext _ _ _ _ (hsr.put hd hlay.1 (fun p hp => ?_) (fun x u hx => hlay.2.rep (Rep.keep (Fr.refl (fun _ => False) w).drew (fun _ _ h => h.elim) (fun b _ hb => hL b hb) _ _ _ _ (Env.le_refl _) hx)) hrep) hK
  rw [updR_ne _ _ (by omega)]
  exact hsr.dead p (by omega)
theorem appN0_wp {t t' e : TypeId} {x y : Operand} (ho : o.op = .call ⟨.builtin .append, ⟨[x, y]⟩, ⟨[t, t']⟩⟩) (hu : P.underlying t = some (.slice e)) (hu' : P.underlying t' = some .string) {k : Nat} (hk : P.cellsOf e = k) (h0 : 0 < k)
    (hxe : st.ev x = .val (.slice none 0 0)) (hye : st.ev y = .st []) (hd : dstOK st.sz o.dst)
    (hK : K ⟨updO st.fr o.dst (.val (.slice none 0 0)), st.hp, st.sz, st.top, st.nx, st.df⟩) : OpW P o st K := by
  refine pure_wp hd (fun c η a w hsr => ?_) hK
  have hev : ∀ x, Rep w η (Lset c η st.hp) (st.ev x) (a.eval x) := rep_ev hsr.slots
  have hxv : a.eval x = .slice none 0 0 := by
    have hx := hev x
    rw [hxe] at hx
    exact hx
  have hyv : a.eval y = .string ⟨#[]⟩ := by
    have hy := hev y
    rw [hye] at hy
    exact hy
  refine ⟨.slice none 0 0, ?_, rfl⟩
  have hr := run_append_empty (P := P) (w := w) (ty := o.type) hu hu' hk h0 (a := none) (n := 0) (cap := 0) (Nat.le_refl _)
  unfold execOp
  rw [ho]
  simp [resolve, invoke, builtin, hxv, hyv, hr]
end
end Go.Proofs.Ytnhfobhdbablaaa
set_option linter.unusedSimpArgs false
set_option linter.unusedVariables false
set_option maxRecDepth 100000
set_option maxHeartbeats 2000000
namespace Go.Proofs.Ytnhfobhdbablaaa
open Go
attribute [local irreducible] AW AVle ASle RowLe
def bldX (f : Bool) (p v q u : Nat) (l : List UInt8) : Nat → AV := bldG f p v (if l = [] then .val (.slice none 0 0) else .ow q u l.length)
def rowX (u : Nat) (l : List UInt8) : Row := if l = [] then .dead else rowB u l
theorem bldX_nil (f : Bool) (p v q u : Nat) : bldX f p v q u [] = bldG f p v (.val (.slice none 0 0)) := rfl
theorem bldX_ne {f : Bool} {p v q u : Nat} {l : List UInt8} (h : ¬ l = []) : bldX f p v q u l = bldG f p v (.ow q u l.length) := by
  unfold bldX
  rw [if_neg h]
theorem rowX_nil (u : Nat) : rowX u [] = .dead := rfl
theorem rowX_ne {u : Nat} {l : List UInt8} (h : ¬ l = []) : rowX u l = rowB u l := if_neg h
theorem bldG_le {f : Bool} {p v p' : Nat} {x y : AV} (h : AVle x y) : RowLe (.box v 125 2 (bldG f p v x)) (.box v 125 2 (bldG f p' v y)) := RowLe.box fun j hj => by
  match j, hj with
  | 0, _ =>
    cases f with
    | true => exact AVle.pt
    | false => exact AVle.refl _
  | 1, _ => exact h
theorem bldX_le (f : Bool) (p q p' q' v u : Nat) (l : List UInt8) : RowLe (.box v 125 2 (bldX f p v q u l)) (.box v 125 2 (bldX f p' v q' u l)) := bldG_le (by
  split
  · exact AVle.refl _
  · exact AVle.ow)
theorem cellsAV_nil : cellsAV (.val (.slice none 0 0)) = some (1, fun _ => .val (.slice none 0 0)) := rfl
def sWriteX0 : MSpec := fun args hp top nx K => ∃ (f : Bool) (v u : Nat) (l s : List UInt8), args = [.pt 0 v 0, .st s] ∧ hp = rws [(0, .box v 125 2 (bldX f 0 v 1 u l)), (1, rowX u l)] ∧ top = 2 ∧ l.length + s.length ≤ 100000000000 ∧
  ∀ u' nx', ((l ≠ [] ∧ u' = u) ∨ nx ≤ u') → nx ≤ nx' → K (tu2 (.val (.int .i64 s.length)) (.val .nilIface)) (rws [(0, .box v 125 2 (bldX true 0 v 1 u' (l ++ s))), (1, rowX u' (l ++ s))]) 2 nx'
theorem okWriteX0 : MethOK Try.prog 82 sWriteX0 := by
  refine MethOK.mk Try.func82 rfl (by decide) Try.results82 Try.ntmps82 ?_
  rintro args hp top nx K ⟨f, v, u, l, s, rfl, rfl, rfl, hl, hK⟩
  have hΓ : GOK Try.prog (gam [(92, sCheckG)]) := (.cons okCheckG .nil)
  refine ⟨Nat.le_of_ble_eq_true rfl, AW.late ?_⟩
  refine AW.of hΓ mixed [1] _ _ _ rfl ?_
  simp only [go_sem, sCheckG]
  refine ⟨f, 0, v, _, rfl, rfl, ?_⟩
  by_cases hl0 : l = []
  · subst hl0
    refine AW.cut ⟨[(0, .pt 0 v 0), (1, .st s)], [(0, .box v 125 2 (bldG true 0 v (.val (.slice none 0 0))))], 19, 2, nx, []⟩ ?_ ?_
    · simp only [go_sem, sCheckG]
      exact RowLe.refl _
    refine AW.fork (AW.regionO hΓ [false, false, false, false, false, false, true] ?_)
    simp only [go_sem, sCheckG, bldG1]
    by_cases hs0 : s = []
    · subst hs0
      refine appN0_wp rfl Try.underlying123 Try.underlying9 cells5 (by decide) rfl rfl (Nat.lt_of_lt_of_le (by decide : 14 < 19) (Nat.le_refl _)) ?_
      simp only [go_sem, sCheckG, bldG1, cellsAV_nil]
      refine AW.of hΓ mixed [] _ _ _ rfl ?_
      simp only [go_sem, sCheckG]
      refine ⟨_, toFitsV (fun p => p) (l := [(4, .val (.int .i64 0)), (5, .val .nilIface)]) (r := [(0, .box v 125 2 (bldX true 0 v 1 nx [])), (1, rowX nx [])]) (sz := 19) (top := 2) (nx := nx + 1) (df := []) ?_, ?_⟩
      · simp only [go_sem, sCheckG]
        refine ⟨Nat.le_succ _, AVle.refl _, RowLe.box fun j hj => ?_, RowLe.refl _⟩
        match j, hj with
        | 0, _ => exact AVle.refl _
        | 1, _ => exact AVle.refl _
      · exact ⟨rfl, ⟨trivial, trivial⟩, hK nx (nx + 1) (.inr (Nat.le_refl _)) (by omega)⟩
    · refine appN_wp rfl Try.underlying123 Try.underlying9 rfl rfl hs0 (Nat.lt_of_lt_of_le (by decide : 14 < 19) (Nat.le_refl _)) ⟨cells5, by decide, by rw [bytes5]; decide, by rw [bytes5]; omega, _, zero5, rfl⟩ ?_
      simp only [go_sem, sCheckG, bldG1]
      refine AW.of hΓ mixed [] _ _ _ rfl ?_
      simp only [go_sem, sCheckG]
      refine ⟨_, toFitsV (fun p => if p = 1 then 2 else p) (l := [(4, .val (.int .i64 s.length)), (5, .val .nilIface)]) (r := [(0, .box v 125 2 (bldX true 0 v 1 nx s)), (1, rowX nx s)]) (sz := 19) (top := 2) (nx := nx + 1) (df := []) ?_, ?_⟩
      · rw [bldX_ne hs0, rowX_ne hs0]
        simp only [go_sem, sCheckG]
        refine ⟨AVle.refl _, RowLe.box fun j hj => ?_, RowLe.refl _⟩
        match j, hj with
        | 0, _ => exact AVle.refl _
        | 1, _ => exact AVle.ow
      · exact ⟨rfl, ⟨trivial, trivial⟩, hK nx (nx + 1) (.inr (Nat.le_refl _)) (by omega)⟩
  · have hls : ¬ l ++ s = [] := fun h => hl0 (List.append_eq_nil_iff.1 h).1
    refine AW.cut ⟨[(0, .pt 0 v 0), (1, .st s)], [(0, .box v 125 2 (bldG true 0 v (.ow 1 u l.length))), (1, rowB u l)], 19, 2, nx, []⟩ ?_ ?_
    · rw [rowX_ne hl0]
      simp only [go_sem, sCheckG, hl0]
      exact ⟨RowLe.refl _, RowLe.refl _⟩
    refine AW.fork (AW.regionO hΓ [false, false, false, false, false, false, true] ?_)
    simp only [go_sem, sCheckG, bldG1]
    refine appS_wp rfl Try.underlying123 Try.underlying9 rfl rfl rfl (Nat.lt_of_lt_of_le (by decide : 14 < 19) (Nat.le_refl _)) ⟨cells5, by decide, by rw [bytes5]; decide, by rw [bytes5]; omega, _, zero5, rfl⟩ ?_
    simp only [go_sem, sCheckG, bldG1]
    refine AW.of hΓ mixed [] _ _ _ rfl ?_
    simp only [go_sem, sCheckG]
    refine ⟨_, toFitsV (fun p => p) (l := [(4, .val (.int .i64 s.length)), (5, .val .nilIface)]) (r := [(0, .box v 125 2 (bldX true 0 v 1 nx (l ++ s))), (1, rowX nx (l ++ s))]) (sz := 19) (top := 2) (nx := nx + 1) (df := []) ?_, ?_⟩
    · rw [bldX_ne hls, rowX_ne hls]
      simp only [go_sem, sCheckG]
      refine ⟨AVle.refl _, RowLe.box fun j hj => ?_, rowB_app rfl rfl⟩
      match j, hj with
      | 0, _ => exact AVle.refl _
      | 1, _ => exact AVle.refl _
    · exact ⟨rfl, ⟨trivial, trivial⟩, hK nx (nx + 1) (.inr (Nat.le_refl _)) (by omega)⟩
def sWriteX : MSpec := framed sWriteX0
theorem okWriteX : MethOK Try.prog 82 sWriteX := okWriteX0.frame
theorem writeX_go {f : Bool} {p q v u : Nat} {l s : List UInt8} {hp : Nat → Row} {top nx : Nat} {K : AV → (Nat → Row) → Nat → Nat → Prop} (hpq : p ≠ q)
    (hr : RowLe (hp p) (.box v 125 2 (bldX f p v q u l))) (hr2 : RowLe (hp q) (rowX u l)) (ht : p < top ∧ q < top) (hl : l.length + s.length ≤ 100000000000)
    (hK : ∀ u' nx', ((l ≠ [] ∧ u' = u) ∨ nx ≤ u') → nx ≤ nx' → K (tu2 (.val (.int .i64 s.length)) (.val .nilIface)) (updR (updR hp p (.box v 125 2 (bldX true p v q u' (l ++ s)))) q (rowX u' (l ++ s))) top nx') :
    sWriteX [.pt p v 0, .st s] hp top nx K := by
  have e1 : (hp p).ver = some v := hr.vers.symm
  have e2 : (hp q).ver = (rowX u l).ver := hr2.vers.symm
  refine ⟨[p, q], [.pt 0 v 0, .st s], rws [(0, .box v 125 2 (bldX f 0 v 1 u l)), (1, rowX u l)], by simp [hpq], by simp; omega, .cons AVle.pt (.cons (AVle.refl _) .nil), rows_2 (hr.trans (bldX_le f p q 0 1 v u l)) hr2, fun i hi => rws_top (top := 2) (by simp) i (by simpa using hi), f, v, u, l, s, rfl, rfl, rfl, hl, fun u' nx' h1 h3 => ?_⟩
  refine ⟨_, _, AVle.refl _, fun i o ho => ?_, fun o ho => ?_, fun o ho w hv => ?_, hK u' nx' h1 h3⟩
  · match i with
    | 0 =>
      simp only [List.getElem?_cons_zero, Option.some.injEq] at ho
      subst ho
      rw [updR_ne _ _ hpq, updR_at]
      exact bldX_le true 0 1 p q v u' _
    | 1 =>
      simp only [List.getElem?_cons_succ, List.getElem?_cons_zero, Option.some.injEq] at ho
      subst ho
      rw [updR_at]
      exact RowLe.refl _
    | i + 2 => simp at ho
  · simp only [List.mem_cons, List.not_mem_nil, or_false, not_or] at ho
    rw [updR_ne _ _ ho.2, updR_ne _ _ ho.1]
  · simp only [List.mem_cons, List.not_mem_nil, or_false] at ho
    rcases ho with rfl | rfl
    · rw [updR_ne _ _ hpq, updR_at] at hv
      have : some v = some w := hv
      obtain rfl := Option.some.inj this
      exact .inl e1
    · rw [updR_at] at hv
      by_cases h0 : l ++ s = []
      · rw [h0, rowX_nil] at hv
        cases hv
      · rw [rowX_ne h0] at hv
        have : some u' = some w := hv
        obtain rfl := Option.some.inj this
        rcases h1 with ⟨h1, rfl⟩ | h1
        · rw [e2, rowX_ne h1]
          exact .inl rfl
        · exact .inr h1
def sStrX : MSpec := fun args hp top nx K => ∃ (f : Bool) (p v q u : Nat) (l : List UInt8), args = [.pt p v 0] ∧ hp p = .box v 125 2 (bldX f p v q u l) ∧ hp q = rowX u l ∧ l.length ≤ 100000000000 ∧ K (.st l) (updR hp q .dead) top nx
theorem okStrX : MethOK Try.prog 83 sStrX := by
  refine ⟨enters Try.func83 rfl (by decide), ?_⟩
  rintro args hp top nx K ⟨f, p, v, q, u, l, rfl, hrow, hrow2, hlen, hK⟩ c η w vs hs hdead hargs
  by_cases h0 : l = []
  · subst h0
    rw [bldX_nil] at hrow
    rw [rowX_nil] at hrow2
    have e : updR hp q .dead = hp := by
      funext k
      unfold updR
      split
      · rename_i h; rw [h, hrow2]
      · rfl
    rw [e] at hK
    cases hargs with
    | cons hx hr => cases hr with
      | nil =>
        obtain ⟨b, cap, hη, rfl⟩ := hx
        have hr := hs.rows p
        rw [hrow] at hr
        obtain ⟨b', cur, hb, hh, hsz, hc⟩ := hr _ _ hη
        obtain rfl : b = b' := by simpa using hb
        obtain ⟨x0, hx0, _, _⟩ := hc 0 (by decide)
        obtain ⟨x1, hx1, _, hr1⟩ := hc 1 (by decide)
        have hr1 : x1 = .slice none 0 0 := hr1
        subst hr1
        have hcur : cur = #[x0, .slice none 0 0] := by
          apply Array.ext
          · simp [hsz]
          · intro i h1 h2
            match i, h2 with
            | 0, _ => rw [Array.getElem?_eq_getElem h1] at hx0; exact Option.some.inj hx0
            | 1, _ => rw [Array.getElem?_eq_getElem h1] at hx1; exact Option.some.inj hx1
        refine (str_none b x0 w (by rw [hh, hcur])).mono ?_
        rintro e w' ⟨rfl, hf⟩
        exact ⟨_, _, _, _, _, η, rfl, hK, hs.world hf, hdead, rfl⟩
  · rw [bldX_ne h0] at hrow
    rw [rowX_ne h0] at hrow2
    exact (okStr.2 [.pt p v 0] hp top nx K (.inl ⟨f, p, v, q, u, l, rfl, hrow, hrow2, h0, hlen, hK⟩) c η w vs hs hdead hargs)
end Go.Proofs.Ytnhfobhdbablaaa
set_option linter.unusedSimpArgs false
set_option linter.unusedVariables false
set_option maxRecDepth 100000
set_option maxHeartbeats 2000000
namespace Go.Proofs.Ytnhfobhdbablaaa
open Go
attribute [local irreducible] AW AVle ASle RowLe
def widP (p : Pt) : Nat := p.2.2.2.2.1.length + (p.2.2.2.2.2.1.length + p.2.2.2.2.2.2.1.length + p.2.2.2.2.2.2.2.1.length)
def widD (d : List Pt) : Nat := (d.map widP).sum
theorem wid_drop {d : List Pt} {i : Nat} (h : i < d.length) : widD (d.drop i) = widP (d.getD i ePt.dflt) + widD (d.drop (i + 1)) := by
  rw [List.drop_eq_getElem_cons h, gd_lt d ePt.dflt h]
  unfold widD
  rw [List.map_cons, List.sum_cons]
theorem confl_drop {d : List Pt} {i : Nat} (h : i < d.length) : conflD (d.drop i) = (if hkP (d.getD i ePt.dflt) = true then 1 else 0) + conflD (d.drop (i + 1)) := by
  rw [List.drop_eq_getElem_cons h, gd_lt d ePt.dflt h, confl_cons]
theorem text_drop {d : List Pt} {i : Nat} (h : i < d.length) (ss : List Int) (acc : BS) : textV (d.drop i) ss acc = if hkP (d.getD i ePt.dflt) = true then (if (ofS (d.getD i ePt.dflt) (ss.getD 0 0)).2 ≠ 0 then ([], (ofS (d.getD i ePt.dflt) (ss.getD 0 0)).2) else textV (d.drop (i + 1)) ss.tail (acc ++ (ofS (d.getD i ePt.dflt) (ss.getD 0 0)).1)) else textV (d.drop (i + 1)) ss (acc ++ (d.getD i ePt.dflt).2.2.2.2.1) := by
  rw [List.drop_eq_getElem_cons h, gd_lt d ePt.dflt h, textV]
theorem vw_tail (rs : List Int) : AVle (.sn (rs.length - 1) 1 fun i => eI.enc (rs.getD (1 + i) 0)) (sL eI rs.tail) := by
  have e : (fun i => eI.enc (rs.getD (1 + i) 0)) = fun i => eI.enc (rs.tail.getD i 0) := by
    funext i
    simp [List.getD, Nat.add_comm]
  rw [e]
  exact vw_all (E := eI) rfl rfl (by simp)
def sTextR : Spec := Spec.f2 (kL ePt) (kL eI) (fun d ss => d.length < 100000000 ∧ conflD d ≤ ss.length ∧ ss.length < 1000000000 ∧ widD d ≤ 90000000000) (fun d ss => tu2 (kS.enc (textV d ss []).1) (kI.enc (textV d ss []).2))
theorem okTextR : SpecOK Try.prog 58 sTextR := by
  refine SpecOK.f2 Try.func58 rfl (by decide) Try.results58 Try.ntmps58 (by decide) fun d ss ⟨hl, hc, hss, hw⟩ => ?_
  have hΓ : GOK Try.prog (gam [(65, sOfS), (82, sWriteX), (83, sStrX)]) := (.cons okOfS (.cons okWriteX (.cons okStrX .nil)))
  refine AW.of hΓ mixed [0] _ _ _ rfl ?_
  simp only [go_sem, sOfS, sWriteX, sStrX]
  refine AW.fork (AW.regionO hΓ [true] ?_)
  simp only [go_sem, sOfS, sWriteX, sStrX]
  refine alloc_wp rfl zero125 (Nat.lt_of_lt_of_le (by decide : 6 < 38) (Nat.le_refl _)) ?_
  simp only [go_sem, sOfS, sWriteX, sStrX]
  refine AW.cut ⟨[(0, sL ePt d), (1, sL eI ss), (6, .pt 0 0 0)], [(0, .box 0 125 2 (bldX false 0 0 1 0 [])), (1, rowX 0 [])], 38, 2, 1, []⟩ ?_ ?_
  · simp only [go_sem, sOfS, sWriteX, sStrX]
    refine ⟨RowLe.box fun j hj => ?_, RowLe.refl _⟩
    match j, hj with
    | 0, _ => exact AVle.refl _
    | 1, _ => exact AVle.refl _
  refine AW.of hΓ mixed [] _ _ _ rfl ?_
  simp only [go_sem, sOfS, sWriteX, sStrX]
  refine AW.round (α := { x : Nat × List Int × BS × Bool × Nat × Nat // x.1 ≤ d.length ∧ textV d ss [] = textV (d.drop x.1) x.2.1 x.2.2.1 ∧ x.2.2.1.length + widD (d.drop x.1) ≤ widD d ∧ conflD (d.drop x.1) ≤ x.2.1.length ∧ x.2.1.length ≤ ss.length })
    (fun x => ⟨[(1, sL eI x.1.2.1), (6, .pt 0 0 0), (11, sL ePt d), (12, .val (.int .i64 d.length)), (13, .val (.int .i64 x.1.1))],
      [(0, .box 0 125 2 (bldX x.1.2.2.2.1 0 0 1 x.1.2.2.2.2.1 x.1.2.2.1)), (1, rowX x.1.2.2.2.2.1 x.1.2.2.1)], 38, 2, x.1.2.2.2.2.2, []⟩) (fun x => d.length - x.1.1) ⟨(0, ss, [], false, 0, 1), Nat.zero_le _, rfl, by simp, hc, Nat.le_refl _⟩ ?_ ?_
  · simp only [go_sem, sOfS, sWriteX, sStrX]
    exact ⟨RowLe.refl _, RowLe.refl _⟩
  · rintro ⟨⟨i, rs, acc, f, u, nx⟩, hi, he, ha, hc1, hc2⟩
    simp only at hi he ha hc1 hc2
    refine AW.of hΓ mixed [4, 99999] _ _ _ rfl ?_
    simp only [go_sem, sOfS, sWriteX, sStrX]
    refine ⟨fun hlt => ⟨by omega, ?_⟩, fun hge => ?_⟩
    · have hlt' : i < d.length := by omega
      rw [text_drop hlt'] at he
      rw [wid_drop hlt'] at ha
      rw [confl_drop hlt'] at hc1
      generalize hpe : d.getD i ePt.dflt = p at *
      refine AW.cut ⟨[(1, sL eI rs), (6, .pt 0 0 0), (8, .pt 2 nx 0), (11, sL ePt d), (12, .val (.int .i64 d.length)), (13, .val (.int .i64 i))],
        [(0, .box 0 125 2 (bldX f 0 0 1 u acc)), (1, rowX u acc), (2, .box nx 62 9 (ePt.enc p))], 38, 3, nx + 1, []⟩ ?_ ?_
      · simp only [go_sem, sOfS, sWriteX, sStrX]
        exact ⟨RowLe.refl _, RowLe.refl _, RowLe.box fun j hj => AVle.of_eq (stC_in (Nat.zero_le _) (by omega))⟩
      refine AW.still 8 2 nx 62 9 _ rfl rfl (fun j hj => match j, hj with | 0, _ => rfl | 1, _ => rfl | 2, _ => rfl | 3, _ => rfl | 4, _ => rfl | 5, _ => rfl | 6, _ => rfl | 7, _ => rfl | 8, _ => rfl) ?_
      have hwp := ofS_len p (rs.getD 0 0)
      unfold widP at ha
      obtain ⟨ll, bl, rl, h, tx, l, b, r, hb⟩ := p
      dsimp only at ha hwp
      cases h with
      | true =>
        rw [if_pos rfl] at he hc1
        generalize ho : ofS (ll, bl, rl, true, tx, l, b, r, hb) (rs.getD 0 0) = o at *
        obtain ⟨t, e⟩ := o
        dsimp only at he hwp
        by_cases hz : e = 0
        · subst hz
          rw [if_neg (by simp)] at he
          refine AW.of hΓ mixed [99999] _ _ _ rfl ?_
          simp only [go_sem, sOfS, sWriteX, sStrX, ho]
          refine ⟨by omega, ⟨by omega, by omega⟩, ?_⟩
          refine writeX_go (by decide) (RowLe.refl _) (RowLe.refl _) (by decide) (by omega) fun u1 n1 g1 h1 => ?_
          simp only [go_sem, sOfS, sWriteX, sStrX]
          exact ⟨by omega, ⟨(i + 1, rs.tail, acc ++ t, true, u1, n1), by dsimp only; omega, he, by dsimp only; rw [List.length_append]; omega, by dsimp only; rw [List.length_tail]; omega, by dsimp only; rw [List.length_tail]; omega⟩, ⟨Nat.le_refl _, ⟨vw_tail rs, by dsimp only; omega⟩, RowLe.refl _, RowLe.refl _⟩, by dsimp only; omega⟩
        · rw [if_pos hz] at he
          refine AW.of hΓ mixed [99999] _ _ _ rfl ?_
          simp only [go_sem, sOfS, sWriteX, sStrX, ho, hz]
          rw [he]
          exact ⟨by omega, rfl, rfl⟩
      | false =>
        rw [if_neg (by simp [hkP])] at he hc1
        refine AW.of hΓ mixed [99999] _ _ _ rfl ?_
        simp only [go_sem, sOfS, sWriteX, sStrX]
        refine writeX_go (by decide) (RowLe.refl _) (RowLe.refl _) (by decide) (by omega) fun u1 n1 g1 h1 => ?_
        simp only [go_sem, sOfS, sWriteX, sStrX]
        exact ⟨by omega, ⟨(i + 1, rs, acc ++ tx, true, u1, n1), by dsimp only; omega, he, by dsimp only; rw [List.length_append]; omega, by dsimp only; omega, hc2⟩, ⟨Nat.le_refl _, ⟨AVle.refl _, by dsimp only; omega⟩, RowLe.refl _, RowLe.refl _⟩, by dsimp only; omega⟩
    · obtain rfl : i = d.length := by omega
      rw [List.drop_length] at he ha
      rw [he]
      exact ⟨f, 0, 0, 1, u, acc, rfl, rfl, rfl, by omega, rfl, rfl⟩
end Go.Proofs.Ytnhfobhdbablaaa
set_option linter.unusedSimpArgs false
set_option linter.unusedVariables false
set_option maxRecDepth 100000
set_option maxHeartbeats 2000000
namespace Go.Proofs.Ytnhfobhdbablaaa
open Go
attribute [local irreducible] AW AVle ASle RowLe
def sRefPlain1 : Spec := Spec.f1 kS (fun l => l.length ≤ 100000000000) (fun l => kB.enc (plainB l))
theorem okRefPlain1 : SpecOK Try.prog 78 sRefPlain1 := by
  refine SpecOK.f1 Try.func78 rfl (by decide) Try.results78 Try.ntmps78 (by decide) fun l hl => ?_
  have hΓ : GOK Try.prog (gam []) := GOK.nil
  refine AW.of hΓ mixed [] _ _ _ rfl ?_
  simp only [go_sem]
  refine AW.round (α := { x : Nat × Nat × Nat // x.1 ≤ l.length ∧ ∀ k, k < x.1 → l.getD k 0 ≠ 10 }) (fun x => ⟨[(0, .st l), (3, .val (.int .i64 x.1.1))], [], 14, x.1.2.2, x.1.2.1, []⟩) (fun x => l.length - x.1.1) ⟨(0, 0, 0), Nat.zero_le _, fun k hk => absurd hk (Nat.not_lt_zero _)⟩ ?_ ?_
  · simp only [go_sem]
  · rintro ⟨⟨i, nx, tp⟩, hi, hk⟩
    simp only at hi hk
    refine AW.of hΓ mixed [99999] _ _ _ rfl ?_
    simp only [go_sem]
    refine ⟨fun hlt => ⟨by omega, fun h10 => ?_, fun hn => ⟨by omega, ⟨(i + 1, nx, tp), by dsimp only; omega, fun k hk' => ?_⟩, ⟨Nat.le_refl _, by dsimp only; omega⟩, by dsimp only; omega⟩⟩, fun hge => ?_⟩
    · refine (decide_eq_false fun hh => hh ?_).symm
      rw [← h10, gd_lt l _ (by omega)]
      exact List.getElem_mem _
    · dsimp only at hk'
      rcases Nat.lt_or_ge k i with h' | h'
      · exact hk k h'
      · obtain rfl : k = i := by omega
        exact hn
    · have hno : ¬ (10 : UInt8) ∈ l := fun hm => ?_
      · unfold plainB
        rw [decide_eq_true hno]
      obtain ⟨k, hk1, hk2⟩ := List.getElem_of_mem hm
      exact hk k (by omega) (by rw [gd_lt l _ hk1]; exact hk2)
def sRefPlain : Spec := Spec.f1 (kA ePt) (fun p => p.1.length ≤ 100000000 ∧ p.2.1.length ≤ 100000000 ∧ p.2.2.1.length ≤ 100000000) (fun p => kB.enc (plainD p))
theorem okRefPlain : SpecOK Try.prog 48 sRefPlain := by
  refine SpecOK.f1 Try.func48 rfl (by decide) Try.results48 Try.ntmps48 (by decide) fun p ⟨h1, h2, h3⟩ => ?_
  have hΓ : GOK Try.prog (gam [(78, sRefPlain1)]) := (.cons okRefPlain1 .nil)
  obtain ⟨ll, bl, rl, h, t, l, b, r, hb⟩ := p
  simp only at h1 h2 h3
  refine AW.of hΓ mixed [] _ _ _ rfl ?_
  simp only [go_sem, sRefPlain1]
  refine ⟨by omega, fun _ => by omega, fun _ => by omega, ?_⟩
  unfold plainD
  rw [Bool.and_assoc]
def oneR (p : Pt) : Bool := if hkP p = true then decide (p.2.2.2.2.1 = []) && (p.2.2.2.2.2.2.2.2 || (decide (p.2.2.2.2.2.2.1 = []) && decide (p.2.1 = []))) else isTextD p
def okRef (l : List Pt) (i : Nat) : Bool := (oneR (l.getD i ePt.dflt) && plainD (l.getD i ePt.dflt)) && (hkP (l.getD i ePt.dflt) || !(decide (txP (l.getD i ePt.dflt) = []) || (decide (0 < i) && !hkP (l.getD (i - 1) ePt.dflt)) || (decide (i + 1 < l.length) && !endsL (txP (l.getD i ePt.dflt)))))
theorem okAt_ref (l : List Pt) (i : Nat) : okAt l i = okRef l i := by
  unfold okAt okRef
  generalize l.getD i ePt.dflt = p
  generalize hkP (l.getD (i - 1) ePt.dflt) = q
  obtain ⟨ll, bl, rl, h, t, lf, b, r, hb⟩ := p
  have e0 : (decide (0 < i)) = !(decide (i = 0)) := by
    by_cases c : i = 0
    · simp [c]
    · simp [c]; omega
  rw [e0]
  generalize decide (i = 0) = z
  generalize decide (i + 1 < l.length) = an
  cases h with
  | true =>
    have e1 : aheadD (ll, bl, rl, true, t, lf, b, r, hb) an = false := by
      unfold aheadD
      rw [show isTextD (ll, bl, rl, true, t, lf, b, r, hb) = false by
        cases c : isTextD (ll, bl, rl, true, t, lf, b, r, hb) with
        | false => rfl
        | true => have := (isText_iff ll bl rl true t lf b r hb).1 c; simp at this]
      rfl
    have e2 : oneR (ll, bl, rl, true, t, lf, b, r, hb) = (decide (t = []) && (hb || (decide (b = []) && decide (bl = [])))) := rfl
    have e3 : confD (ll, bl, rl, true, t, lf, b, r, hb) = (decide (t = []) && ((hb || (decide (b = []) && decide (bl = []))) && plainD (ll, bl, rl, true, t, lf, b, r, hb))) := rfl
    rw [e1, e2, e3]
    simp [hkP, Bool.and_assoc]
  | false =>
    have e3 : confD (ll, bl, rl, false, t, lf, b, r, hb) = false := rfl
    have e2 : oneR (ll, bl, rl, false, t, lf, b, r, hb) = isTextD (ll, bl, rl, false, t, lf, b, r, hb) := rfl
    rw [e2, e3]
    unfold aheadD
    simp only [hkP, txP]
    cases c : isTextD (ll, bl, rl, false, t, lf, b, r, hb) with
    | false => simp
    | true =>
      obtain ⟨rfl, rfl, rfl, _⟩ := (isText_iff ll bl rl false t lf b r hb).1 c
      have e4 : plainD ([], [], [], false, t, lf, b, r, hb) = true := rfl
      rw [e4]
      by_cases ht : t = []
      · simp [ht]
      · generalize endsL t = e
        simp only [ht]
        cases z <;> cases q <;> cases an <;> cases e <;> simp [ht]
theorem right_ref (l : List Pt) : rightD l = decide (∀ i, i < l.length → okRef l i = true) := by
  unfold rightD
  simp only [okAt_ref]
def sRefOne : Spec := Spec.f1 (kA ePt) (fun _ => True) (fun p => kB.enc (oneR p))
theorem okRefOne : SpecOK Try.prog 85 sRefOne := by
  refine SpecOK.f1 Try.func85 rfl (by decide) Try.results85 Try.ntmps85 (by decide) fun p _ => ?_
  have hΓ : GOK Try.prog (gam []) := GOK.nil
  obtain ⟨ll, bl, rl, h, t, lf, b, r, hb⟩ := p
  cases h with
  | true =>
    have e2 : oneR (ll, bl, rl, true, t, lf, b, r, hb) = (decide (t = []) && (hb || (decide (b = []) && decide (bl = [])))) := rfl
    rw [e2]
    refine AW.of hΓ mixed [] _ _ _ rfl ?_
    simp only [go_sem]
    exact ⟨fun ⟨h1, h2⟩ h3 => by rw [decide_eq_true h1, h2, h3]; rfl, fun h1 h2 => by rw [decide_eq_true h1, h2]; rfl⟩
  | false =>
    have e2 : oneR (ll, bl, rl, false, t, lf, b, r, hb) = isTextD (ll, bl, rl, false, t, lf, b, r, hb) := rfl
    rw [e2]
    refine AW.of hΓ mixed [] _ _ _ rfl ?_
    simp only [go_sem]
    rw [Bool.eq_iff_iff, isText_iff]
    simp only [Bool.and_eq_true, decide_eq_true_eq, true_and]
def sRefRight : Spec := Spec.f1 (kL ePt) (fun l => l.length < 100000000 ∧ ∀ p ∈ l, (p.1.length ≤ 100000000 ∧ p.2.1.length ≤ 100000000 ∧ p.2.2.1.length ≤ 100000000) ∧ (txP p).length ≤ 100000000) (fun l => kB.enc (rightD l))
theorem okRefRight : SpecOK Try.prog 60 sRefRight := by
  refine SpecOK.f1 Try.func60 rfl (by decide) Try.results60 Try.ntmps60 (by decide) fun l ⟨hl, hp⟩ => ?_
  have hΓ : GOK Try.prog (gam [(85, sRefOne), (48, sRefPlain), (68, sRefEnds)]) := (.cons okRefOne (.cons okRefPlain (.cons okRefEnds .nil)))
  rw [right_ref]
  refine AW.of hΓ mixed [] _ _ _ rfl ?_
  simp only [go_sem, sRefOne, sRefPlain, sRefEnds]
  refine AW.round (α := { x : Nat × Nat × Nat // x.1 ≤ l.length ∧ ∀ k, k < x.1 → okRef l k = true })
    (fun x => ⟨[(0, sL ePt l), (3, .val (.int .i64 x.1.1))], [], 57, 0, x.1.2.1, []⟩) (fun x => l.length - x.1.1) ⟨(0, 0, 0), Nat.zero_le _, fun k hk => absurd hk (Nat.not_lt_zero _)⟩ ?_ ?_
  · simp only [go_sem, sRefOne, sRefPlain, sRefEnds]
  · rintro ⟨⟨i, nx, tp⟩, hi, hk⟩
    simp only at hi hk
    refine AW.of hΓ mixed [4, 99999] _ _ _ rfl ?_
    simp only [go_sem, sRefOne, sRefPlain, sRefEnds]
    refine ⟨fun hlt => ⟨by omega, ?_⟩, fun hge => ?_⟩
    · have hlt' : i < l.length := by omega
      have hpi : (((l.getD i ePt.dflt).1.length ≤ 100000000 ∧ (l.getD i ePt.dflt).2.1.length ≤ 100000000 ∧ (l.getD i ePt.dflt).2.2.1.length ≤ 100000000) ∧ (txP (l.getD i ePt.dflt)).length ≤ 100000000) := by
        rw [gd_lt l _ hlt']
        exact hp _ (List.getElem_mem _)
      have hok : okRef l i = ((oneR (l.getD i ePt.dflt) && plainD (l.getD i ePt.dflt)) && (hkP (l.getD i ePt.dflt) || !(decide (txP (l.getD i ePt.dflt) = []) || (decide (0 < i) && !hkP (l.getD (i - 1) ePt.dflt)) || (decide (i + 1 < l.length) && !endsL (txP (l.getD i ePt.dflt)))))) := rfl
      have e1 : ((i : Int) - 1).toNat = i - 1 := by omega
      have e2 : ((i : Int) + 1 < (l.length : Nat)) = (i + 1 < l.length) := propext (by omega)
      have e3 : (0 < (i : Int)) = (0 < i) := propext (by omega)
      generalize hpe : l.getD i ePt.dflt = p at *
      refine AW.cut ⟨[(0, sL ePt l), (3, .val (.int .i64 i)), (4, .pt 0 nx 0)], [(0, .box nx 24 9 (ePt.enc p))], 57, 1, nx + 1, []⟩ ?_ ?_
      · simp only [go_sem, sRefOne, sRefPlain, sRefEnds]
        exact RowLe.box fun j hj => AVle.of_eq (stC_in (Nat.zero_le _) (by omega))
      refine AW.still 4 0 nx 24 9 _ rfl rfl (fun j hj => match j, hj with | 0, _ => rfl | 1, _ => rfl | 2, _ => rfl | 3, _ => rfl | 4, _ => rfl | 5, _ => rfl | 6, _ => rfl | 7, _ => rfl | 8, _ => rfl) ?_
      refine AW.of hΓ mixed [99999] _ _ _ rfl ?_
      simp only [go_sem, sRefOne, sRefPlain, sRefEnds, pt_eta, e1, e2, e3]
      have hp2 := hpi.2
      have hp1 := hpi.1
      have hok : okRef l i = ((oneR p && plainD p) && (p.2.2.2.1 || !(decide (p.2.2.2.2.1 = []) || (decide (0 < i) && !(l.getD (i - 1) ePt.dflt).2.2.2.1) || (decide (i + 1 < l.length) && !endsL p.2.2.2.2.1)))) := hok
      generalize endsL p.2.2.2.2.1 = en at *
      generalize (l.getD (i - 1) ePt.dflt).2.2.2.1 = q at *
      generalize oneR p = o at *
      generalize plainD p = pl at *
      have hp2 : p.2.2.2.2.1.length ≤ 100000000 := hp2
      generalize ht0 : decide (p.2.2.2.2.1 = []) = t0 at *
      generalize p.2.2.2.1 = h at *
      refine ⟨fun _ => hp1, fun g => by rw [g]; rfl, fun g hh => ?_, fun g => ⟨fun _ => by omega, fun g => by omega, fun ⟨g1, g2⟩ g3 => by rw [g1, g2, decide_eq_true g3]; rfl, fun g1 g2 => by rw [g1, ← ht0, decide_eq_false g2]; rfl, fun _ => by omega, fun _ => by omega, fun ⟨g1, g2⟩ g3 => by rw [g1, g2, decide_eq_true g3]; rfl, fun g1 g2 => by rw [g1, g2]; rfl, fun ⟨g1, g2⟩ hh => ?_, fun g2 => ⟨by omega, ⟨(i + 1, nx + 1, 0), by dsimp only; omega, fun k hk' => ?_⟩, ⟨Nat.le_refl _, by dsimp only; omega⟩, by dsimp only; omega⟩⟩⟩
      · have := hh i hlt'
        rw [hok] at this
        cases o <;> cases pl <;> simp_all
      · have := hh i hlt'
        rw [hok, g2] at this
        have g1 : h = false := by simpa using g1
        rw [g1] at this
        simp at this
      · dsimp only at hk'
        rcases Nat.lt_or_ge k i with h' | h'
        · exact hk k h'
        · obtain rfl : k = i := by omega
          rw [hok]
          simp only [Bool.or_eq_false_iff, Bool.not_eq_false'] at g
          rw [g.1, g.2]
          cases h with
          | true => rfl
          | false => rw [g2 rfl]; rfl
    · exact fun k hk' => hk k (by omega)
end Go.Proofs.Ytnhfobhdbablaaa
set_option linter.unusedSimpArgs false
set_option linter.unusedVariables false
set_option maxRecDepth 100000
set_option maxHeartbeats 2000000
namespace Go.Proofs.Ytnhfobhdbablaaa
open Go
attribute [local irreducible] AW AVle ASle RowLe
/-- Parts that are small enough. -/
def smallD (d : List Pt) : Prop := d.length < 100000000 ∧ (∀ p ∈ d, okPt p) ∧ widD d ≤ 90000000000
def sEachR : Spec := Spec.f2 (kL ePt) (kL eI) (fun d ss => (d.length < 100000000 ∧ (∀ p ∈ d, okPt p) ∧ widD d ≤ 90000000000) ∧ ss.length < 1000000000) (fun d ss => tu2 (kS.enc (eachR d ss).1) (kI.enc (eachR d ss).2))
theorem okEachR : SpecOK Try.prog 31 sEachR := by
  refine SpecOK.f2 Try.func31 rfl (by decide) Try.results31 Try.ntmps31 (by decide) fun d ss ⟨⟨hd, hp, hw⟩, hs⟩ => ?_
  have hΓ : GOK Try.prog (gam [(21, sRightD), (22, sConflD), (58, sTextR)]) := (.cons okRightD (.cons okConflD (.cons okTextR .nil)))
  unfold eachR
  have hcl := confl_le d
  by_cases hr : rightD d = false
  · rw [if_pos hr]
    refine AW.of hΓ mixed [] _ _ _ rfl ?_
    simp only [go_sem, sRightD, sConflD, sTextR, hr]
    exact ⟨hd, hp⟩
  have hr' : rightD d = true := by simpa using hr
  rw [if_neg hr]
  by_cases hl : ss.length ≠ conflD d
  · rw [if_pos hl]
    refine AW.of hΓ mixed [] _ _ _ rfl ?_
    simp only [go_sem, sRightD, sConflD, sTextR, hr']
    exact ⟨⟨hd, hp⟩, hd, fun h => absurd (fun e => hl (by omega)) h⟩
  · rw [if_neg hl]
    have hl : ss.length = conflD d := by simpa using hl
    refine AW.of hΓ mixed [] _ _ _ rfl ?_
    simp only [go_sem, sRightD, sConflD, sTextR, hr', hl]
    exact ⟨⟨hd, hp⟩, hd, hd, by omega, hw⟩
def sRefConfl : Spec := Spec.f1 (kL ePt) (fun l => l.length < 100000000) (fun l => kI.enc (conflD l))
theorem okRefConfl : SpecOK Try.prog 62 sRefConfl := by
  refine SpecOK.f1 Try.func62 rfl (by decide) Try.results62 Try.ntmps62 (by decide) fun l hl => ?_
  have hΓ : GOK Try.prog (gam []) := GOK.nil
  refine AW.of hΓ mixed [] _ _ _ rfl ?_
  simp only [go_sem]
  refine AW.round (α := { x : Nat × Nat × Nat // x.1 ≤ l.length })
    (fun x => ⟨[(0, sL ePt l), (3, .val (.int .i64 (conflD (l.take x.1.1)))), (4, .val (.int .i64 x.1.1))], [], 19, x.1.2.2, x.1.2.1, []⟩) (fun x => l.length - x.1.1) ⟨(0, 0, 0), Nat.zero_le _⟩ ?_ ?_
  · simp only [go_sem]
    rfl
  · rintro ⟨⟨i, nx, tp⟩, hi⟩
    simp only at hi
    refine AW.of hΓ mixed [99999] _ _ _ rfl ?_
    simp only [go_sem]
    have hc := confl_le (l.take i)
    rw [List.length_take] at hc
    refine ⟨fun hlt => ?_, fun hge => ?_⟩
    · have e := confl_snoc (l.take i) (l.getD i ePt.dflt)
      rw [← take_snoc l ePt.dflt (by omega)] at e
      refine ⟨⟨by omega, by omega⟩, fun h => ⟨by omega, by omega, ⟨(i + 1, nx, 0), by dsimp only; omega⟩, ⟨Nat.le_refl _, ?_, by dsimp only; omega⟩, by dsimp only; omega⟩, fun h => ⟨by omega, ⟨(i + 1, nx, 0), by dsimp only; omega⟩, ⟨Nat.le_refl _, ?_, by dsimp only; omega⟩, by dsimp only; omega⟩⟩
      · dsimp only
        rw [e, if_pos h]
        omega
      · dsimp only
        rw [e, if_neg (by rw [h]; exact Bool.false_ne_true)]
        omega
    · obtain rfl : i = l.length := by omega
      rw [List.take_length]
def sSides : Spec := Spec.f2 kI kI (fun _ n => n < 100000000) (fun s n => sL eI (List.replicate n.toNat s))
theorem okSides : SpecOK Try.prog 61 sSides := by
  refine SpecOK.f2 Try.func61 rfl (by decide) Try.results61 Try.ntmps61 (by decide) fun s n hn => ?_
  have hΓ : GOK Try.prog (gam []) := GOK.nil
  refine AW.of hΓ mixed [] _ _ _ rfl ?_
  simp only [go_sem]
  refine AW.adopt 5 3 1 (fun i => eI.enc (([] : List Int).getD i 0)) rfl ?_
  refine AW.round (α := { x : Nat × Nat × Nat // x.1 ≤ n.toNat })
    (fun x => ⟨[(0, .val (.int .i64 s)), (1, .val (.int .i64 n)), (5, .ow 0 x.1.2.1 x.1.1), (6, .val (.int .i64 x.1.1))], [(0, rowL x.1.2.1 3 eI (List.replicate x.1.1 s))], 17, 1, x.1.2.2, []⟩) (fun x => n.toNat - x.1.1) ⟨(0, 0, 1), Nat.zero_le _⟩ ?_ ?_
  · simp only [go_sem]
    exact RowLe.refl _
  · rintro ⟨⟨i, v, nx⟩, hi⟩
    simp only at hi
    refine AW.of hΓ mixed [99999] _ _ _ rfl ?_
    simp only [go_sem]
    refine ⟨fun hlt => ⟨by omega, by omega, ⟨(i + 1, nx, nx + 1), by dsimp only; omega⟩, ⟨Nat.le_refl _, ⟨⟨rfl, rfl⟩, by dsimp only; omega⟩, ?_⟩, by dsimp only; omega⟩, fun hge => ?_⟩
    · exact row_app1 (E := eI) (x := s) rfl (List.replicate_succ') (by simp) rfl (by simp) fun j hj => AVle.refl _
    · obtain rfl : i = n.toNat := by omega
      exact vw_all (E := eI) rfl rfl (by simp)
/-- The document's own way with a side for each conflict. -/
def textQ : List Pt → List Int → Nat → BS → BS × Int
  | [], _, _, acc => (acc, 0)
  | p :: d, ss, n, acc => if hkP p = true then (if (ofS p (ss.getD n 0)).2 ≠ 0 then ([], (ofS p (ss.getD n 0)).2) else textQ d ss (n + 1) (acc ++ p.2.2.2.2.1 ++ (ofS p (ss.getD n 0)).1)) else textQ d ss n (acc ++ p.2.2.2.2.1)
theorem textQ_V : ∀ (d : List Pt) (ss : List Int) (n : Nat) (acc : BS), (∀ p ∈ d, hkP p = true → p.2.2.2.2.1 = []) → textQ d ss n acc = textV d (ss.drop n) acc
  | [], _, _, _, _ => rfl
  | p :: d, ss, n, acc, h => by
    have e1 : (ss.drop n).getD 0 0 = ss.getD n 0 := by simp [List.getD]
    have e2 : (ss.drop n).tail = ss.drop (n + 1) := by rw [List.tail_drop]
    have hd : ∀ p ∈ d, hkP p = true → p.2.2.2.2.1 = [] := fun q hq => h q (List.mem_cons_of_mem _ hq)
    rw [textQ, textV, e1, e2]
    by_cases hk : hkP p = true
    · rw [if_pos hk, if_pos hk, textQ_V d ss (n + 1) _ hd, h p (List.mem_cons_self ..) hk, List.append_nil]
    · rw [if_neg hk, if_neg hk, textQ_V d ss n _ hd]
theorem right_hk {d : List Pt} (h : rightD d = true) : ∀ p ∈ d, hkP p = true → p.2.2.2.2.1 = [] := fun p hp hk => by
  obtain ⟨i, hi, rfl⟩ := List.getElem_of_mem hp
  have := of_decide_eq_true h i hi
  unfold okAt at this
  rw [gd_lt d _ hi] at this
  simp only [Bool.and_eq_true, Bool.or_eq_true] at this
  rcases this.2 with g | g
  · unfold confD at g
    simp only [Bool.and_eq_true, decide_eq_true_eq] at g
    exact g.2.1
  · unfold aheadD at g
    simp only [Bool.and_eq_true] at g
    rw [text_noHk g.1] at hk
    cases hk
theorem textQ_drop {d : List Pt} {i : Nat} (h : i < d.length) (ss : List Int) (n : Nat) (acc : BS) : textQ (d.drop i) ss n acc = if hkP (d.getD i ePt.dflt) = true then (if (ofS (d.getD i ePt.dflt) (ss.getD n 0)).2 ≠ 0 then ([], (ofS (d.getD i ePt.dflt) (ss.getD n 0)).2) else textQ (d.drop (i + 1)) ss (n + 1) (acc ++ (d.getD i ePt.dflt).2.2.2.2.1 ++ (ofS (d.getD i ePt.dflt) (ss.getD n 0)).1)) else textQ (d.drop (i + 1)) ss n (acc ++ (d.getD i ePt.dflt).2.2.2.2.1) := by
  rw [List.drop_eq_getElem_cons h, gd_lt d ePt.dflt h, textQ]
def okPr (p : Pt) : Prop := (p.1.length ≤ 100000000 ∧ p.2.1.length ≤ 100000000 ∧ p.2.2.1.length ≤ 100000000) ∧ (txP p).length ≤ 100000000
def sRefEach : Spec := Spec.f2 (kL ePt) (kL eI) (fun d ss => (d.length < 100000000 ∧ (∀ p ∈ d, okPr p) ∧ widD d ≤ 90000000000) ∧ ss.length < 1000000000) (fun d ss => tu2 (kS.enc (eachR d ss).1) (kI.enc (eachR d ss).2))
theorem okRefEach : SpecOK Try.prog 32 sRefEach := by
  refine SpecOK.f2 Try.func32 rfl (by decide) Try.results32 Try.ntmps32 (by decide) fun d ss ⟨⟨hd, hp, hw⟩, hs⟩ => ?_
  have hΓ : GOK Try.prog (gam [(60, sRefRight), (62, sRefConfl), (63, sPick)]) := (.cons okRefRight (.cons okRefConfl (.cons okPick .nil)))
  unfold eachR
  have hcl := confl_le d
  by_cases hr : rightD d = false
  · rw [if_pos hr]
    refine AW.of hΓ mixed [] _ _ _ rfl ?_
    simp only [go_sem, sRefRight, sRefConfl, sPick, hr]
    exact ⟨hd, hp⟩
  have hr' : rightD d = true := by simpa using hr
  rw [if_neg hr]
  by_cases hl : ss.length ≠ conflD d
  · rw [if_pos hl]
    have hl' : ((ss.length : Int) = (conflD d : Nat)) = False := eq_false (by omega)
    refine AW.of hΓ mixed [5] _ _ _ rfl ?_
    simp only [go_sem, sRefRight, sRefConfl, sPick, hr', hl']
    exact ⟨⟨hd, hp⟩, hd⟩
  · rw [if_neg hl]
    have hl : ss.length = conflD d := by simpa using hl
    have hq := textQ_V d ss 0 [] (right_hk hr')
    rw [List.drop_zero] at hq
    rw [← hq]
    refine AW.of hΓ mixed [] _ _ _ rfl ?_
    simp only [go_sem, sRefRight, sRefConfl, sPick, hr', hl]
    refine ⟨⟨hd, hp⟩, hd, ?_⟩
    refine AW.round (α := { x : Nat × Nat × BS × Nat × Nat // x.1 ≤ d.length ∧ textQ d ss 0 [] = textQ (d.drop x.1) ss x.2.1 x.2.2.1 ∧ x.2.2.1.length + widD (d.drop x.1) ≤ widD d ∧ x.2.1 + conflD (d.drop x.1) ≤ ss.length })
      (fun x => ⟨[(0, sL ePt d), (1, sL eI ss), (6, .st x.1.2.2.1), (7, .val (.int .i64 x.1.2.1)), (8, .val (.int .i64 x.1.1))], [], 58, x.1.2.2.2.1, x.1.2.2.2.2, []⟩) (fun x => d.length - x.1.1) ⟨(0, 0, [], 0, 0), Nat.zero_le _, rfl, by simp, by dsimp only; rw [List.drop_zero]; omega⟩ ?_ ?_
    · simp only [go_sem, sRefRight, sRefConfl, sPick]
    · rintro ⟨⟨i, n, acc, tp, nx⟩, hi, he, ha, hc⟩
      simp only at hi he ha hc
      rcases Nat.lt_or_ge i d.length with hlt' | hge
      · rw [textQ_drop hlt'] at he
        rw [wid_drop hlt'] at ha
        rw [confl_drop hlt'] at hc
        generalize hpe : d.getD i ePt.dflt = p at *
        have hwp := ofS_len p (ss.getD n 0)
        unfold widP at ha
        obtain ⟨ll, bl, rl, h, tx, l, b, r, hb⟩ := p
        dsimp only at ha hwp
        have hlI : ((i : Int) < (d.length : Nat)) = True := eq_true (by omega)
        cases h with
        | true =>
          rw [if_pos rfl] at he hc
          generalize ho : ofS (ll, bl, rl, true, tx, l, b, r, hb) (ss.getD n 0) = o at *
          obtain ⟨t, e⟩ := o
          dsimp only at he hwp
          by_cases hz : e = 0
          · subst hz
            rw [if_neg (by simp)] at he
            refine AW.of hΓ mixed [99999] _ _ _ rfl ?_
            simp only [go_sem, sRefRight, sRefConfl, sPick, hpe, ho, hlI]
            exact ⟨by omega, by omega, by omega, by omega, by omega, by omega, by omega, by omega, ⟨(i + 1, n + 1, acc ++ tx ++ t, tp, nx), by dsimp only; omega, he, by dsimp only; rw [List.length_append, List.length_append]; omega, by dsimp only; omega⟩, ⟨Nat.le_refl _, rfl, by dsimp only; omega, by dsimp only; omega⟩, by dsimp only; omega⟩
          · rw [if_pos hz] at he
            refine AW.of hΓ mixed [99999] _ _ _ rfl ?_
            simp only [go_sem, sRefRight, sRefConfl, sPick, hpe, ho, hz, hlI]
            rw [he]
            exact ⟨by omega, by omega, by omega, by omega, by omega, rfl, rfl⟩
        | false =>
          rw [if_neg (by simp [hkP])] at he hc
          refine AW.of hΓ mixed [99999] _ _ _ rfl ?_
          simp only [go_sem, sRefRight, sRefConfl, sPick, hpe, hlI]
          exact ⟨by omega, by omega, by omega, by omega, ⟨(i + 1, n, acc ++ tx, tp, nx), by dsimp only; omega, he, by dsimp only; rw [List.length_append]; omega, by dsimp only; omega⟩, ⟨Nat.le_refl _, rfl, rfl, by dsimp only; omega⟩, by dsimp only; omega⟩
      · obtain rfl : i = d.length := by omega
        rw [List.drop_length] at he
        refine AW.of hΓ mixed [99999] _ _ _ rfl ?_
        simp only [go_sem, sRefRight, sRefConfl, sPick]
        rw [he]
        exact ⟨rfl, rfl⟩
def sRefAll : Spec := Spec.f2 (kL ePt) kI (fun d _ => d.length < 100000000 ∧ (∀ p ∈ d, okPr p) ∧ widD d ≤ 90000000000) (fun d n => tu2 (kS.enc (allR d n).1) (kI.enc (allR d n).2))
theorem okRefAll : SpecOK Try.prog 30 sRefAll := by
  refine SpecOK.f2 Try.func30 rfl (by decide) Try.results30 Try.ntmps30 (by decide) fun d n ⟨hd, hp, hw⟩ => ?_
  have hΓ : GOK Try.prog (gam [(60, sRefRight), (62, sRefConfl), (61, sSides), (32, sRefEach)]) := (.cons okRefRight (.cons okRefConfl (.cons okSides (.cons okRefEach .nil))))
  have hcl := confl_le d
  by_cases hr : rightD d = false
  · unfold allR
    rw [if_pos hr]
    refine AW.of hΓ mixed [] _ _ _ rfl ?_
    simp only [go_sem, sRefRight, sRefConfl, sSides, sRefEach, hr]
    exact ⟨hd, hp⟩
  have hr' : rightD d = true := by simpa using hr
  by_cases hs : sideOK n = false
  · unfold allR
    rw [if_neg hr, if_pos hs]
    unfold sideOK at hs
    simp only [Bool.or_eq_false_iff, decide_eq_false_iff_not] at hs
    have h1 : (decide (n < 1) || decide (3 < n)) = true := by
      simp only [Bool.or_eq_true, decide_eq_true_eq]
      omega
    refine AW.of hΓ mixed [] _ _ _ rfl ?_
    simp only [go_sem, sRefRight, sRefConfl, sSides, sRefEach, hr', h1]
    exact ⟨⟨hd, hp⟩, fun h => by rw [decide_eq_false h]; rfl⟩
  · have hs' : sideOK n = true := by simpa using hs
    rw [all_each hr' hs']
    have h1 : (decide (n < 1) || decide (3 < n)) = false := by
      unfold sideOK at hs'
      simp only [Bool.or_eq_true, decide_eq_true_eq] at hs'
      simp only [Bool.or_eq_false_iff, decide_eq_false_iff_not]
      omega
    refine AW.of hΓ mixed [] _ _ _ rfl ?_
    simp only [go_sem, sRefRight, sRefConfl, sSides, sRefEach, hr', h1]
    exact ⟨⟨hd, hp⟩, fun h => by rw [decide_eq_false h]; rfl, hd, by omega, ⟨hd, hp, hw⟩, by omega⟩
end Go.Proofs.Ytnhfobhdbablaaa
set_option linter.unusedSimpArgs false
set_option linter.unusedVariables false
set_option maxRecDepth 100000
set_option maxHeartbeats 2000000
namespace Go.Proofs.Ytnhfobhdbablaaa
open Go
attribute [local irreducible] AW AVle ASle RowLe
theorem rangeMap (l : List BS) : (List.range l.length).map (fun i => l.getD i []) = l := by
  refine list_ext_getD [] (by simp) fun t ht => ?_
  simp at ht
  simp [List.getD, ht]
def sWith0 : MSpec := fun args hp top nx K => ∃ (d : List Pt) (v : Nat) (ts : List BS) (u : Nat), args = [.ow 0 v d.length, .ow 1 u ts.length] ∧ hp = rws [(0, rowL v 62 ePt d), (1, rowL u 9 eS ts)] ∧ top = 2 ∧ d.length < 100000000 ∧ okLs ts ∧
  ∀ v' nx', (v' = v ∨ nx ≤ v') → nx ≤ nx' → K (.ow 0 v' (withD d ts).length) (rws [(0, rowL v' 62 ePt (withD d ts)), (1, rowL u 9 eS ts)]) 2 nx'
theorem okWith0 : MethOK Try.prog 77 sWith0 := by
  refine MethOK.mk Try.func77 rfl (by decide) Try.results77 Try.ntmps77 ?_
  rintro args hp top nx K ⟨d, v, ts, u, rfl, rfl, rfl, hl, hts, hK⟩
  have hΓ : GOK Try.prog (gam [(75, sJoin)]) := (.cons okJoin .nil)
  refine ⟨Nat.le_of_ble_eq_true rfl, AW.late ?_⟩
  refine AW.of hΓ mixed [99999] _ _ _ rfl ?_
  simp only [go_sem, sJoin, rangeMap]
  refine ⟨hts, fun h => ⟨by omega, ?_⟩, fun h => ?_⟩
  · have e : withD d ts = d ++ [textP ts.flatten] := if_neg h
    refine ⟨_, toFitsV (fun p => p) (l := [(4, .ow 0 nx (d.length + 1))]) (r := [(0, rowL nx 62 ePt (withD d ts)), (1, rowL u 9 eS ts)]) (sz := 16) (top := 2) (nx := nx + 1) (df := []) ?_, ?_⟩
    · rw [e]
      simp only [go_sem, sJoin]
      refine ⟨row_app1 (E := ePt) rfl rfl rfl rfl (by simp) fun j hj => ?_, RowLe.refl _⟩
      match j, hj with
      | 0, _ => exact AVle.refl _
      | 1, _ => exact AVle.refl _
      | 2, _ => exact AVle.refl _
      | 3, _ => exact AVle.refl _
      | 4, _ => exact AVle.refl _
      | 5, _ => exact AVle.refl _
      | 6, _ => exact AVle.refl _
      | 7, _ => exact AVle.refl _
      | 8, _ => exact AVle.refl _
    · simp only [go_sem, sJoin]
      have := hK nx (nx + 1) (.inr (Nat.le_refl _)) (by omega)
      rwa [show (withD d ts).length = d.length + 1 by rw [e]; simp] at this
  · have e : withD d ts = d := if_pos (Decidable.not_not.1 h)
    refine ⟨_, ASle.refl _, ?_⟩
    simp only [go_sem, sJoin]
    have := hK v nx (.inl rfl) (Nat.le_refl _)
    rwa [e] at this
def sWith : MSpec := framed sWith0
theorem okWith : MethOK Try.prog 77 sWith := okWith0.frame
theorem rows_two {hp : Nat → Row} {p q : Nat} {r s : Row} (h : RowLe (hp p) r) (h2 : RowLe (hp q) s) : ∀ (i o : Nat), [p, q][i]? = some o → RowLe (hp o) (rws [(0, r), (1, s)] i) := by
  intro i o hq
  match i with
  | 0 =>
    simp only [List.getElem?_cons_zero, Option.some.injEq] at hq
    subst hq
    exact h
  | 1 =>
    simp only [List.getElem?_cons_succ, List.getElem?_cons_zero, Option.some.injEq] at hq
    subst hq
    exact h2
  | i + 2 => simp at hq
theorem with_go {d : List Pt} {ts : List BS} {p q v u n m : Nat} {hp : Nat → Row} {top nx : Nat} {K : AV → (Nat → Row) → Nat → Nat → Prop} (hn : n = d.length) (hm : m = ts.length) (hpq : p ≠ q)
    (hr : RowLe (hp p) (rowL v 62 ePt d)) (hr2 : RowLe (hp q) (rowL u 9 eS ts)) (ht : p < top ∧ q < top) (hl : d.length < 100000000) (hts : okLs ts)
    (hK : ∀ v' nx', nx ≤ nx' → K (.ow p v' (withD d ts).length) (updR (updR hp p (rowL v' 62 ePt (withD d ts))) q (rowL u 9 eS ts)) top nx') :
    sWith [.ow p v n, .ow q u m] hp top nx K := by
  subst hn hm
  have e1 : (hp p).ver = some v := hr.vers.symm
  have e2 : (hp q).ver = some u := hr2.vers.symm
  refine ⟨[p, q], [.ow 0 v d.length, .ow 1 u ts.length], rws [(0, rowL v 62 ePt d), (1, rowL u 9 eS ts)], by simp [hpq], by simp; omega, .cons AVle.ow (.cons AVle.ow .nil), rows_two hr hr2, fun i hi => rws_top (top := 2) (by simp) i (by simpa using hi), d, v, ts, u, rfl, rfl, rfl, hl, hts, fun v' nx' h1 h3 => ?_⟩
  refine ⟨.ow p v' (withD d ts).length, _, AVle.ow, fun i o ho => ?_, fun o ho => ?_, fun o ho w hv => ?_, hK v' nx' h3⟩
  · match i with
    | 0 =>
      simp only [List.getElem?_cons_zero, Option.some.injEq] at ho
      subst ho
      rw [updR_ne _ _ hpq, updR_at]
      exact RowLe.refl _
    | 1 =>
      simp only [List.getElem?_cons_succ, List.getElem?_cons_zero, Option.some.injEq] at ho
      subst ho
      rw [updR_at]
      exact RowLe.refl _
    | i + 2 => simp at ho
  · simp only [List.mem_cons, List.not_mem_nil, or_false, not_or] at ho
    rw [updR_ne _ _ ho.2, updR_ne _ _ ho.1]
  · simp only [List.mem_cons, List.not_mem_nil, or_false] at ho
    rcases ho with rfl | rfl
    · rw [updR_ne _ _ hpq, updR_at] at hv
      have : some v' = some w := hv
      obtain rfl := Option.some.inj this
      rcases h1 with rfl | h1
      · exact .inl e1
      · exact .inr h1
    · rw [updR_at] at hv
      have : some u = some w := hv
      obtain rfl := Option.some.inj this
      exact .inl e2
theorem with_len (d : List Pt) (ts : List BS) : (withD d ts).length ≤ d.length + ts.length := by
  unfold withD
  split
  · omega
  · rename_i h
    have : 0 < ts.length := List.length_pos_iff.2 fun e => h (by rw [e]; rfl)
    simp only [List.length_append, List.length_cons, List.length_nil]
    omega
def sOfD : Spec := Spec.f1 (kL ePt) (fun l => l.length < 100000000 ∧ sumT l ≤ 1000000000) (fun l => sL ePt (ofD l))
theorem okOfD : SpecOK Try.prog 47 sOfD := by
  refine SpecOK.f1 Try.func47 rfl (by decide) Try.results47 Try.ntmps47 (by decide) fun l ⟨hl, hs⟩ => ?_
  have hΓ : GOK Try.prog (gam [(76, sIsText), (77, sWith)]) := (.cons okIsText (.cons okWith .nil))
  refine AW.of hΓ mixed [2, 200008] _ _ _ rfl ?_
  simp only [go_sem, sIsText, sWith]
  refine AW.adopt 3 62 9 (fun i => ePt.enc (([] : List Pt).getD i ePt.dflt)) rfl ?_
  refine AW.adopt 4 9 1 (fun i => eS.enc (([] : List BS).getD i [])) rfl ?_
  refine AW.of hΓ mixed [3, 200008] _ _ _ rfl ?_
  simp only [go_sem, sIsText, sWith]
  refine AW.block (AW.roundL (α := { x : Nat × List Pt × List BS × Nat × Nat × Nat // x.1 ≤ l.length ∧ ofD l = ofGo (l.drop x.1) x.2.1 x.2.2.1 ∧ x.2.1.length + x.2.2.1.length ≤ x.1 ∧ x.2.2.1.length ≤ x.1 ∧ x.2.2.1.flatten.length ≤ sumT (l.take x.1) })
    (fun x => (Sh.mk [(3, .ow 0 x.1.2.2.2.1 x.1.2.1.length), (4, .ow 1 x.1.2.2.2.2.1 x.1.2.2.1.length), (7, sL ePt l), (8, .val (.int .i64 l.length)), (9, .val (.int .i64 x.1.1))]
      [(0, rowL x.1.2.2.2.1 62 ePt x.1.2.1), (1, rowL x.1.2.2.2.2.1 9 eS x.1.2.2.1)] 30 2 x.1.2.2.2.2.2 []).st) (fun x => l.length - x.1.1) ⟨(0, [], [], 0, 1, 2), Nat.zero_le _, rfl, by simp, by simp, by simp⟩ ?_ ?_)
  · refine Sh.fitsV.le (σ := fun p => p) ?_
    simp only [go_sem, sIsText, sWith]
    exact ⟨RowLe.refl _, RowLe.refl _⟩
  · rintro ⟨⟨i, d, ts, v, u, nx⟩, hi, he, hd, ht, hs2⟩
    simp only at hi he hd ht hs2
    refine AW.of hΓ mixed [5, 99999, 200008] _ _ _ rfl ?_
    simp only [go_sem, sIsText, sWith]
    have hst := sumT_take l i
    refine ⟨fun hil => ⟨by omega, ?_⟩, fun hil => ?_⟩
    · have hlt : i < l.length := by omega
      have hdr : l.drop i = l.getD i ePt.dflt :: l.drop (i + 1) := by
        rw [List.drop_eq_getElem_cons hlt, ← gd_lt l ePt.dflt hlt]
      have hsum : sumT (l.take (i + 1)) = sumT (l.take i) + (txP (l.getD i ePt.dflt)).length := by
        rw [take_snoc l ePt.dflt hlt, sumT_app, sumT_one]
      have hst1 := sumT_take l (i + 1)
      rw [hdr, ofGo] at he
      generalize hpe : l.getD i ePt.dflt = p at *
      refine AW.cut ⟨[(3, .ow 0 v d.length), (4, .ow 1 u ts.length), (6, .pt 2 nx 0), (7, sL ePt l), (8, .val (.int .i64 l.length)), (9, .val (.int .i64 i))],
        [(0, rowL v 62 ePt d), (1, rowL u 9 eS ts), (2, .box nx 62 9 (ePt.enc p))], 30, 3, nx + 1, []⟩ ?_ ?_
      · simp only [go_sem, sIsText, sWith]
        exact ⟨RowLe.refl _, RowLe.refl _, RowLe.box fun j hj => AVle.of_eq (stC_in (Nat.zero_le _) (by omega))⟩
      refine AW.still 6 2 nx 62 9 _ rfl rfl (fun j hj => match j, hj with | 0, _ => rfl | 1, _ => rfl | 2, _ => rfl | 3, _ => rfl | 4, _ => rfl | 5, _ => rfl | 6, _ => rfl | 7, _ => rfl | 8, _ => rfl) ?_
      refine AW.of hΓ mixed [99999, 200008] _ _ _ rfl ?_
      simp only [go_sem, sIsText, sWith, pt_eta]
      refine ⟨fun hp => ⟨by omega, by omega, ⟨(i + 1, d, ts ++ [txP p], v, nx + 1, nx + 1 + 1), by dsimp only; omega, ?_, by simp; omega, by simp; omega, ?_⟩, ?_, by dsimp only; omega⟩, fun hp => ?_⟩
      · dsimp only
        rw [he, if_pos hp]
      · dsimp only
        rw [hsum, List.flatten_append, List.length_append]
        exact Nat.add_le_add hs2 (by simp)
      · refine toFitsV (fun p => p) ?_
        simp only [go_sem, sIsText, sWith]
        refine ⟨by omega, RowLe.refl _, ?_⟩
        exact row_app1 (E := eS) rfl rfl rfl rfl (by simp) fun j hj => AVle.refl _
      · rw [if_neg (by simp [hp])] at he
        refine AW.drawZ hΓ mixed 2 [3, 4] [3, 4] [] (by decide +kernel) ?_
        simp only [go_sem, sIsText, sWith]
        have hwl := with_len d ts
        refine with_go rfl rfl (by decide) (RowLe.refl _) (RowLe.refl _) (by decide) (by omega) ⟨by omega, by omega⟩ fun v1 n1 h1 => ?_
        generalize withD d ts = w at *
        simp only [go_sem, sIsText, sWith]
        refine ⟨by omega, by omega, ⟨(i + 1, w ++ [p], [], n1, n1 + 1, n1 + 2), by dsimp only; omega, he, by simp; omega, by simp, by simp⟩, ?_, by dsimp only; omega⟩
        refine (ASle.adopt (s := 4) 9 1 (fun i => eS.enc (([] : List BS).getD i [])) rfl).trans (toFitsV (fun p => if p = 1 then 3 else p) ?_)
        simp only [go_sem, sIsText, sWith]
        exact ⟨by omega, row_app1 (E := ePt) rfl rfl rfl rfl (by simp) fun j hj => AVle.refl _, RowLe.refl _⟩
    · obtain rfl : i = l.length := by omega
      rw [List.drop_length, ofGo] at he
      have hwl := with_len d ts
      refine with_go rfl rfl (by decide) (RowLe.refl _) (RowLe.refl _) (by decide) (by omega) ⟨by omega, by omega⟩ fun v1 n1 h1 => ?_
      generalize withD d ts = w at *
      simp only [go_sem, sIsText, sWith]
      rw [he]
      exact vw_all (E := ePt) rfl rfl rfl
end Go.Proofs.Ytnhfobhdbablaaa
set_option linter.unusedSimpArgs false
set_option linter.unusedVariables false
set_option maxRecDepth 100000
set_option maxHeartbeats 2000000
namespace Go.Proofs.Ytnhfobhdbablaaa
open Go
attribute [local irreducible] AW AVle ASle RowLe
theorem sumT_wid (d : List Pt) : sumT d ≤ widD d := by
  induction d with
  | nil => exact Nat.le_refl _
  | cons p d ih =>
    have e1 : sumT (p :: d) = (txP p).length + sumT d := by
      rw [show p :: d = [p] ++ d from rfl, sumT_app, sumT_one]
    have e2 : widD (p :: d) = widP p + widD d := by
      unfold widD
      rw [List.map_cons, List.sum_cons]
    rw [e1, e2]
    unfold widP txP
    omega
theorem wid_set : ∀ (d : List Pt) (k : Nat) (t : BS), t.length ≤ widP (d.getD k ePt.dflt) → widD (d.set k (textP t)) ≤ widD d
  | [], _, _, _ => Nat.le_refl _
  | p :: d, 0, t, h => by
    have h : t.length ≤ widP p := h
    have e : ∀ q, widD (q :: d) = widP q + widD d := fun q => by
      unfold widD
      rw [List.map_cons, List.sum_cons]
    rw [List.set_cons_zero, e, e]
    have : widP (textP t) = t.length := by
      show t.length + (0 + 0 + 0) = _
      omega
    omega
  | p :: d, k + 1, t, h => by
    have ih := wid_set d k t (by simpa using h)
    have e : ∀ l, widD (p :: l) = widP p + widD l := fun l => by
      unfold widD
      rw [List.map_cons, List.sum_cons]
    rw [List.set_cons_succ, e, e]
    omega
theorem confl_mono (d : List Pt) {i k : Nat} (h : i < k) (hk : k ≤ d.length) (hi : hkP (d.getD i ePt.dflt) = true) : conflD (d.take i) < conflD (d.take k) := by
  have e := confl_snoc (d.take i) (d.getD i ePt.dflt)
  rw [← take_snoc d ePt.dflt (by omega), if_pos hi] at e
  have e2 : d.take k = d.take (i + 1) ++ (d.drop (i + 1)).take (k - (i + 1)) := by
    rw [← List.take_add]
    congr 1
    omega
  have hap : ∀ a b : List Pt, conflD (a ++ b) = conflD a + conflD b := fun a b => by simp [conflD]
  rw [e2, hap]
  omega
theorem confl_uniq {d : List Pt} {i k : Nat} (hi : i < d.length) (hk : k < d.length) (h1 : hkP (d.getD i ePt.dflt) = true) (h2 : hkP (d.getD k ePt.dflt) = true) (h : conflD (d.take i) = conflD (d.take k)) : i = k := by
  rcases Nat.lt_trichotomy i k with c | c | c
  · have := confl_mono d c (by omega) h1
    omega
  · exact c
  · have := confl_mono d c (by omega) h2
    omega
/-- A copy at hand. -/
def sCloneD : MSpec := fun args hp top nx K => ∃ x l, args = [x] ∧ AVle x (sL ePt l) ∧ l.length < 100000000 ∧ ∀ ver nx', nx ≤ ver → ver < nx' → K (.ow top ver l.length) (updR hp top (rowL ver 62 ePt l)) (top + 1) nx'
theorem okCloneD : MethOK Try.prog 67 sCloneD := by
  refine MethOK.mk Try.func67 rfl (by decide) Try.results67 Try.ntmps67 ?_
  rintro args hp top nx K ⟨x, l, rfl, hx, hl, hK⟩
  have hΓ : GOK Try.prog (gam []) := GOK.nil
  refine ⟨Nat.le_of_ble_eq_true rfl, ?_⟩
  refine AW.le (stM_le (.cons hx .nil)) ?_
  refine AW.of hΓ mixed [2, 99999] _ _ _ rfl ?_
  simp only [go_sem]
  refine ⟨fun h0 => ?_, ?_⟩
  · refine AW.adopt 2 62 9 (fun i => ePt.enc (l.getD i ePt.dflt)) rfl ?_
    refine AW.of hΓ mixed [] _ _ _ rfl ?_
    simp only [go_sem]
    obtain rfl := List.length_eq_zero_iff.1 h0
    exact hK nx (nx + 1) (Nat.le_refl _) (Nat.lt_succ_self _)
  · exact ⟨by omega, hK nx (nx + 1) (Nat.le_refl _) (Nat.lt_succ_self _)⟩
def sOneR : Spec := Spec.f3 (kL ePt) kI kI (fun d n _ => d.length < 100000000 ∧ (∀ p ∈ d, okPt p) ∧ widD d ≤ 100000000 ∧ gI n) (fun d n s => tu2 (sL ePt (oneD d n s).1) (kI.enc (oneD d n s).2))
theorem okOneR : SpecOK Try.prog 33 sOneR := by
  refine SpecOK.f3 Try.func33 rfl (by decide) Try.results33 Try.ntmps33 (by decide) fun d n side ⟨hd, hp, hw, hn⟩ => ?_
  have hΓ : GOK Try.prog (gam [(21, sRightD), (64, sPlace), (65, sOfS), (66, sHasSuf), (67, sCloneD), (47, sOfD)]) := (.cons okRightD (.cons okPlace (.cons okOfS (.cons okHasSuf (.cons okCloneD (.cons okOfD .nil))))))
  unfold oneD
  by_cases hr : rightD d = false
  · rw [if_pos hr]
    refine AW.of hΓ mixed [] _ _ _ rfl ?_
    simp only [go_sem, sRightD, sPlace, sOfS, sHasSuf, sCloneD, sOfD, hr]
    exact ⟨⟨hd, hp⟩, em_sL _⟩
  have hr' : rightD d = true := by simpa using hr
  rw [if_neg hr]
  have hpl : placeG d 0 n = -1 ∨ ∃ k : Nat, placeG d 0 n = (k : Int) ∧ k < d.length := by
    rcases Int.lt_or_le n 0 with g | g
    · exact .inl (place_neg d 0 n g)
    · rcases Int.lt_or_le n (conflD d) with g2 | g2
      · obtain ⟨k, g1, g3, _, _⟩ := (place_spec d 0 n g).2 g2
        exact .inr ⟨k, by simpa using g1, g3⟩
      · exact .inl ((place_spec d 0 n g).1 g2)
  rcases hpl with hpl | ⟨k, hpl, hk⟩
  · rw [hpl, if_pos (by omega)]
    refine AW.of hΓ mixed [] _ _ _ rfl ?_
    simp only [go_sem, sRightD, sPlace, sOfS, sHasSuf, sCloneD, sOfD, hr', hpl]
    exact ⟨⟨hd, hp⟩, ⟨hd, hn⟩, em_sL _⟩
  rw [hpl, if_neg (by omega), Int.toNat_natCast]
  generalize hpe : d.getD k ePt.dflt = p at *
  have hwp := ofS_len p side
  generalize ho : ofS p side = o at *
  obtain ⟨t, e⟩ := o
  dsimp only at hwp ⊢
  have hpk : okPt p := by
    rw [← hpe, gd_lt d _ hk]
    exact hp _ (List.getElem_mem _)
  have htl : t.length ≤ 100000000000 := by
    have := hpk.2.2
    omega
  by_cases hz : e ≠ 0
  · rw [if_pos hz]
    refine AW.of hΓ mixed [] _ _ _ rfl ?_
    simp only [go_sem, sRightD, sPlace, sOfS, sHasSuf, sCloneD, sOfD, hr', hpl, hpe, ho, hz]
    exact ⟨⟨hd, hp⟩, ⟨hd, hn⟩, fun h => absurd h (by omega), fun _ => ⟨by omega, em_sL _⟩⟩
  rw [if_neg hz]
  have hz : e = 0 := by simpa using hz
  subst hz
  by_cases ht : t ≠ [] ∧ endsL t = false ∧ (k : Int) < (d.length : Int) - 1
  · rw [if_pos ht]
    obtain ⟨h1, h2, h3⟩ := ht
    refine AW.of hΓ mixed [] _ _ _ rfl ?_
    simp only [go_sem, sRightD, sPlace, sOfS, sHasSuf, sCloneD, sOfD, hr', hpl, hpe, ho, h1, h2]
    exact ⟨⟨hd, hp⟩, ⟨hd, hn⟩, fun h => absurd h (by omega), fun _ => ⟨by omega, htl, by omega, fun _ => em_sL _, fun h => absurd h3 h⟩⟩
  · rw [if_neg ht]
    refine AW.of hΓ mixed [11, 12] _ _ _ rfl ?_
    simp only [go_sem, sRightD, sPlace, sOfS, sHasSuf, sCloneD, sOfD, hr', hpl, hpe, ho]
    refine ⟨⟨hd, hp⟩, ⟨hd, hn⟩, fun h => absurd h (by omega), fun _ => ⟨by omega, fun _ => htl, fun _ => by omega, fun ⟨⟨g1, g2⟩, g3⟩ => ht ⟨g1, by simpa using g2, g3⟩, fun _ => ⟨_, d, rfl, AVle.refl _, hd, fun ver nx' g1 g2 => ?_⟩⟩⟩
    refine AW.of hΓ mixed [12] _ _ _ rfl ?_
    simp only [go_sem, sRightD, sPlace, sOfS, sHasSuf, sCloneD, sOfD]
    refine ⟨by omega, hk, ?_⟩
    refine AW.cut ⟨[(11, .ow 0 ver (d.set k (textP t)).length)], [(0, rowL ver 62 ePt (d.set k (textP t)))], 55, 1, nx', []⟩ ?_ ?_
    · simp only [go_sem, sRightD, sPlace, sOfS, sHasSuf, sCloneD, sOfD, List.length_set]
      refine RowLe.sl (by simp) fun k' hk' j hj => ?_
      refine stE_le (E := ePt) (n := d.length) hk (fun _ _ _ _ => AVle.refl _) (fun j hj => ?_) k' hk' j hj
      match j, hj with
      | 0, _ => exact AVle.refl _
      | 1, _ => exact AVle.refl _
      | 2, _ => exact AVle.refl _
      | 3, _ => exact AVle.refl _
      | 4, _ => exact AVle.refl _
      | 5, _ => exact AVle.refl _
      | 6, _ => exact AVle.refl _
      | 7, _ => exact AVle.refl _
      | 8, _ => exact AVle.refl _
    have hws := wid_set d k t (by rw [hpe]; unfold widP; omega)
    have hls : (d.set k (textP t)).length = d.length := by simp
    have hst := sumT_wid (d.set k (textP t))
    generalize d.set k (textP t) = d' at *
    refine AW.freeze 0 ver 62 9 d'.length (fun i => ePt.enc (d'.getD i ePt.dflt)) rfl (fun _ _ j hj => match j, hj with | 0, _ => rfl | 1, _ => rfl | 2, _ => rfl | 3, _ => rfl | 4, _ => rfl | 5, _ => rfl | 6, _ => rfl | 7, _ => rfl | 8, _ => rfl) ?_
    refine AW.cut ⟨[(11, sL ePt d')], [], 55, 1, nx', []⟩ ?_ ?_
    · simp only [go_sem, sRightD, sPlace, sOfS, sHasSuf, sCloneD, sOfD]
      exact vw_all (E := ePt) rfl rfl rfl
    refine AW.of hΓ mixed [] _ _ _ rfl ?_
    simp only [go_sem, sRightD, sPlace, sOfS, sHasSuf, sCloneD, sOfD]
    exact ⟨by omega, by omega⟩
end Go.Proofs.Ytnhfobhdbablaaa
