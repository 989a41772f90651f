/-
  edit: scripts, plain.
-/
import Derived.Test.YtpbccamaipekjaaLinesM
set_option linter.unusedVariables false
namespace Go.Proofs.Ytpbccamaipekjaa
/-- May a Step of a kind stand right behind one of another? (-1: behind none.) -/
def followsB (x y : Int) : Bool := decide (x ≠ y) && !(decide (x = 2) && decide (y = 1))
def stepOK (s : Int × List (List UInt8)) : Bool := decide (0 ≤ s.1 ∧ s.1 ≤ 2 ∧ s.2.length ≠ 0)
def rightE : Int → List (Int × List (List UInt8)) → Bool
  | _, [] => true
  | k, s :: l => stepOK s && (followsB k s.1 && rightE s.1 l)
/-- What a script leads from (1), and to (2). -/
def sideL (side : Int) (l : List (Int × List (List UInt8))) : List (List UInt8) := l.flatMap fun s => if s.1 = 0 ∨ s.1 = side then s.2 else []
def lessL (kind : Int) (l : List (Int × List (List UInt8))) : List (List UInt8) := l.flatMap fun s => if s.1 = kind then [] else s.2
def countL (kind : Int) (l : List (Int × List (List UInt8))) : Nat := (l.flatMap fun s => if s.1 = kind then s.2 else []).length
def turnK (k : Int) : Int := if k = 1 then 2 else if k = 2 then 1 else k
def turnS (s : Int × List (List UInt8)) : Int × List (List UInt8) := (turnK s.1, s.2)
def backL : List (Int × List (List UInt8)) → List (Int × List (List UInt8))
  | [] => []
  | [s] => [turnS s]
  | s :: t :: l => if s.1 = 1 ∧ t.1 = 2 then turnS t :: turnS s :: backL l else turnS s :: backL (t :: l)
/-- Some texts come to a script. -/
def putL (l : List (Int × List (List UInt8))) (k : Int) (ts : List (List UInt8)) : List (Int × List (List UInt8)) :=
  if ts.length = 0 then l else match l.getLast? with
    | some s => if s.1 = k then l.dropLast ++ [(k, s.2 ++ ts)] else l ++ [(k, ts)]
    | none => [(k, ts)]
end Go.Proofs.Ytpbccamaipekjaa
