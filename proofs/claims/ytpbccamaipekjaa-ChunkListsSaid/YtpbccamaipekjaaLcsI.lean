/-
  Telling whether pairs are a matching.
-/
import Derived.Test.YtpbccamaipekjaaTrimM
namespace Go.Proofs.Ytpbccamaipekjaa
def rgt (a b : List Int) : Int → Int → List (Int × Int) → Bool
  | _, _, [] => true
  | u, v, p :: l => decide (u < p.1 ∧ v < p.2 ∧ p.1 < a.length ∧ p.2 < b.length ∧ a.getD p.1.toNat 0 = b.getD p.2.toNat 0) && rgt a b p.1 p.2 l
end Go.Proofs.Ytpbccamaipekjaa
