/-
  Structs in registers, handed on and compared.
-/
import Derived.Test.YtljgfacjefebaaaDoorAxp
set_option linter.unusedSimpArgs false
set_option linter.unusedVariables false
namespace Go.Proofs.YtljgfacjefebaaaDoor
open Go
section
variable {α β : Type} {A : El α} {B : El β}
@[go_sem] theorem eP_sz : (eP A B).sz = A.sz + B.sz := rfl
@[go_sem] theorem kA_enc (a : α) : (kA A).enc a = .ag A.sz (A.enc a) := rfl
@[go_sem] theorem eP_enc0 (p : α × β) (h : 0 < A.sz) : (eP A B).enc p 0 = A.enc p.1 0 := if_pos h
@[go_sem] theorem eP_encL (p : α × β) (n : Nat) (h : n < A.sz) : (eP A B).enc p n = A.enc p.1 n := if_pos h
@[go_sem] theorem eP_encR (p : α × β) (n : Nat) (h : A.sz ≤ n) : (eP A B).enc p n = B.enc p.2 (n - A.sz) := if_neg (Nat.not_lt.2 h)
@[go_sem] theorem stC_in {c d : Nat → AV} {j k i : Nat} (h : j ≤ i) (h2 : i < j + k) : stC c j k d i = d (i - j) := if_pos ⟨h, h2⟩
@[go_sem] theorem stC_lo {c d : Nat → AV} {j k i : Nat} (h : i < j) : stC c j k d i = c i := if_neg fun hh => by omega
@[go_sem] theorem stC_hi {c d : Nat → AV} {j k i : Nat} (h : j + k ≤ i) : stC c j k d i = c i := if_neg fun hh => by omega
@[go_sem] theorem zC_head (v : Value) (l : List Value) : zC (v :: l) 0 = kCell v := rfl
@[go_sem] theorem zC_cons (v : Value) (l : List Value) (n : Nat) (h : 0 < n) : zC (v :: l) n = zC l (n - 1) := by
  cases n with
  | zero => omega
  | succ n => rfl
@[go_sem] theorem kCell_int (k : IntKind) (n : Int) : kCell (.int k n) = .val (.int k n) := rfl
@[go_sem] theorem kCell_bool (b : Bool) : kCell (.bool b) = .val (.bool b) := rfl
@[go_sem] theorem eP_dec (c : Nat → AV) : (eP A B).dec c = (A.dec c, B.dec fun j => c (A.sz + j)) := rfl
@[go_sem] theorem eI_dec (c : Nat → AV) : eI.dec c = kI.dec (c 0) := rfl
@[go_sem] theorem eB_dec (c : Nat → AV) : eB.dec c = kB.dec (c 0) := rfl
@[go_sem] theorem eS_dec (c : Nat → AV) : eS.dec c = kS.dec (c 0) := rfl
@[go_sem] theorem eL_dec (c : Nat → AV) : (eL A).dec c = (kL A).dec (c 0) := rfl
@[go_sem] theorem kA_dec (n : Nat) (c : Nat → AV) : (kA A).dec (.ag n c) = A.dec c := rfl
theorem okc_1 {E : El α} {K : Kd α} (hs : E.sz = 1) (hd : ∀ c, E.dec c = K.dec (c 0)) (he : ∀ a, E.enc a 0 = K.enc a) (c : Nat → AV) : E.okc c = K.ok (c 0) := by
  refine propext ⟨fun h => ?_, fun h j hj => ?_⟩
  · have := h 0 (by omega)
    rw [hd, he] at this
    exact this
  · obtain rfl : j = 0 := by omega
    rw [hd, he]
    exact h
@[go_sem] theorem eI_okc (c : Nat → AV) : eI.okc c = kI.ok (c 0) := okc_1 rfl (fun _ => rfl) (fun _ => rfl) c
@[go_sem] theorem eB_okc (c : Nat → AV) : eB.okc c = kB.ok (c 0) := okc_1 rfl (fun _ => rfl) (fun _ => rfl) c
@[go_sem] theorem eS_okc (c : Nat → AV) : eS.okc c = kS.ok (c 0) := okc_1 rfl (fun _ => rfl) (fun _ => rfl) c
@[go_sem] theorem eL_okc (c : Nat → AV) : (eL A).okc c = (kL A).ok (c 0) := okc_1 rfl (fun _ => rfl) (fun _ => rfl) c
@[go_sem] theorem eP_okc (c : Nat → AV) : (eP A B).okc c = (A.okc c ∧ B.okc fun j => c (A.sz + j)) := by
  have e : ∀ j, (eP A B).enc ((eP A B).dec c) j = if j < A.sz then A.enc (A.dec c) j else B.enc (B.dec fun j => c (A.sz + j)) (j - A.sz) := fun _ => rfl
  refine propext ⟨fun h => ⟨fun j hj => ?_, fun j hj => ?_⟩, fun ⟨h1, h2⟩ j hj => ?_⟩
  · have := h j (Nat.lt_add_right _ hj)
    rw [e, if_pos hj] at this
    exact this
  · have := h (A.sz + j) (Nat.add_lt_add_left hj _)
    rw [e, if_neg (by omega), Nat.add_sub_cancel_left] at this
    exact this
  · rw [e]
    by_cases hA : j < A.sz
    · rw [if_pos hA]
      exact h1 j hA
    · rw [if_neg hA]
      have hj : j < A.sz + B.sz := hj
      have h3 : AVle (c (A.sz + (j - A.sz))) _ := h2 (j - A.sz) (by omega)
      have e2 : A.sz + (j - A.sz) = j := by omega
      rw [e2] at h3
      exact h3
@[go_sem] theorem kA_ok (n : Nat) (c : Nat → AV) (h : A.sz = n) (h2 : A.okc c) : (kA A).ok (.ag n c) = True := by
  subst h
  exact eq_true (AVle.ag h2)
/-! ### structs compared -/
def andO : Option Bool → Option Bool → Option Bool
  | some a, some b => some (a && b)
  | _, _ => none
@[go_sem] theorem andO_some (a b : Bool) : andO (some a) (some b) = some (a && b) := rfl
def eqLf (u : Option TypeDesc) : AV → AV → Option Bool := fun x y => match u, x, y with
  | some .bool, .val (.bool a), .val (.bool b) => some (decide (a = b))
  | some (.int _), .val (.int .i64 a), .val (.int .i64 b) => some (decide (a = b))
  | some (.int _), .val (.int .u8 a), .val (.int .u8 b) => some (decide (a = b))
  | some .string, .st a, .st b => some (decide (a = b))
  | _, _, _ => none
@[go_sem] theorem eqLf_int (k : IntKind) (a b : Int) : eqLf (some (.int k)) (.val (.int .i64 a)) (.val (.int .i64 b)) = some (decide (a = b)) := rfl
@[go_sem] theorem eqLf_bool (a b : Bool) : eqLf (some .bool) (.val (.bool a)) (.val (.bool b)) = some (decide (a = b)) := rfl
@[go_sem] theorem eqLf_string (a b : List UInt8) : eqLf (some .string) (.st a) (.st b) = some (decide (a = b)) := rfl
def eqI (P : Program) (d m : Nat) (x y : Nat → AV) (o : Nat) (u : TypeId) (k : Nat) : Option Bool := if 0 < k ∧ o + k ≤ m then aEq P d u k (fun j => x (o + j)) (fun j => y (o + j)) else none
@[go_sem] theorem eqI_in {P : Program} {d m o k : Nat} {x y : Nat → AV} {u : TypeId} (h : 0 < k) (h2 : o + k ≤ m) : eqI P d m x y o u k = aEq P d u k (fun j => x (o + j)) (fun j => y (o + j)) := if_pos ⟨h, h2⟩
def eqA (P : Program) (d m : Nat) (x y : Nat → AV) : List (Nat × TypeId) → Option Bool := fun l => eqAll (fun o u => eqI P d m x y o u (P.cellsOf u)) l
@[go_sem] theorem eqA_nil {P : Program} {d m : Nat} {x y : Nat → AV} : eqA P d m x y [] = some true := rfl
@[go_sem] theorem eqA_cons {P : Program} {d m : Nat} {x y : Nat → AV} {o : Nat} {u : TypeId} {r : List (Nat × TypeId)} : eqA P d m x y ((o, u) :: r) = andO (eqI P d m x y o u (P.cellsOf u)) (eqA P d m x y r) := by
  unfold eqA
  simp only [eqAll]
  cases eqI P d m x y o u (P.cellsOf u) with
  | none => rfl
  | some a => cases eqAll (fun o u => eqI P d m x y o u (P.cellsOf u)) r <;> rfl
def aEqK (P : Program) (d : Nat) (t : TypeId) (m : Nat) (x y : Nat → AV) : Option (List (Nat × TypeId)) → Option Bool
  | some l => eqA P d m x y l
  | none => if 0 < m then eqLf (P.underlying t) (x 0) (y 0) else none
@[go_sem] theorem aEqK_some {P : Program} {d m : Nat} {t : TypeId} {x y : Nat → AV} {l : List (Nat × TypeId)} : aEqK P d t m x y (some l) = eqA P d m x y l := rfl
@[go_sem] theorem aEqK_none {P : Program} {d m : Nat} {t : TypeId} {x y : Nat → AV} (h : 0 < m) : aEqK P d t m x y none = eqLf (P.underlying t) (x 0) (y 0) := if_pos h
@[go_sem] theorem aEq_step {P : Program} {d m : Nat} {t : TypeId} {x y : Nat → AV} (h : 0 < d) : aEq P d t m x y = aEqK P (d - 1) t m x y (eqParts P t) := by
  cases d with
  | zero => omega
  | succ d =>
    unfold aEq aEqK
    cases eqParts P t with
    | none => rfl
    | some l => rfl
/-- What lies cell by cell is what is told. -/
theorem ag_le {n : Nat} {c d : Nat → AV} (h : (List.range n).all (fun j => true) = true → ∀ j, j < n → c j = d j) : AVle (.ag n c) (.ag n d) := AVle.ag fun j hj => AVle.of_eq (h (by simp) j hj)
end
end Go.Proofs.YtljgfacjefebaaaDoor
