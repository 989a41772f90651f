/-
  A longest matching of two lists, out of what is between their ends and of both parts of it.
-/
import Derived.Test.YtpbccamaipekjaaLcsD
set_option linter.unusedVariables false
namespace Go.Proofs.Ytpbccamaipekjaa
def prs (i j : Int) (n : Nat) : List (Int × Int) := (List.range n).map fun r : Nat => (i + (r : Int), j + (r : Int))
def shP (i j : Int) (l : List (Int × Int)) : List (Int × Int) := l.map fun p => (i + p.1, j + p.2)
def startR (n : Nat) : List Int := List.replicate n (-1)
def bh (a b : List Int) : Nat := bhd (a.drop (ahd a b)) (b.drop (ahd a b))
/-- What is between that which both have in common at their ends. -/
def core (a b : List Int) : List Int := (a.drop (ahd a b)).take (a.length - ahd a b - bh a b)
def coreR (a b : List Int) : List Int := (b.drop (ahd a b)).take (b.length - ahd a b - bh a b)
def cutF (a b : List Int) : Option (Int × Int) := midF a b (a.length + b.length + 1) 0 (startR (a.length + b.length + 3)) (startR (a.length + b.length + 3))
def stepP (g : List Int → List Int → List (Int × Int)) (a b : List Int) : List (Int × Int) :=
  if (core a b).length ≠ 0 ∧ (coreR a b).length ≠ 0 then
    match cutF (core a b) (coreR a b) with
    | none => []
    | some pq =>
      shP (ahd a b) (ahd a b) (g ((core a b).take pq.1.toNat) ((coreR a b).take pq.2.toNat)) ++
      shP (ahd a b + pq.1) (ahd a b + pq.2) (g ((core a b).drop pq.1.toNat) ((coreR a b).drop pq.2.toNat))
  else []
def findF : Nat → List Int → List Int → List (Int × Int)
  | 0, _, _ => []
  | f + 1, a, b => prs 0 0 (ahd a b) ++ (stepP (findF f) a b ++ prs ((a.length : Int) - bh a b) ((b.length : Int) - bh a b) (bh a b))
theorem findF_succ (f : Nat) (a b : List Int) : findF (f + 1) a b = prs 0 0 (ahd a b) ++ (stepP (findF f) a b ++ prs ((a.length : Int) - bh a b) ((b.length : Int) - bh a b) (bh a b)) := rfl
section
variable {a b : List Int}
theorem bh_le : ahd a b + bh a b ≤ a.length ∧ ahd a b + bh a b ≤ b.length := by
  have h1 := ahd_le a b
  have h2 := bhd_le (a.drop (ahd a b)) (b.drop (ahd a b))
  simp only [List.length_drop] at h2
  unfold bh
  omega
theorem core_len : (core a b).length = a.length - ahd a b - bh a b ∧ (coreR a b).length = b.length - ahd a b - bh a b := by
  have := bh_le (a := a) (b := b)
  constructor <;> simp only [core, coreR, List.length_take, List.length_drop] <;> omega
theorem core_split : a = a.take (ahd a b) ++ (core a b ++ a.drop (a.length - bh a b)) := by
  have h := bh_le (a := a) (b := b)
  rw [show a.drop (a.length - bh a b) = (a.drop (ahd a b)).drop (a.length - ahd a b - bh a b) by rw [List.drop_drop]; congr 1; omega]
  rw [core, List.take_append_drop, List.take_append_drop]
theorem coreR_split : b = b.take (ahd a b) ++ (coreR a b ++ b.drop (b.length - bh a b)) := by
  have h := bh_le (a := a) (b := b)
  rw [show b.drop (b.length - bh a b) = (b.drop (ahd a b)).drop (b.length - ahd a b - bh a b) by rw [List.drop_drop]; congr 1; omega]
  rw [coreR, List.take_append_drop, List.take_append_drop]
theorem getD_drop' (l : List Int) (i k : Nat) : (l.drop i).getD k 0 = l.getD (i + k) 0 := by simp [List.getD]
theorem getD_take' (l : List Int) {i k : Nat} (h : k < i) : (l.take i).getD k 0 = l.getD k 0 := by simp [List.getD, h]
theorem heads_same : a.take (ahd a b) = b.take (ahd a b) := by
  have h := bh_le (a := a) (b := b)
  refine list_ext_getD 0 (by simp only [List.length_take]; omega) fun k hk => ?_
  simp only [List.length_take] at hk
  rw [getD_take' _ (by omega), getD_take' _ (by omega)]
  exact (ahd_spec 0 a b).1 k (by omega)
theorem tails_same : a.drop (a.length - bh a b) = b.drop (b.length - bh a b) := by
  have h := bh_le (a := a) (b := b)
  refine list_ext_getD 0 (by simp only [List.length_drop]; omega) fun k hk => ?_
  simp only [List.length_drop] at hk
  rw [getD_drop', getD_drop']
  have := (bhd_spec 0 (a.drop (ahd a b)) (b.drop (ahd a b))).1 (bh a b - 1 - k) (by unfold bh at *; omega)
  simp only [List.length_drop, getD_drop'] at this
  rw [show ahd a b + (a.length - ahd a b - 1 - (bh a b - 1 - k)) = a.length - bh a b + k by omega,
    show ahd a b + (b.length - ahd a b - 1 - (bh a b - 1 - k)) = b.length - bh a b + k by omega] at this
  exact this
theorem core_ends (h1 : (core a b).length ≠ 0) (h2 : (coreR a b).length ≠ 0) :
    (core a b).getD 0 0 ≠ (coreR a b).getD 0 0 ∧ (core a b).getD ((core a b).length - 1) 0 ≠ (coreR a b).getD ((coreR a b).length - 1) 0 := by
  have h := bh_le (a := a) (b := b)
  have hl := core_len (a := a) (b := b)
  rw [hl.1] at h1
  rw [hl.2] at h2
  constructor
  · rw [core, coreR, getD_take' _ (by omega), getD_take' _ (by omega), getD_drop', getD_drop']
    exact (ahd_spec 0 a b).2 (by omega) (by omega)
  · rw [hl.1, hl.2, core, coreR, getD_take' _ (by omega), getD_take' _ (by omega), getD_drop', getD_drop']
    have := (bhd_spec 0 (a.drop (ahd a b)) (b.drop (ahd a b))).2 (by simp only [List.length_drop]; unfold bh at *; omega) (by simp only [List.length_drop]; unfold bh at *; omega)
    simp only [List.length_drop, getD_drop'] at this
    change a.getD (ahd a b + (a.length - ahd a b - 1 - bh a b)) 0 ≠ b.getD (ahd a b + (b.length - ahd a b - 1 - bh a b)) 0 at this
    rw [show a.length - ahd a b - 1 - bh a b = a.length - ahd a b - bh a b - 1 by omega, show b.length - ahd a b - 1 - bh a b = b.length - ahd a b - bh a b - 1 by omega] at this
    exact this
theorem lcs_core : lcsN a b = ahd a b + lcsN (core a b) (coreR a b) + bh a b := by
  have h := bh_le (a := a) (b := b)
  have e1 := core_split (a := a) (b := b)
  have e2 := coreR_split (a := a) (b := b)
  rw [← heads_same, ← tails_same] at e2
  have : lcsN a b = lcsN (a.take (ahd a b) ++ (core a b ++ a.drop (a.length - bh a b))) (a.take (ahd a b) ++ (coreR a b ++ a.drop (a.length - bh a b))) := by
    rw [← e1, ← e2]
  rw [this, lcsN_ahead, lcsN_behind]
  simp only [List.length_take, List.length_drop]
  omega
end
/-! ### one item more -/
theorem sub_one {a b : List Int} (h : a.Sublist b) (hl : b.length = a.length + 1) : ∃ u v z, a = u ++ v ∧ b = u ++ z :: v := by
  induction h with
  | slnil => simp at hl
  | @cons l1 l2 x h ih =>
    simp only [List.length_cons] at hl
    have := h.eq_of_length (by omega)
    subst this
    exact ⟨[], l1, x, rfl, rfl⟩
  | @cons_cons l1 l2 x h ih =>
    simp only [List.length_cons] at hl
    obtain ⟨u, v, z, e1, e2⟩ := ih (by omega)
    exact ⟨x :: u, v, z, by rw [e1]; rfl, by rw [e2]; rfl⟩
theorem one_end {a b : List Int} (h : a.Sublist b) (hl : b.length = a.length + 1) (h0 : a.length ≠ 0) :
    a.getD 0 0 = b.getD 0 0 ∨ a.getD (a.length - 1) 0 = b.getD (b.length - 1) 0 := by
  obtain ⟨u, v, z, rfl, rfl⟩ := sub_one h hl
  cases u with
  | cons x u => left; rfl
  | nil =>
    right
    simp only [List.nil_append, List.length_cons] at h0 ⊢
    rw [show v.length + 1 - 1 = (v.length - 1) + 1 by omega]
    rfl
/-- If they differ at both ends, two single items are there at least. -/
theorem two_apart {a b : List Int} (h1 : a.length ≠ 0) (h2 : b.length ≠ 0) (h3 : a.getD 0 0 ≠ b.getD 0 0) (h4 : a.getD (a.length - 1) 0 ≠ b.getD (b.length - 1) 0) :
    2 ≤ dst a b a.length b.length := by
  obtain ⟨c, g1, g2, g3⟩ := lcsN_some a b
  have l1 := g1.length_le
  have l2 := g2.length_le
  have hd : dst a b a.length b.length = (a.length : Int) + b.length - 2 * c.length := by rw [dst, g3]; rfl
  rw [hd]
  by_cases e1 : a.length = c.length
  · have := g1.eq_of_length e1.symm
    subst this
    by_cases e2 : b.length = c.length
    · have := g2.eq_of_length e2.symm
      subst this
      exact absurd rfl h3
    · by_cases e3 : b.length = c.length + 1
      · rcases one_end g2 e3 h1 with g | g
        · exact absurd g h3
        · exact absurd g h4
      · omega
  · by_cases e2 : b.length = c.length
    · have := g2.eq_of_length e2.symm
      subst this
      by_cases e3 : a.length = c.length + 1
      · rcases one_end g1 e3 h2 with g | g
        · exact absurd g.symm h3
        · exact absurd g.symm h4
      · omega
    · omega
theorem start_top (a b : List Int) : allTop a b 0 (startR (a.length + b.length + 3)) := by
  refine ⟨by simp [startR], fun k h1 h2 => .inl ⟨?_, fun x h => ?_⟩⟩
  · unfold rch startR
    simp only [List.getD]
    rw [List.getElem?_replicate, if_pos (by omega)]
    rfl
  · have := h.2.2.2.2
    have := dst_nonneg (a := a) (b := b) x.toNat (x - k).toNat
    omega
theorem cut_spec {a b : List Int} (h1 : a.length ≠ 0) (h2 : b.length ≠ 0) (h3 : a.getD 0 0 ≠ b.getD 0 0) (h4 : a.getD (a.length - 1) 0 ≠ b.getD (b.length - 1) 0) :
    ∃ p q : Nat, cutF a b = some ((p : Int), (q : Int)) ∧ p ≤ a.length ∧ q ≤ b.length ∧ 0 < p + q ∧ p + q < a.length + b.length ∧ lcsN (a.take p) (b.take q) + lcsN (a.drop p) (b.drop q) = lcsN a b := by
  have ht := two_apart h1 h2 h3 h4
  have hle := (tabL_le (a := a) (b := b) a.length b.length)
  have hd : dst a b a.length b.length = (a.length : Int) + b.length - 2 * lcsN a b := rfl
  have s2 := start_top a.reverse b.reverse
  simp only [len_rev] at s2
  obtain ⟨p, q, e, p1, q1, g1, g2, g3⟩ := mid_spec (a := a) (b := b) (a.length + b.length + 1) 0 _ _ (start_top a b) s2 (fun _ => by omega) (fun _ => by omega) (by omega)
  have e1 := dst_lcs (a := a) (b := b) p1 q1
  have e2 := dstR_lcs (a := a) (b := b) p1 q1
  refine ⟨p, q, e, p1, q1, ?_, ?_, by omega⟩
  · have := (lcsN_le (a.take p) (b.take q))
    omega
  · have : ¬ (p = a.length ∧ q = b.length) := fun ⟨x, y⟩ => by
      subst x; subst y
      simp only [List.drop_length, lcsN_nil] at e2
      omega
    omega
/-! ### matchings -/
def inM (a b : List Int) (p : Int × Int) : Prop := 0 ≤ p.1 ∧ p.1 < a.length ∧ 0 ≤ p.2 ∧ p.2 < b.length ∧ a.getD p.1.toNat 0 = b.getD p.2.toNat 0
def isM (a b : List Int) (l : List (Int × Int)) : Prop := l.Pairwise (fun p q => p.1 < q.1 ∧ p.2 < q.2) ∧ ∀ p ∈ l, inM a b p
theorem isM_nil (a b : List Int) : isM a b [] := ⟨.nil, fun _ h => nomatch h⟩
theorem shP_len (i j : Int) (l : List (Int × Int)) : (shP i j l).length = l.length := by simp [shP]
theorem prs_len (i j : Int) (n : Nat) : (prs i j n).length = n := by simp [prs]
theorem shP_shP (i j i' j' : Int) (l : List (Int × Int)) : shP i j (shP i' j' l) = shP (i + i') (j + j') l := by
  simp only [shP, List.map_map]
  refine List.map_congr_left fun p _ => ?_
  simp only [Function.comp]
  congr 1 <;> omega
theorem shP_app (i j : Int) (l l' : List (Int × Int)) : shP i j (l ++ l') = shP i j l ++ shP i j l' := by simp [shP]
theorem shP_prs (i j i' j' : Int) (n : Nat) : shP i j (prs i' j' n) = prs (i + i') (j + j') n := by
  simp only [shP, prs, List.map_map]
  refine List.map_congr_left fun p _ => ?_
  simp only [Function.comp]
  congr 1 <;> omega
theorem shP_0 (l : List (Int × Int)) : shP 0 0 l = l := by
  simp only [shP, Int.zero_add]
  exact List.map_id l
theorem isM_app {a b a' b' : List Int} {l l' : List (Int × Int)} (h : isM a b l) (h' : isM a' b' l') : isM (a ++ a') (b ++ b') (l ++ shP a.length b.length l') := by
  constructor
  · refine List.pairwise_append.2 ⟨h.1, ?_, fun p hp q hq => ?_⟩
    · exact List.pairwise_map.2 (h'.1.imp fun {p q} hpq => by dsimp only; omega)
    · obtain ⟨r, hr, rfl⟩ := List.mem_map.1 hq
      have h1 := h.2 p hp
      have h2 := h'.2 r hr
      unfold inM at h1 h2
      dsimp only
      omega
  · intro p hp
    rcases List.mem_append.1 hp with hp | hp
    · have h1 := h.2 p hp
      unfold inM at *
      simp only [List.length_append]
      refine ⟨by omega, by omega, by omega, by omega, ?_⟩
      simp only [List.getD]
      rw [List.getElem?_append_left (by omega), List.getElem?_append_left (by omega)]
      exact h1.2.2.2.2
    · obtain ⟨r, hr, rfl⟩ := List.mem_map.1 hp
      have h1 := h'.2 r hr
      unfold inM at *
      simp only [List.length_append]
      refine ⟨by omega, by omega, by omega, by omega, ?_⟩
      simp only [List.getD]
      rw [List.getElem?_append_right (by omega), List.getElem?_append_right (by omega)]
      rw [show (a.length + r.1).toNat - a.length = r.1.toNat by omega, show (b.length + r.2).toNat - b.length = r.2.toNat by omega]
      exact h1.2.2.2.2
theorem isM_prs (a : List Int) : isM a a (prs 0 0 a.length) := by
  constructor
  · refine List.pairwise_map.2 (List.pairwise_lt_range.imp fun {p q} hpq => by dsimp only; omega)
  · intro p hp
    obtain ⟨r, hr, rfl⟩ := List.mem_map.1 hp
    have := List.mem_range.1 hr
    unfold inM
    dsimp only
    refine ⟨by omega, by omega, by omega, by omega, rfl⟩
theorem find_spec : ∀ (f : Nat) (a b : List Int), a.length + b.length < f →
    isM a b (findF f a b) ∧ (findF f a b).length = lcsN a b ∧ ∀ f', a.length + b.length < f' → findF f' a b = findF f a b
  | 0, a, b, h => by omega
  | f + 1, a, b, h => by
    have hb := bh_le (a := a) (b := b)
    have hl := core_len (a := a) (b := b)
    have e1 := core_split (a := a) (b := b)
    have e2 := coreR_split (a := a) (b := b)
    have hh := heads_same (a := a) (b := b)
    have ht := tails_same (a := a) (b := b)
    have hc := lcs_core (a := a) (b := b)
    have key : ∀ m, isM (core a b) (coreR a b) m → isM a b (prs 0 0 (ahd a b) ++ (shP (ahd a b) (ahd a b) m ++ prs ((a.length : Int) - bh a b) ((b.length : Int) - bh a b) (bh a b))) := by
      intro m hm
      have k1 := isM_prs (a.take (ahd a b))
      have k2 := isM_prs (a.drop (a.length - bh a b))
      have k3 := isM_app k1 (isM_app hm k2)
      simp only [List.length_take, List.length_drop, shP_app, shP_prs] at k3
      rw [Nat.min_eq_left (by omega), show a.length - (a.length - bh a b) = bh a b by omega] at k3
      rw [show a.take (ahd a b) ++ (coreR a b ++ a.drop (a.length - bh a b)) = b by rw [hh, ht]; exact e2.symm] at k3
      rw [← e1] at k3
      rw [show ((ahd a b : Nat) : Int) + ((core a b).length + 0) = a.length - bh a b by omega, show ((ahd a b : Nat) : Int) + ((coreR a b).length + 0) = b.length - bh a b by omega] at k3
      exact k3
    by_cases c : (core a b).length ≠ 0 ∧ (coreR a b).length ≠ 0
    · have hce := core_ends c.1 c.2
      obtain ⟨p, q, e, p1, q1, g1, g2, g3⟩ := cut_spec c.1 c.2 hce.1 hce.2
      have r1 := find_spec f ((core a b).take p) ((coreR a b).take q) (by simp only [List.length_take]; omega)
      have r2 := find_spec f ((core a b).drop p) ((coreR a b).drop q) (by simp only [List.length_drop]; omega)
      have ef : ∀ f', findF (f' + 1) a b = prs 0 0 (ahd a b) ++ (shP (ahd a b) (ahd a b) (findF f' ((core a b).take p) ((coreR a b).take q) ++ shP p q (findF f' ((core a b).drop p) ((coreR a b).drop q))) ++ prs ((a.length : Int) - bh a b) ((b.length : Int) - bh a b) (bh a b)) := fun f' => by
        rw [findF_succ, stepP, if_pos c, e]
        simp only [Int.toNat_natCast, shP_app, shP_shP]
      rw [ef]
      refine ⟨key _ ?_, ?_, fun f' hf' => ?_⟩
      · have := isM_app r1.1 r2.1
        simp only [List.length_take] at this
        rw [List.take_append_drop, List.take_append_drop, Nat.min_eq_left p1, Nat.min_eq_left q1] at this
        exact this
      · simp only [List.length_append, prs_len, shP_len, r1.2.1, r2.2.1]
        omega
      · cases f' with
        | zero => omega
        | succ f' =>
          rw [ef, r1.2.2 f' (by simp only [List.length_take]; omega), r2.2.2 f' (by simp only [List.length_drop]; omega)]
    · have ef : ∀ f', findF (f' + 1) a b = prs 0 0 (ahd a b) ++ (shP (ahd a b) (ahd a b) [] ++ prs ((a.length : Int) - bh a b) ((b.length : Int) - bh a b) (bh a b)) := fun f' => by
        rw [findF_succ, stepP, if_neg c]; rfl
      rw [ef]
      refine ⟨key _ (isM_nil _ _), ?_, fun f' hf' => ?_⟩
      · simp only [List.length_append, prs_len, shP_len, List.length_nil]
        rw [hc]
        have : lcsN (core a b) (coreR a b) = 0 := by
          have := lcsN_le (core a b) (coreR a b)
          omega
        omega
      · cases f' with
        | zero => omega
        | succ f' => rw [ef]
end Go.Proofs.Ytpbccamaipekjaa
