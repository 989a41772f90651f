/-
  A longest matching of two lists, by what both have; what else the laws tell of such.
-/
import Derived.Test.YtpbccamaipekjaaLcsE
set_option linter.unusedVariables false
namespace Go.Proofs.Ytpbccamaipekjaa
/-- The places of those items. -/
def plc (q : Int → Bool) : Int → List Int → List Int
  | _, [] => []
  | i, x :: l => if q x then i :: plc q (i + 1) l else plc q (i + 1) l
def shI (a b : List Int) : List Int := a.filter fun x => b.contains x
def shQ (a b : List Int) : List Int := plc (fun x => b.contains x) 0 a
theorem plc_snoc (q : Int → Bool) (x : Int) : ∀ (i : Int) (l : List Int), plc q i (l ++ [x]) = plc q i l ++ (if q x then [i + l.length] else [])
  | i, [] => by simp [plc]
  | i, y :: l => by
    have := plc_snoc q x (i + 1) l
    simp only [List.cons_append, plc, List.length_cons]
    rw [this, show i + 1 + (l.length : Int) = i + ((l.length + 1 : Nat) : Int) by omega]
    split <;> rfl
theorem plc_len (q : Int → Bool) : ∀ (i : Int) (l : List Int), (plc q i l).length = (l.filter q).length
  | i, [] => rfl
  | i, y :: l => by
    have := plc_len q (i + 1) l
    simp only [plc, List.filter_cons]
    split <;> simp [this]
theorem plc_mem (q : Int → Bool) : ∀ (i : Int) (l : List Int), ∀ p ∈ plc q i l, i ≤ p ∧ p < i + l.length
  | i, [], p, h => nomatch h
  | i, y :: l, p, h => by
    have := plc_mem q (i + 1) l p
    simp only [plc] at h
    simp only [List.length_cons]
    split at h
    · rcases List.mem_cons.1 h with h | h
      · omega
      · have := this h; omega
    · have := this h; omega
theorem plc_rise (q : Int → Bool) : ∀ (i : Int) (l : List Int), (plc q i l).Pairwise (· < ·)
  | i, [] => .nil
  | i, y :: l => by
    have := plc_rise q (i + 1) l
    simp only [plc]
    split
    · exact .cons (fun p hp => by have := plc_mem q (i + 1) l p hp; omega) this
    · exact this
theorem plc_at (q : Int → Bool) : ∀ (i : Int) (l : List Int) (k : Nat), k < (l.filter q).length → l.getD ((plc q i l).getD k 0 - i).toNat 0 = (l.filter q).getD k 0
  | i, [], k, h => by simp at h
  | i, y :: l, k, h => by
    simp only [plc, List.filter_cons] at h ⊢
    split at h
    · rename_i c
      simp only [c, if_true]
      cases k with
      | zero => simp
      | succ k =>
        simp only [List.length_cons] at h
        have := plc_at q (i + 1) l k (by omega)
        have hm := plc_mem q (i + 1) l ((plc q (i + 1) l).getD k 0) (by
          rw [gd_lt _ _ (by rw [plc_len]; omega)]; exact List.getElem_mem _)
        simp only [List.getD_cons_succ]
        rw [show ((plc q (i + 1) l).getD k 0 - i).toNat = ((plc q (i + 1) l).getD k 0 - (i + 1)).toNat + 1 by omega, List.getD_cons_succ]
        exact this
    · rename_i c
      simp only [c]
      have := plc_at q (i + 1) l k h
      have hm := plc_mem q (i + 1) l ((plc q (i + 1) l).getD k 0) (by
        rw [gd_lt _ _ (by rw [plc_len]; omega)]; exact List.getElem_mem _)
      simp only [Bool.false_eq_true, if_false]
      rw [show ((plc q (i + 1) l).getD k 0 - i).toNat = ((plc q (i + 1) l).getD k 0 - (i + 1)).toNat + 1 by omega, List.getD_cons_succ]
      exact this
theorem plc_lt {q : Int → Bool} {i : Int} {l : List Int} {k k' : Nat} (h : k < k') (h' : k' < (l.filter q).length) : (plc q i l).getD k 0 < (plc q i l).getD k' 0 := by
  have := List.pairwise_iff_getElem.1 (plc_rise q i l) k k' (by rw [plc_len]; omega) (by rw [plc_len]; omega) h
  rw [gd_lt _ _ (by rw [plc_len]; omega), gd_lt _ _ (by rw [plc_len]; omega)]
  exact this
def mapM (pa pb : List Int) (l : List (Int × Int)) : List (Int × Int) := l.map fun p => (pa.getD p.1.toNat 0, pb.getD p.2.toNat 0)
def matchF (a b : List Int) : List (Int × Int) := mapM (shQ a b) (shQ b a) (findF ((shI a b).length + (shI b a).length + 1) (shI a b) (shI b a))
theorem lcs_shared (a b : List Int) : lcsN (shI a b) (shI b a) = lcsN a b := by
  obtain ⟨c, h1, h2, h3⟩ := lcsN_some a b
  refine lcsN_eq ⟨c, ?_, ?_, h3⟩ fun d g1 g2 => ?_
  · have := h1.filter fun x => b.contains x
    rwa [List.filter_eq_self.2 fun x hx => by simpa using h2.subset hx] at this
  · have := h2.filter fun x => a.contains x
    rwa [List.filter_eq_self.2 fun x hx => by simpa using h1.subset hx] at this
  · exact lcsN_max (g1.trans List.filter_sublist) (g2.trans List.filter_sublist)
theorem match_spec (a b : List Int) : isM a b (matchF a b) ∧ (matchF a b).length = lcsN a b := by
  have h := find_spec ((shI a b).length + (shI b a).length + 1) (shI a b) (shI b a) (by omega)
  refine ⟨⟨?_, ?_⟩, by simp only [matchF, mapM, List.length_map]; rw [h.2.1, lcs_shared]⟩
  · refine List.pairwise_map.2 (h.1.1.imp_of_mem fun {p q} hp hq hpq => ?_)
    have h1 := h.1.2 p hp
    have h2 := h.1.2 q hq
    unfold inM shI at h1 h2
    exact ⟨plc_lt (by omega) (by omega), plc_lt (by omega) (by omega)⟩
  · intro p hp
    obtain ⟨r, hr, rfl⟩ := List.mem_map.1 hp
    have h1 := h.1.2 r hr
    unfold inM shI at h1
    have ma := plc_mem (fun x => b.contains x) 0 a ((shQ a b).getD r.1.toNat 0) (by
      unfold shQ
      rw [gd_lt _ _ (by rw [plc_len]; omega)]; exact List.getElem_mem _)
    have mb := plc_mem (fun x => a.contains x) 0 b ((shQ b a).getD r.2.toNat 0) (by
      unfold shQ
      rw [gd_lt _ _ (by rw [plc_len]; omega)]; exact List.getElem_mem _)
    have ea := plc_at (fun x => b.contains x) 0 a r.1.toNat (by omega)
    have eb := plc_at (fun x => a.contains x) 0 b r.2.toNat (by omega)
    unfold inM
    dsimp only
    refine ⟨by omega, by omega, by omega, by omega, ?_⟩
    rw [Int.sub_zero] at ea eb
    unfold shQ
    rw [ea, eb]
    exact h1.2.2.2.2
/-! ### telling whether it is one -/
def rgt (a b : List Int) : Int → Int → List (Int × Int) → Bool
  | _, _, [] => true
  | u, v, p :: l => decide (u < p.1 ∧ v < p.2 ∧ p.1 < a.length ∧ p.2 < b.length ∧ a.getD p.1.toNat 0 = b.getD p.2.toNat 0) && rgt a b p.1 p.2 l
theorem rgt_isM {a b : List Int} : ∀ (l : List (Int × Int)) (u v : Int), isM a b l → (∀ p ∈ l, u < p.1 ∧ v < p.2) → rgt a b u v l = true
  | [], _, _, _, _ => rfl
  | p :: l, u, v, h, hu => by
    have h1 := h.2 p (List.mem_cons_self ..)
    have h2 := hu p (List.mem_cons_self ..)
    unfold inM at h1
    rw [rgt, Bool.and_eq_true, decide_eq_true_eq]
    refine ⟨⟨h2.1, h2.2, h1.2.1, h1.2.2.2.1, h1.2.2.2.2⟩, rgt_isM l _ _ ⟨(List.pairwise_cons.1 h.1).2, fun q hq => h.2 q (List.mem_cons_of_mem _ hq)⟩ fun q hq => (List.pairwise_cons.1 h.1).1 q hq⟩
theorem rgt_match (a b : List Int) : rgt a b (-1) (-1) (matchF a b) = true :=
  rgt_isM _ _ _ (match_spec a b).1 fun p hp => by have := (match_spec a b).1.2 p hp; unfold inM at this; omega
def distF (a b : List Int) : Int := a.length + b.length - 2 * (matchF a b).length
theorem distF_eq (a b : List Int) : distF a b = a.length + b.length - 2 * lcsN a b := by rw [distF, (match_spec a b).2]
/-! ### a list and itself -/
theorem rise_all : ∀ (l : List (Int × Int)) (u n : Int), l.Pairwise (fun p q => p.1 < q.1 ∧ p.2 < q.2) → (∀ p ∈ l, u ≤ p.1 ∧ p.1 < n ∧ u ≤ p.2 ∧ p.2 < n) → n - u ≤ l.length → l = prs u u l.length
  | [], u, n, _, _, _ => rfl
  | p :: l, u, n, h, hu, hn => by
    have h1 := hu p (List.mem_cons_self ..)
    have ⟨g1, g2⟩ := List.pairwise_cons.1 h
    simp only [List.length_cons] at hn ⊢
    have ub : ∀ (l : List (Int × Int)) (w : Int), l.Pairwise (fun p q => p.1 < q.1 ∧ p.2 < q.2) → (∀ q ∈ l, w < q.1 ∧ q.1 < n) → w < n → (l.length : Int) ≤ n - w - 1 := by
      intro l
      induction l with
      | nil => intro w _ _ hw; simp; omega
      | cons q l ih =>
        intro w hp hq hw
        have ⟨k1, k2⟩ := List.pairwise_cons.1 hp
        have := hq q (List.mem_cons_self ..)
        have := ih q.1 k2 (fun r hr => ⟨(k1 r hr).1, (hq r (List.mem_cons_of_mem _ hr)).2⟩) this.2
        simp only [List.length_cons]
        omega
    have ub2 : ∀ (l : List (Int × Int)) (w : Int), l.Pairwise (fun p q => p.1 < q.1 ∧ p.2 < q.2) → (∀ q ∈ l, w < q.2 ∧ q.2 < n) → w < n → (l.length : Int) ≤ n - w - 1 := by
      intro l
      induction l with
      | nil => intro w _ _ hw; simp; omega
      | cons q l ih =>
        intro w hp hq hw
        have ⟨k1, k2⟩ := List.pairwise_cons.1 hp
        have := hq q (List.mem_cons_self ..)
        have := ih q.2 k2 (fun r hr => ⟨(k1 r hr).2, (hq r (List.mem_cons_of_mem _ hr)).2⟩) this.2
        simp only [List.length_cons]
        omega
    have b1 := ub l p.1 g2 (fun q hq => ⟨(g1 q hq).1, (hu q (List.mem_cons_of_mem _ hq)).2.1⟩) h1.2.1
    have b2 := ub2 l p.2 g2 (fun q hq => ⟨(g1 q hq).2, (hu q (List.mem_cons_of_mem _ hq)).2.2.2⟩) h1.2.2.2
    have e1 : p.1 = u := by omega
    have e2 : p.2 = u := by omega
    have := rise_all l (u + 1) n g2 (fun q hq => by
      have k1 := g1 q hq
      have k2 := hu q (List.mem_cons_of_mem _ hq)
      omega) (by omega)
    have hp : p = (u, u) := by cases p; simp only at e1 e2; rw [e1, e2]
    rw [hp]
    refine Eq.trans (congrArg ((u, u) :: ·) this) ?_
    unfold prs
    rw [List.range_succ_eq_map]
    simp only [List.map_cons, List.map_map, Int.natCast_zero, Int.add_zero]
    congr 1
    refine List.map_congr_left fun r _ => ?_
    simp only [Function.comp]
    congr 1 <;> omega
theorem match_self (a : List Int) : matchF a a = prs 0 0 a.length := by
  have h := match_spec a a
  rw [lcsN_same] at h
  have := rise_all (matchF a a) 0 a.length h.1.1 (fun p hp => by have := h.1.2 p hp; unfold inM at this; omega) (by omega)
  rw [h.2] at this
  exact this
/-! ### by way of a third list -/
theorem two_subs {c1 c2 b : List Int} (h1 : c1.Sublist b) (h2 : c2.Sublist b) : ∃ d : List Int, d.Sublist c1 ∧ d.Sublist c2 ∧ c1.length + c2.length ≤ b.length + d.length := by
  induction b generalizing c1 c2 with
  | nil =>
    have e1 := List.sublist_nil.1 h1
    have e2 := List.sublist_nil.1 h2
    subst e1; subst e2
    exact ⟨[], .slnil, .slnil, by simp⟩
  | cons x b ih =>
    cases h1 with
    | cons _ h1 =>
      cases h2 with
      | cons _ h2 =>
        obtain ⟨d, k1, k2, k3⟩ := ih h1 h2
        exact ⟨d, k1, k2, by simp only [List.length_cons]; omega⟩
      | cons_cons _ h2 =>
        obtain ⟨d, k1, k2, k3⟩ := ih h1 h2
        exact ⟨d, k1, k2.cons _, by simp only [List.length_cons]; omega⟩
    | cons_cons _ h1 =>
      cases h2 with
      | cons _ h2 =>
        obtain ⟨d, k1, k2, k3⟩ := ih h1 h2
        exact ⟨d, k1.cons _, k2, by simp only [List.length_cons]; omega⟩
      | cons_cons _ h2 =>
        obtain ⟨d, k1, k2, k3⟩ := ih h1 h2
        exact ⟨x :: d, k1.cons_cons _, k2.cons_cons _, by simp only [List.length_cons]; omega⟩
theorem lcs_via (a b c : List Int) : lcsN a b + lcsN b c ≤ b.length + lcsN a c := by
  obtain ⟨c1, h1, h2, h3⟩ := lcsN_some a b
  obtain ⟨c2, g1, g2, g3⟩ := lcsN_some b c
  obtain ⟨d, k1, k2, k3⟩ := two_subs h2 g1
  have := lcsN_max (k1.trans h1) (k2.trans g2)
  omega
theorem dist_via (a b c : List Int) : distF a c ≤ distF a b + distF b c := by
  have := lcs_via a b c
  simp only [distF_eq]
  omega
theorem dist_0 (a b : List Int) : distF a b = 0 ↔ a = b := by
  rw [distF_eq]
  constructor
  · intro h
    obtain ⟨c, h1, h2, h3⟩ := lcsN_some a b
    have l1 := h1.length_le
    have l2 := h2.length_le
    have e1 := h1.eq_of_length (by omega)
    have e2 := h2.eq_of_length (by omega)
    rw [← e1, ← e2]
  · rintro rfl
    rw [lcsN_same]
    omega
theorem match_len_comm (a b : List Int) : (matchF a b).length = (matchF b a).length := by
  rw [(match_spec a b).2, (match_spec b a).2, lcsN_comm]
theorem match_told : matchF [1, 2, 3] [2, 3, 4] = [(1, 0), (2, 1)] := by decide +kernel
end Go.Proofs.Ytpbccamaipekjaa
