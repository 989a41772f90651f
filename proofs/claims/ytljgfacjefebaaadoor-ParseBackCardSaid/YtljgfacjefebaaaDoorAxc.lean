/-
  A region whose order is drawn, further: the check by which it is seen that the order doesn't matter, and the law.
-/
import Derived.Test.YtljgfacjefebaaaDoorAxb
namespace Go.Proofs.YtljgfacjefebaaaDoor
open Go

/-! ### the check -/
def maskOf (M : List Nat) : List Edge → Nat
  | [] => 0
  | e :: es => if Region.binds .any e then maskOf M es ||| (2 ^ e.on ||| M.getD e.on 0) else maskOf M es
def masks : List Nat → List Oper → List Nat
  | acc, [] => acc
  | acc, o :: r => masks (acc ++ [maskOf acc o.after.toList]) r
def touch (ops : Array Oper) (a b : Oper) : Bool :=
  (match a.dst with | some t => b.dst == some t || (looks ops b).contains t | none => false) || (match b.dst with | some t => (looks ops a).contains t | none => false)
def chk (ops : Array Oper) (all : List Nat) (m : Nat) : Nat → List Nat → List (Nat × Oper) → List Oper → Bool
  | _, _, _, [] => true
  | _, [], _, _ :: _ => false
  | j, mj :: M, prev, o :: r => mj == maskOf all o.after.toList && o.after.toList.all (fun e => !Region.binds .any e || decide (e.on < j)) &&
      prev.all (fun p => (decide (j < m) && !touch ops p.2 o) || mj.testBit p.1) && chk ops all m (j + 1) M ((j, o) :: prev) r
def drawOK (l : List Oper) (m : Nat) : Bool := chk l.toArray (masks [] l) m 0 (masks [] l) [] l

theorem mask_bit {M : List Nat} {i : Nat} : ∀ {es : List Edge}, (maskOf M es).testBit i = true → ∃ e ∈ es, Region.binds .any e = true ∧ (e.on = i ∨ (M.getD e.on 0).testBit i = true)
  | [], h => by simp [maskOf] at h
  | e :: es, h => by
    unfold maskOf at h
    split at h
    · rename_i hb
      rw [Nat.testBit_or, Nat.testBit_or, Bool.or_eq_true, Bool.or_eq_true] at h
      rcases h with h | h | h
      · obtain ⟨e', he, r⟩ := mask_bit h
        exact ⟨e', List.mem_cons_of_mem _ he, r⟩
      · rw [Nat.testBit_two_pow] at h
        exact ⟨e, List.mem_cons_self .., hb, .inl (by simpa using h)⟩
      · exact ⟨e, List.mem_cons_self .., hb, .inr h⟩
    · obtain ⟨e', he, r⟩ := mask_bit h
      exact ⟨e', List.mem_cons_of_mem _ he, r⟩

theorem chk_spec {ops : Array Oper} {all : List Nat} {m : Nat} : ∀ (l : List Oper) (j0 : Nat) (M : List Nat) (prev : List (Nat × Oper)), chk ops all m j0 M prev l = true →
    ∀ (j : Nat) (o : Oper), l[j]? = some o → M.getD j 0 = maskOf all o.after.toList ∧ (∀ e ∈ o.after.toList, Region.binds .any e = true → e.on < j0 + j) ∧
      (∀ p ∈ prev, (j0 + j < m → touch ops p.2 o = true) → (M.getD j 0).testBit p.1 = true) ∧
      (∀ (i : Nat) (oi : Oper), i < j → l[i]? = some oi → (j0 + j < m → touch ops oi o = true) → (M.getD j 0).testBit (j0 + i) = true)
  | [], _, _, _, _, j, _, h => by simp at h
  | _ :: _, _, [], _, h, _, _, _ => by simp [chk] at h
  | o :: r, j0, mj :: M, prev, h, j, o', hj => by
    simp only [chk, Bool.and_eq_true] at h
    obtain ⟨⟨⟨h1, h2⟩, h3⟩, h4⟩ := h
    cases j with
    | zero =>
      simp only [List.getElem?_cons_zero, Option.some.injEq] at hj
      subst hj
      refine ⟨by simpa using h1, fun e he hb => ?_, fun p hp ht => ?_, fun i _ hi => absurd hi (by omega)⟩
      · have := List.all_eq_true.1 h2 e he
        simpa [hb] using this
      · have := List.all_eq_true.1 h3 p hp
        simp only [Bool.or_eq_true, Bool.and_eq_true, decide_eq_true_eq, Bool.not_eq_true'] at this
        rcases this with ⟨hlt, hn⟩ | hb
        · rw [ht (by omega)] at hn; cases hn
        · simpa using hb
    | succ j =>
      have := chk_spec r (j0 + 1) M ((j0, o) :: prev) h4 j o' (by simpa using hj)
      obtain ⟨g1, g2, g3, g4⟩ := this
      simp only [List.getD_cons_succ]
      refine ⟨g1, fun e he hb => by have := g2 e he hb; omega, fun p hp ht => g3 p (List.mem_cons_of_mem _ hp) (fun hlt => ht (by omega)), fun i oi hi hoi ht => ?_⟩
      cases i with
      | zero =>
        simp only [List.getElem?_cons_zero, Option.some.injEq] at hoi
        subst hoi
        exact g3 (j0, o) (List.mem_cons_self ..) (fun hlt => ht (by omega))
      | succ i =>
        have := g4 i oi (by omega) (by simpa using hoi) (fun hlt => ht (by omega))
        rwa [show j0 + 1 + i = j0 + (i + 1) by omega] at this

/-- What the check gives. -/
structure Drawn (l : List Oper) (m : Nat) : Prop where
  edge : ∀ (j : Nat) (o : Oper), l[j]? = some o → ∀ e ∈ o.after, Region.binds .any e = true → e.on < j
  bit : ∀ (j : Nat) (o : Oper), l[j]? = some o → ∀ i, ((masks [] l).getD j 0).testBit i = true → ∃ e ∈ o.after, Region.binds .any e = true ∧ (e.on = i ∨ ((masks [] l).getD e.on 0).testBit i = true)
  tch : ∀ (i j : Nat) (oi oj : Oper), i < j → l[i]? = some oi → l[j]? = some oj → (j < m → touch l.toArray oi oj = true) → ((masks [] l).getD j 0).testBit i = true
theorem Drawn.of {l : List Oper} {m : Nat} (h : drawOK l m = true) : Drawn l m where
  edge := fun j o hj e he hb => by have := (chk_spec l 0 _ [] h j o hj).2.1 e (by simpa using he) hb; omega
  bit := fun j o hj i hi => by
    have h1 := (chk_spec l 0 _ [] h j o hj).1
    rw [h1] at hi
    obtain ⟨e, he, r⟩ := mask_bit hi
    exact ⟨e, by simpa using he, r⟩
  tch := fun i j oi oj hij hi hj ht => by
    have := (chk_spec l 0 _ [] h j oj hj).2.2.2 i oi hij hi (fun hlt => ht (by omega))
    rwa [Nat.zero_add] at this

/-- What has come up holds all that it waits for. -/
def Closed (l : List Oper) (S : Nat → Bool) : Prop := ∀ (j : Nat) (o : Oper), l[j]? = some o → S j = true → ∀ e ∈ o.after, Region.binds .any e = true → S e.on = true
theorem Drawn.anc {l : List Oper} {m : Nat} (h : Drawn l m) {S : Nat → Bool} (hc : Closed l S) : ∀ (n j : Nat) (o : Oper), j ≤ n → l[j]? = some o → (∀ e ∈ o.after, Region.binds .any e = true → S e.on = true) →
    ∀ i, ((masks [] l).getD j 0).testBit i = true → S i = true := by
  intro n
  induction n with
  | zero =>
    intro j o hjn hj hS i hi
    obtain ⟨e, he, hb, r⟩ := h.bit j o hj i hi
    have := h.edge j o hj e he hb
    omega
  | succ n ih =>
    intro j o hjn hj hS i hi
    obtain ⟨e, he, hb, r⟩ := h.bit j o hj i hi
    have hlt := h.edge j o hj e he hb
    rcases r with r | r
    · rw [← r]; exact hS e he hb
    · have hlen : e.on < l.length := by
        have := (List.getElem?_eq_some_iff.1 hj).1
        omega
      exact ih e.on l[e.on] (by omega) (List.getElem?_eq_getElem hlen) (fun e' he' hb' => hc e.on _ (List.getElem?_eq_getElem hlen) (hS e he hb) e' he' hb') i r

/-! ### the law -/
section
variable {P : Program} {Γ : Gam}

/-- The first m operations write nothing that was there. -/
def xOpsA (P : Program) (Γ : Gam) (ops : Array Oper) : Nat → List Oper → AS → (AS → Prop) → Prop
  | 0, l, st, K => xOps P Γ ops l st K
  | _ + 1, [], st, K => K st
  | m + 1, o :: r, st, K => match gop P Γ ops st o with
    | some (pre, z, row) => (dstOK st.sz o.dst ∧ pre) ∧ xOpsA P Γ ops m r (st.put o.dst z row) K
    | none => False
theorem xOpsA_TR {ops : Array Oper} {K : AS → Prop} : ∀ (m : Nat) (l : List Oper) (st : AS), xOpsA P Γ ops m l st K → ∃ vs st', TR P Γ ops (l.take m) st vs st' ∧ xOps P Γ ops (l.drop m) st' K
  | 0, l, st, h => ⟨[], st, by simpa using TR.nil st, by unfold xOpsA at h; simpa using h⟩
  | m + 1, [], st, h => ⟨[], st, by simpa using TR.nil st, by unfold xOpsA at h; simpa [xOps] using h⟩
  | m + 1, o :: r, st, h => by
    unfold xOpsA at h
    split at h
    · rename_i pre z row hg
      obtain ⟨⟨hd, hp⟩, hx⟩ := h
      obtain ⟨vs, st', h1, h2⟩ := xOpsA_TR m r _ hx
      exact ⟨(z, row) :: vs, st', by simpa using TR.cons hg hd hp h1, by simpa using h2⟩
    · exact h.elim

def left (listed : Array Bool) (n : Nat) : Nat := (List.range n).countP fun i => !listed.getD i false
theorem countP_set (listed : Array Bool) {j : Nat} (hj : listed.getD j true = false) : ∀ n, (List.range n).countP (fun i => !(listed.setIfInBounds j true).getD i false) + (if j < n then 1 else 0) = (List.range n).countP fun i => !listed.getD i false
  | 0 => by simp
  | n + 1 => by
    have hjs : j < listed.size := by
      rcases Nat.lt_or_ge j listed.size with h | h
      · exact h
      · simp [h] at hj
    have ih := countP_set listed hj n
    rw [List.range_succ, List.countP_append, List.countP_append, List.countP_singleton, List.countP_singleton]
    by_cases e : j = n
    · subst e
      have h1 : (listed.setIfInBounds j true).getD j false = true := by simp [hjs]
      have h2 : listed.getD j false = false := by simpa [hjs] using hj
      rw [h1, h2]
      rw [if_neg (by omega)] at ih
      simp
      simpa using ih
    · have h1 : (listed.setIfInBounds j true).getD n false = listed.getD n false := by
        simp only [Array.getD_eq_getD_getElem?, Array.getElem?_setIfInBounds_ne e]
      rw [h1]
      by_cases hlt : j < n
      · have e2 : (if j < n + 1 then 1 else 0) = 1 := if_pos (by omega)
        rw [e2]; rw [if_pos hlt] at ih; omega
      · have e2 : (if j < n + 1 then 1 else 0) = 0 := if_neg (by omega)
        rw [e2]; rw [if_neg hlt] at ih; omega

theorem getD_listed {listed : Array Bool} {n j : Nat} (hs : listed.size = n) (hj : j < n) (d : Bool) : listed.getD j d = listed.getD j false := by
  subst hs
  simp [hj]

/-- Nothing is left, or something may come up. -/
theorem some_ready {l : List Oper} {m : Nat} (hD : Drawn l m) {listed : Array Bool} (hs : listed.size = l.length) (h : left listed l.length ≠ 0) : ∃ j, j ∈ Region.ready .any l.toArray listed := by
  have hex : ∃ j, j < l.length ∧ listed.getD j false = false := by
    have : 0 < (List.range l.length).countP fun i => !listed.getD i false := Nat.pos_of_ne_zero h
    obtain ⟨j, hj, hn⟩ := List.countP_pos_iff.1 this
    exact ⟨j, by simpa using hj, by simpa using hn⟩
  have hmin : ∀ n, (∃ j, j ≤ n ∧ j < l.length ∧ listed.getD j false = false) → ∃ j, j < l.length ∧ listed.getD j false = false ∧ ∀ k, k < j → listed.getD k false = true := by
    intro n
    induction n with
    | zero =>
      rintro ⟨j, hj, h1, h2⟩
      exact ⟨j, h1, h2, fun k hk => by omega⟩
    | succ n ih =>
      rintro ⟨j, hj, h1, h2⟩
      by_cases hall : ∀ k, k < j → listed.getD k false = true
      · exact ⟨j, h1, h2, hall⟩
      · have : ∃ k, k < j ∧ listed.getD k false = false := by
          apply Classical.byContradiction
          intro hno
          apply hall
          intro k hk
          cases hv : listed.getD k false with
          | true => rfl
          | false => exact absurd ⟨k, hk, hv⟩ hno
        obtain ⟨k, hk, hv⟩ := this
        exact ih ⟨k, by omega, by omega, hv⟩
  obtain ⟨j0, h1, h2⟩ := hex
  obtain ⟨j, hj, hn, hall⟩ := hmin j0 ⟨j0, Nat.le_refl _, h1, h2⟩
  refine ⟨j, mem_ready.2 ⟨by rw [getD_listed hs hj]; exact hn, l[j], by simp [hj], fun e he hb => hall _ (hD.edge j l[j] (List.getElem?_eq_getElem hj) e he hb)⟩⟩

theorem ready_spec {l : List Oper} {listed : Array Bool} (hs : listed.size = l.length) {j : Nat} (h : j ∈ Region.ready .any l.toArray listed) :
    j < l.length ∧ listed.getD j true = false ∧ listed.getD j false = false ∧ ∃ o, l[j]? = some o ∧ ∀ e ∈ o.after, Region.binds .any e = true → listed.getD e.on false = true := by
  obtain ⟨h0, o, ho, hall⟩ := mem_ready.1 h
  have ho' : l[j]? = some o := by simpa using ho
  have hj := (List.getElem?_eq_some_iff.1 ho').1
  exact ⟨hj, h0, by rw [← getD_listed hs hj true]; exact h0, o, ho', hall⟩

theorem set_getD {listed : Array Bool} {n j : Nat} (hs : listed.size = n) (hj : j < n) (k : Nat) : (listed.setIfInBounds j true).getD k false = if k = j then true else listed.getD k false := by
  subst hs
  by_cases e : k = j
  · subst e; simp [hj]
  · rw [if_neg e, Array.getD_eq_getD_getElem?, Array.getElem?_setIfInBounds_ne (Ne.symm e), ← Array.getD_eq_getD_getElem?]

/-- Behind the first operations: one behind the other. -/
theorem draw_rest (hΓ : GOK P Γ) {l : List Oper} {m : Nat} (hD : Drawn l m) {c : Ctx} {K : AS → Prop} {Q : Exit → Act → World → Prop} (hQ : ∀ st' η' a' w', SR c st' η' a' w' → K st' → Q .normal a' w') :
    ∀ (fuel k : Nat) (listed : Array Bool) (st : AS) (η : Env) (a : Act) (w : World), m ≤ k → listed.size = l.length → (∀ j, j < l.length → listed.getD j false = decide (j < k)) → left listed l.length = fuel → SR c st η a w →
      xOps P Γ l.toArray (l.drop k) st K → wpAny P .any l.toArray Q fuel listed a w := by
  intro fuel
  induction fuel with
  | zero =>
    intro k listed st η a w hk hs hl hleft hsr hx
    have hall : ∀ j, j < l.length → listed.getD j false = true := fun j hj => by
      cases hv : listed.getD j false with
      | true => rfl
      | false =>
        have : 0 < (List.range l.length).countP fun i => !listed.getD i false := List.countP_pos_iff.2 ⟨j, by simpa using hj, by simpa using hv⟩
        unfold left at hleft
        omega
    have hkl : l.length ≤ k := by
      rcases Nat.lt_or_ge k l.length with h | h
      · have := hall k h
        rw [hl k h] at this
        simp at this
      · exact h
    refine ⟨?_, ?_⟩
    · rw [List.eq_nil_iff_forall_not_mem]
      intro j hj
      obtain ⟨h1, _, h2, _⟩ := ready_spec hs hj
      rw [hall j h1] at h2
      cases h2
    · rw [List.drop_eq_nil_of_le hkl] at hx
      exact hQ _ _ _ _ hsr hx
  | succ fuel ih =>
    intro k listed st η a w hk hs hl hleft hsr hx
    refine ⟨fun h0 => ?_, fun i hi => ?_⟩
    · obtain ⟨j, hj⟩ := some_ready hD hs (by omega)
      rw [h0] at hj
      cases hj
    · obtain ⟨hil, hit, hif, o, ho, hedges⟩ := ready_spec hs hi
      have hik : k ≤ i := by
        rw [hl i hil] at hif
        simpa using hif
      have hcl : Closed l (fun j => listed.getD j false) := fun j oj hj hSj e he hb => by
        have hjl := (List.getElem?_eq_some_iff.1 hj).1
        have h1 := hD.edge j oj hj e he hb
        simp only at hSj ⊢
        rw [hl j hjl] at hSj
        rw [hl e.on (by omega)]
        simp only [decide_eq_true_eq] at hSj ⊢
        omega
      have hei : i = k := by
        rcases Nat.lt_or_ge k i with hlt | hge
        · have hkl : k < l.length := by omega
          have hb := hD.tch k i l[k] o hlt (List.getElem?_eq_getElem hkl) ho (fun h => absurd h (by omega))
          have := hD.anc hcl i i o (Nat.le_refl _) ho hedges k hb
          rw [hl k hkl] at this
          simp at this
        · omega
      subst hei
      have hdrop : l.drop i = o :: l.drop (i + 1) := by
        rw [List.drop_eq_getElem_cons hil]
        congr 1
        rw [List.getElem?_eq_getElem hil] at ho
        exact Option.some.inj ho
      rw [hdrop] at hx
      have hnext : ∀ st' η' a' w', SR c st' η' a' w' → xOps P Γ l.toArray (l.drop (i + 1)) st' K → wpAny P .any l.toArray Q fuel (listed.setIfInBounds i true) a' w' := fun st' η' a' w' hsr' hx' => by
        refine ih (i + 1) _ st' η' a' w' (by omega) (by simpa using hs) (fun j hj => ?_) ?_ hsr' hx'
        · rw [set_getD hs hil, hl j hj]
          by_cases e : j = i
          · subst e; simp
          · rw [if_neg e]
            by_cases h1 : j < i
            · simp [h1]; omega
            · have : ¬ j < i + 1 := by omega
              simp [h1, this]
        · have := countP_set listed hit l.length
          rw [if_pos hil] at this
          unfold left at hleft ⊢
          omega
      unfold wpOp
      have hoo : l.toArray[i]? = some o := by simpa using ho
      rw [hoo]
      simp only
      unfold xOps at hx
      split at hx
      · rename_i pre z row hg
        have := gop_wp hΓ hsr hg hx.1.2 hx.1.1 (K := wpAny P .any l.toArray Q fuel (listed.setIfInBounds i true)) (Q := Q) (fun η' a' w' hsr' => hnext _ η' a' w' hsr' hx.2)
        split
        · rename_i hw; rw [if_pos hw] at this; exact .inl this
        · rename_i hw; rw [if_neg hw] at this; exact this
      · rw [if_pos (by simp [Region.wanted, hx.1])]
        exact .inl (bop_wp hΓ hx.2 c η a w _ Q hsr fun st' η' a' w' hsr' hx' => hnext st' η' a' w' hsr' hx')

theorem AW.draw (hΓ : GOK P Γ) (hm : P.follows .mixedOrders = true) {Q : Exit → AS → Prop} {st : AS} {id : Nat} {l : List Oper} (m : Nat) (hchk : drawOK l m = true) (h : xOpsA P Γ l.toArray m l st (Q .normal)) :
    AW P (.region id l.toArray true) Q st := by
  intro c η0 a0 w0 hsr0
  have hD := Drawn.of hchk
  obtain ⟨vs, stm, htr, hrest⟩ := xOpsA_TR m l st h
  obtain ⟨x1, x2, x3, x4, x5, x6, x7, x8⟩ := htr.ext hsr0.dead
  obtain ⟨sts, hat, hnx, hfr⟩ := htr.at hsr0.dead 0 st.fr rfl
  have hdrew : HS c st.hp st.nx η0 w0.drew := hsr0.hs.world (Fr.refl _ _).drew
  obtain ⟨hsm, hLm⟩ := htr.declare hdrew
  refine wp_region_any hm ?_
  have htake : ∀ j, j < m → (l.take m)[j]? = l[j]? := fun j hj => by rw [List.getElem?_take, if_pos hj]
  have main : ∀ (fuel : Nat) (listed : Array Bool) (η : Env) (a : Act) (w : World), listed.size = l.length → left listed l.length = fuel → HS c stm.hp stm.nx η w → a.tmps.size = st.sz → a.defers = st.df →
      (∀ t, Rep w η (Lset c η stm.hp) (frS (fun i => listed.getD i false) 0 (puts (l.take m) vs) st.fr t) (a.tmps.getD t undef)) →
      (∀ j z row, vs[j]? = some (z, row) → listed.getD j false = false → row ≠ .dead → η (sts j).nx = none) →
      Closed l (fun i => listed.getD i false) → (∀ j, m ≤ j → j < l.length → listed.getD j false = false) →
      wpAny P .any l.toArray (fun e a' w' => ∃ st' η', Q e st' ∧ SR c st' η' a' w') fuel listed a w := by
    intro fuel
    induction fuel with
    | zero =>
      intro listed η a w hs hleft hhs hsz hdf hsl hpend hcl hB
      have hall : ∀ j, j < l.length → listed.getD j false = true := fun j hj => by
        cases hv : listed.getD j false with
        | true => rfl
        | false =>
          have : 0 < (List.range l.length).countP fun i => !listed.getD i false := List.countP_pos_iff.2 ⟨j, by simpa using hj, by simpa using hv⟩
          unfold left at hleft
          omega
      have hml : l.length ≤ m := by
        rcases Nat.lt_or_ge m l.length with h | h
        · have := hall m h
          rw [hB m (Nat.le_refl _) h] at this
          cases this
        · exact h
      refine ⟨?_, ?_⟩
      · rw [List.eq_nil_iff_forall_not_mem]
        intro j hj
        obtain ⟨h1, _, h2, _⟩ := ready_spec hs hj
        rw [hall j h1] at h2
        cases h2
      · rw [List.drop_eq_nil_of_le hml] at hrest
        refine ⟨stm, η, hrest, hhs, x2, by rw [hsz, x5], fun t => ?_, by rw [hdf, x6]⟩
        have e : frS (fun i => listed.getD i false) 0 (puts (l.take m) vs) st.fr t = frS (fun _ => true) 0 (puts (l.take m) vs) st.fr t := frS_congr _ 0 _ _ rfl fun k d z hk _ => by
          have hkl : k < (l.take m).length := puts_len hk
          simp only [Nat.zero_add]
          exact hall k (by rw [List.length_take] at hkl; omega)
        rw [hfr, ← e]
        exact hsl t
    | succ fuel ih =>
      intro listed η a w hs hleft hhs hsz hdf hsl hpend hcl hB
      by_cases hfull : ∀ j, j < m → j < l.length → listed.getD j false = true
      · -- all of the first ones have come up
        have hl : ∀ j, j < l.length → listed.getD j false = decide (j < m) := fun j hj => by
          by_cases h1 : j < m
          · rw [hfull j h1 hj]; simp [h1]
          · rw [hB j (by omega) hj]; simp [h1]
        have hsr : SR c stm η a w := by
          refine ⟨hhs, x2, by rw [hsz, x5], fun t => ?_, by rw [hdf, x6]⟩
          have e : frS (fun i => listed.getD i false) 0 (puts (l.take m) vs) st.fr t = frS (fun _ => true) 0 (puts (l.take m) vs) st.fr t := frS_congr _ 0 _ _ rfl fun k d z hk _ => by
            have hkl : k < (l.take m).length := puts_len hk
            simp only [Nat.zero_add]
            rw [List.length_take] at hkl
            exact hfull k (by omega) (by omega)
          rw [hfr, ← e]
          exact hsl t
        exact draw_rest hΓ hD (fun st' η' a' w' hsr' hq => ⟨st', η', hq, hsr'⟩) (fuel + 1) m listed stm η a w (Nat.le_refl _) hs hl hleft hsr hrest
      · refine ⟨fun h0 => ?_, fun i hi => ?_⟩
        · obtain ⟨j, hj⟩ := some_ready hD hs (by omega)
          rw [h0] at hj
          cases hj
        · obtain ⟨hil, hit, hif, o, ho, hedges⟩ := ready_spec hs hi
          have him : i < m := by
            rcases Nat.lt_or_ge i m with h1 | h1
            · exact h1
            · exfalso
              apply hfull
              intro j hj hjl
              have hb := hD.tch j i l[j] o (by omega) (List.getElem?_eq_getElem hjl) ho (fun h => absurd h (by omega))
              exact hD.anc hcl i i o (Nat.le_refl _) ho hedges j hb
          obtain ⟨z, row, hv, hpu, hAt, hfrj⟩ := hat i o (by rw [htake i him]; exact ho)
          obtain ⟨pre, hg, hp⟩ := hAt.pre
          -- another one that lays into a slot that this one looks at, or lays into
          have hord : ∀ k ok, k < m → l[k]? = some ok → k ≠ i → touch l.toArray (if k < i then ok else o) (if k < i then o else ok) = true → listed.getD k false = decide (k < i) := by
            intro k ok hkm hk hne ht
            by_cases hlt : k < i
            · simp only [hlt, if_true] at ht
              have hb := hD.tch k i ok o hlt hk ho (fun _ => ht)
              have := hD.anc hcl i i o (Nat.le_refl _) ho hedges k hb
              rw [this]; simp [hlt]
            · simp only [hlt, if_false] at ht
              have hb := hD.tch i k o ok (by omega) ho hk (fun _ => ht)
              cases hv : listed.getD k false with
              | false => simp [hlt]
              | true =>
                have := hD.anc hcl k k ok (Nat.le_refl _) hk (fun e he hbb => hcl k ok hk hv e he hbb) i hb
                rw [this] at hif
                cases hif
          have hput : ∀ k d z', (puts (l.take m) vs)[k]? = some (d, z') → ∃ ok, k < m ∧ l[k]? = some ok ∧ d = ok.dst := fun k d z' hk => by
            have hkl : k < (l.take m).length := puts_len hk
            rw [List.length_take] at hkl
            have hkm : k < m := by omega
            obtain ⟨z1, row1, _, hpu1, _⟩ := hat k l[k] (by rw [htake k hkm, List.getElem?_eq_getElem (by omega)])
            rw [hk] at hpu1
            simp only [Option.some.injEq, Prod.mk.injEq] at hpu1
            exact ⟨l[k], hkm, List.getElem?_eq_getElem (by omega), hpu1.1⟩
          have hlook : ∀ t ∈ looks l.toArray o, frS (fun k => listed.getD k false) 0 (puts (l.take m) vs) st.fr t = (sts i).fr t := fun t ht => by
            rw [hfrj]
            refine frS_congr _ 0 _ _ rfl fun k d z' hk hd => ?_
            obtain ⟨ok, hkm, hlk, hdo⟩ := hput k d z' hk
            simp only [Nat.zero_add]
            by_cases e : k = i
            · subst e; rw [hif]; simp
            · refine hord k ok hkm hlk e ?_
              rw [hdo] at hd
              by_cases hlt : k < i
              · simp only [hlt, if_true, touch, hd, Bool.or_eq_true]
                exact .inl (.inr (by simpa using ht))
              · simp only [hlt, if_false, touch, hd, Bool.or_eq_true]
                exact .inr (by simpa using ht)
          unfold wpOp
          have hoo : l.toArray[i]? = some o := by simpa using ho
          rw [hoo]
          simp only
          have := gopF_wp hΓ (Q := fun e a' w' => ∃ st' η', Q e st' ∧ SR c st' η' a' w') hAt.ext hhs hsl (fr := (sts i).fr) hlook hg hp (by
              by_cases hr : row = .dead
              · exact .inl hr
              · exact .inr ⟨hAt.rowAt hr, hpend i z row hv hif hr, Nat.le_trans hsr0.hs.env.2.1 (hAt.nxAt hr).1⟩)
            (K := wpAny P .any l.toArray (fun e a' w' => ∃ st' η', Q e st' ∧ SR c st' η' a' w') fuel (listed.setIfInBounds i true)) (fun v η' w' hhs' hst hon hrep => by
              refine ih _ η' _ w' (by simpa using hs) ?_ hhs' (by rw [put_size]; exact hsz) (by rw [put_defers]; exact hdf) (fun t => ?_) (fun j z1 row1 hv1 hl1 hr1 => ?_) (fun j oj hj hSj e he hb => ?_) (fun j hj hjl => ?_)
              · have := countP_set listed hit l.length
                rw [if_pos hil] at this
                unfold left at hleft ⊢
                omega
              · have e : frS (fun k => (listed.setIfInBounds i true).getD k false) 0 (puts (l.take m) vs) st.fr = updO (frS (fun k => listed.getD k false) 0 (puts (l.take m) vs) st.fr) o.dst z := by
                  have := frS_add (S := fun k => listed.getD k false) (puts (l.take m) vs) 0 st.fr i o.dst z hpu (by simpa using hif) (fun k d' z' hk hlt hSk t hd hd' => by
                    obtain ⟨ok, hkm, hlk, hdo⟩ := hput k d' z' hk
                    simp only [Nat.zero_add] at hSk
                    have := hord k ok hkm hlk (by omega) (by
                      simp only [show ¬ k < i by omega, if_false, touch, hd, Bool.or_eq_true]
                      exact .inl (.inl (by rw [← hdo, hd']; simp)))
                    rw [hSk] at this
                    simp at this
                    omega)
                  rw [← this]
                  congr 1
                  funext k
                  rw [set_getD hs hil, Nat.zero_add]
                rw [e, put_getD a o.dst v t (by rw [hsz]; exact hAt.dst), updO_at]
                by_cases ed : o.dst = some t
                · rw [if_pos ed, if_pos ed]; exact hrep
                · rw [if_neg ed, if_neg ed]; exact hst.rep (hsl t)
              · rw [set_getD hs hil] at hl1
                have hji : j ≠ i := fun e => by subst e; simp at hl1
                rw [if_neg hji] at hl1
                rw [hon (sts j).nx ?_]
                · exact hpend j z1 row1 hv1 hl1 hr1
                · by_cases hr : row = .dead
                  · exact .inr hr
                  · refine .inl fun e => ?_
                    rcases Nat.lt_or_gt_of_ne hji with hlt | hlt
                    · have := hnx j i z1 row1 z row hlt hv1 hv hr1 hr; omega
                    · have := hnx i j z row z1 row1 hlt hv hv1 hr hr1; omega
              · simp only at hSj ⊢
                rw [set_getD hs hil] at hSj ⊢
                by_cases e1 : e.on = i
                · rw [if_pos e1]
                · rw [if_neg e1]
                  by_cases e2 : j = i
                  · subst e2
                    rw [hj] at ho
                    obtain rfl := Option.some.inj ho
                    exact hedges e he hb
                  · rw [if_neg e2] at hSj
                    exact hcl j oj hj hSj e he hb
              · rw [set_getD hs hil, if_neg (by omega)]
                exact hB j hj hjl)
          split
          · rename_i hw; rw [if_pos hw] at this; exact .inl this
          · rename_i hw; rw [if_neg hw] at this; exact this
  have hsz : l.toArray.size = l.length := by simp
  rw [hsz]
  have hfalse : ∀ j, (Array.replicate l.length false).getD j false = false := fun j => by
    simp only [Array.getD_eq_getD_getElem?, Array.getElem?_replicate]
    split <;> rfl
  refine main l.length (Array.replicate l.length false) η0 a0 w0.drew (by simp) ?_ hsm hsr0.size hsr0.defs (fun t => ?_) (fun j z row hv _ hr => ?_) (fun j o _ hS => ?_) (fun j _ _ => hfalse j)
  · unfold left
    rw [List.countP_eq_length.2 (fun x _ => by rw [hfalse]; rfl), List.length_range]
  · have e : frS (fun i => (Array.replicate l.length false).getD i false) 0 (puts (l.take m) vs) st.fr t = st.fr t := by
      have hc := frS_congr (S := fun i => (Array.replicate l.length false).getD i false) (S' := fun _ => false) (t := t) (puts (l.take m) vs) 0 st.fr st.fr rfl (fun k d z _ _ => hfalse _)
      rw [hc]
      exact frS_none _ _ _ t
    rw [e]
    exact Rep.keep (Fr.refl (fun _ => False) w0).drew (fun _ _ h => h.elim) (fun b _ hb => hLm b hb) _ _ _ _ (Env.le_refl _) (hsr0.slots t)
  · have hjl : j < (l.take m).length := by
      have := (List.getElem?_eq_some_iff.1 hv).1
      omega
    obtain ⟨z', row', hv', _, hA, _⟩ := hat j (l.take m)[j] (List.getElem?_eq_getElem hjl)
    rw [hv] at hv'
    simp only [Option.some.injEq, Prod.mk.injEq] at hv'
    obtain ⟨rfl, rfl⟩ := hv'
    exact hsr0.hs.fresh _ (hA.nxAt hr).1
  · simp only [hfalse] at hS
    cases hS
end
end Go.Proofs.YtljgfacjefebaaaDoor
