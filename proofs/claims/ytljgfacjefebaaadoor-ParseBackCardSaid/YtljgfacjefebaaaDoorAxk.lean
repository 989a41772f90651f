/-
  A region whose order is drawn, further still: operations that make a variable, or only hand on, may come up ahead of one that writes, or behind it.
-/
import Derived.Test.YtljgfacjefebaaaDoorAxc
set_option linter.unusedSimpArgs false
namespace Go.Proofs.YtljgfacjefebaaaDoor
open Go

def isMv (o : Oper) : Bool := match o.op with | .move _ => o.guard.isNone | _ => false
def isSt (o : Oper) : Bool := match o.op with | .move _ => o.guard.isNone | .alloc _ => o.guard.isNone | _ => false
/-- Those that are reckoned ahead of all others. -/
def eb (m : Nat) (F : List Nat) (j : Nat) : Bool := decide (j < m) || F.contains j
/-- Of those, such as look at no row at hand. -/
def gb (G : List Nat) (j : Nat) : Bool := G.contains j
def pairG (ops : Array Oper) (E G : Nat → Bool) (i j : Nat) (p o : Oper) (mj : Nat) : Bool :=
  match E i, E j with
  | true, true => mj.testBit i || !touch ops p o
  | true, false => mj.testBit i || ((isMv p || G i) && !touch ops p o)
  | false, true => !touch ops p o
  | false, false => mj.testBit i
def okG (l : List Oper) (m : Nat) (F G : List Nat) : Bool :=
  (List.range l.length).all fun j => match l[j]? with
    | none => true
    | some o => ((masks [] l).getD j 0 == maskOf (masks [] l) o.after.toList) && o.after.toList.all (fun e => !Region.binds .any e || decide (e.on < j)) && (decide (j < m) || !F.contains j || isSt o || gb G j) &&
      (List.range j).all fun i => match l[i]? with
        | none => true
        | some p => pairG l.toArray (eb m F) (gb G) i j p o ((masks [] l).getD j 0)
structure DrawnG (l : List Oper) (m : Nat) (E G : Nat → Bool) : Prop where
  edge : ∀ (j : Nat) (o : Oper), l[j]? = some o → ∀ e ∈ o.after, Region.binds .any e = true → e.on < j
  bit : ∀ (j : Nat) (o : Oper), l[j]? = some o → ∀ i, ((masks [] l).getD j 0).testBit i = true → ∃ e ∈ o.after, Region.binds .any e = true ∧ (e.on = i ∨ ((masks [] l).getD e.on 0).testBit i = true)
  early : ∀ j, j < m → E j = true
  still : ∀ (j : Nat) (o : Oper), l[j]? = some o → E j = true → m ≤ j → isSt o = true ∨ G j = true
  ee : ∀ (i j : Nat) (oi oj : Oper), i < j → l[i]? = some oi → l[j]? = some oj → E i = true → E j = true → touch l.toArray oi oj = true → ((masks [] l).getD j 0).testBit i = true
  et : ∀ (i j : Nat) (oi oj : Oper), i < j → l[i]? = some oi → l[j]? = some oj → E i = true → E j = false → ((masks [] l).getD j 0).testBit i = false → (isMv oi = true ∨ G i = true) ∧ touch l.toArray oi oj = false
  te : ∀ (i j : Nat) (oi oj : Oper), i < j → l[i]? = some oi → l[j]? = some oj → E i = false → E j = true → touch l.toArray oi oj = false
  tt : ∀ (i j : Nat) (oi oj : Oper), i < j → l[i]? = some oi → l[j]? = some oj → E i = false → E j = false → ((masks [] l).getD j 0).testBit i = true
theorem DrawnG.of {l : List Oper} {m : Nat} {F G : List Nat} (h : okG l m F G = true) : DrawnG l m (eb m F) (gb G) := by
  have key : ∀ (j : Nat) (o : Oper), l[j]? = some o → (masks [] l).getD j 0 = maskOf (masks [] l) o.after.toList ∧ (∀ e ∈ o.after.toList, Region.binds .any e = true → e.on < j) ∧ (j < m ∨ F.contains j = false ∨ isSt o = true ∨ gb G j = true) ∧
      ∀ (i : Nat) (p : Oper), i < j → l[i]? = some p → pairG l.toArray (eb m F) (gb G) i j p o ((masks [] l).getD j 0) = true := by
    intro j o hj
    have hjl := (List.getElem?_eq_some_iff.1 hj).1
    have h1 := List.all_eq_true.1 h j (List.mem_range.2 hjl)
    rw [hj] at h1
    simp only [Bool.and_eq_true] at h1
    obtain ⟨⟨⟨a1, a2⟩, a3⟩, a4⟩ := h1
    refine ⟨by simpa using a1, fun e he hb => ?_, ?_, fun i p hi hp => ?_⟩
    · have := List.all_eq_true.1 a2 e he
      simpa [hb] using this
    · simp only [Bool.or_eq_true, decide_eq_true_eq, Bool.not_eq_true'] at a3
      rcases a3 with ((a3 | a3) | a3) | a3
      · exact .inl a3
      · exact .inr (.inl a3)
      · exact .inr (.inr (.inl a3))
      · exact .inr (.inr (.inr a3))
    · have := List.all_eq_true.1 a4 i (List.mem_range.2 hi)
      rw [hp] at this
      exact this
  refine ⟨fun j o hj e he hb => (key j o hj).2.1 e (by simpa using he) hb, fun j o hj i hi => ?_, fun j hj => by simp [eb, hj], fun j o hj hE hm => ?_, fun i j oi oj hij hi hj h1 h2 ht => ?_, fun i j oi oj hij hi hj h1 h2 hb => ?_, fun i j oi oj hij hi hj h1 h2 => ?_, fun i j oi oj hij hi hj h1 h2 => ?_⟩
  · rw [(key j o hj).1] at hi
    obtain ⟨e, he, hb, r⟩ := mask_bit hi
    exact ⟨e, by simpa using he, hb, r⟩
  · rcases (key j o hj).2.2.1 with h1 | h1 | h1
    · omega
    · simp only [eb, h1, Bool.or_false, decide_eq_true_eq] at hE; omega
    · exact h1
  · have := (key j oj hj).2.2.2 i oi hij hi
    simp only [pairG, h1, h2, ht, Bool.not_true, Bool.or_false] at this
    exact this
  · have := (key j oj hj).2.2.2 i oi hij hi
    simp only [pairG, h1, h2, hb, Bool.false_or, Bool.and_eq_true, Bool.or_eq_true, Bool.not_eq_true'] at this
    exact this
  · have := (key j oj hj).2.2.2 i oi hij hi
    simp only [pairG, h1, h2, Bool.not_eq_true'] at this
    exact this
  · have := (key j oj hj).2.2.2 i oi hij hi
    simp only [pairG, h1, h2] at this
    exact this
theorem DrawnG.anc {l : List Oper} {m : Nat} {E G : Nat → Bool} (h : DrawnG l m E G) {S : Nat → Bool} (hc : Closed l S) : ∀ (n j : Nat) (o : Oper), j ≤ n → l[j]? = some o → (∀ e ∈ o.after, Region.binds .any e = true → S e.on = true) →
    ∀ i, ((masks [] l).getD j 0).testBit i = true → S i = true := by
  intro n
  induction n with
  | zero =>
    intro j o hjn hj hS i hi
    obtain ⟨e, he, hb, r⟩ := h.bit j o hj i hi
    have := h.edge j o hj e he hb
    omega
  | succ n ih =>
    intro j o hjn hj hS i hi
    obtain ⟨e, he, hb, r⟩ := h.bit j o hj i hi
    have hlt := h.edge j o hj e he hb
    rcases r with r | r
    · rw [← r]; exact hS e he hb
    · have hlen : e.on < l.length := by
        have := (List.getElem?_eq_some_iff.1 hj).1
        omega
      exact ih e.on l[e.on] (by omega) (List.getElem?_eq_getElem hlen) (fun e' he' hb' => hc e.on _ (List.getElem?_eq_getElem hlen) (hS e he hb) e' he' hb') i r
theorem some_readyG {l : List Oper} {m : Nat} {E G : Nat → Bool} (hD : DrawnG l m E G) {listed : Array Bool} (hs : listed.size = l.length) (h : left listed l.length ≠ 0) : ∃ j, j ∈ Region.ready .any l.toArray listed := by
  have hex : ∃ j, j < l.length ∧ listed.getD j false = false := by
    have : 0 < (List.range l.length).countP fun i => !listed.getD i false := Nat.pos_of_ne_zero h
    obtain ⟨j, hj, hn⟩ := List.countP_pos_iff.1 this
    exact ⟨j, by simpa using hj, by simpa using hn⟩
  have hmin : ∀ n, (∃ j, j ≤ n ∧ j < l.length ∧ listed.getD j false = false) → ∃ j, j < l.length ∧ listed.getD j false = false ∧ ∀ k, k < j → listed.getD k false = true := by
    intro n
    induction n with
    | zero =>
      rintro ⟨j, hj, h1, h2⟩
      exact ⟨j, h1, h2, fun k hk => by omega⟩
    | succ n ih =>
      rintro ⟨j, hj, h1, h2⟩
      by_cases hall : ∀ k, k < j → listed.getD k false = true
      · exact ⟨j, h1, h2, hall⟩
      · have : ∃ k, k < j ∧ listed.getD k false = false := by
          apply Classical.byContradiction
          intro hno
          apply hall
          intro k hk
          cases hv : listed.getD k false with
          | true => rfl
          | false => exact absurd ⟨k, hk, hv⟩ hno
        obtain ⟨k, hk, hv⟩ := this
        exact ih ⟨k, by omega, by omega, hv⟩
  obtain ⟨j0, h1, h2⟩ := hex
  obtain ⟨j, hj, hn, hall⟩ := hmin j0 ⟨j0, Nat.le_refl _, h1, h2⟩
  exact ⟨j, mem_ready.2 ⟨by rw [getD_listed hs hj]; exact hn, l[j], by simp [hj], fun e he hb => hall _ (hD.edge j l[j] (List.getElem?_eq_getElem hj) e he hb)⟩⟩
theorem untouch {ops : Array Oper} {a b : Oper} (h : touch ops a b = false) : (∀ t, a.dst = some t → b.dst ≠ some t ∧ ¬ t ∈ looks ops b) ∧ ∀ t, b.dst = some t → a.dst ≠ some t ∧ ¬ t ∈ looks ops a := by
  simp only [touch, Bool.or_eq_false_iff] at h
  obtain ⟨h1, h2⟩ := h
  refine ⟨fun t ht => ?_, fun t ht => ?_⟩
  · rw [ht] at h1
    simp only [Bool.or_eq_false_iff] at h1
    exact ⟨by simpa using h1.1, by simpa using h1.2⟩
  · rw [ht] at h2 h1
    refine ⟨fun e => ?_, by simpa using h2⟩
    rw [e] at h1
    simp at h1

/-! ### those that are reckoned ahead, and the others -/
def nopO (o : Oper) : Oper := ⟨none, .move (.const undef), o.type, o.pos, o.after, none⟩
def strip (E : Nat → Bool) : Nat → List Oper → List Oper
  | _, [] => []
  | j, o :: r => (if E j then o else nopO o) :: strip E (j + 1) r
theorem strip_at (E : Nat → Bool) : ∀ (l : List Oper) (i j : Nat), (strip E i l)[j]? = (l[j]?).map fun o => if E (i + j) then o else nopO o
  | [], i, j => by simp [strip]
  | o :: r, i, 0 => by simp [strip]
  | o :: r, i, j + 1 => by
    simp only [strip, List.getElem?_cons_succ]
    rw [strip_at E r (i + 1) j, show i + 1 + j = i + (j + 1) by omega]
theorem strip_len (E : Nat → Bool) : ∀ (l : List Oper) (i : Nat), (strip E i l).length = l.length
  | [], _ => rfl
  | o :: r, i => by simp [strip, strip_len E r (i + 1)]

section
variable {P : Program} {Γ : Gam}
/-- What is told as it is written: such alone. -/
def bopT (P : Program) (Γ : Gam) (z : Bool) (st : AS) (o : Oper) (K : AS → Prop) : Prop :=
  match o.op with
  | .mapUpdate t m k x => sMapSet P st t (st.ev m) (st.ev k) (st.ev x) o.dst K
  | .call ⟨.value (.func f), ⟨xs⟩, _⟩ => match Γ f with
    | some (.meth S) => dstOK st.sz o.dst ∧ S (xs.map st.ev) st.hp st.top st.nx fun r hp' top' nx' => K ⟨updO st.fr o.dst r, hp', st.sz, top', nx', st.df⟩
    | _ => False
  | .store t x y => sStore P st t (st.ev x) (st.ev y) o.dst K
  | .call ⟨.builtin .append, ⟨[x, y]⟩, ⟨[t, t']⟩⟩ => t' = t ∧ (if z = true then sAppF P st t (st.ev x) (st.ev y) o.dst K else sApp P st t (st.ev x) (st.ev y) o.dst K)
  | .buildSlice t n parts => sBuild P st t n (parts.toList.map fun a => (a.1, st.ev a.2)) o.dst K
  | _ => False
/-- Other slots than those that are looked at may hold something else. -/
theorem bopT_mask (hΓ : GOK P Γ) {z : Bool} {st : AS} {o : Oper} {K : AS → Prop} {fr' : Nat → AV} (hl : ∀ x ∈ o.op.operands, evAV fr' x = evAV st.fr x) (h : bopT P Γ z st o K) :
    OpW P o ⟨fr', st.hp, st.sz, st.top, st.nx, st.df⟩ fun st' => ∃ v, st'.fr = updO fr' o.dst v ∧ st'.sz = st.sz ∧ K ⟨updO st.fr o.dst v, st'.hp, st'.sz, st'.top, st'.nx, st'.df⟩ := by
  unfold bopT at h
  split at h <;> rename_i ho
  · rename_i t m k x
    have e : ∀ y, y = m ∨ y = k ∨ y = x → (⟨fr', st.hp, st.sz, st.top, st.nx, st.df⟩ : AS).ev y = st.ev y := fun y hy => hl y (by rw [ho]; simp [Op.operands]; rcases hy with h | h | h <;> simp [h])
    refine mapSet_wp ho ?_
    rw [e m (.inl rfl), e k (.inr (.inl rfl)), e x (.inr (.inr rfl))]
    unfold sMapSet at h ⊢
    split at h
    · split at h
      · rename_i heq
        revert h
        simp only [*]
        intro h
        exact ⟨h.1, _, rfl, trivial, h.2⟩
      · exact h.elim
    · exact h.elim
  · rename_i f xs ts
    split at h
    · rename_i S hS
      have e : xs.map (⟨fr', st.hp, st.sz, st.top, st.nx, st.df⟩ : AS).ev = xs.map st.ev := List.map_congr_left fun y hy => hl y (by rw [ho]; simp [Op.operands, Call.operands]; simp [hy])
      refine meth_wp' hΓ ho hS h.1 (by rw [e]; exact h.2) fun r hp' top' nx' hk => ⟨_, rfl, rfl, hk⟩
    · exact h.elim
  · rename_i t x y
    have e : ∀ z, z = x ∨ z = y → (⟨fr', st.hp, st.sz, st.top, st.nx, st.df⟩ : AS).ev z = st.ev z := fun z hz => hl z (by rw [ho]; simp [Op.operands]; rcases hz with h | h <;> simp [h])
    refine store_wp ho ?_
    rw [e x (.inl rfl), e y (.inr rfl)]
    unfold sStore at h ⊢
    split at h
    · split at h
      · rename_i heq
        revert h
        simp only [*]
        intro h
        exact ⟨h.1, _, rfl, trivial, h.2⟩
      · exact h.elim
    · split at h
      · rename_i heq
        revert h
        simp only [*]
        intro h
        exact ⟨h.1, _, rfl, trivial, h.2⟩
      · exact h.elim
    · exact h.elim
  · rename_i x y t t'
    have e : ∀ z, z = x ∨ z = y → (⟨fr', st.hp, st.sz, st.top, st.nx, st.df⟩ : AS).ev z = st.ev z := fun z hz => hl z (by rw [ho]; simp [Op.operands, Call.operands]; rcases hz with h | h <;> simp [h])
    obtain ⟨ht, h⟩ := h
    split at h
    · refine appF_wp ho ht ?_
      rw [e x (.inl rfl), e y (.inr rfl)]
      unfold sAppF at h ⊢
      split at h
      · revert h
        simp only [*]
        intro h
        exact ⟨h.1, _, rfl, trivial, h.2⟩
      · revert h
        simp only [*]
        intro h
        exact ⟨h.1, _, rfl, trivial, h.2⟩
      · exact h.elim
    refine app_wp ho ht ?_
    rw [e x (.inl rfl), e y (.inr rfl)]
    unfold sApp at h ⊢
    split at h
    · split at h
      · rename_i heq
        revert h
        simp only [*]
        intro h
        exact ⟨h.1, _, rfl, trivial, h.2⟩
      · exact h.elim
    · revert h
      simp only [*]
      intro h
      exact ⟨h.1, _, rfl, trivial, h.2⟩
    · revert h
      simp only [*]
      intro h
      exact ⟨h.1, h.2.1, h.2.2.1, h.2.2.2.1, _, rfl, trivial, h.2.2.2.2⟩
    · exact h.elim
  · rename_i t n parts
    have e : (parts.toList.map fun a => (a.1, (⟨fr', st.hp, st.sz, st.top, st.nx, st.df⟩ : AS).ev a.2)) = parts.toList.map fun a => (a.1, st.ev a.2) := List.map_congr_left fun a ha => by
      rw [show (⟨fr', st.hp, st.sz, st.top, st.nx, st.df⟩ : AS).ev a.2 = st.ev a.2 from hl a.2 (by rw [ho]; simp [Op.operands]; exact ⟨a.1, by simpa using ha⟩)]
    refine build_wp ho ?_
    rw [e]
    unfold sBuild at h ⊢
    split at h
    · split at h
      · rename_i h1 _ _ h2 h3
        simp only [h2, h3]
        exact ⟨h.1, _, rfl, trivial, h.2⟩
      · exact h.elim
    · exact h.elim
  · exact h.elim
end
end Go.Proofs.YtljgfacjefebaaaDoor
