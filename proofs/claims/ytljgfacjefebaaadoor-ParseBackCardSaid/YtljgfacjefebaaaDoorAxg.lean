/-
  From a reading of the arguments as plain data to what they are told by here.
-/
import Derived.Test.YtljgfacjefebaaaDoorAxf
import Derived.ProofKit
import Derived.OpenShut
import Derived.SizedLaws
set_option linter.unusedSimpArgs false
namespace Go.Proofs.YtljgfacjefebaaaDoor
open Go Go.ChangeShapes Go.WideShapes Go.ChangeAt Go.RowKit

/-- No string, slice or map within is longer than any machine bears. -/
def reachW {H : Type} (P : Program) (t : TypeId) (d : DataW H) : Prop := ∀ n ∈ d.weights P t, n ≤ reachBytes
/-- What is read as a value of this type is an element of this kind. -/
structure Opens (P : Program) (t : TypeId) {α : Type} (E : El α) (good : α → Prop) : Prop where
  size : P.cellsOf t = E.sz
  read : ∀ (H : Type) (enc : TypeId × Value → H) (w : World) (base : Nat) (spare : Nat → Bool) (held : Bool) (fuel : Nat) (cs : List Value) (x : DataW H × List MemPlace),
    DataW.trod enc P w base spare held fuel t cs = some x → reachW P t x.1 → ∃ a, good a ∧ ∀ j, j < E.sz → ∃ u, cs[j]? = some u ∧ u.oneCell' = true ∧ Rep w noEnv (fun _ => False) (E.enc a j) u
def gI (n : Int) : Prop := -9223372036854775808 ≤ n ∧ n ≤ 9223372036854775807
def gB (_ : Bool) : Prop := True
def gS (l : List UInt8) : Prop := l.length ≤ 140737488351232
def gLs {α : Type} (g : α → Prop) (l : List α) : Prop := l.length ≤ 140737488351232 ∧ ∀ a ∈ l, g a
def gP {α β : Type} (g : α → Prop) (h : β → Prop) (p : α × β) : Prop := g p.1 ∧ h p.2

section
variable {P : Program} {t e : TypeId}
theorem one_cell {w : World} {α : Type} {E : El α} {a : α} {v : Value} (hs : E.sz = 1) (h1 : v.oneCell' = true) (hr : Rep w noEnv (fun _ => False) (E.enc a 0) v) :
    ∀ j, j < E.sz → ∃ u, [v][j]? = some u ∧ u.oneCell' = true ∧ Rep w noEnv (fun _ => False) (E.enc a j) u := fun j hj => by
  obtain rfl : j = 0 := by omega
  exact ⟨v, rfl, h1, hr⟩
theorem opens_int (ht : P.underlying t = some (.int .i64)) (hs : P.cellsOf t = 1) : Opens P t eI gI := by
  refine ⟨hs, fun H enc w base spare held fuel cs x h hz => ?_⟩
  cases fuel with
  | zero => simp [DataW.trod] at h
  | succ n =>
    unfold DataW.trod at h
    rw [ht] at h
    split at h <;> simp only [reduceCtorEq, Option.some.injEq, TypeDesc.int.injEq] at *
    rename_i m heq
    subst heq
    split at h
    · rename_i hw
      obtain ⟨rfl, hw⟩ := hw
      refine ⟨m, ?_, one_cell rfl rfl rfl⟩
      simp only [Lit.wf, IntKind.min, IntKind.max, IntKind.signed, IntKind.bits, Bool.and_eq_true, decide_eq_true_eq] at hw
      unfold gI
      simp at hw
      omega
    · cases h
theorem opens_bool (ht : P.underlying t = some .bool) (hs : P.cellsOf t = 1) : Opens P t eB gB := by
  refine ⟨hs, fun H enc w base spare held fuel cs x h hz => ?_⟩
  cases fuel with
  | zero => simp [DataW.trod] at h
  | succ n =>
    unfold DataW.trod at h
    rw [ht] at h
    split at h <;> simp only [reduceCtorEq, Option.some.injEq] at *
    rename_i b _
    exact ⟨b, trivial, one_cell rfl rfl rfl⟩
theorem opens_string (ht : P.underlying t = some .string) (hs : P.cellsOf t = 1) : Opens P t eS gS := by
  refine ⟨hs, fun H enc w base spare held fuel cs x h hz => ?_⟩
  cases fuel with
  | zero => simp [DataW.trod] at h
  | succ n =>
    unfold DataW.trod at h
    rw [ht] at h
    split at h <;> simp only [reduceCtorEq, Option.some.injEq] at *
    rename_i s _
    split at h
    · rename_i hm
      refine ⟨s.data.toList, ?_, one_cell rfl rfl rfl⟩
      simp only [Option.some.injEq] at h
      subst h
      have h2 := hz s.data.toList.length (by simp [DataW.weights])
      unfold reachBytes at h2
      exact h2
    · cases h

theorem weights_all {H : Type} {d : DataW H} : ∀ {l : List (DataW H)}, d ∈ l → ∀ n ∈ d.weights P e, n ∈ DataW.weightsAll P e l
  | x :: l, h, n, hn => by
    simp only [DataW.weightsAll, List.mem_append]
    rcases List.mem_cons.1 h with rfl | h
    · exact .inl hn
    · exact .inr (weights_all h n hn)
theorem add_block (a : Addr) (k : Nat) : (a.add k).block = a.block := by unfold Addr.add; split <;> rfl
theorem choose_list {α : Type} (d : α) (Q : Nat → α → Prop) : ∀ n, (∀ i, i < n → ∃ a, Q i a) → ∃ l : List α, l.length = n ∧ ∀ i, i < n → Q i (l.getD i d)
  | 0, _ => ⟨[], rfl, fun i hi => absurd hi (Nat.not_lt_zero _)⟩
  | n + 1, h => by
    obtain ⟨l, hl, hq⟩ := choose_list d Q n fun i hi => h i (by omega)
    obtain ⟨a, ha⟩ := h n (by omega)
    refine ⟨l ++ [a], by simp [hl], fun i hi => ?_⟩
    rcases Nat.lt_or_ge i n with h1 | h1
    · have := hq i h1
      simpa [List.getD, List.getElem?_append_left (show i < l.length by omega)] using this
    · obtain rfl : i = n := by omega
      simpa [List.getD, List.getElem?_append_right (show l.length ≤ i by omega), hl] using ha
theorem mem_getD {α : Type} (d : α) {l : List α} {x : α} (h : x ∈ l) : ∃ i, i < l.length ∧ l.getD i d = x := by
  obtain ⟨i, hi, rfl⟩ := List.getElem_of_mem h
  exact ⟨i, hi, by simp [List.getD, hi]⟩
theorem opens_slice {α : Type} {E : El α} {g : α → Prop} (ht : P.underlying t = some (.slice e)) (hs : P.cellsOf t = 1) (he : Opens P e E g) (h0 : 0 < E.sz) (hby : 0 < P.bytesOf e) : Opens P t (eL E) (gLs g) := by
  refine ⟨hs, fun H enc w base spare held fuel cs x h hz => ?_⟩
  rcases DataW.trod_slice ht h with ⟨rfl, _⟩ | ⟨a, len, cap, elems, rest, n, _, rfl, hx, hb, hl, hm, hlen, hel, _, _⟩
  · refine ⟨[], ⟨Nat.zero_le _, fun _ h => by cases h⟩, one_cell rfl rfl ?_⟩
    exact em_sL E w noEnv _ _ ⟨_, rfl⟩
  · subst hx
    have hw : ∀ m ∈ (elems.map (·.1)).length.add (rest.map (·.1)).length * P.bytesOf e :: (DataW.weightsAll P e (elems.map (·.1)) ++ DataW.weightsAll P e (rest.map (·.1))), m ≤ reachBytes := fun m hm => hz m (by
      simp only [DataW.weights, ht]
      exact hm)
    have hlr : len ≤ 140737488351232 := by
      have h1 := hw _ (List.mem_cons_self ..)
      have h2 : (elems.map (·.1)).length.add (rest.map (·.1)).length ≤ (elems.map (·.1)).length.add (rest.map (·.1)).length * P.bytesOf e := Nat.le_mul_of_pos_right _ hby
      have h3 : (elems.map (·.1)).length.add (rest.map (·.1)).length = len + rest.length := by simp [hlen]
      unfold reachBytes at h1
      omega
    have each : ∀ i, i < len → ∃ y, g y ∧ ∀ j, j < E.sz → ∃ u, w.cell? ((a.add (i * E.sz)).add j) = some u ∧ u.oneCell' = true ∧ Rep w noEnv (fun _ => False) (E.enc y j) u := by
      intro i hi
      have h1 := hel i hi
      rw [List.getElem?_eq_getElem (by omega)] at h1
      obtain ⟨cs, hcs, htr⟩ := Option.bind_eq_some_iff.1 h1
      obtain ⟨y, hy, hj⟩ := he.read H enc w base spare held n cs _ htr fun m hm => hw m (List.mem_cons_of_mem _ (List.mem_append_left _ (weights_all (List.mem_map_of_mem (List.getElem_mem _)) m hm)))
      refine ⟨y, hy, fun j hjs => ?_⟩
      obtain ⟨u, hu, r⟩ := hj j hjs
      refine ⟨u, ?_, r⟩
      unfold World.cells? at hcs
      rw [if_pos (by rw [add_block]; exact hb)] at hcs
      have := mapM_some_get hcs j j (by simp [he.size, hjs])
      rw [he.size] at this
      rw [this, hu]
    obtain ⟨l, hl1, hl2⟩ := choose_list E.dflt _ len each
    refine ⟨l, ⟨by omega, fun x hx => ?_⟩, one_cell rfl rfl ?_⟩
    · obtain ⟨i, hi, rfl⟩ := mem_getD E.dflt hx
      exact (hl2 i (by omega)).1
    · show Rep w noEnv (fun _ => False) (sL E l) _
      refine ⟨some a, cap, by rw [hl1], by omega, fun hp _ => ?_⟩
      obtain ⟨b, off, spot⟩ := a
      obtain ⟨u, hu, _⟩ := (hl2 0 (by omega)).2 0 h0
      have hspot : spot = none := by simpa [Addr.add] using World.cell?_spot hu
      subst hspot
      refine ⟨b, off, rfl, not_false, fun i hi j hj => ?_⟩
      obtain ⟨u, hu, r⟩ := (hl2 i (by omega)).2 j hj
      refine ⟨u, ?_, r⟩
      rwa [add_off, add_off, Nat.add_assoc] at hu

/-- Parts of a value that lie one behind the other. -/
def OpensL (P : Program) (l : List (Nat × TypeId)) (off : Nat) {α : Type} (E : El α) (good : α → Prop) : Prop :=
  ∀ (H : Type) (enc : TypeId × Value → H) (w : World) (base : Nat) (spare : Nat → Bool) (held : Bool) (fuel : Nat) (cs : List Value),
    (∀ (i : Nat) (x : Nat × TypeId), l[i]? = some x → ∃ y, DataW.trod enc P w base spare held fuel x.2 ((cs.drop x.1).take (P.cellsOf x.2)) = some y ∧ reachW P x.2 y.1) →
    ∃ a, good a ∧ ∀ j, j < E.sz → ∃ u, cs[off + j]? = some u ∧ u.oneCell' = true ∧ Rep w noEnv (fun _ => False) (E.enc a j) u
theorem opensL_one {α : Type} {E : El α} {g : α → Prop} {off : Nat} (h : Opens P t E g) : OpensL P [(off, t)] off E g := by
  intro H enc w base spare held fuel cs hx
  obtain ⟨y, hy, hz⟩ := hx 0 _ rfl
  obtain ⟨a, ha, hj⟩ := h.read H enc w base spare held fuel _ y hy hz
  refine ⟨a, ha, fun j hjs => ?_⟩
  obtain ⟨u, hu, r⟩ := hj j hjs
  refine ⟨u, ?_, r⟩
  rw [List.getElem?_take] at hu
  split at hu
  · simpa using hu
  · cases hu
theorem opensL_cons {α β : Type} {A : El α} {B : El β} {g : α → Prop} {k : β → Prop} {off : Nat} {l : List (Nat × TypeId)} (h : Opens P t A g) (hl : OpensL P l (off + A.sz) B k) : OpensL P ((off, t) :: l) off (eP A B) (gP g k) := by
  intro H enc w base spare held fuel cs hx
  obtain ⟨a, ha, h1⟩ := opensL_one h H enc w base spare held fuel cs fun i x hi => hx 0 x (by
    cases i with
    | zero => simpa using hi
    | succ i => simp at hi)
  obtain ⟨b, hb, h2⟩ := hl H enc w base spare held fuel cs fun i x hi => hx (i + 1) x (by simpa using hi)
  refine ⟨(a, b), ⟨ha, hb⟩, fun j hj => ?_⟩
  show ∃ u, _ ∧ _ ∧ Rep w noEnv (fun _ => False) (if j < A.sz then A.enc a j else B.enc b (j - A.sz)) u
  split
  · rename_i hjA
    exact h1 j hjA
  · rename_i hjA
    have hj' : j < A.sz + B.sz := hj
    obtain ⟨u, hu, r⟩ := h2 (j - A.sz) (by omega)
    exact ⟨u, by rw [← hu]; congr 1; omega, r⟩
theorem opens_struct {α : Type} {E : El α} {g : α → Prop} {fs : Array Field} (ht : P.underlying t = some (.struct fs)) (hs : P.cellsOf t = E.sz) {l : List (Nat × TypeId)} (hl : fs.toList.map (fun f => (f.offset, f.type)) = l) (h : OpensL P l 0 E g) : Opens P t E g := by
  refine ⟨hs, fun H enc w base spare held fuel cs x hx hz => ?_⟩
  obtain ⟨xs, n, _, rfl, hlen, hxs, hf⟩ := DataW.trod_struct ht hx
  obtain ⟨a, ha, hj⟩ := h H enc w base spare held n cs fun i y hi => by
    subst hl
    rw [List.getElem?_map] at hi
    cases hfi : fs.toList[i]? with
    | none => rw [hfi] at hi; cases hi
    | some f =>
      rw [hfi] at hi
      simp only [Option.map_some, Option.some.injEq] at hi
      subst hi
      have hi : i < fs.size := by simpa using (List.getElem?_eq_some_iff.1 hfi).1
      have := hf i f (by simpa using hfi)
      rw [List.getElem?_eq_getElem (by omega)] at this
      refine ⟨_, this, fun m hm => hz m ?_⟩
      simp only [DataW.weights, ht]
      exact DataW.weights_mem_each (j := i) (by simp [hfi]) (by simp [show i < xs.length by omega]) m hm
  exact ⟨a, ha, fun j hjs => by simpa using hj j hjs⟩
theorem opens_array {α : Type} {E : El α} {g : α → Prop} {n : Nat} (ht : P.underlying t = some (.array n e)) (hs : P.cellsOf t = E.sz) {l : List (Nat × TypeId)} (hl : (List.range n).map (fun i => (i * P.cellsOf e, e)) = l) (h : OpensL P l 0 E g) : Opens P t E g := by
  refine ⟨hs, fun H enc w base spare held fuel cs x hx hz => ?_⟩
  obtain ⟨xs, m, _, rfl, hlen, hxs, hf⟩ := DataW.trod_array ht hx
  obtain ⟨a, ha, hj⟩ := h H enc w base spare held m cs fun i y hi => by
    subst hl
    rw [List.getElem?_map] at hi
    cases hfi : (List.range n)[i]? with
    | none => rw [hfi] at hi; cases hi
    | some k =>
      rw [hfi] at hi
      simp only [Option.map_some, Option.some.injEq] at hi
      subst hi
      have hi : i < n := by simpa using (List.getElem?_eq_some_iff.1 hfi).1
      obtain rfl : i = k := by
        have := (List.getElem?_eq_some_iff.1 hfi).2
        simpa using this
      have := hf i hi
      rw [List.getElem?_eq_getElem (by omega)] at this
      refine ⟨_, this, fun m hm => hz m ?_⟩
      simp only [DataW.weights, ht]
      exact weights_all (List.mem_map_of_mem (List.getElem_mem _)) m hm
  exact ⟨a, ha, fun j hjs => by simpa using hj j hjs⟩
end
end Go.Proofs.YtljgfacjefebaaaDoor
