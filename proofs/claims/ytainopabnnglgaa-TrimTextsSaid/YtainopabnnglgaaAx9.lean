/-
  Regions, code, calls: from a state to a state.
-/
import Derived.Test.YtainopabnnglgaaAx8
namespace Go.Proofs.Ytainopabnnglgaa
open Go

section
variable {P : Program} {Γ : Gam}

/-- An operation that writes: into a row at hand, or such as isn't told here. -/
def bop (P : Program) (st : AS) (o : Oper) (K : AS → Prop) : Prop :=
  match o.op with
  | .store t x y => sStore P st t (st.ev x) (st.ev y) o.dst K
  | .call ⟨.builtin .append, ⟨[x, y]⟩, ⟨[t, t']⟩⟩ => t' = t ∧ sApp P st t (st.ev x) (st.ev y) o.dst K
  | .defer ⟨.value (.func f), ⟨[]⟩, _⟩ => o.dst = none ∧ K ⟨st.fr, st.hp, st.sz, st.top, st.nx, ⟨.fn (.func f) #[], #[]⟩ :: st.df⟩
  | _ => OpW P o st K
theorem bop_wp {st : AS} {o : Oper} {K : AS → Prop} (h : bop P st o K) : OpW P o st K := by
  unfold bop at h
  split at h
  · rename_i t x y ho
    exact store_wp ho h
  · rename_i x y t t' ho
    exact app_wp ho h.1 h.2
  · rename_i f ts ho
    intro c η a w next Q hsr hnext
    obtain ⟨hd, hK⟩ := h
    unfold Oper.wp
    have e : (execOp a.eval o).run P w = .ok (.defer ⟨.fn (.func f) #[], #[]⟩) w := by
      unfold execOp
      rw [ho]
      simp [resolve, Deferred.ofValue, Act.eval]
    rw [e]
    refine hnext ⟨st.fr, st.hp, st.sz, st.top, st.nx, ⟨.fn (.func f) #[], #[]⟩ :: st.df⟩ η _ _ ⟨hsr.hs, hsr.dead, ?_, ?_, ?_⟩ hK
    · rw [put_size]; exact hsr.size
    · intro t; rw [hd]; exact hsr.slots t
    · rw [put_defers]; simp only; rw [hsr.defs]
  · exact h

/-- Operations one behind the other. -/
def xOps (P : Program) (Γ : Gam) (ops : Array Oper) : List Oper → AS → (AS → Prop) → Prop
  | [], st, K => K st
  | o :: r, st, K => match gop P Γ ops st o with
    | some (pre, z, row) => (dstOK st.sz o.dst ∧ pre) ∧ xOps P Γ ops r (st.put o.dst z row) K
    | none => o.guard = none ∧ bop P st o fun st' => xOps P Γ ops r st' K

theorem xOps_seq (hΓ : GOK P Γ) {ops : Array Oper} {Q : Exit → Act → World → Prop} : ∀ (l : List Oper) (c : Ctx) (st : AS) (K : AS → Prop) (η : Env) (a : Act) (w : World), SR c st η a w → xOps P Γ ops l st K →
    (∀ st' η' a' w', SR c st' η' a' w' → K st' → Q .normal a' w') → wpList P ops Q l a w
  | [], _, _, _, η, a, w, hsr, h, hQ => hQ _ η a w hsr h
  | o :: r, c, st, K, η, a, w, hsr, h, hQ => by
    unfold xOps at h
    split at h
    · rename_i pre z row hg
      refine wpList_step fun KK hKK => gop_wp hΓ hsr hg h.1.2 h.1.1 fun η' a' w' hsr' => hKK _ _ (xOps_seq hΓ r c _ K η' a' w' hsr' h.2 hQ)
    · refine wpList_step fun KK hKK => ?_
      rw [if_pos (by simp [Region.wanted, h.1])]
      exact bop_wp h.2 c η a w KK Q hsr fun st' η' a' w' hsr' hx => hKK _ _ (xOps_seq hΓ r c st' K η' a' w' hsr' hx hQ)

/-! ### code -/
/-- From this state on, the code comes to a state of which this holds. -/
def AW (P : Program) (code : Code) (Q : Exit → AS → Prop) (st : AS) : Prop :=
  ∀ (c : Ctx) (η : Env) (a : Act) (w : World), SR c st η a w → code.wp P (fun e a' w' => ∃ st' η', Q e st' ∧ SR c st' η' a' w') a w

def thenA (K : AS → Prop) (Q : Exit → AS → Prop) : Exit → AS → Prop
  | .normal, st => K st
  | e, st => Q e st
def inA (id : Nat) (Q : Exit → AS → Prop) : Exit → AS → Prop
  | .exit id', st => if id' = id then Q .normal st else Q (.exit id') st
  | e, st => Q e st

variable {Q : Exit → AS → Prop} {st : AS}

theorem AW.seq {x y : Code} (h : ∀ K : AS → Prop, (∀ st, AW P y Q st → K st) → AW P x (thenA K Q) st) : AW P (.seq x y) Q st := by
  intro c η a w hsr
  refine wp_seq (wp_mono (h _ (fun _ h => h) c η a w hsr) ?_)
  rintro e a' w' ⟨st', η', hq, hsr'⟩
  cases e with
  | normal => exact hq c η' a' w' hsr'
  | _ => exact ⟨st', η', hq, hsr'⟩
theorem AW.region (hΓ : GOK P Γ) {id : Nat} {l : List Oper} (h : xOps P Γ l.toArray l st (Q .normal)) : AW P (.region id l.toArray false) Q st := by
  intro c η a w hsr
  exact wp_region_lit (xOps_seq hΓ l c st _ η a w hsr h fun st' η' a' w' hsr' hq => ⟨st', η', hq, hsr'⟩)
theorem AW.cond {o : Operand} {x y : Code} {b : Bool} (he : st.ev o = .val (.bool b)) (ht : b = true → AW P x Q st) (hf : b = false → AW P y Q st) : AW P (.cond o x y) Q st := by
  intro c η a w hsr
  have hv : a.eval o = .bool b := by
    have := rep_ev hsr.slots o
    unfold AS.ev at he
    rw [he] at this
    exact this
  cases b with
  | true => exact wp_cond_true hv (ht rfl c η a w hsr)
  | false => exact wp_cond_false hv (hf rfl c η a w hsr)
theorem AW.block {id : Nat} {x : Code} (h : AW P x (inA id Q) st) : AW P (.block id x) Q st := by
  intro c η a w hsr
  refine wp_block (wp_mono (h c η a w hsr) ?_)
  rintro e a' w' ⟨st', η', hq, hsr'⟩
  cases e with
  | exit id' =>
    simp only [inA] at hq
    simp only [Exit.inBlock]
    split at hq
    · rename_i e; rw [if_pos e]; exact ⟨st', η', hq, hsr'⟩
    · rename_i e; rw [if_neg e]; exact ⟨st', η', hq, hsr'⟩
  | _ => exact ⟨st', η', hq, hsr'⟩
theorem AW.scope {x : Code} (h : AW P x (fun e st => match e with | .goto _ => False | e => Q e st) st) : AW P (.scope x) Q st := by
  intro c η a w hsr
  refine wp_scope_straight (wp_mono (h c η a w hsr) ?_)
  rintro e a' w' ⟨st', η', hq, hsr'⟩
  cases e with
  | goto l => exact hq.elim
  | _ => exact ⟨st', η', hq, hsr'⟩
theorem AW.skip (h : Q .normal st) : AW P .skip Q st := fun _ η _ _ hsr => wp_skip ⟨st, η, h, hsr⟩
theorem AW.exit {id : Nat} (h : Q (.exit id) st) : AW P (.exit id) Q st := fun _ η _ _ hsr => wp_exit ⟨st, η, h, hsr⟩
theorem AW.ret (h : Q .ret st) : AW P .ret Q st := fun _ η _ _ hsr => wp_ret ⟨st, η, h, hsr⟩

/-- What holds of one state holds of another one, of which less is known. -/
def ASle (st st' : AS) : Prop := ∀ (c : Ctx) (η : Env) (a : Act) (w : World), SR c st η a w → ∃ η', SR c st' η' a w
theorem ASle.refl (st : AS) : ASle st st := fun _ η _ _ h => ⟨η, h⟩
theorem ASle.trans {a b d : AS} (h : ASle a b) (k : ASle b d) : ASle a d := fun c η x w hs => let ⟨η', h'⟩ := h c η x w hs; k c η' x w h'
theorem AW.le {code : Code} {st' : AS} (hle : ASle st st') (h : AW P code Q st') : AW P code Q st := by
  intro c η a w hsr
  obtain ⟨η', hsr'⟩ := hle c η a w hsr
  exact h c η' a w hsr'

/-- A loop: what holds at each round's head, of states of which no more is asked; a measure. -/
theorem AW.loop {x : Code} {α : Type} (I : α → AS) (μ : α → Nat) (i₀ : α) (h₀ : ASle st (I i₀))
    (round : ∀ i, AW P x (thenA (fun st' => ∃ j, ASle st' (I j) ∧ μ j < μ i) Q) (I i)) : AW P (.loop x) Q st := by
  intro c η a w hsr
  obtain ⟨η₀, hsr₀⟩ := h₀ c η a w hsr
  intro b k cs
  have key : ∀ n i η a w, μ i = n → SR c (I i) η a w →
      ∃ e a' w', (∃ st' η', Q e st' ∧ SR c st' η' a' w') ∧ Arrives P (lone (b.at a (.code x :: .inLoop x :: k)) cs w) b k cs e a' w' := by
    intro n
    induction n using Nat.strongRecOn with
    | _ n ih =>
      intro i η a w hn hs
      obtain ⟨e, a₁, w₁, ⟨st', η', hq, hs'⟩, harr⟩ := round i c η a w hs b (.inLoop x :: k) cs
      cases e with
      | normal =>
        obtain ⟨j, hle, hlt⟩ := hq
        obtain ⟨η₂, hs₂⟩ := hle c η' a₁ w₁ hs'
        obtain ⟨e₂, a₂, w₂, hq₂, harr₂⟩ := ih (μ j) (hn ▸ hlt) j η₂ a₁ w₁ rfl hs₂
        exact ⟨e₂, a₂, w₂, hq₂, .of_steps (Steps.trans harr (.one step_inLoop)) harr₂⟩
      | exit id => exact ⟨_, a₁, w₁, ⟨st', η', hq, hs'⟩, .pass (x := .inLoop x) rfl (fun _ _ => .inl (by simp)) harr⟩
      | goto l => exact ⟨_, a₁, w₁, ⟨st', η', hq, hs'⟩, .pass (x := .inLoop x) rfl (fun _ _ => .inl (by simp)) harr⟩
      | ret => exact ⟨_, a₁, w₁, ⟨st', η', hq, hs'⟩, .pass (x := .inLoop x) rfl (fun _ _ => .inl (by simp)) harr⟩
      | panic ch => exact ⟨_, a₁, w₁, ⟨st', η', hq, hs'⟩, .pass (x := .inLoop x) rfl (fun _ _ => .inl (by simp)) harr⟩
      | outgrown => exact ⟨_, a₁, w₁, ⟨st', η', hq, hs'⟩, .pass (x := .inLoop x) rfl (fun _ _ => .inl (by simp)) harr⟩
  obtain ⟨e, a', w', hq, harr⟩ := key _ i₀ η₀ a w rfl hsr₀
  exact ⟨e, a', w', hq, .of_steps (.one step_loop) harr⟩
end
end Go.Proofs.Ytainopabnnglgaa
