/-
  Docs: the plain facts.
-/
import Derived.Test.YtljgfacjefebaaaDoorAxq
import Derived.Test.YtljgfacjefebaaaDoorLinesM
set_option linter.unusedVariables false
namespace Go.Proofs.YtljgfacjefebaaaDoor
open Go
abbrev BS := List UInt8
instance : DecidableEq (BS × BS × BS × BS × Bool) := inferInstance
instance : DecidableEq (Bool × BS × BS × BS × BS × Bool) := inferInstance
/-- Left, base and right label; is it a conflict; text; left, base, right; has it a base. -/
abbrev Pt := BS × BS × BS × Bool × BS × BS × BS × BS × Bool
instance : DecidableEq Pt := inferInstance
abbrev ePt : El Pt := eP eS (eP eS (eP eS (eP eB (eP eS (eP eS (eP eS (eP eS eB)))))))
abbrev eLb : El (BS × BS × BS) := eP eS (eP eS eS)
@[reducible] def hkP (p : Pt) : Bool := p.2.2.2.1
@[reducible] def txP (p : Pt) : BS := p.2.2.2.2.1
/-- Text alone. -/
def textP (t : BS) : Pt := ([], [], [], false, t, [], [], [], false)
def isTextD (p : Pt) : Bool := decide (p = textP (txP p))
def plainB (s : BS) : Bool := decide ((10 : UInt8) ∉ s)
def plainD (p : Pt) : Bool := plainB p.1 && (plainB p.2.1 && plainB p.2.2.1)
theorem plain_app (a b : BS) : plainB (a ++ b) = (plainB a && plainB b) := by
  unfold plainB
  rw [Bool.eq_iff_iff]
  simp [not_or]
theorem plain_ix (s : BS) : decide (0 ≤ Lib.indexByte s 10) = !plainB s := by
  unfold plainB
  rcases idx_cases s with ⟨h1, h2⟩ | ⟨p, r, rfl, h2, h1⟩
  · rw [h1]
    simp [h2]
  · rw [h1]
    simp
def confD (p : Pt) : Bool := p.2.2.2.1 && (decide (p.2.2.2.2.1 = []) && ((p.2.2.2.2.2.2.2.2 || (decide (p.2.2.2.2.2.2.1 = []) && decide (p.2.1 = []))) && plainD p))
/-- Text that may stand there. -/
def aheadD (p : Pt) (another : Bool) : Bool := isTextD p && (decide (txP p ≠ []) && (!another || endsL (txP p)))
def okAt (d : List Pt) (i : Nat) : Bool := (hkP (d.getD i ePt.dflt) || (decide (i = 0) || hkP (d.getD (i - 1) ePt.dflt))) && (confD (d.getD i ePt.dflt) || aheadD (d.getD i ePt.dflt) (decide (i + 1 < d.length)))
def rightD (d : List Pt) : Bool := decide (∀ i, i < d.length → okAt d i = true)
def conflD (d : List Pt) : Nat := (d.filter hkP).length
def longT (l : List BS) : Nat := l.foldl (fun n s => max n (longL (splitL s))) 0
theorem longT_snoc (l : List BS) (x : BS) : longT (l ++ [x]) = max (longT l) (longL (splitL x)) := by
  unfold longT
  rw [List.foldl_append]
  rfl
def fourP (p : Pt) : List BS := [p.2.2.2.2.1, p.2.2.2.2.2.1, p.2.2.2.2.2.2.1, p.2.2.2.2.2.2.2.1]
def fitsD (d : List Pt) (w : Int) : Bool := decide (1 ≤ w) && decide (∀ p ∈ d, (longT (fourP p) : Int) < w)
/-- What a Doc comes to with some texts behind it. -/
def withD (d : List Pt) (ts : List BS) : List Pt := if ts.flatten = [] then d else d ++ [textP ts.flatten]
def ofGo : List Pt → List Pt → List BS → List Pt
  | [], d, ts => withD d ts
  | p :: l, d, ts => if isTextD p = true then ofGo l d (ts ++ [txP p]) else ofGo l (withD d ts ++ [p]) []
def ofD (l : List Pt) : List Pt := ofGo l [] []
theorem isText_textP (t : BS) : isTextD (textP t) = true := decide_eq_true rfl
theorem isText_eq {p : Pt} (h : isTextD p = true) : p = textP (txP p) := of_decide_eq_true h
/-- The document's own way. -/
def joinR (out : List Pt) (p : Pt) : List Pt :=
  if isTextD p = true then
    if txP p = [] then out else
      match out.getLast? with
      | some q => if isTextD q = true then out.dropLast ++ [textP (txP q ++ txP p)] else out ++ [p]
      | none => out ++ [p]
  else out ++ [p]
theorem join_no {out : List Pt} {p : Pt} (h : isTextD p = false) : joinR out p = out ++ [p] := by unfold joinR; rw [if_neg (by simp [h])]
theorem join_em {out : List Pt} {p : Pt} (h : isTextD p = true) (h2 : txP p = []) : joinR out p = out := by unfold joinR; rw [if_pos h, if_pos h2]
theorem joinR_nil {p : Pt} (h2 : ¬ (isTextD p = true ∧ txP p = [])) : joinR [] p = [p] := by
  unfold joinR
  by_cases h : isTextD p = true
  · rw [if_pos h, if_neg fun e => h2 ⟨h, e⟩]
    rfl
  · rw [if_neg h]
    rfl
theorem join_two {m : List Pt} {q p : Pt} (h : isTextD p = true) (h2 : txP p ≠ []) (hq : isTextD q = true) : joinR (m ++ [q]) p = m ++ [textP (txP q ++ txP p)] := by
  unfold joinR
  rw [if_pos h, if_neg h2]
  simp [hq]
theorem join_new {m : List Pt} {q p : Pt} (h2 : ¬ (isTextD p = true ∧ txP p = [])) (hq : isTextD q = false) : joinR (m ++ [q]) p = m ++ [q] ++ [p] := by
  unfold joinR
  by_cases h : isTextD p = true
  · rw [if_pos h, if_neg fun e => h2 ⟨h, e⟩]
    simp [hq]
  · rw [if_neg h]
theorem with_nil (d : List Pt) : withD d [] = d := rfl
theorem with_join {d : List Pt} {ts : List BS} {p : Pt} (hd : ∀ q, d.getLast? = some q → isTextD q = false) (hp : isTextD p = true) : withD d (ts ++ [txP p]) = joinR (withD d ts) p := by
  have e := isText_eq hp
  by_cases h0 : txP p = []
  · rw [join_em hp h0]
    unfold withD
    rw [h0]
    simp
  · unfold withD
    have hf : ¬ (ts ++ [txP p]).flatten = [] := by simp [h0]
    rw [if_neg hf]
    by_cases h1 : ts.flatten = []
    · rw [if_pos h1]
      have ef : (ts ++ [txP p]).flatten = txP p := by simp [h1]
      rw [ef, ← e]
      rcases d.eq_nil_or_concat with rfl | ⟨m, q, rfl⟩
      · rw [joinR_nil fun h => h0 h.2]
        rfl
      · rw [List.concat_eq_append] at hd ⊢
        rw [join_new (fun h => h0 h.2) (hd q (by simp))]
    · rw [if_neg h1, join_two hp h0 (isText_textP _)]
      simp [textP, txP]
theorem of_go : ∀ (l d : List Pt) (ts : List BS), (∀ q, d.getLast? = some q → isTextD q = false) → ofGo l d ts = l.foldl joinR (withD d ts)
  | [], d, ts, _ => rfl
  | p :: l, d, ts, hd => by
    rw [ofGo, List.foldl_cons]
    cases h : isTextD p with
    | true => rw [if_pos rfl, of_go l d _ hd, with_join hd h]
    | false =>
      rw [if_neg (by simp), of_go l _ [] (fun q hq => by
        rw [List.getLast?_append] at hq
        simp at hq
        rw [← hq]; exact h), with_nil, join_no h]
theorem ofD_eq (l : List Pt) : ofD l = l.foldl joinR [] := of_go l [] [] (fun q h => by cases h)
/-- No empty text, no text behind text. -/
inductive Nrm : List Pt → Prop
  | nil : Nrm []
  | snoc {l : List Pt} {p : Pt} : Nrm l → (isTextD p = true → txP p ≠ [] ∧ ∀ q, l.getLast? = some q → isTextD q = false) → Nrm (l ++ [p])
theorem nrm_join {out : List Pt} (p : Pt) (h : Nrm out) : Nrm (joinR out p) := by
  cases hp : isTextD p with
  | false => rw [join_no hp]; exact .snoc h fun e => by rw [hp] at e; cases e
  | true =>
    by_cases h0 : txP p = []
    · rw [join_em hp h0]; exact h
    · cases h with
      | nil => rw [joinR_nil fun e => h0 e.2]; exact .snoc (l := []) .nil fun _ => ⟨h0, fun q hq => by cases hq⟩
      | snoc hm hq =>
        rename_i m q
        cases hqt : isTextD q with
        | true =>
          rw [join_two hp h0 hqt]
          exact .snoc hm fun _ => ⟨by simp [textP, txP] at *; exact fun _ => h0, (hq hqt).2⟩
        | false =>
          rw [join_new (fun e => h0 e.2) hqt]
          exact .snoc (.snoc hm hq) fun _ => ⟨h0, fun q' hq' => by
            rw [List.getLast?_append] at hq'
            simp at hq'
            rw [← hq']; exact hqt⟩
theorem nrm_fold : ∀ (l out : List Pt), Nrm out → Nrm (l.foldl joinR out)
  | [], _, h => h
  | p :: l, out, h => nrm_fold l _ (nrm_join p h)
theorem nrm_id {l : List Pt} (h : Nrm l) : l.foldl joinR [] = l := by
  induction h with
  | nil => rfl
  | snoc hm hp ih =>
    rename_i m p
    rw [List.foldl_append, ih]
    show joinR m p = _
    cases h : isTextD p with
    | false => exact join_no h
    | true =>
      obtain ⟨h0, h1⟩ := hp h
      rcases m.eq_nil_or_concat with rfl | ⟨m', q, rfl⟩
      · exact joinR_nil fun e => h0 e.2
      · rw [List.concat_eq_append] at *
        exact join_new (fun e => h0 e.2) (h1 q (by simp))
theorem of_nrm (l : List Pt) : Nrm (ofD l) := by rw [ofD_eq]; exact nrm_fold l [] .nil
theorem of_of (l : List Pt) : ofD (ofD l) = ofD l := by
  have := nrm_id (of_nrm l)
  rwa [← ofD_eq] at this
/-- The length of all text. -/
def sumT (l : List Pt) : Nat := (l.map fun p => (txP p).length).sum
theorem sumT_app (l m : List Pt) : sumT (l ++ m) = sumT l + sumT m := by simp [sumT]
theorem sumT_one (p : Pt) : sumT [p] = (txP p).length := by simp [sumT]
theorem sumT_take (l : List Pt) (i : Nat) : sumT (l.take i) ≤ sumT l := by
  have := sumT_app (l.take i) (l.drop i)
  rw [List.take_append_drop] at this
  omega
theorem join_sum (out : List Pt) (p : Pt) : sumT (joinR out p) ≤ sumT out + (txP p).length ∧ (joinR out p).length ≤ out.length + 1 := by
  have hn : sumT (out ++ [p]) ≤ sumT out + (txP p).length ∧ (out ++ [p]).length ≤ out.length + 1 := by rw [sumT_app, sumT_one]; simp
  cases hp : isTextD p with
  | false => rw [join_no hp]; exact hn
  | true =>
    by_cases h0 : txP p = []
    · rw [join_em hp h0]; omega
    · rcases out.eq_nil_or_concat with rfl | ⟨m, q, rfl⟩
      · rw [joinR_nil fun e => h0 e.2]; exact hn
      · rw [List.concat_eq_append] at *
        cases hqt : isTextD q with
        | false => rw [join_new (fun e => h0 e.2) hqt]; exact hn
        | true =>
          rw [join_two hp h0 hqt, sumT_app, sumT_app, sumT_one, sumT_one]
          simp [textP, txP]
          omega
theorem fold_sum : ∀ (l out : List Pt), sumT (l.foldl joinR out) ≤ sumT out + sumT l ∧ (l.foldl joinR out).length ≤ out.length + l.length
  | [], out => by simp [sumT]
  | p :: l, out => by
    have h1 := fold_sum l (joinR out p)
    have h2 := join_sum out p
    have e : sumT (p :: l) = (txP p).length + sumT l := by simp [sumT]
    rw [List.foldl_cons, e, List.length_cons]
    omega
theorem ofD_sum (l : List Pt) : sumT (ofD l) ≤ sumT l ∧ (ofD l).length ≤ l.length := by
  have := fold_sum l []
  rw [← ofD_eq] at this
  simpa [sumT] using this
end Go.Proofs.YtljgfacjefebaaaDoor
