/-
  Parts: text, the same, copied; the document's own way to a Doc.
-/
import Derived.Test.YtljgfacjefebaaaDoorAxt
import Derived.Test.YtljgfacjefebaaaDoorDocP
import Derived.Test.YtljgfacjefebaaaDoorAxr
import Derived.Test.YtljgfacjefebaaaDoorAxo
import Derived.Test.YtljgfacjefebaaaDoorLinesN
set_option linter.unusedSimpArgs false
set_option linter.unusedVariables false
set_option maxRecDepth 100000
set_option maxHeartbeats 2000000
namespace Go.Proofs.YtljgfacjefebaaaDoor
open Go
attribute [local irreducible] AW AVle ASle RowLe
@[go_sem] theorem kCell_str (l : Array UInt8) : kCell (.string ⟨l⟩) = .st l.toList := rfl
theorem ends_drop (a : List UInt8) : (decide (1 ≤ (a.length : Int)) && decide (List.drop ((a.length : Int) - 1).toNat a = [10])) = endsL a := by
  unfold endsL
  have e : ((a.length : Int) - 1).toNat = a.length - 1 := by omega
  rw [e, Bool.eq_iff_iff]
  simp only [Bool.and_eq_true, decide_eq_true_eq]
  rcases a.eq_nil_or_concat with rfl | ⟨m, c, rfl⟩
  · simp
  · rw [List.concat_eq_append]
    have e2 : (m ++ [c]).length - 1 = m.length := by simp
    rw [e2, List.drop_left]
    simp
    omega
def sHasSufL : Spec := Spec.f2 kS kS (fun a b => a.length ≤ 100000000000 ∧ b = [10]) (fun a _ => kB.enc (endsL a))
theorem okHasSufL : SpecOK Tryd.prog 98 sHasSufL := by
  refine SpecOK.f2 Tryd.func98 rfl (by decide) Tryd.results98 Tryd.ntmps98 (by decide) fun a b ⟨ha, h⟩ => ?_
  have hΓ : GOK Tryd.prog (gam []) := GOK.nil
  subst h
  refine AW.of hΓ mixed [] _ _ _ rfl ?_
  simp only [go_sem]
  exact ⟨by omega, by omega, ends_drop a⟩
def sHasSuf : Spec := Spec.f2 kS kS (fun a b => a.length ≤ 100000000000 ∧ b = [10]) (fun a _ => kB.enc (endsL a))
theorem okHasSuf : SpecOK Tryd.prog 82 sHasSuf := by
  refine SpecOK.f2 Tryd.func82 rfl (by decide) Tryd.results82 Tryd.ntmps82 (by decide) fun a b ⟨ha, h⟩ => ?_
  have hΓ : GOK Tryd.prog (gam [(98, sHasSufL)]) := (.cons okHasSufL .nil)
  subst h
  refine AW.of hΓ mixed [] _ _ _ rfl ?_
  simp only [go_sem, sHasSufL]
  exact ha
theorem isText_iff (ll bl rl : BS) (h : Bool) (t l b r : BS) (hb : Bool) : isTextD (ll, bl, rl, h, t, l, b, r, hb) = true ↔ ll = [] ∧ bl = [] ∧ rl = [] ∧ h = false ∧ l = [] ∧ b = [] ∧ r = [] ∧ hb = false := by
  simp [isTextD, textP, txP]
def sIsText : Spec := Spec.f1 (kA ePt) (fun _ => True) (fun p => kB.enc (isTextD p))
theorem okIsText : SpecOK Tryd.prog 37 sIsText := by
  refine SpecOK.f1 Tryd.func37 rfl (by decide) Tryd.results37 Tryd.ntmps37 (by decide) fun p _ => ?_
  have hΓ : GOK Tryd.prog (gam []) := GOK.nil
  obtain ⟨ll, bl, rl, h, t, l, b, r, hb⟩ := p
  refine AW.of hΓ mixed [] _ _ _ rfl ?_
  simp only [go_sem]
  rw [Bool.eq_iff_iff, isText_iff]
  simp only [Bool.and_eq_true, decide_eq_true_eq, and_assoc]
def sRefText : Spec := Spec.f1 (kA ePt) (fun _ => True) (fun p => kB.enc (isTextD p))
theorem okRefText : SpecOK Tryd.prog 40 sRefText := by
  refine SpecOK.f1 Tryd.func40 rfl (by decide) Tryd.results40 Tryd.ntmps40 (by decide) fun p _ => ?_
  have hΓ : GOK Tryd.prog (gam []) := GOK.nil
  obtain ⟨ll, bl, rl, h, t, l, b, r, hb⟩ := p
  refine AW.of hΓ mixed [] _ _ _ rfl ?_
  simp only [go_sem]
  rw [Bool.eq_iff_iff, isText_iff]
  simp only [Bool.and_eq_true, decide_eq_true_eq, and_assoc]
theorem pt_le {ll bl rl : BS} {h : Bool} {t l b r : BS} {hb : Bool} {c : Nat → AV} (h0 : c 0 = .st ll) (h1 : c 1 = .st bl) (h2 : c 2 = .st rl) (h3 : c 3 = .val (.bool h)) (h4 : c 4 = .st t) (h5 : c 5 = .st l) (h6 : c 6 = .st b) (h7 : c 7 = .st r) (h8 : c 8 = .val (.bool hb)) :
    AVle (.ag 9 c) (.ag 9 (ePt.enc (ll, bl, rl, h, t, l, b, r, hb))) := AVle.ag fun j hj => AVle.of_eq (match j, hj with
  | 0, _ => h0
  | 1, _ => h1
  | 2, _ => h2
  | 3, _ => h3
  | 4, _ => h4
  | 5, _ => h5
  | 6, _ => h6
  | 7, _ => h7
  | 8, _ => h8)
def sPartD : Spec := Spec.f1 (kA ePt) (fun _ => True) (fun p => (kA ePt).enc p)
theorem okPartD : SpecOK Tryd.prog 36 sPartD := by
  refine SpecOK.f1 Tryd.func36 rfl (by decide) Tryd.results36 Tryd.ntmps36 (by decide) fun p _ => ?_
  have hΓ : GOK Tryd.prog (gam []) := GOK.nil
  obtain ⟨ll, bl, rl, h, t, l, b, r, hb⟩ := p
  refine AW.of hΓ mixed [] _ _ _ rfl ?_
  simp only [go_sem]
  exact pt_le rfl rfl rfl rfl rfl rfl rfl rfl rfl
def sOneD : Spec := Spec.f1 (kA ePt) (fun _ => True) (fun p => (kA ePt).enc p)
theorem okOneD : SpecOK Tryd.prog 39 sOneD := by
  refine SpecOK.f1 Tryd.func39 rfl (by decide) Tryd.results39 Tryd.ntmps39 (by decide) fun p _ => ?_
  have hΓ : GOK Tryd.prog (gam []) := GOK.nil
  obtain ⟨ll, bl, rl, h, t, l, b, r, hb⟩ := p
  refine AW.of hΓ mixed [] _ _ _ rfl ?_
  simp only [go_sem]
  exact pt_le rfl rfl rfl rfl rfl rfl rfl rfl rfl
theorem ptEq (x y : Pt) : (decide (x.1 = y.1) && (decide (x.2.1 = y.2.1) && (decide (x.2.2.1 = y.2.2.1) && (decide (x.2.2.2.1 = y.2.2.2.1) && (decide (x.2.2.2.2.1 = y.2.2.2.2.1) && (decide (x.2.2.2.2.2.1 = y.2.2.2.2.2.1) && (decide (x.2.2.2.2.2.2.1 = y.2.2.2.2.2.2.1) && (decide (x.2.2.2.2.2.2.2.1 = y.2.2.2.2.2.2.2.1) && decide (x.2.2.2.2.2.2.2.2 = y.2.2.2.2.2.2.2.2))))))))) = decide (x = y) := by
  obtain ⟨ll, bl, rl, h, t, l, b, r, hb⟩ := x
  obtain ⟨ll', bl', rl', h', t', l', b', r', hb'⟩ := y
  rw [Bool.eq_iff_iff]
  simp only [Bool.and_eq_true, decide_eq_true_eq, Prod.mk.injEq]
def sSameD : Spec := Spec.f2 (kL ePt) (kL ePt) (fun a b => a.length < 1000000000 ∧ b.length < 1000000000) (fun a b => kB.enc (decide (a = b)))
theorem okSameD : SpecOK Tryd.prog 14 sSameD := by
  refine SpecOK.f2 Tryd.func14 rfl (by decide) Tryd.results14 Tryd.ntmps14 (by decide) fun a b ⟨ha, hb⟩ => ?_
  have hΓ : GOK Tryd.prog (gam []) := GOK.nil
  refine AW.of hΓ mixed [] _ _ _ rfl ?_
  simp only [go_sem]
  refine ⟨fun h e => h (by rw [e]), fun h => ?_⟩
  have hab : a.length = b.length := by omega
  refine AW.round (α := { x : Nat × Nat // x.1 ≤ a.length ∧ ∀ k, k < x.1 → a.getD k ePt.dflt = b.getD k ePt.dflt })
    (fun x => ⟨[(0, sL ePt a), (1, sL ePt b), (5, .val (.int .i64 x.1.1))], [], 26, 0, x.1.2, []⟩) (fun x => a.length - x.1.1) ⟨(0, 0), Nat.zero_le _, fun k hk => absurd hk (Nat.not_lt_zero _)⟩ ?_ ?_
  · simp only [go_sem]
  · rintro ⟨⟨i, nx⟩, hi, he⟩
    simp only at hi he
    refine AW.of hΓ mixed [99999] _ _ _ rfl ?_
    simp only [go_sem]
    rw [ptEq]
    refine ⟨fun hlt => ⟨by omega, by omega, fun hn e => ?_, fun hn => ⟨by omega, ⟨(i + 1, nx), by dsimp only; omega, fun k hk => ?_⟩, ⟨Nat.le_refl _, by dsimp only; omega⟩, by dsimp only; omega⟩⟩, fun hge => ?_⟩
    · rw [e, decide_eq_true rfl] at hn
      cases hn
    · dsimp only at hk
      rcases Nat.lt_or_ge k i with h' | h'
      · exact he k h'
      · obtain rfl : k = i := by omega
        simpa using hn
    · exact list_ext_getD ePt.dflt hab fun k hk => he k (by omega)
theorem ptEqN (x y : Pt) : ((decide (x.1 = y.1) && (decide (x.2.1 = y.2.1) && decide (x.2.2.1 = y.2.2.1))) && (decide (x.2.2.2.1 = y.2.2.2.1) && (decide (x.2.2.2.2.1 = y.2.2.2.2.1) && (decide (x.2.2.2.2.2.1 = y.2.2.2.2.2.1) && (decide (x.2.2.2.2.2.2.1 = y.2.2.2.2.2.2.1) && (decide (x.2.2.2.2.2.2.2.1 = y.2.2.2.2.2.2.2.1) && decide (x.2.2.2.2.2.2.2.2 = y.2.2.2.2.2.2.2.2))))))) = decide (x = y) := by
  rw [← ptEq]
  simp only [Bool.and_assoc]
def sEqD : Spec := Spec.f2 (kL ePt) (kL ePt) (fun a b => a.length < 1000000000 ∧ b.length < 1000000000) (fun a b => kB.enc (decide (a = b)))
theorem okEqD : SpecOK Tryd.prog 41 sEqD := by
  refine SpecOK.f2 Tryd.func41 rfl (by decide) Tryd.results41 Tryd.ntmps41 (by decide) fun a b ⟨ha, hb⟩ => ?_
  have hΓ : GOK Tryd.prog (gam []) := GOK.nil
  refine AW.of hΓ mixed [] _ _ _ rfl ?_
  simp only [go_sem]
  refine ⟨fun h e => h (by rw [e]), fun h => ?_⟩
  have hab : a.length = b.length := by omega
  refine AW.round (α := { x : Nat × Nat // x.1 ≤ a.length ∧ ∀ k, k < x.1 → a.getD k ePt.dflt = b.getD k ePt.dflt })
    (fun x => ⟨[(0, sL ePt a), (1, sL ePt b), (12, .val (.int .i64 a.length)), (13, .val (.int .i64 x.1.1))], [], 26, 0, x.1.2, []⟩) (fun x => a.length - x.1.1) ⟨(0, 0), Nat.zero_le _, fun k hk => absurd hk (Nat.not_lt_zero _)⟩ ?_ ?_
  · simp only [go_sem]
  · rintro ⟨⟨i, nx⟩, hi, he⟩
    simp only at hi he
    refine AW.of hΓ mixed [99999] _ _ _ rfl ?_
    simp only [go_sem]
    rw [ptEqN]
    refine ⟨fun hlt => ⟨by omega, by omega, fun hn e => ?_, fun hn => ⟨by omega, ⟨(i + 1, nx), by dsimp only; omega, fun k hk => ?_⟩, ⟨Nat.le_refl _, by dsimp only; omega⟩, by dsimp only; omega⟩⟩, fun hge => ?_⟩
    · rw [e, decide_eq_true rfl] at hn
      cases hn
    · dsimp only at hk
      rcases Nat.lt_or_ge k i with h' | h'
      · exact he k h'
      · obtain rfl : k = i := by omega
        simpa using hn
    · exact list_ext_getD ePt.dflt hab fun k hk => he k (by omega)
def sSameDD : Spec := Spec.f2 (kL ePt) (kL ePt) (fun a b => a.length < 1000000000 ∧ b.length < 1000000000) (fun a b => kB.enc (decide (a = b)))
theorem okSameDD : SpecOK Tryd.prog 17 sSameDD := by
  refine SpecOK.f2 Tryd.func17 rfl (by decide) Tryd.results17 Tryd.ntmps17 (by decide) fun a b ⟨ha, hb⟩ => ?_
  have hΓ : GOK Tryd.prog (gam [(41, sEqD)]) := (.cons okEqD .nil)
  refine AW.of hΓ mixed [] _ _ _ rfl ?_
  simp only [go_sem, sEqD]
  exact ⟨ha, hb⟩
def sToD : Spec := Spec.f1 (kL ePt) (fun l => l.length < 100000000) (fun l => sL ePt l)
theorem okToD : SpecOK Tryd.prog 12 sToD := by
  refine SpecOK.f1 Tryd.func12 rfl (by decide) Tryd.results12 Tryd.ntmps12 (by decide) fun l hl => ?_
  have hΓ : GOK Tryd.prog (gam [(36, sPartD)]) := (.cons okPartD .nil)
  refine AW.of hΓ mixed [] _ _ _ rfl ?_
  simp only [go_sem, sPartD]
  refine AW.adopt 3 66 9 (fun i => ePt.enc (([] : List Pt).getD i ePt.dflt)) rfl ?_
  refine AW.round (α := { x : Nat × Nat × Nat // x.1 ≤ l.length })
    (fun x => ⟨[(0, sL ePt l), (3, .ow 0 x.1.2.1 x.1.1), (4, .val (.int .i64 x.1.1))], [(0, rowL x.1.2.1 66 ePt (l.take x.1.1))], 20, 1, x.1.2.2, []⟩) (fun x => l.length - x.1.1) ⟨(0, 0, 1), Nat.zero_le _⟩ ?_ ?_
  · simp only [go_sem, sPartD]
    exact RowLe.refl _
  · rintro ⟨⟨i, v, nx⟩, hi⟩
    simp only at hi
    refine AW.of hΓ mixed [99999] _ _ _ rfl ?_
    simp only [go_sem, sPartD]
    refine ⟨fun hlt => ⟨by omega, by omega, by omega, ⟨(i + 1, nx, nx + 1), by dsimp only; omega⟩, ⟨Nat.le_refl _, ⟨⟨rfl, rfl⟩, by dsimp only; omega⟩, ?_⟩, by dsimp only; omega⟩, fun hge => ?_⟩
    · refine row_app1 (E := ePt) (x := l.getD i ePt.dflt) rfl (take_snoc l ePt.dflt (by omega)) (by simp; omega) rfl (by simp) fun j hj => AVle.refl _
    · obtain rfl : i = l.length := by omega
      rw [List.take_length]
      exact ⟨by simp, vw_all (E := ePt) rfl rfl rfl⟩
def sFromD : Spec := Spec.f1 (kL ePt) (fun l => l.length < 100000000) (fun l => sL ePt l)
theorem okFromD : SpecOK Tryd.prog 15 sFromD := by
  refine SpecOK.f1 Tryd.func15 rfl (by decide) Tryd.results15 Tryd.ntmps15 (by decide) fun l hl => ?_
  have hΓ : GOK Tryd.prog (gam [(39, sOneD)]) := (.cons okOneD .nil)
  refine AW.of hΓ mixed [] _ _ _ rfl ?_
  simp only [go_sem, sOneD]
  refine AW.adopt 3 62 9 (fun i => ePt.enc (([] : List Pt).getD i ePt.dflt)) rfl ?_
  refine AW.round (α := { x : Nat × Nat × Nat // x.1 ≤ l.length })
    (fun x => ⟨[(0, sL ePt l), (3, .ow 0 x.1.2.1 x.1.1), (4, .val (.int .i64 x.1.1))], [(0, rowL x.1.2.1 62 ePt (l.take x.1.1))], 20, 1, x.1.2.2, []⟩) (fun x => l.length - x.1.1) ⟨(0, 0, 1), Nat.zero_le _⟩ ?_ ?_
  · simp only [go_sem, sOneD]
    exact RowLe.refl _
  · rintro ⟨⟨i, v, nx⟩, hi⟩
    simp only at hi
    refine AW.of hΓ mixed [99999] _ _ _ rfl ?_
    simp only [go_sem, sOneD]
    refine ⟨fun hlt => ⟨by omega, by omega, by omega, ⟨(i + 1, nx, nx + 1), by dsimp only; omega⟩, ⟨Nat.le_refl _, ⟨⟨rfl, rfl⟩, by dsimp only; omega⟩, ?_⟩, by dsimp only; omega⟩, fun hge => ?_⟩
    · refine row_app1 (E := ePt) (x := l.getD i ePt.dflt) rfl (take_snoc l ePt.dflt (by omega)) (by simp; omega) rfl (by simp) fun j hj => AVle.refl _
    · obtain rfl : i = l.length := by omega
      rw [List.take_length]
      exact ⟨by simp, vw_all (E := ePt) rfl rfl rfl⟩
theorem sumT_mem {l : List Pt} {p : Pt} (h : p ∈ l) : (txP p).length ≤ sumT l := by
  induction l with
  | nil => cases h
  | cons t l ih =>
    have e : sumT (t :: l) = (txP t).length + sumT l := by simp [sumT]
    rcases List.mem_cons.1 h with rfl | h
    · omega
    · have := ih h
      omega
theorem pt_eta (p : Pt) : (p.1, p.2.1, p.2.2.1, p.2.2.2.1, p.2.2.2.2.1, p.2.2.2.2.2.1, p.2.2.2.2.2.2.1, p.2.2.2.2.2.2.2.1, p.2.2.2.2.2.2.2.2) = p := rfl
theorem stE_text {m : List Pt} {q : Pt} {x : BS} (hq : isTextD q = true) : ∀ i, i < m.length + 1 → ∀ j, j < 9 → AVle (stE (fun i => ePt.enc ((m ++ [q]).getD i ePt.dflt)) m.length 4 1 (fun _ => AV.st x) i j) (ePt.enc ((m ++ [textP x]).getD i ePt.dflt) j) := fun i hi j hj => by
  simp only [stE]
  by_cases e : i = m.length
  · subst e
    have e1 : ∀ c : Pt, (m ++ [c]).getD m.length ePt.dflt = c := fun c => by simp [List.getD]
    rw [e1, e1, isText_eq hq]
    match j, hj with
    | 0, _ => rw [if_neg (by omega)]; exact AVle.refl _
    | 1, _ => rw [if_neg (by omega)]; exact AVle.refl _
    | 2, _ => rw [if_neg (by omega)]; exact AVle.refl _
    | 3, _ => rw [if_neg (by omega)]; exact AVle.refl _
    | 4, _ => rw [if_pos ⟨rfl, by omega, by omega⟩]; exact AVle.refl _
    | 5, _ => rw [if_neg (by omega)]; exact AVle.refl _
    | 6, _ => rw [if_neg (by omega)]; exact AVle.refl _
    | 7, _ => rw [if_neg (by omega)]; exact AVle.refl _
    | 8, _ => rw [if_neg (by omega)]; exact AVle.refl _
  · rw [if_neg (fun h => e h.1)]
    have e3 : ∀ c : Pt, (m ++ [c]).getD i ePt.dflt = m.getD i ePt.dflt := fun c => by simp [List.getD, List.getElem?_append_left (show i < m.length by omega)]
    rw [e3, e3]
    exact AVle.refl _
theorem snocP (m : List Pt) (c d : Pt) : (m ++ [c]).getD m.length d = c := by simp [List.getD]
def sRefOf : Spec := Spec.f1 (kL ePt) (fun l => l.length < 100000000 ∧ sumT l ≤ 1000000000) (fun l => sL ePt (ofD l))
theorem okRefOf : SpecOK Tryd.prog 16 sRefOf := by
  refine SpecOK.f1 Tryd.func16 rfl (by decide) Tryd.results16 Tryd.ntmps16 (by decide) fun l ⟨hl, hs⟩ => ?_
  have hΓ : GOK Tryd.prog (gam [(40, sRefText)]) := (.cons okRefText .nil)
  refine AW.of hΓ mixed [] _ _ _ rfl ?_
  simp only [go_sem, sRefText]
  refine AW.adopt 3 62 9 (fun i => ePt.enc (([] : List Pt).getD i ePt.dflt)) rfl ?_
  refine AW.round (α := { x : Nat × List Pt × Nat × Nat // x.1 ≤ l.length ∧ x.2.1 = (l.take x.1).foldl joinR [] })
    (fun x => ⟨[(0, sL ePt l), (3, .ow 0 x.1.2.2.1 x.1.2.1.length), (4, .val (.int .i64 x.1.1))], [(0, rowL x.1.2.2.1 62 ePt x.1.2.1)], 69, 1, x.1.2.2.2, []⟩) (fun x => l.length - x.1.1) ⟨(0, [], 0, 1), Nat.zero_le _, rfl⟩ ?_ ?_
  · simp only [go_sem, sRefText]
    exact RowLe.refl _
  · rintro ⟨⟨i, out, v, nx⟩, hi, ho⟩
    simp only at hi ho
    rcases Nat.lt_or_ge i l.length with hlt | hge
    · have hsum := fold_sum (l.take i) []
      rw [← ho] at hsum
      have hst := sumT_take l i
      have hpl : (txP (l.getD i ePt.dflt)).length ≤ sumT l := by
        rw [gd_lt l _ hlt]
        exact sumT_mem (List.getElem_mem _)
      have hstep : (l.take (i + 1)).foldl joinR [] = joinR out (l.getD i ePt.dflt) := by
        rw [take_snoc l ePt.dflt hlt, List.foldl_append, ← ho]
        rfl
      have hlen : out.length ≤ i := by
        have := hsum.2
        simp at this
        omega
      have hlI : ((i : Int) < (l.length : Nat)) = True := eq_true (by omega)
      generalize hp : l.getD i ePt.dflt = p at *
      rcases out.eq_nil_or_concat with rfl | ⟨m, q, hms⟩
      · refine AW.of hΓ mixed [99999] _ _ _ rfl ?_
        simp only [go_sem, sRefText, hp, hlI, pt_eta]
        refine ⟨by omega, fun _ => by omega, fun h => ⟨by omega, ⟨(i + 1, [], v, nx), by dsimp only; omega, by dsimp only; rw [hstep, join_em h.1 h.2]⟩, ⟨Nat.le_refl _, ⟨⟨rfl, rfl⟩, by dsimp only; omega⟩, RowLe.refl _⟩, by dsimp only; omega⟩,
          fun h => ⟨by omega, by omega, by omega, ⟨(i + 1, [p], nx, nx + 1), by dsimp only; omega, by dsimp only; rw [hstep, joinR_nil fun hh => h hh.1 hh.2]⟩, ⟨Nat.le_refl _, ⟨⟨rfl, rfl⟩, by dsimp only; omega⟩, ?_⟩, by dsimp only; omega⟩⟩
        exact row_app1 (E := ePt) (l := []) (x := p) rfl rfl rfl rfl rfl fun j hj => AVle.refl _
      · rw [List.concat_eq_append] at hms
        subst hms
        have e1 : (((m.length + 1 : Nat) : Int) - 1) = (m.length : Int) := by omega
        have e2 : (0 ≤ (m.length : Int)) = True := eq_true (by omega)
        have e3 : (0 < ((m.length + 1 : Nat) : Int)) = True := eq_true (by omega)
        have hlm : m.length + 1 ≤ i := by simpa using hlen
        have hq : (txP q).length ≤ sumT l := by
          have h1 := sumT_app m [q]
          rw [sumT_one] at h1
          have h2 := hsum.1
          simp only [sumT, List.map_nil, List.sum_nil] at h2
          simp only [sumT] at *
          omega
        have hpq : (txP q).length + (txP p).length ≤ 9223372036854775807 := by omega
        refine AW.of hΓ mixed [99999] _ _ _ rfl ?_
        simp only [go_sem, sRefText, hp, hlI, e1, e2, e3, snocP, pt_eta]
        refine ⟨by omega, fun _ => by omega, fun h => ⟨by omega, ⟨(i + 1, m ++ [q], v, nx), by dsimp only; omega, by dsimp only; rw [hstep, join_em h.1 h.2]⟩, ⟨Nat.le_refl _, ⟨⟨rfl, by simp⟩, by dsimp only; omega⟩, RowLe.sl (by simp) fun _ _ _ _ => AVle.refl _⟩, by dsimp only; omega⟩,
          fun h => ⟨by omega, fun _ => by omega, fun _ => by omega, fun _ => by omega, fun h2 => ?_, fun h2 => ?_⟩⟩
        · have hj := join_two (m := m) h2.1 (h h2.1) h2.2
          refine ⟨by omega, by omega, by omega, by omega, by omega, hpq, by omega, by omega, by omega, ⟨(i + 1, m ++ [textP (txP q ++ txP p)], v, nx), by dsimp only; omega, by dsimp only; rw [hstep, hj]⟩, ⟨Nat.le_refl _, ⟨⟨rfl, by simp⟩, by dsimp only; omega⟩, ?_⟩, by dsimp only; omega⟩
          exact RowLe.sl (by simp) (stE_text h2.2)
        · have hj : joinR (m ++ [q]) p = m ++ [q] ++ [p] := by
            cases hp2 : isTextD p with
            | false => exact join_no hp2
            | true => exact join_new (fun hh => h hp2 hh.2) (h2 hp2)
          refine ⟨by omega, by omega, by omega, ⟨(i + 1, m ++ [q] ++ [p], nx, nx + 1), by dsimp only; omega, by dsimp only; rw [hstep, hj]⟩, ⟨Nat.le_refl _, ⟨⟨rfl, by simp⟩, by dsimp only; omega⟩, ?_⟩, by dsimp only; omega⟩
          exact row_app1 (E := ePt) (l := m ++ [q]) (x := p) rfl rfl (by simp) rfl (by simp) fun j hj => AVle.refl _
    · have hlI : ((i : Int) < (l.length : Nat)) = False := eq_false (by omega)
      obtain rfl : i = l.length := by omega
      refine AW.of hΓ mixed [99999] _ _ _ rfl ?_
      simp only [go_sem, sRefText, hlI]
      rw [List.take_length, ← ofD_eq] at ho
      rw [← ho]
      exact vw_all (E := ePt) rfl rfl rfl
end Go.Proofs.YtljgfacjefebaaaDoor
