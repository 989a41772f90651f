/-
  strings.Builder: its methods, over rows at hand.
-/
import Derived.Test.YtljgfacjefebaaaDoorBldA
import Derived.Test.YtljgfacjefebaaaDoorAxt
import Derived.Test.YtljgfacjefebaaaDoorAxs
set_option linter.unusedSimpArgs false
set_option linter.unusedVariables false
set_option maxRecDepth 100000
set_option maxHeartbeats 2000000
namespace Go.Proofs.YtljgfacjefebaaaDoor
open Go
/-- A builder's two cells, as they lie: used or not; its bytes in another row. -/
def bldC (f : Bool) (q v r u n : Nat) : Nat → AV := fun j => if j = 0 then (if f = true then .pt q v 0 else .val (.pointer none)) else .ow r u n
def sCheck : MSpec := fun args hp top nx K => ∃ (f : Bool) (q v r u n : Nat), args = [.pt q v 0] ∧ hp q = .box v 84 2 (bldC f q v r u n) ∧ K (.val (.tuple #[])) (updR hp q (.box v 84 2 (bldC true q v r u n))) top nx
theorem fr_setCell (w : World) (g o : Nat) (x : Value) : Fr (fun b => b = g) w (w.setCell ⟨g, o, none⟩ x) :=
  ⟨rfl, rfl, rfl, by simp [World.setCell], fun k _ hk => by simp [World.setCell, Array.getElem?_modify, Ne.symm hk]⟩
theorem okCheck : MethOK Tryd.prog 76 sCheck := by
  refine ⟨enters Tryd.func76 rfl (by decide), ?_⟩
  rintro args hp top nx K ⟨f, q, v, r, u, n, rfl, hrow, hK⟩ c η w vs hs hdead hargs
  cases hargs with
  | cons hx hr => cases hr with
    | nil =>
      obtain ⟨g, cap, hη, rfl⟩ := hx
      have hr := hs.rows q
      rw [hrow] at hr
      obtain ⟨b, cur, hb, hh, hsz, hc⟩ := hr _ _ hη
      obtain rfl : g = b := by simpa using hb
      obtain ⟨x0, hx0, ho0, hr0⟩ := hc 0 (by decide)
      have hblk : (hp q).blk η = some g := by rw [hrow]; simp [Row.blk, Row.ver, hη]
      have hcell : w.cell? ⟨g, 0, none⟩ = some x0 := by rw [cell_heap hh]; exact hx0
      cases f with
      | true =>
        have hr0 : ∃ g' cap', η v = some (some g', cap') ∧ x0 = .pointer (some ⟨g', 0, none⟩) := hr0
        obtain ⟨g', cap', h1, rfl⟩ := hr0
        rw [hη] at h1
        simp only [Option.some.injEq, Prod.mk.injEq] at h1
        obtain ⟨rfl, rfl⟩ := h1
        refine (check_used g w hcell).mono ?_
        rintro e w' ⟨rfl, rfl⟩
        have e : updR hp q (.box v 84 2 (bldC true q v r u n)) = hp := by
          rw [← hrow]
          funext p
          unfold updR
          split
          · rename_i h; rw [h]
          · rfl
        rw [e] at hK
        exact ⟨_, _, _, _, _, η, rfl, hK, hs, hdead, rfl⟩
      | false =>
        have hr0 : x0 = .pointer none := hr0
        subst hr0
        refine (check_fresh g w hcell (by simp [World.shape?, hh, hsz]) (by simp [World.frozen?, hh])).mono ?_
        rintro e w' ⟨rfl, rfl⟩
        have hf := fr_setCell w g 0 (.pointer (some ⟨g, 0, none⟩))
        have hO : ∀ k, k < w.heap.size → k = g → Lset c η hp k := fun k _ e => .inr ⟨q, by rw [e]; exact hblk⟩
        have hwr := hs.write (row := .box v 84 2 (bldC true q v r u n)) hblk (by rw [hrow]; rfl) hf (by
          intro g' cap' he
          rw [hη] at he
          simp only [Option.some.injEq, Prod.mk.injEq] at he
          obtain ⟨rfl, rfl⟩ := he
          refine ⟨g, cur.setIfInBounds 0 (.pointer (some ⟨g, 0, none⟩)), rfl, by simp [World.setCell, Array.getElem?_modify, hh], by simp [hsz], fun j hj => ?_⟩
          match j, hj with
          | 0, _ => exact ⟨_, by simp [hsz], rfl, g, cap, hη, rfl⟩
          | 1, _ =>
            obtain ⟨x1, hx1, ho1, hr1⟩ := hc 1 (by decide)
            exact ⟨x1, by rw [Array.getElem?_setIfInBounds_ne (by decide)]; exact hx1, ho1, Rep.keep hf hO (fun _ _ h => h) _ _ _ _ (Env.le_refl _) hr1⟩)
        refine ⟨_, _, _, _, _, η, rfl, hK, hwr.1, fun p hp' => ?_, rfl⟩
        by_cases e : p = q
        · subst e; rw [hdead p hp'] at hrow; cases hrow
        · rw [updR_ne _ _ e]; exact hdead p hp'
attribute [local irreducible] AW AVle ASle RowLe
/-- Bytes at hand. -/
def rowB (u : Nat) (l : List UInt8) : Row := .sl u 5 1 l.length (byteC l)
theorem rowB_app {nx n m : Nat} {l s : List UInt8} (hn : n = l.length) (hm : m = n + s.length) : RowLe (.sl nx 5 1 m (apC n (byteC l) (byteC s))) (rowB nx (l ++ s)) := by
  subst hn hm
  refine RowLe.sl (by simp) fun i hi j hj => AVle.of_eq ?_
  unfold apC byteC
  by_cases h : i < l.length
  · rw [if_pos h]
    simp [List.getD, List.getElem?_append_left h]
  · rw [if_neg h]
    simp [List.getD, List.getElem?_append_right (Nat.le_of_not_lt h)]
theorem bldC1 (f : Bool) (q v r u n : Nat) : bldC f q v r u n 1 = .ow r u n := rfl
def sWriteS0 : MSpec := fun args hp top nx K => ∃ (f : Bool) (v u : Nat) (l s : List UInt8), args = [.pt 0 v 0, .st s] ∧ hp = rws [(0, .box v 84 2 (bldC f 0 v 1 u l.length)), (1, rowB u l)] ∧ top = 2 ∧ l.length + s.length ≤ 100000000000 ∧
  ∀ u' nx', (u' = u ∨ nx ≤ u') → nx ≤ nx' → K (tu2 (.val (.int .i64 s.length)) (.val .nilIface)) (rws [(0, .box v 84 2 (bldC true 0 v 1 u' (l ++ s).length)), (1, rowB u' (l ++ s))]) 2 nx'
theorem okWriteS0 : MethOK Tryd.prog 55 sWriteS0 := by
  refine MethOK.mk Tryd.func55 rfl (by decide) Tryd.results55 Tryd.ntmps55 ?_
  rintro args hp top nx K ⟨f, v, u, l, s, rfl, rfl, rfl, hl, hK⟩
  have hΓ : GOK Tryd.prog (gam [(76, sCheck)]) := (.cons okCheck .nil)
  refine ⟨Nat.le_of_ble_eq_true rfl, AW.late ?_⟩
  refine AW.of hΓ mixed [1] _ _ _ rfl ?_
  simp only [go_sem, sCheck]
  refine ⟨f, 0, v, 1, u, l.length, rfl, rfl, ?_⟩
  refine AW.cut ⟨[(0, .pt 0 v 0), (1, .st s)], [(0, .box v 84 2 (bldC true 0 v 1 u l.length)), (1, rowB u l)], 19, 2, nx, []⟩ ?_ ?_
  · simp only [go_sem, sCheck]
    exact ⟨RowLe.refl _, RowLe.refl _⟩
  refine AW.fork (AW.regionO hΓ [false, false, false, false, false, false, true] ?_)
  simp only [go_sem, sCheck, bldC1]
  refine appS_wp rfl Tryd.underlying82 Tryd.underlying9 rfl rfl rfl (Nat.lt_of_lt_of_le (by decide : 14 < 19) (Nat.le_refl _)) ⟨cells5, by decide, by rw [bytes5]; decide, by rw [bytes5]; omega, _, zero5, rfl⟩ ?_
  simp only [go_sem, sCheck, bldC1]
  refine AW.of hΓ mixed [] _ _ _ rfl ?_
  simp only [go_sem, sCheck]
  refine ⟨_, toFitsV (fun p => p) (l := [(4, .val (.int .i64 s.length)), (5, .val .nilIface)]) (r := [(0, .box v 84 2 (bldC true 0 v 1 nx (l ++ s).length)), (1, rowB nx (l ++ s))]) (sz := 19) (top := 2) (nx := nx + 1) (df := []) ?_, ?_⟩
  · simp only [go_sem, sCheck]
    refine ⟨AVle.refl _, RowLe.box fun j hj => ?_, rowB_app rfl rfl⟩
    match j, hj with
    | 0, _ => exact AVle.refl _
    | 1, _ => exact AVle.refl _
  · simp only [go_sem, sCheck]
    have := hK nx (nx + 1) (.inr (Nat.le_refl _)) (by omega)
    rwa [List.length_append] at this
def sWriteS : MSpec := framed sWriteS0
theorem okWriteS : MethOK Tryd.prog 55 sWriteS := okWriteS0.frame
theorem rows_2 {hp : Nat → Row} {p q : Nat} {r s : Row} (h : RowLe (hp p) r) (h2 : RowLe (hp q) s) : ∀ (i o : Nat), [p, q][i]? = some o → RowLe (hp o) (rws [(0, r), (1, s)] i) := by
  intro i o hq
  match i with
  | 0 =>
    simp only [List.getElem?_cons_zero, Option.some.injEq] at hq
    subst hq
    exact h
  | 1 =>
    simp only [List.getElem?_cons_succ, List.getElem?_cons_zero, Option.some.injEq] at hq
    subst hq
    exact h2
  | i + 2 => simp at hq
theorem bld_le (f : Bool) (p q p' q' v u n : Nat) : RowLe (.box v 84 2 (bldC f p v q u n)) (.box v 84 2 (bldC f p' v q' u n)) := RowLe.box fun j hj => by
  match j, hj with
  | 0, _ =>
    cases f with
    | true => exact AVle.pt
    | false => exact AVle.refl _
  | 1, _ => exact AVle.ow
theorem write_go {f : Bool} {p q v u n : Nat} {l s : List UInt8} {hp : Nat → Row} {top nx : Nat} {K : AV → (Nat → Row) → Nat → Nat → Prop} (hn : n = l.length) (hpq : p ≠ q)
    (hr : RowLe (hp p) (.box v 84 2 (bldC f p v q u n))) (hr2 : RowLe (hp q) (rowB u l)) (ht : p < top ∧ q < top) (hl : l.length + s.length ≤ 100000000000)
    (hK : ∀ u' nx', (u' = u ∨ nx ≤ u') → nx ≤ nx' → K (tu2 (.val (.int .i64 s.length)) (.val .nilIface)) (updR (updR hp p (.box v 84 2 (bldC true p v q u' (l ++ s).length))) q (rowB u' (l ++ s))) top nx') :
    sWriteS [.pt p v 0, .st s] hp top nx K := by
  subst hn
  have e1 : (hp p).ver = some v := hr.vers.symm
  have e2 : (hp q).ver = some u := hr2.vers.symm
  refine ⟨[p, q], [.pt 0 v 0, .st s], rws [(0, .box v 84 2 (bldC f 0 v 1 u l.length)), (1, rowB u l)], by simp [hpq], by simp; omega, .cons AVle.pt (.cons (AVle.refl _) .nil), rows_2 (hr.trans (bld_le f p q 0 1 v u _)) hr2, fun i hi => rws_top (top := 2) (by simp) i (by simpa using hi), f, v, u, l, s, rfl, rfl, rfl, hl, fun u' nx' h1 h3 => ?_⟩
  refine ⟨_, _, AVle.refl _, fun i o ho => ?_, fun o ho => ?_, fun o ho w hv => ?_, hK u' nx' h1 h3⟩
  · match i with
    | 0 =>
      simp only [List.getElem?_cons_zero, Option.some.injEq] at ho
      subst ho
      rw [updR_ne _ _ hpq, updR_at]
      exact bld_le true 0 1 p q v u' _
    | 1 =>
      simp only [List.getElem?_cons_succ, List.getElem?_cons_zero, Option.some.injEq] at ho
      subst ho
      rw [updR_at]
      exact RowLe.refl _
    | i + 2 => simp at ho
  · simp only [List.mem_cons, List.not_mem_nil, or_false, not_or] at ho
    rw [updR_ne _ _ ho.2, updR_ne _ _ ho.1]
  · simp only [List.mem_cons, List.not_mem_nil, or_false] at ho
    rcases ho with rfl | rfl
    · rw [updR_ne _ _ hpq, updR_at] at hv
      have : some v = some w := hv
      obtain rfl := Option.some.inj this
      exact .inl e1
    · rw [updR_at] at hv
      have : some u' = some w := hv
      obtain rfl := Option.some.inj this
      rcases h1 with rfl | h1
      · exact .inl e2
      · exact .inr h1
theorem bld_len {f : Bool} {p v q u n m : Nat} (h : n = m) : RowLe (.box v 84 2 (bldC f p v q u n)) (.box v 84 2 (bldC f p v q u m)) := by
  subst h
  exact RowLe.refl _
theorem rowB_eq {u : Nat} {l m : List UInt8} (h : l = m) : RowLe (rowB u l) (rowB u m) := by
  subst h
  exact RowLe.refl _
/-- A builder that nothing was written to. -/
def bld0 : Nat → AV := fun j => if j = 0 then .val (.pointer none) else .val (.slice none 0 0)
def sStr : MSpec := fun args hp top nx K => (∃ (f : Bool) (p v q u : Nat) (l : List UInt8), args = [.pt p v 0] ∧ hp p = .box v 84 2 (bldC f p v q u l.length) ∧ hp q = rowB u l ∧ l ≠ [] ∧ l.length ≤ 100000000000 ∧ K (.st l) (updR hp q .dead) top nx) ∨
  ∃ (p v : Nat), args = [.pt p v 0] ∧ hp p = .box v 84 2 bld0 ∧ K (.st []) hp top nx
theorem okStr : MethOK Tryd.prog 56 sStr := by
  refine ⟨enters Tryd.func56 rfl (by decide), ?_⟩
  intro args hp top nx K hS c η w vs hs hdead hargs
  rcases hS with ⟨f, p, v, q, u, l, rfl, hrow, hrow2, h0, hlen, hK⟩ | ⟨p, v, rfl, hrow, hK⟩
  · cases hargs with
    | cons hx hr => cases hr with
      | nil =>
        obtain ⟨b, cap, hη, rfl⟩ := hx
        have hr := hs.rows p
        rw [hrow] at hr
        obtain ⟨b', cur, hb, hh, hsz, hc⟩ := hr _ _ hη
        obtain rfl : b = b' := by simpa using hb
        obtain ⟨x0, hx0, _, _⟩ := hc 0 (by decide)
        obtain ⟨x1, hx1, _, hr1⟩ := hc 1 (by decide)
        obtain ⟨g, cap', hη', hv⟩ := hr1
        have hr2 := hs.rows q
        rw [hrow2] at hr2
        have hr2 := hr2 g cap' hη'
        have hpos : 0 < l.length := List.length_pos_iff.2 h0
        cases g with
        | none => exact absurd hv.1 (by omega)
        | some g =>
          obtain ⟨rfl, hcap⟩ := hv
          obtain ⟨cur2, hh2, hsz2, hn2, hm2, hc2⟩ := hr2
          have hcur : cur = #[x0, .slice (some ⟨g, 0, none⟩) l.length cap'] := by
            apply Array.ext
            · simp [hsz]
            · intro i h1 h2
              match i, h2 with
              | 0, _ => rw [Array.getElem?_eq_getElem h1] at hx0; exact Option.some.inj hx0
              | 1, _ => rw [Array.getElem?_eq_getElem h1] at hx1; exact Option.some.inj hx1
          have hblk : (hp q).blk η = some g := by rw [hrow2]; simp [rowB, Row.blk, Row.ver, hη']
          refine (str_some b g cap' x0 cur2 l w (by rw [hh, hcur]) hh2 h0 (by omega) (by omega) (by omega) fun j x hj => ?_).mono ?_
          · obtain ⟨hjl, rfl⟩ := List.getElem?_eq_some_iff.1 hj
            obtain ⟨y, hy, _, hry⟩ := hc2 j hjl 0 (by decide)
            have hry : y = .int .u8 (l.getD j 0).toNat := hry
            rw [Nat.mul_one, Nat.add_zero] at hy
            rw [hy, hry]
            simp [List.getD, hjl]
          · rintro e w' ⟨rfl, hf⟩
            obtain ⟨hs', _⟩ := hs.sink hblk hf
            refine ⟨_, _, _, _, _, η, rfl, hK, hs', fun o ho => ?_, rfl⟩
            by_cases e : o = q
            · subst e; rw [updR_at]
            · rw [updR_ne _ _ e]; exact hdead o ho
  · cases hargs with
    | cons hx hr => cases hr with
      | nil =>
        obtain ⟨b, cap, hη, rfl⟩ := hx
        have hr := hs.rows p
        rw [hrow] at hr
        obtain ⟨b', cur, hb, hh, hsz, hc⟩ := hr _ _ hη
        obtain rfl : b = b' := by simpa using hb
        obtain ⟨x0, hx0, _, _⟩ := hc 0 (by decide)
        obtain ⟨x1, hx1, _, hr1⟩ := hc 1 (by decide)
        have hr1 : x1 = .slice none 0 0 := hr1
        subst hr1
        have hcur : cur = #[x0, .slice none 0 0] := by
          apply Array.ext
          · simp [hsz]
          · intro i h1 h2
            match i, h2 with
            | 0, _ => rw [Array.getElem?_eq_getElem h1] at hx0; exact Option.some.inj hx0
            | 1, _ => rw [Array.getElem?_eq_getElem h1] at hx1; exact Option.some.inj hx1
        refine (str_none b x0 w (by rw [hh, hcur])).mono ?_
        rintro e w' ⟨rfl, hf⟩
        exact ⟨_, _, _, _, _, η, rfl, hK, hs.world hf, hdead, rfl⟩
end Go.Proofs.YtljgfacjefebaaaDoor
