/-
  Part 4 of what the proof rests on: values that are told, code that is walked, what comes out.
-/
import Derived.Test.YthpjjjnbkfnghaaGreatDoorMq3
set_option linter.unusedSimpArgs false
set_option linter.unusedVariables false
set_option maxRecDepth 100000
set_option maxHeartbeats 2000000
namespace Go.Proofs.YthpjjjnbkfnghaaGreatDoor
open Go
def bldC (f : Bool) (q v r u n : Nat) : Nat → AV := fun j => if j = 0 then (if f = true then .pt q v 0 else .val (.pointer none)) else .ow r u n
def sCheck : MSpec := fun args hp top nx K => ∃ (f : Bool) (q v r u n : Nat), args = [.pt q v 0] ∧ hp q = .box v 138 2 (bldC f q v r u n) ∧ K (.val (.tuple #[])) (updR hp q (.box v 138 2 (bldC true q v r u n))) top nx
theorem fr_setCell (w : World) (g o : Nat) (x : Value) : Fr (fun b => b = g) w (w.setCell ⟨g, o, none⟩ x) :=
  ⟨rfl, rfl, rfl, by simp [World.setCell], fun k _ hk => by simp [World.setCell, Array.getElem?_modify, Ne.symm hk]⟩
theorem okCheck : MethOK Tryz.prog 147 sCheck := by
  refine ⟨enters Tryz.func147 rfl (by decide), ?_⟩
  rintro args hp top nx K ⟨f, q, v, r, u, n, rfl, hrow, hK⟩ c η w vs hs hdead hargs
  cases hargs with
  | cons hx hr => cases hr with
    | nil =>
      obtain ⟨g, cap, hη, rfl⟩ := hx
      have hr := hs.rows q
      rw [hrow] at hr
      obtain ⟨b, cur, hb, hh, hsz, hc⟩ := hr _ _ hη
      obtain rfl : g = b := by simpa using hb
      obtain ⟨x0, hx0, ho0, hr0⟩ := hc 0 (by decide)
      have hblk : (hp q).blk η = some g := by rw [hrow]; simp [Row.blk, Row.ver, hη]
      have hcell : w.cell? ⟨g, 0, none⟩ = some x0 := by rw [cell_heap hh]; exact hx0
      cases f with
      | true =>
        have hr0 : ∃ g' cap', η v = some (some g', cap') ∧ x0 = .pointer (some ⟨g', 0, none⟩) := hr0
        obtain ⟨g', cap', h1, rfl⟩ := hr0
        rw [hη] at h1
        simp only [Option.some.injEq, Prod.mk.injEq] at h1
        obtain ⟨rfl, rfl⟩ := h1
        refine (check_used g w hcell).mono ?_
        rintro e w' ⟨rfl, rfl⟩
        have e : updR hp q (.box v 138 2 (bldC true q v r u n)) = hp := by
          rw [← hrow]
          funext p
          unfold updR
          split
          · rename_i h; rw [h]
          · rfl
        rw [e] at hK
        exact ⟨_, _, _, _, _, η, rfl, hK, hs, hdead, rfl⟩
      | false =>
        have hr0 : x0 = .pointer none := hr0
        subst hr0
        refine (check_fresh g w hcell (by simp [World.shape?, hh, hsz]) (by simp [World.frozen?, hh])).mono ?_
        rintro e w' ⟨rfl, rfl⟩
        have hf := fr_setCell w g 0 (.pointer (some ⟨g, 0, none⟩))
        have hO : ∀ k, k < w.heap.size → k = g → Lset c η hp k := fun k _ e => .inr ⟨q, by rw [e]; exact hblk⟩
        have hwr := hs.write (row := .box v 138 2 (bldC true q v r u n)) hblk (by rw [hrow]; rfl) hf (by
          intro g' cap' he
          rw [hη] at he
          simp only [Option.some.injEq, Prod.mk.injEq] at he
          obtain ⟨rfl, rfl⟩ := he
          refine ⟨g, cur.setIfInBounds 0 (.pointer (some ⟨g, 0, none⟩)), rfl, by simp [World.setCell, Array.getElem?_modify, hh], by simp [hsz], fun j hj => ?_⟩
          match j, hj with
          | 0, _ => exact ⟨_, by simp [hsz], rfl, g, cap, hη, rfl⟩
          | 1, _ =>
            obtain ⟨x1, hx1, ho1, hr1⟩ := hc 1 (by decide)
            exact ⟨x1, by rw [Array.getElem?_setIfInBounds_ne (by decide)]; exact hx1, ho1, Rep.keep hf hO (fun _ _ h => h) _ _ _ _ (Env.le_refl _) hr1⟩)
        refine ⟨_, _, _, _, _, η, rfl, hK, hwr.1, fun p hp' => ?_, rfl⟩
        by_cases e : p = q
        · subst e; rw [hdead p hp'] at hrow; cases hrow
        · rw [updR_ne _ _ e]; exact hdead p hp'
attribute [local irreducible] AW AVle ASle RowLe
def rowB (u : Nat) (l : List UInt8) : Row := .sl u 5 1 l.length (byteC l)
theorem rowB_app {nx n m : Nat} {l s : List UInt8} (hn : n = l.length) (hm : m = n + s.length) : RowLe (.sl nx 5 1 m (apC n (byteC l) (byteC s))) (rowB nx (l ++ s)) := by
  subst hn hm
  refine RowLe.sl (by simp) fun i hi j hj => AVle.of_eq ?_
  unfold apC byteC
  by_cases h : i < l.length
  · rw [if_pos h]
    simp [List.getD, List.getElem?_append_left h]
  · rw [if_neg h]
    simp [List.getD, List.getElem?_append_right (Nat.le_of_not_lt h)]
theorem bldC1 (f : Bool) (q v r u n : Nat) : bldC f q v r u n 1 = .ow r u n := rfl
def sWriteS0 : MSpec := fun args hp top nx K => ∃ (f : Bool) (v u : Nat) (l s : List UInt8), args = [.pt 0 v 0, .st s] ∧ hp = rws [(0, .box v 138 2 (bldC f 0 v 1 u l.length)), (1, rowB u l)] ∧ top = 2 ∧ l.length + s.length ≤ 100000000000 ∧
  ∀ u' nx', (u' = u ∨ nx ≤ u') → nx ≤ nx' → K (tu2 (.val (.int .i64 s.length)) (.val .nilIface)) (rws [(0, .box v 138 2 (bldC true 0 v 1 u' (l ++ s).length)), (1, rowB u' (l ++ s))]) 2 nx'
theorem okWriteS0 : MethOK Tryz.prog 88 sWriteS0 := by
  refine MethOK.mk Tryz.func88 rfl (by decide) Tryz.results88 Tryz.ntmps88 ?_
  rintro args hp top nx K ⟨f, v, u, l, s, rfl, rfl, rfl, hl, hK⟩
  have hΓ : GOK Tryz.prog (gam [(147, sCheck)]) := (.cons okCheck .nil)
  refine ⟨Nat.le_of_ble_eq_true rfl, AW.late ?_⟩
  refine AW.of hΓ mixed [1] _ _ _ rfl ?_
  simp only [go_sem, sCheck]
  refine ⟨f, 0, v, 1, u, l.length, rfl, rfl, ?_⟩
  refine AW.cut ⟨[(0, .pt 0 v 0), (1, .st s)], [(0, .box v 138 2 (bldC true 0 v 1 u l.length)), (1, rowB u l)], 19, 2, nx, []⟩ ?_ ?_
  · simp only [go_sem, sCheck]
    exact ⟨RowLe.refl _, RowLe.refl _⟩
  refine AW.fork (AW.regionO hΓ [false, false, false, false, false, false, true] ?_)
  simp only [go_sem, sCheck, bldC1]
  refine appS_wp rfl Tryz.underlying102 Tryz.underlying9 rfl rfl rfl (Nat.lt_of_lt_of_le (by decide : 14 < 19) (Nat.le_refl _)) ⟨cells5, by decide, by rw [bytes5]; decide, by rw [bytes5]; omega, _, zero5, rfl⟩ ?_
  simp only [go_sem, sCheck, bldC1]
  refine AW.of hΓ mixed [] _ _ _ rfl ?_
  simp only [go_sem, sCheck]
  refine ⟨_, toFitsV (fun p => p) (l := [(4, .val (.int .i64 s.length)), (5, .val .nilIface)]) (r := [(0, .box v 138 2 (bldC true 0 v 1 nx (l ++ s).length)), (1, rowB nx (l ++ s))]) (sz := 19) (top := 2) (nx := nx + 1) (df := []) ?_, ?_⟩
  · simp only [go_sem, sCheck]
    refine ⟨AVle.refl _, RowLe.box fun j hj => ?_, rowB_app rfl rfl⟩
    match j, hj with
    | 0, _ => exact AVle.refl _
    | 1, _ => exact AVle.refl _
  · simp only [go_sem, sCheck]
    have := hK nx (nx + 1) (.inr (Nat.le_refl _)) (by omega)
    rwa [List.length_append] at this
def sWriteS : MSpec := framed sWriteS0
theorem okWriteS : MethOK Tryz.prog 88 sWriteS := okWriteS0.frame
theorem rows_2 {hp : Nat → Row} {p q : Nat} {r s : Row} (h : RowLe (hp p) r) (h2 : RowLe (hp q) s) : ∀ (i o : Nat), [p, q][i]? = some o → RowLe (hp o) (rws [(0, r), (1, s)] i) := by
  intro i o hq
  match i with
  | 0 =>
    simp only [List.getElem?_cons_zero, Option.some.injEq] at hq
    subst hq
    exact h
  | 1 =>
    simp only [List.getElem?_cons_succ, List.getElem?_cons_zero, Option.some.injEq] at hq
    subst hq
    exact h2
  | i + 2 => simp at hq
theorem bld_le (f : Bool) (p q p' q' v u n : Nat) : RowLe (.box v 138 2 (bldC f p v q u n)) (.box v 138 2 (bldC f p' v q' u n)) := RowLe.box fun j hj => by
  match j, hj with
  | 0, _ =>
    cases f with
    | true => exact AVle.pt
    | false => exact AVle.refl _
  | 1, _ => exact AVle.ow
theorem write_go {f : Bool} {p q v u n : Nat} {l s : List UInt8} {hp : Nat → Row} {top nx : Nat} {K : AV → (Nat → Row) → Nat → Nat → Prop} (hn : n = l.length) (hpq : p ≠ q)
    (hr : RowLe (hp p) (.box v 138 2 (bldC f p v q u n))) (hr2 : RowLe (hp q) (rowB u l)) (ht : p < top ∧ q < top) (hl : l.length + s.length ≤ 100000000000)
    (hK : ∀ u' nx', (u' = u ∨ nx ≤ u') → nx ≤ nx' → K (tu2 (.val (.int .i64 s.length)) (.val .nilIface)) (updR (updR hp p (.box v 138 2 (bldC true p v q u' (l ++ s).length))) q (rowB u' (l ++ s))) top nx') :
    sWriteS [.pt p v 0, .st s] hp top nx K := by
  subst hn
  have e1 : (hp p).ver = some v := hr.vers.symm
  have e2 : (hp q).ver = some u := hr2.vers.symm
  refine ⟨[p, q], [.pt 0 v 0, .st s], rws [(0, .box v 138 2 (bldC f 0 v 1 u l.length)), (1, rowB u l)], by simp [hpq], by simp; omega, .cons AVle.pt (.cons (AVle.refl _) .nil), rows_2 (hr.trans (bld_le f p q 0 1 v u _)) hr2, fun i hi => rws_top (top := 2) (by simp) i (by simpa using hi), f, v, u, l, s, rfl, rfl, rfl, hl, fun u' nx' h1 h3 => ?_⟩
  refine ⟨_, _, AVle.refl _, fun i o ho => ?_, fun o ho => ?_, fun o ho w hv => ?_, hK u' nx' h1 h3⟩
  · match i with
    | 0 =>
      simp only [List.getElem?_cons_zero, Option.some.injEq] at ho
      subst ho
      rw [updR_ne _ _ hpq, updR_at]
      exact bld_le true 0 1 p q v u' _
    | 1 =>
      simp only [List.getElem?_cons_succ, List.getElem?_cons_zero, Option.some.injEq] at ho
      subst ho
      rw [updR_at]
      exact RowLe.refl _
    | i + 2 => simp at ho
  · simp only [List.mem_cons, List.not_mem_nil, or_false, not_or] at ho
    rw [updR_ne _ _ ho.2, updR_ne _ _ ho.1]
  · simp only [List.mem_cons, List.not_mem_nil, or_false] at ho
    rcases ho with rfl | rfl
    · rw [updR_ne _ _ hpq, updR_at] at hv
      have : some v = some w := hv
      obtain rfl := Option.some.inj this
      exact .inl e1
    · rw [updR_at] at hv
      have : some u' = some w := hv
      obtain rfl := Option.some.inj this
      rcases h1 with rfl | h1
      · exact .inl e2
      · exact .inr h1
theorem bld_len {f : Bool} {p v q u n m : Nat} (h : n = m) : RowLe (.box v 138 2 (bldC f p v q u n)) (.box v 138 2 (bldC f p v q u m)) := by
  subst h
  exact RowLe.refl _
theorem rowB_eq {u : Nat} {l m : List UInt8} (h : l = m) : RowLe (rowB u l) (rowB u m) := by
  subst h
  exact RowLe.refl _
def bld0 : Nat → AV := fun j => if j = 0 then .val (.pointer none) else .val (.slice none 0 0)
def sStr : MSpec := fun args hp top nx K => (∃ (f : Bool) (p v q u : Nat) (l : List UInt8), args = [.pt p v 0] ∧ hp p = .box v 138 2 (bldC f p v q u l.length) ∧ hp q = rowB u l ∧ l ≠ [] ∧ l.length ≤ 100000000000 ∧ K (.st l) (updR hp q .dead) top nx) ∨
  ∃ (p v : Nat), args = [.pt p v 0] ∧ hp p = .box v 138 2 bld0 ∧ K (.st []) hp top nx
theorem okStr : MethOK Tryz.prog 92 sStr := by
  refine ⟨enters Tryz.func92 rfl (by decide), ?_⟩
  intro args hp top nx K hS c η w vs hs hdead hargs
  rcases hS with ⟨f, p, v, q, u, l, rfl, hrow, hrow2, h0, hlen, hK⟩ | ⟨p, v, rfl, hrow, hK⟩
  · cases hargs with
    | cons hx hr => cases hr with
      | nil =>
        obtain ⟨b, cap, hη, rfl⟩ := hx
        have hr := hs.rows p
        rw [hrow] at hr
        obtain ⟨b', cur, hb, hh, hsz, hc⟩ := hr _ _ hη
        obtain rfl : b = b' := by simpa using hb
        obtain ⟨x0, hx0, _, _⟩ := hc 0 (by decide)
        obtain ⟨x1, hx1, _, hr1⟩ := hc 1 (by decide)
        obtain ⟨g, cap', hη', hv⟩ := hr1
        have hr2 := hs.rows q
        rw [hrow2] at hr2
        have hr2 := hr2 g cap' hη'
        have hpos : 0 < l.length := List.length_pos_iff.2 h0
        cases g with
        | none => exact absurd hv.1 (by omega)
        | some g =>
          obtain ⟨rfl, hcap⟩ := hv
          obtain ⟨cur2, hh2, hsz2, hn2, hm2, hc2⟩ := hr2
          have hcur : cur = #[x0, .slice (some ⟨g, 0, none⟩) l.length cap'] := by
            apply Array.ext
            · simp [hsz]
            · intro i h1 h2
              match i, h2 with
              | 0, _ => rw [Array.getElem?_eq_getElem h1] at hx0; exact Option.some.inj hx0
              | 1, _ => rw [Array.getElem?_eq_getElem h1] at hx1; exact Option.some.inj hx1
          have hblk : (hp q).blk η = some g := by rw [hrow2]; simp [rowB, Row.blk, Row.ver, hη']
          refine (str_some b g cap' x0 cur2 l w (by rw [hh, hcur]) hh2 h0 (by omega) (by omega) (by omega) fun j x hj => ?_).mono ?_
          · obtain ⟨hjl, rfl⟩ := List.getElem?_eq_some_iff.1 hj
            obtain ⟨y, hy, _, hry⟩ := hc2 j hjl 0 (by decide)
            have hry : y = .int .u8 (l.getD j 0).toNat := hry
            rw [Nat.mul_one, Nat.add_zero] at hy
            rw [hy, hry]
            simp [List.getD, hjl]
          · rintro e w' ⟨rfl, hf⟩
            obtain ⟨hs', _⟩ := hs.sink hblk hf
            refine ⟨_, _, _, _, _, η, rfl, hK, hs', fun o ho => ?_, rfl⟩
            by_cases e : o = q
            · subst e; rw [updR_at]
            · rw [updR_ne _ _ e]; exact hdead o ho
  · cases hargs with
    | cons hx hr => cases hr with
      | nil =>
        obtain ⟨b, cap, hη, rfl⟩ := hx
        have hr := hs.rows p
        rw [hrow] at hr
        obtain ⟨b', cur, hb, hh, hsz, hc⟩ := hr _ _ hη
        obtain rfl : b = b' := by simpa using hb
        obtain ⟨x0, hx0, _, _⟩ := hc 0 (by decide)
        obtain ⟨x1, hx1, _, hr1⟩ := hc 1 (by decide)
        have hr1 : x1 = .slice none 0 0 := hr1
        subst hr1
        have hcur : cur = #[x0, .slice none 0 0] := by
          apply Array.ext
          · simp [hsz]
          · intro i h1 h2
            match i, h2 with
            | 0, _ => rw [Array.getElem?_eq_getElem h1] at hx0; exact Option.some.inj hx0
            | 1, _ => rw [Array.getElem?_eq_getElem h1] at hx1; exact Option.some.inj hx1
        refine (str_none b x0 w (by rw [hh, hcur])).mono ?_
        rintro e w' ⟨rfl, hf⟩
        exact ⟨_, _, _, _, _, η, rfl, hK, hs.world hf, hdead, rfl⟩
end Go.Proofs.YthpjjjnbkfnghaaGreatDoor
set_option linter.unusedSimpArgs false
set_option linter.unusedVariables false
set_option maxRecDepth 100000
set_option maxHeartbeats 2000000
namespace Go.Proofs.YthpjjjnbkfnghaaGreatDoor
open Go
attribute [local irreducible] AW AVle ASle RowLe
theorem All2.same : ∀ (xs : List AV), All2 AVle xs xs
  | [] => .nil
  | x :: xs => .cons (AVle.refl x) (All2.same xs)
def sBld (dom : List AV → List UInt8 → AV → Prop) : MSpec := fun args hp top nx K => ∃ (f : Bool) (v u : Nat) (l : List UInt8) (xs : List AV) (a : List UInt8) (r : AV), args = .pt 0 v 0 :: xs ∧ dom xs a r ∧
  hp = rws [(0, .box v 138 2 (bldC f 0 v 1 u l.length)), (1, rowB u l)] ∧ top = 2 ∧ l.length + a.length ≤ 100000000000 ∧
  ∀ u' nx', (u' = u ∨ nx ≤ u') → nx ≤ nx' → K r (rws [(0, .box v 138 2 (bldC true 0 v 1 u' (l ++ a).length)), (1, rowB u' (l ++ a))]) 2 nx'
theorem bld_go {dom : List AV → List UInt8 → AV → Prop} {xs : List AV} {a : List UInt8} {z : AV} {f : Bool} {p q v u n : Nat} {l : List UInt8} {hp : Nat → Row} {top nx : Nat} {K : AV → (Nat → Row) → Nat → Nat → Prop} (hd : dom xs a z) (hn : n = l.length) (hpq : p ≠ q)
    (hr : RowLe (hp p) (.box v 138 2 (bldC f p v q u n))) (hr2 : RowLe (hp q) (rowB u l)) (ht : p < top ∧ q < top) (hl : l.length + a.length ≤ 100000000000)
    (hK : ∀ u' nx', (u' = u ∨ nx ≤ u') → nx ≤ nx' → K z (updR (updR hp p (.box v 138 2 (bldC true p v q u' (l ++ a).length))) q (rowB u' (l ++ a))) top nx') :
    framed (sBld dom) (.pt p v 0 :: xs) hp top nx K := by
  subst hn
  have e1 : (hp p).ver = some v := hr.vers.symm
  have e2 : (hp q).ver = some u := hr2.vers.symm
  refine ⟨[p, q], .pt 0 v 0 :: xs, rws [(0, .box v 138 2 (bldC f 0 v 1 u l.length)), (1, rowB u l)], by simp [hpq], by simp; omega, .cons AVle.pt (All2.same xs), rows_2 (hr.trans (bld_le f p q 0 1 v u _)) hr2, fun i hi => rws_top (top := 2) (by simp) i (by simpa using hi), f, v, u, l, xs, a, z, rfl, hd, rfl, rfl, hl, fun u' nx' h1 h3 => ?_⟩
  refine ⟨_, _, AVle.refl _, fun i o ho => ?_, fun o ho => ?_, fun o ho w hv => ?_, hK u' nx' h1 h3⟩
  · match i with
    | 0 =>
      simp only [List.getElem?_cons_zero, Option.some.injEq] at ho
      subst ho
      rw [updR_ne _ _ hpq, updR_at]
      exact bld_le true 0 1 p q v u' _
    | 1 =>
      simp only [List.getElem?_cons_succ, List.getElem?_cons_zero, Option.some.injEq] at ho
      subst ho
      rw [updR_at]
      exact RowLe.refl _
    | i + 2 => simp at ho
  · simp only [List.mem_cons, List.not_mem_nil, or_false, not_or] at ho
    rw [updR_ne _ _ ho.2, updR_ne _ _ ho.1]
  · simp only [List.mem_cons, List.not_mem_nil, or_false] at ho
    rcases ho with rfl | rfl
    · rw [updR_ne _ _ hpq, updR_at] at hv
      have : some v = some w := hv
      obtain rfl := Option.some.inj this
      exact .inl e1
    · rw [updR_at] at hv
      have : some u' = some w := hv
      obtain rfl := Option.some.inj this
      rcases h1 with rfl | h1
      · exact .inl e2
      · exact .inr h1
end Go.Proofs.YthpjjjnbkfnghaaGreatDoor
set_option linter.unusedSimpArgs false
set_option linter.unusedVariables false
set_option maxRecDepth 100000
set_option maxHeartbeats 2000000
namespace Go.Proofs.YthpjjjnbkfnghaaGreatDoor
open Go
def bldG (f : Bool) (q v : Nat) (x : AV) : Nat → AV := fun j => if j = 0 then (if f = true then .pt q v 0 else .val (.pointer none)) else x
theorem bldG1 (f : Bool) (q v : Nat) (x : AV) : bldG f q v x 1 = x := rfl
def sCheckG : MSpec := fun args hp top nx K => ∃ (f : Bool) (q v : Nat) (x : AV), args = [.pt q v 0] ∧ hp q = .box v 138 2 (bldG f q v x) ∧ K (.val (.tuple #[])) (updR hp q (.box v 138 2 (bldG true q v x))) top nx
theorem okCheckG : MethOK Tryz.prog 147 sCheckG := by
  refine ⟨enters Tryz.func147 rfl (by decide), ?_⟩
  rintro args hp top nx K ⟨f, q, v, x, rfl, hrow, hK⟩ c η w vs hs hdead hargs
  cases hargs with
  | cons hx hr => cases hr with
    | nil =>
      obtain ⟨g, cap, hη, rfl⟩ := hx
      have hr := hs.rows q
      rw [hrow] at hr
      obtain ⟨b, cur, hb, hh, hsz, hc⟩ := hr _ _ hη
      obtain rfl : g = b := by simpa using hb
      obtain ⟨x0, hx0, ho0, hr0⟩ := hc 0 (by decide)
      have hblk : (hp q).blk η = some g := by rw [hrow]; simp [Row.blk, Row.ver, hη]
      have hcell : w.cell? ⟨g, 0, none⟩ = some x0 := by rw [cell_heap hh]; exact hx0
      cases f with
      | true =>
        have hr0 : ∃ g' cap', η v = some (some g', cap') ∧ x0 = .pointer (some ⟨g', 0, none⟩) := hr0
        obtain ⟨g', cap', h1, rfl⟩ := hr0
        rw [hη] at h1
        simp only [Option.some.injEq, Prod.mk.injEq] at h1
        obtain ⟨rfl, rfl⟩ := h1
        refine (check_used g w hcell).mono ?_
        rintro e w' ⟨rfl, rfl⟩
        have e : updR hp q (.box v 138 2 (bldG true q v x)) = hp := by
          rw [← hrow]
          funext p
          unfold updR
          split
          · rename_i h; rw [h]
          · rfl
        rw [e] at hK
        exact ⟨_, _, _, _, _, η, rfl, hK, hs, hdead, rfl⟩
      | false =>
        have hr0 : x0 = .pointer none := hr0
        subst hr0
        refine (check_fresh g w hcell (by simp [World.shape?, hh, hsz]) (by simp [World.frozen?, hh])).mono ?_
        rintro e w' ⟨rfl, rfl⟩
        have hf := fr_setCell w g 0 (.pointer (some ⟨g, 0, none⟩))
        have hO : ∀ k, k < w.heap.size → k = g → Lset c η hp k := fun k _ e => .inr ⟨q, by rw [e]; exact hblk⟩
        have hwr := hs.write (row := .box v 138 2 (bldG true q v x)) hblk (by rw [hrow]; rfl) hf (by
          intro g' cap' he
          rw [hη] at he
          simp only [Option.some.injEq, Prod.mk.injEq] at he
          obtain ⟨rfl, rfl⟩ := he
          refine ⟨g, cur.setIfInBounds 0 (.pointer (some ⟨g, 0, none⟩)), rfl, by simp [World.setCell, Array.getElem?_modify, hh], by simp [hsz], fun j hj => ?_⟩
          match j, hj with
          | 0, _ => exact ⟨_, by simp [hsz], rfl, g, cap, hη, rfl⟩
          | 1, _ =>
            obtain ⟨x1, hx1, ho1, hr1⟩ := hc 1 (by decide)
            exact ⟨x1, by rw [Array.getElem?_setIfInBounds_ne (by decide)]; exact hx1, ho1, Rep.keep hf hO (fun _ _ h => h) _ _ _ _ (Env.le_refl _) hr1⟩)
        refine ⟨_, _, _, _, _, η, rfl, hK, hwr.1, fun p hp' => ?_, rfl⟩
        by_cases e : p = q
        · subst e; rw [hdead p hp'] at hrow; cases hrow
        · rw [updR_ne _ _ e]; exact hdead p hp'
section
variable {P : Program} {st : AS} {K : AS → Prop} {o : Oper}
theorem appN_wp {t t' e : TypeId} {x y : Operand} {s : List UInt8} (ho : o.op = .call ⟨.builtin .append, ⟨[x, y]⟩, ⟨[t, t']⟩⟩) (hu : P.underlying t = some (.slice e)) (hu' : P.underlying t' = some .string)
    (hxe : st.ev x = .val (.slice none 0 0)) (hye : st.ev y = .st s) (h0 : s ≠ []) (hd : dstOK st.sz o.dst) (hok : appOK P e 1 s.length)
    (hK : K ⟨updO st.fr o.dst (.ow st.top st.nx s.length), updR st.hp st.top (.sl st.nx e 1 s.length (byteC s)), st.sz, st.top + 1, st.nx + 1, st.df⟩) : OpW P o st K := by
  intro c η a w next Q hsr hnext
  have hev : ∀ x, Rep w η (Lset c η st.hp) (st.ev x) (a.eval x) := rep_ev hsr.slots
  have hxv : a.eval x = .slice none 0 0 := by
    have hx := hev x
    rw [hxe] at hx
    exact hx
  have hyv : a.eval y = .string ⟨s.toArray⟩ := by
    have hy := hev y
    rw [hye] at hy
    exact hy
  have hnl := strCells_len s
  obtain ⟨hsz, hz0, hb0, hbytes, zl, hz, hzl⟩ := hok
  obtain ⟨i, zv, hi, hiz, hzc, his, hib⟩ := info_of hz
  have hisz : i.size = 1 := by rw [his, hsz]
  have hss : (⟨s.toArray⟩ : ByteArray).size = s.length := by simp [ByteArray.size]
  have hmb : s.length * 1 ≤ s.length * P.bytesOf e := Nat.mul_le_mul_left _ hb0
  have hmx : s.length ≤ maxLen := by simp only [maxLen]; omega
  have hpos : 0 < s.length := List.length_pos_iff.2 h0
  obtain ⟨cap', hrun, hge, hle⟩ : ∃ cap', (Builtin.append_ #[t, t'] o.type #[a.eval x, a.eval y]).run P w = .ok (.slice (some ⟨w.heap.size, 0, none⟩) s.length cap')
      (w.drew.alloc (.cells ((Lib.strCells ⟨s.toArray⟩).toArray ++ Builtin.zeroCells zv.cells (cap' - s.length)) e)) ∧ s.length ≤ cap' ∧ cap' ≤ maxLen := by
    refine ⟨grownCap w s.length 0 e, ?_, grownCap_ge _ _ _ _, grownCap_le_maxLen _ _ _ _ hmx⟩
    rw [hxv, hyv]
    have hr := run_append_nil_string (P := P) w t t' o.type e i zv hu hu' hi hiz ⟨s.toArray⟩ (by rw [hss]; omega) (by rw [hss]; omega) (by rw [hss, hib]; omega)
    have e1 : ((⟨s.toArray⟩ : ByteArray).data.map fun b => Value.int .u8 b.toNat) = (Lib.strCells ⟨s.toArray⟩).toArray := by
      apply Array.ext'
      simp [Lib.strCells]
    rw [hss] at hr
    rw [← e1]
    exact hr
  generalize hw' : w.drew.alloc (.cells ((Lib.strCells ⟨s.toArray⟩).toArray ++ Builtin.zeroCells zv.cells (cap' - s.length)) e) = w' at hrun
  obtain ⟨hs', hL⟩ := hsr.hs.declare (p := st.top) (row := .sl st.nx e 1 s.length (byteC s)) rfl
  have hs'' : HS c (updR st.hp st.top (.sl st.nx e 1 s.length (byteC s))) (st.nx + 1) η w.drew := hs'.world (Fr.refl _ _).drew
  have hrow : updR st.hp st.top (.sl st.nx e 1 s.length (byteC s)) st.top = .sl st.nx e 1 s.length (byteC s) := updR_at ..
  have hlay := hs''.lay (p := st.top) (ver := st.nx) (cap := cap') (by rw [hrow]; rfl) (hsr.hs.fresh _ (Nat.le_refl _)) hsr.hs.env.2.1 (.cells ((Lib.strCells ⟨s.toArray⟩).toArray ++ Builtin.zeroCells zv.cells (cap' - s.length)) e) (by
    rw [hrow]
    intro g cap he
    rw [layAt_at] at he
    simp only [Option.some.injEq, Prod.mk.injEq] at he
    obtain ⟨rfl, rfl⟩ := he
    refine ⟨_, heap_alloc_new w.drew _, ?_, hge, hle, fun i hi j hj => ?_⟩
    · simp only [Array.size_append, List.size_toArray, size_zeroCells, hzc, hzl, hnl]
      omega
    · obtain ⟨u, hu1, hu2, hu3⟩ := strCells_at (η := layAt η st.nx (some w.drew.heap.size, cap')) (L := Lset c (layAt η st.nx (some w.drew.heap.size, cap')) (updR st.hp st.top (.sl st.nx e 1 s.length (byteC s)))) s i hi j hj
      refine ⟨u, ?_, hu2, ?_⟩
      · rw [Array.getElem?_append_left (by simp only [List.size_toArray, hnl]; omega), List.getElem?_toArray]
        exact hu1
      · exact hu3)
  rw [hw'] at hlay
  have hexec : (execOp a.eval o).run P w = .ok (.value (.slice (some ⟨w.heap.size, 0, none⟩) s.length cap')) w' := by
    unfold execOp
    rw [ho]
    simp [resolve, invoke, builtin, hrun]
  unfold Oper.wp
  rw [hexec]
  have hrep : Rep w' (layAt η st.nx (some w.drew.heap.size, cap')) (Lset c (layAt η st.nx (some w.drew.heap.size, cap')) (updR st.hp st.top (.sl st.nx e 1 s.length (byteC s)))) (.ow st.top st.nx s.length) (.slice (some ⟨w.heap.size, 0, none⟩) s.length cap') :=
    ⟨some w.drew.heap.size, cap', layAt_at _ _ _, rfl, hge⟩
  refine hnext _ _ _ _ (hsr.put hd hlay.1 (fun p hp => ?_) (fun x u hx => hlay.2.rep (Rep.keep (Fr.refl (fun _ => False) w).drew (fun _ _ h => h.elim) (fun b _ hb => hL b hb) _ _ _ _ (Env.le_refl _) hx)) hrep) hK
  rw [updR_ne _ _ (by omega)]
  exact hsr.dead p (by omega)
theorem appN0_wp {t t' e : TypeId} {x y : Operand} (ho : o.op = .call ⟨.builtin .append, ⟨[x, y]⟩, ⟨[t, t']⟩⟩) (hu : P.underlying t = some (.slice e)) (hu' : P.underlying t' = some .string) {k : Nat} (hk : P.cellsOf e = k) (h0 : 0 < k)
    (hxe : st.ev x = .val (.slice none 0 0)) (hye : st.ev y = .st []) (hd : dstOK st.sz o.dst)
    (hK : K ⟨updO st.fr o.dst (.val (.slice none 0 0)), st.hp, st.sz, st.top, st.nx, st.df⟩) : OpW P o st K := by
  refine pure_wp hd (fun c η a w hsr => ?_) hK
  have hev : ∀ x, Rep w η (Lset c η st.hp) (st.ev x) (a.eval x) := rep_ev hsr.slots
  have hxv : a.eval x = .slice none 0 0 := by
    have hx := hev x
    rw [hxe] at hx
    exact hx
  have hyv : a.eval y = .string ⟨#[]⟩ := by
    have hy := hev y
    rw [hye] at hy
    exact hy
  refine ⟨.slice none 0 0, ?_, rfl⟩
  have hr := run_append_empty (P := P) (w := w) (ty := o.type) hu hu' hk h0 (a := none) (n := 0) (cap := 0) (Nat.le_refl _)
  unfold execOp
  rw [ho]
  simp [resolve, invoke, builtin, hxv, hyv, hr]
end
end Go.Proofs.YthpjjjnbkfnghaaGreatDoor
set_option linter.unusedSimpArgs false
set_option linter.unusedVariables false
set_option maxRecDepth 100000
set_option maxHeartbeats 2000000
namespace Go.Proofs.YthpjjjnbkfnghaaGreatDoor
open Go
attribute [local irreducible] AW AVle ASle RowLe
def bldX (f : Bool) (p v q u : Nat) (l : List UInt8) : Nat → AV := bldG f p v (if l = [] then .val (.slice none 0 0) else .ow q u l.length)
def rowX (u : Nat) (l : List UInt8) : Row := if l = [] then .dead else rowB u l
theorem bldX_nil (f : Bool) (p v q u : Nat) : bldX f p v q u [] = bldG f p v (.val (.slice none 0 0)) := rfl
theorem bldX_ne {f : Bool} {p v q u : Nat} {l : List UInt8} (h : ¬ l = []) : bldX f p v q u l = bldG f p v (.ow q u l.length) := by
  unfold bldX
  rw [if_neg h]
theorem rowX_nil (u : Nat) : rowX u [] = .dead := rfl
theorem rowX_ne {u : Nat} {l : List UInt8} (h : ¬ l = []) : rowX u l = rowB u l := if_neg h
theorem bldG_le {f : Bool} {p v p' : Nat} {x y : AV} (h : AVle x y) : RowLe (.box v 138 2 (bldG f p v x)) (.box v 138 2 (bldG f p' v y)) := RowLe.box fun j hj => by
  match j, hj with
  | 0, _ =>
    cases f with
    | true => exact AVle.pt
    | false => exact AVle.refl _
  | 1, _ => exact h
theorem bldX_le (f : Bool) (p q p' q' v u : Nat) (l : List UInt8) : RowLe (.box v 138 2 (bldX f p v q u l)) (.box v 138 2 (bldX f p' v q' u l)) := bldG_le (by
  split
  · exact AVle.refl _
  · exact AVle.ow)
theorem cellsAV_nil : cellsAV (.val (.slice none 0 0)) = some (1, fun _ => .val (.slice none 0 0)) := rfl
def sWriteX0 : MSpec := fun args hp top nx K => ∃ (f : Bool) (v u : Nat) (l s : List UInt8), args = [.pt 0 v 0, .st s] ∧ hp = rws [(0, .box v 138 2 (bldX f 0 v 1 u l)), (1, rowX u l)] ∧ top = 2 ∧ l.length + s.length ≤ 100000000000 ∧
  ∀ u' nx', ((l ≠ [] ∧ u' = u) ∨ nx ≤ u') → nx ≤ nx' → K (tu2 (.val (.int .i64 s.length)) (.val .nilIface)) (rws [(0, .box v 138 2 (bldX true 0 v 1 u' (l ++ s))), (1, rowX u' (l ++ s))]) 2 nx'
theorem okWriteX0 : MethOK Tryz.prog 88 sWriteX0 := by
  refine MethOK.mk Tryz.func88 rfl (by decide) Tryz.results88 Tryz.ntmps88 ?_
  rintro args hp top nx K ⟨f, v, u, l, s, rfl, rfl, rfl, hl, hK⟩
  have hΓ : GOK Tryz.prog (gam [(147, sCheckG)]) := (.cons okCheckG .nil)
  refine ⟨Nat.le_of_ble_eq_true rfl, AW.late ?_⟩
  refine AW.of hΓ mixed [1] _ _ _ rfl ?_
  simp only [go_sem, sCheckG]
  refine ⟨f, 0, v, _, rfl, rfl, ?_⟩
  by_cases hl0 : l = []
  · subst hl0
    refine AW.cut ⟨[(0, .pt 0 v 0), (1, .st s)], [(0, .box v 138 2 (bldG true 0 v (.val (.slice none 0 0))))], 19, 2, nx, []⟩ ?_ ?_
    · simp only [go_sem, sCheckG]
      exact RowLe.refl _
    refine AW.fork (AW.regionO hΓ [false, false, false, false, false, false, true] ?_)
    simp only [go_sem, sCheckG, bldG1]
    by_cases hs0 : s = []
    · subst hs0
      refine appN0_wp rfl Tryz.underlying102 Tryz.underlying9 cells5 (by decide) rfl rfl (Nat.lt_of_lt_of_le (by decide : 14 < 19) (Nat.le_refl _)) ?_
      simp only [go_sem, sCheckG, bldG1, cellsAV_nil]
      refine AW.of hΓ mixed [] _ _ _ rfl ?_
      simp only [go_sem, sCheckG]
      refine ⟨_, toFitsV (fun p => p) (l := [(4, .val (.int .i64 0)), (5, .val .nilIface)]) (r := [(0, .box v 138 2 (bldX true 0 v 1 nx [])), (1, rowX nx [])]) (sz := 19) (top := 2) (nx := nx + 1) (df := []) ?_, ?_⟩
      · simp only [go_sem, sCheckG]
        refine ⟨Nat.le_succ _, AVle.refl _, RowLe.box fun j hj => ?_, RowLe.refl _⟩
        match j, hj with
        | 0, _ => exact AVle.refl _
        | 1, _ => exact AVle.refl _
      · exact ⟨rfl, ⟨trivial, trivial⟩, hK nx (nx + 1) (.inr (Nat.le_refl _)) (by omega)⟩
    · refine appN_wp rfl Tryz.underlying102 Tryz.underlying9 rfl rfl hs0 (Nat.lt_of_lt_of_le (by decide : 14 < 19) (Nat.le_refl _)) ⟨cells5, by decide, by rw [bytes5]; decide, by rw [bytes5]; omega, _, zero5, rfl⟩ ?_
      simp only [go_sem, sCheckG, bldG1]
      refine AW.of hΓ mixed [] _ _ _ rfl ?_
      simp only [go_sem, sCheckG]
      refine ⟨_, toFitsV (fun p => if p = 1 then 2 else p) (l := [(4, .val (.int .i64 s.length)), (5, .val .nilIface)]) (r := [(0, .box v 138 2 (bldX true 0 v 1 nx s)), (1, rowX nx s)]) (sz := 19) (top := 2) (nx := nx + 1) (df := []) ?_, ?_⟩
      · rw [bldX_ne hs0, rowX_ne hs0]
        simp only [go_sem, sCheckG]
        refine ⟨AVle.refl _, RowLe.box fun j hj => ?_, RowLe.refl _⟩
        match j, hj with
        | 0, _ => exact AVle.refl _
        | 1, _ => exact AVle.ow
      · exact ⟨rfl, ⟨trivial, trivial⟩, hK nx (nx + 1) (.inr (Nat.le_refl _)) (by omega)⟩
  · have hls : ¬ l ++ s = [] := fun h => hl0 (List.append_eq_nil_iff.1 h).1
    refine AW.cut ⟨[(0, .pt 0 v 0), (1, .st s)], [(0, .box v 138 2 (bldG true 0 v (.ow 1 u l.length))), (1, rowB u l)], 19, 2, nx, []⟩ ?_ ?_
    · rw [rowX_ne hl0]
      simp only [go_sem, sCheckG, hl0]
      exact ⟨RowLe.refl _, RowLe.refl _⟩
    refine AW.fork (AW.regionO hΓ [false, false, false, false, false, false, true] ?_)
    simp only [go_sem, sCheckG, bldG1]
    refine appS_wp rfl Tryz.underlying102 Tryz.underlying9 rfl rfl rfl (Nat.lt_of_lt_of_le (by decide : 14 < 19) (Nat.le_refl _)) ⟨cells5, by decide, by rw [bytes5]; decide, by rw [bytes5]; omega, _, zero5, rfl⟩ ?_
    simp only [go_sem, sCheckG, bldG1]
    refine AW.of hΓ mixed [] _ _ _ rfl ?_
    simp only [go_sem, sCheckG]
    refine ⟨_, toFitsV (fun p => p) (l := [(4, .val (.int .i64 s.length)), (5, .val .nilIface)]) (r := [(0, .box v 138 2 (bldX true 0 v 1 nx (l ++ s))), (1, rowX nx (l ++ s))]) (sz := 19) (top := 2) (nx := nx + 1) (df := []) ?_, ?_⟩
    · rw [bldX_ne hls, rowX_ne hls]
      simp only [go_sem, sCheckG]
      refine ⟨AVle.refl _, RowLe.box fun j hj => ?_, rowB_app rfl rfl⟩
      match j, hj with
      | 0, _ => exact AVle.refl _
      | 1, _ => exact AVle.refl _
    · exact ⟨rfl, ⟨trivial, trivial⟩, hK nx (nx + 1) (.inr (Nat.le_refl _)) (by omega)⟩
def sWriteX : MSpec := framed sWriteX0
theorem okWriteX : MethOK Tryz.prog 88 sWriteX := okWriteX0.frame
theorem writeX_go {f : Bool} {p q v u : Nat} {l s : List UInt8} {hp : Nat → Row} {top nx : Nat} {K : AV → (Nat → Row) → Nat → Nat → Prop} (hpq : p ≠ q)
    (hr : RowLe (hp p) (.box v 138 2 (bldX f p v q u l))) (hr2 : RowLe (hp q) (rowX u l)) (ht : p < top ∧ q < top) (hl : l.length + s.length ≤ 100000000000)
    (hK : ∀ u' nx', ((l ≠ [] ∧ u' = u) ∨ nx ≤ u') → nx ≤ nx' → K (tu2 (.val (.int .i64 s.length)) (.val .nilIface)) (updR (updR hp p (.box v 138 2 (bldX true p v q u' (l ++ s)))) q (rowX u' (l ++ s))) top nx') :
    sWriteX [.pt p v 0, .st s] hp top nx K := by
  have e1 : (hp p).ver = some v := hr.vers.symm
  have e2 : (hp q).ver = (rowX u l).ver := hr2.vers.symm
  refine ⟨[p, q], [.pt 0 v 0, .st s], rws [(0, .box v 138 2 (bldX f 0 v 1 u l)), (1, rowX u l)], by simp [hpq], by simp; omega, .cons AVle.pt (.cons (AVle.refl _) .nil), rows_2 (hr.trans (bldX_le f p q 0 1 v u l)) hr2, fun i hi => rws_top (top := 2) (by simp) i (by simpa using hi), f, v, u, l, s, rfl, rfl, rfl, hl, fun u' nx' h1 h3 => ?_⟩
  refine ⟨_, _, AVle.refl _, fun i o ho => ?_, fun o ho => ?_, fun o ho w hv => ?_, hK u' nx' h1 h3⟩
  · match i with
    | 0 =>
      simp only [List.getElem?_cons_zero, Option.some.injEq] at ho
      subst ho
      rw [updR_ne _ _ hpq, updR_at]
      exact bldX_le true 0 1 p q v u' _
    | 1 =>
      simp only [List.getElem?_cons_succ, List.getElem?_cons_zero, Option.some.injEq] at ho
      subst ho
      rw [updR_at]
      exact RowLe.refl _
    | i + 2 => simp at ho
  · simp only [List.mem_cons, List.not_mem_nil, or_false, not_or] at ho
    rw [updR_ne _ _ ho.2, updR_ne _ _ ho.1]
  · simp only [List.mem_cons, List.not_mem_nil, or_false] at ho
    rcases ho with rfl | rfl
    · rw [updR_ne _ _ hpq, updR_at] at hv
      have : some v = some w := hv
      obtain rfl := Option.some.inj this
      exact .inl e1
    · rw [updR_at] at hv
      by_cases h0 : l ++ s = []
      · rw [h0, rowX_nil] at hv
        cases hv
      · rw [rowX_ne h0] at hv
        have : some u' = some w := hv
        obtain rfl := Option.some.inj this
        rcases h1 with ⟨h1, rfl⟩ | h1
        · rw [e2, rowX_ne h1]
          exact .inl rfl
        · exact .inr h1
def sStrX : MSpec := fun args hp top nx K => ∃ (f : Bool) (p v q u : Nat) (l : List UInt8), args = [.pt p v 0] ∧ hp p = .box v 138 2 (bldX f p v q u l) ∧ hp q = rowX u l ∧ l.length ≤ 100000000000 ∧ K (.st l) (updR hp q .dead) top nx
theorem okStrX : MethOK Tryz.prog 92 sStrX := by
  refine ⟨enters Tryz.func92 rfl (by decide), ?_⟩
  rintro args hp top nx K ⟨f, p, v, q, u, l, rfl, hrow, hrow2, hlen, hK⟩ c η w vs hs hdead hargs
  by_cases h0 : l = []
  · subst h0
    rw [bldX_nil] at hrow
    rw [rowX_nil] at hrow2
    have e : updR hp q .dead = hp := by
      funext k
      unfold updR
      split
      · rename_i h; rw [h, hrow2]
      · rfl
    rw [e] at hK
    cases hargs with
    | cons hx hr => cases hr with
      | nil =>
        obtain ⟨b, cap, hη, rfl⟩ := hx
        have hr := hs.rows p
        rw [hrow] at hr
        obtain ⟨b', cur, hb, hh, hsz, hc⟩ := hr _ _ hη
        obtain rfl : b = b' := by simpa using hb
        obtain ⟨x0, hx0, _, _⟩ := hc 0 (by decide)
        obtain ⟨x1, hx1, _, hr1⟩ := hc 1 (by decide)
        have hr1 : x1 = .slice none 0 0 := hr1
        subst hr1
        have hcur : cur = #[x0, .slice none 0 0] := by
          apply Array.ext
          · simp [hsz]
          · intro i h1 h2
            match i, h2 with
            | 0, _ => rw [Array.getElem?_eq_getElem h1] at hx0; exact Option.some.inj hx0
            | 1, _ => rw [Array.getElem?_eq_getElem h1] at hx1; exact Option.some.inj hx1
        refine (str_none b x0 w (by rw [hh, hcur])).mono ?_
        rintro e w' ⟨rfl, hf⟩
        exact ⟨_, _, _, _, _, η, rfl, hK, hs.world hf, hdead, rfl⟩
  · rw [bldX_ne h0] at hrow
    rw [rowX_ne h0] at hrow2
    exact (okStr.2 [.pt p v 0] hp top nx K (.inl ⟨f, p, v, q, u, l, rfl, hrow, hrow2, h0, hlen, hK⟩) c η w vs hs hdead hargs)
end Go.Proofs.YthpjjjnbkfnghaaGreatDoor
set_option linter.unusedSimpArgs false
set_option linter.unusedVariables false
set_option maxRecDepth 100000
set_option maxHeartbeats 8000000
namespace Go.Proofs.YthpjjjnbkfnghaaGreatDoor
open Go
theorem Fr.grown (w : World) (k : Nat) (os : Array Obj) : Fr (fun _ => False) w (Go.Sort.grow (w.drewN k) os) := by
  refine ⟨rfl, rfl, rfl, ?_, fun b hb _ => ?_⟩
  · show w.heap.size ≤ (w.heap ++ os).size
    rw [Array.size_append]
    omega
  · show (w.heap ++ os)[b]? = w.heap[b]?
    rw [Array.getElem?_append_left hb]
theorem tab_pow {w : World} (hT : Tz w) : Lib.TabIs Tryz.prog w "internal/strconv.uint64pow10" .u64 Lib.pow10Tab := by
  obtain ⟨o, ho, t, f, rfl⟩ := hT 5 powZ rfl
  have hg : Tryz.prog.globalNamed "internal/strconv.uint64pow10" = some 5 := by decide +kernel
  unfold Lib.TabIs World.var?
  rw [hg]
  simp only [Option.bind_some, ho]
def sItoa : Spec := Spec.f1 kI (fun n => 0 ≤ n ∧ n ≤ 1000000000000) (fun n => kS.enc (Lib.itoa n))
theorem okItoa : SpecOK Tryz.prog 117 sItoa := by
  refine SpecOK.rawT Tryz.func117 rfl (by decide) fun args hp w L vs hT hL ha => ?_
  match args, hp with
  | [x], hp =>
    obtain ⟨h1, h2⟩ := hp
    cases ha with
    | cons hx hr => cases hr with
      | nil =>
        have ex := h1 _ _ _ _ hx
        simp only [kI, Rep] at ex
        subst ex
        refine (Tryz.strconv_Itoa (kI.dec x) (by omega) (by omega) w (tab_pow hT)).mono ?_
        rintro e w' ⟨rfl, k, os, rfl⟩
        exact ⟨_, rfl, Fr.grown w k os, rfl⟩
attribute [local irreducible] AW AVle ASle RowLe
theorem itoa_len2 {n : Int} (h : 0 ≤ n) (h2 : n < 1000000000000) : (Lib.itoa n).length ≤ 12 := by
  obtain ⟨k, rfl⟩ := Int.eq_ofNat_of_zero_le h
  unfold Lib.itoa
  rw [if_neg (by omega)]
  exact dec_len 12 _ (by omega) (by rw [Int.toNat_natCast]; have : (10 : Nat) ^ 12 = 1000000000000 := by decide
                                    omega)
theorem place_len {a n : Int} (h1 : 0 ≤ a) (h2 : a ≤ 1000000000) (h3 : 0 ≤ n) (h4 : n ≤ 1000000000) : (placeP a n).length ≤ 30 := by
  have := itoa_len2 (n := a + 1) (by omega) (by omega)
  have := itoa_len2 (n := n) (by omega) (by omega)
  unfold placeP
  simp only [List.length_append, List.length_cons, List.length_nil]
  omega
def sPlaceP : Spec := Spec.f2 kI kI (fun a n => (0 ≤ a ∧ a ≤ 1000000000) ∧ 0 ≤ n ∧ n ≤ 1000000000) (fun a n => kS.enc (placeP a n))
theorem okPlaceP : SpecOK Tryz.prog 148 sPlaceP := by
  refine SpecOK.f2 Tryz.func148 rfl (by decide) Tryz.results148 Tryz.ntmps148 (by decide) fun a n ⟨⟨h1, h2⟩, h3, h4⟩ => ?_
  have hΓ : GOK Tryz.prog (gam [(117, sItoa)]) := (.cons okItoa .nil)
  refine AW.of hΓ mixed [99999] _ _ _ rfl ?_
  simp only [go_sem, sItoa]
  have l1 := itoa_len2 (n := a + 1) (by omega) (by omega)
  have l2 := itoa_len2 (n := n) (by omega) (by omega)
  exact ⟨by omega, by omega, by omega, by omega, by omega, rfl⟩
def sHeadP : Spec := Spec.f1 (kA (eP eI (eP eI (eL (eP eI (eL eS)))))) (fun h => (0 ≤ h.1 ∧ h.1 ≤ 1000000) ∧ (0 ≤ h.2.1 ∧ h.2.1 ≤ 100000000) ∧ h.2.2.length < 10000 ∧ ∀ s ∈ h.2.2, s.2.length ≤ 10000) (fun h => kS.enc (headP h))
theorem okHeadP : SpecOK Tryz.prog 89 sHeadP := by
  refine SpecOK.f1 Tryz.func89 rfl (by decide) Tryz.results89 Tryz.ntmps89 (by decide) fun h ⟨⟨h1, h2⟩, ⟨h3, h4⟩, h5, h6⟩ => ?_
  have hΓ : GOK Tryz.prog (gam [(108, sCountsE), (148, sPlaceP)]) := (.cons okCountsE (.cons okPlaceP .nil))
  obtain ⟨A, B, st⟩ := h
  dsimp only at h1 h2 h3 h4 h5 h6
  have c0 := Nat.le_trans (countL_le h6 0) (Nat.mul_le_mul_right _ (show st.length ≤ 10000 by omega))
  have c1 := Nat.le_trans (countL_le h6 1) (Nat.mul_le_mul_right _ (show st.length ≤ 10000 by omega))
  have c2 := Nat.le_trans (countL_le h6 2) (Nat.mul_le_mul_right _ (show st.length ≤ 10000 by omega))
  refine AW.of hΓ mixed [99999] _ _ _ rfl ?_
  simp only [go_sem, sCountsE, sPlaceP, hk_sz, hk_d, stC30, stC31, stC32, hk0, hk1, hk2]
  have l1 := place_len (a := A) (n := (countL 0 st : Int) + countL 1 st) h1 (by omega) (by omega) (by omega)
  have l2 := place_len (a := B) (n := (countL 0 st : Int) + countL 2 st) h3 (by omega) (by omega) (by omega)
  exact ⟨⟨h5, h6⟩, by omega, ⟨by omega, by omega, by omega⟩, by omega, by omega, by omega, ⟨by omega, by omega, by omega⟩, by omega, by omega, rfl⟩
theorem rowB_app1 {nx n m : Nat} {l : List UInt8} {b : UInt8} {dd : Nat → Nat → AV} (hn : n = l.length) (hm : m = n + 1) (hd : dd 0 0 = .val (.int .u8 b.toNat)) : RowLe (.sl nx 5 1 m (apC n (byteC l) dd)) (rowB nx (l ++ [b])) := by
  refine RowLe.trans (RowLe.sl rfl (d := apC n (byteC l) (byteC [b])) fun i hi j hj => ?_) (rowB_app hn (by simpa using hm))
  simp only [apC]
  split
  · exact AVle.refl _
  · rw [show i - n = 0 by omega, show j = 0 by omega, hd]
    exact AVle.refl _
def sWriteB0 : MSpec := fun args hp top nx K => ∃ (v u : Nat) (l : List UInt8) (b : UInt8), args = [.pt 0 v 0, .val (.int .u8 b.toNat)] ∧ hp = rws [(0, .box v 138 2 (bldX true 0 v 1 u l)), (1, rowX u l)] ∧ top = 2 ∧ l ≠ [] ∧ l.length ≤ 100000000000 ∧
  ∀ u' nx', nx ≤ u' → nx ≤ nx' → K (.val .nilIface) (rws [(0, .box v 138 2 (bldX true 0 v 1 u' (l ++ [b]))), (1, rowX u' (l ++ [b]))]) 2 nx'
theorem okWriteB0 : MethOK Tryz.prog 90 sWriteB0 := by
  refine MethOK.mk Tryz.func90 rfl (by decide) Tryz.results90 Tryz.ntmps90 ?_
  rintro args hp top nx K ⟨v, u, l, b, rfl, rfl, rfl, hl0, hl, hK⟩
  have hΓ : GOK Tryz.prog (gam [(147, sCheckG)]) := (.cons okCheckG .nil)
  refine ⟨Nat.le_of_ble_eq_true rfl, AW.late ?_⟩
  refine AW.of hΓ mixed [1] _ _ _ rfl ?_
  simp only [go_sem, sCheckG]
  refine ⟨true, 0, v, _, rfl, rfl, ?_⟩
  have hls : ¬ l ++ [b] = [] := fun h => hl0 (List.append_eq_nil_iff.1 h).1
  refine AW.cut ⟨[(0, .pt 0 v 0), (1, .val (.int .u8 b.toNat))], [(0, .box v 138 2 (bldG true 0 v (.ow 1 u l.length))), (1, rowB u l)], 17, 2, nx, []⟩ ?_ ?_
  · rw [rowX_ne hl0]
    simp only [go_sem, sCheckG, hl0]
    exact ⟨RowLe.refl _, RowLe.refl _⟩
  refine AW.of hΓ mixed [99999] _ _ _ rfl ?_
  simp only [go_sem, sCheckG, bldG1, rowB]
  refine ⟨by omega, _, toFitsV (fun p => p) (l := [(4, .val .nilIface)]) (r := [(0, .box v 138 2 (bldX true 0 v 1 nx (l ++ [b]))), (1, rowX nx (l ++ [b]))]) (sz := 17) (top := 2) (nx := nx + 1) (df := []) ?_, ?_⟩
  · rw [bldX_ne hls, rowX_ne hls]
    simp only [go_sem, sCheckG]
    refine ⟨AVle.refl _, RowLe.box fun j hj => ?_, rowB_app1 rfl rfl rfl⟩
    match j, hj with
    | 0, _ => exact AVle.refl _
    | 1, _ => exact AVle.refl _
  · exact ⟨rfl, trivial, hK nx (nx + 1) (Nat.le_refl _) (by omega)⟩
def sWriteB : MSpec := framed sWriteB0
theorem okWriteB : MethOK Tryz.prog 90 sWriteB := okWriteB0.frame
theorem writeB_go {p q v u : Nat} {l : List UInt8} {b : UInt8} {hp : Nat → Row} {top nx : Nat} {K : AV → (Nat → Row) → Nat → Nat → Prop} (hpq : p ≠ q)
    (hr : RowLe (hp p) (.box v 138 2 (bldX true p v q u l))) (hr2 : RowLe (hp q) (rowX u l)) (ht : p < top ∧ q < top) (hl0 : l ≠ []) (hl : l.length ≤ 100000000000)
    (hK : ∀ u' nx', nx ≤ u' → nx ≤ nx' → K (.val .nilIface) (updR (updR hp p (.box v 138 2 (bldX true p v q u' (l ++ [b])))) q (rowX u' (l ++ [b]))) top nx') :
    sWriteB [.pt p v 0, .val (.int .u8 b.toNat)] hp top nx K := by
  have e1 : (hp p).ver = some v := hr.vers.symm
  refine ⟨[p, q], [.pt 0 v 0, .val (.int .u8 b.toNat)], rws [(0, .box v 138 2 (bldX true 0 v 1 u l)), (1, rowX u l)], by simp [hpq], by simp; omega, .cons AVle.pt (.cons (AVle.refl _) .nil), rows_2 (hr.trans (bldX_le true p q 0 1 v u l)) hr2, fun i hi => rws_top (top := 2) (by simp) i (by simpa using hi), v, u, l, b, rfl, rfl, rfl, hl0, hl, fun u' nx' h1 h3 => ?_⟩
  refine ⟨_, _, AVle.refl _, fun i o ho => ?_, fun o ho => ?_, fun o ho w hv => ?_, hK u' nx' h1 h3⟩
  · match i with
    | 0 =>
      simp only [List.getElem?_cons_zero, Option.some.injEq] at ho
      subst ho
      rw [updR_ne _ _ hpq, updR_at]
      exact bldX_le true 0 1 p q v u' _
    | 1 =>
      simp only [List.getElem?_cons_succ, List.getElem?_cons_zero, Option.some.injEq] at ho
      subst ho
      rw [updR_at]
      exact RowLe.refl _
    | i + 2 => simp at ho
  · simp only [List.mem_cons, List.not_mem_nil, or_false, not_or] at ho
    rw [updR_ne _ _ ho.2, updR_ne _ _ ho.1]
  · simp only [List.mem_cons, List.not_mem_nil, or_false] at ho
    rcases ho with rfl | rfl
    · rw [updR_ne _ _ hpq, updR_at] at hv
      have : some v = some w := hv
      obtain rfl := Option.some.inj this
      exact .inl e1
    · rw [updR_at, rowX_ne (by simp)] at hv
      have : some u' = some w := hv
      obtain rfl := Option.some.inj this
      exact .inr h1
end Go.Proofs.YthpjjjnbkfnghaaGreatDoor
set_option linter.unusedSimpArgs false
set_option linter.unusedVariables false
set_option maxRecDepth 100000
set_option maxHeartbeats 8000000
namespace Go.Proofs.YthpjjjnbkfnghaaGreatDoor
open Go
theorem SpecOK.ssT {P : Program} {f : FuncId} {fn : Func} {code : Code} {dom : List UInt8 → List UInt8 → Prop} {out : List UInt8 → List UInt8 → AV} (hf : P.funcs[f]? = some fn) (hb : fn.body = some code) (hn : (fn.name == "runtime.NumGoroutine") = false)
    (h : ∀ a b, dom a b → ∀ w, Tz w → Calls P f #[.string ⟨a.toArray⟩, .string ⟨b.toArray⟩] w fun e w' => ∃ v, e = .returned v ∧ Fr (fun _ => False) w w' ∧ ∀ L, Rep w' noEnv L (out a b) v) : SpecOK P f (Spec.f2 kS kS dom out) := by
  refine SpecOK.rawT hf hb hn fun args hp w L vs hT hL ha => ?_
  match args, hp with
  | [x, y], hp =>
    obtain ⟨h1, h2, h3⟩ := hp
    cases ha with
    | cons hx hr => cases hr with
      | cons hy hr => cases hr with
        | nil =>
          have ex := h1 _ _ _ _ hx
          have ey := h2 _ _ _ _ hy
          simp only [kS, Rep] at ex ey
          subst ex ey
          exact (h _ _ h3 w hT).mono fun e w' ⟨v, he, hf, hr⟩ => ⟨v, he, hf, hr L⟩
def sHasPre : Spec := Spec.f2 kS kS (fun _ _ => True) (fun a b => kB.enc (Lib.hasPrefix a b))
theorem okHasPre : SpecOK Tryz.prog 85 sHasPre := by
  refine SpecOK.ss Tryz.func85 rfl (by decide) fun a b hd w => ?_
  refine (Tryz.strings_HasPrefix ⟨a.toArray⟩ ⟨b.toArray⟩ w).mono ?_
  rintro e w' ⟨rfl, rfl⟩
  exact ⟨_, rfl, Fr.refl _ _, fun L => rfl⟩
def sTrimPre : Spec := Spec.f2 kS kS (fun _ _ => True) (fun a b => kS.enc (Lib.trimPrefix a b))
theorem okTrimPre : SpecOK Tryz.prog 142 sTrimPre := by
  refine SpecOK.ss Tryz.func142 rfl (by decide) fun a b hd w => ?_
  refine (Tryz.strings_TrimPrefix ⟨a.toArray⟩ ⟨b.toArray⟩ w).mono ?_
  rintro e w' ⟨rfl, rfl⟩
  exact ⟨_, rfl, Fr.refl _ _, fun L => rfl⟩
def sTrimSuf : Spec := Spec.f2 kS kS (fun a _ => a.length ≤ 100000000000) (fun a b => kS.enc (Lib.trimSuffix a b))
theorem okTrimSuf : SpecOK Tryz.prog 141 sTrimSuf := by
  refine SpecOK.ss Tryz.func141 rfl (by decide) fun a b hd w => ?_
  refine (Tryz.strings_TrimSuffix ⟨a.toArray⟩ ⟨b.toArray⟩ w (by rw [Lib.size_eq]; simp only [List.toList_toArray]; omega)).mono ?_
  rintro e w' ⟨rfl, rfl⟩
  exact ⟨_, rfl, Fr.refl _ _, fun L => rfl⟩
theorem Fr.drewN (w : World) (k : Nat) : Fr (fun _ => False) w (w.drewN k) := ⟨rfl, rfl, rfl, Nat.le_refl _, fun _ _ _ => rfl⟩
theorem tab_len {w : World} (hT : Tz w) : ∃ m, w.cell? ⟨0, 0, none⟩ = some (.int .i64 m) := by
  obtain ⟨o, ho, m, t, f, rfl⟩ := hT 0 lenZ rfl
  refine ⟨m, ?_⟩
  unfold World.cell?
  rw [show (⟨0, 0, none⟩ : Addr).block = 0 from rfl, ho]
  rfl
def sCutAt : Spec := Spec.f2 kS kS (fun a _ => a.length ≤ 4000000000) (fun a b => tu3 (kS.enc (Lib.cut a b).1) (kS.enc (Lib.cut a b).2.1) (kB.enc (Lib.cut a b).2.2))
theorem okCutAt : SpecOK Tryz.prog 143 sCutAt := by
  refine SpecOK.ssT Tryz.func143 rfl (by decide) fun a b hd w hT => ?_
  obtain ⟨m, hm⟩ := tab_len hT
  refine (Tryz.strings_Cut ⟨a.toArray⟩ ⟨b.toArray⟩ m w (by rw [Lib.size_eq]; simp only [List.toList_toArray]; omega) hm).mono ?_
  rintro e w' ⟨rfl, n, rfl⟩
  refine ⟨_, rfl, Fr.drewN w n, fun L => ?_⟩
  refine ⟨_, rfl, rfl, fun j hj => ?_⟩
  match j, hj with
  | 0, _ => exact ⟨_, rfl, rfl⟩
  | 1, _ => exact ⟨_, rfl, rfl⟩
  | 2, _ => exact ⟨_, rfl, rfl⟩
end Go.Proofs.YthpjjjnbkfnghaaGreatDoor
set_option linter.unusedSimpArgs false
set_option linter.unusedVariables false
set_option maxRecDepth 100000
set_option maxHeartbeats 8000000
namespace Go.Proofs.YthpjjjnbkfnghaaGreatDoor
open Go
def sAtoi : Spec := Spec.f1 kS (fun s => s.length ≤ 18 ∧ (Lib.atoi s).isSome = true) (fun s => tu2 (kI.enc ((Lib.atoi s).getD 0)) (.val .nilIface))
theorem Fr.bytes (w : World) (e : TypeId) (t : ByteArray) : Fr (fun _ => False) w (Lib.bytesWorld w e t) := by
  refine ⟨?_, ?_, ?_, by rw [Lib.bytesWorld_size]; omega, fun b hb _ => Lib.bytesWorld_at_old w e t b hb⟩
  all_goals (unfold Lib.bytesWorld World.freeze; split <;> rfl)
theorem atoi_calls {s : List UInt8} (h2 : s.length ≤ 18) (h3 : (Lib.atoi s).isSome = true) (w : World) (L : Nat → Prop) :
    Calls Tryz.prog 144 #[.string ⟨s.toArray⟩] w fun e w' => ∃ v, e = .returned v ∧ Fr (fun _ => False) w w' ∧ Rep w' noEnv L (tu2 (kI.enc ((Lib.atoi s).getD 0)) (.val .nilIface)) v := by
  obtain ⟨n, hn⟩ := Option.isSome_iff_exists.1 h3
  rw [hn]
  have hn' : Lib.atoi (⟨s.toArray⟩ : ByteArray).data.toList = some n := by
    rw [show (⟨s.toArray⟩ : ByteArray).data.toList = s from List.toList_toArray]; exact hn
  refine (Tryz.strconv_Atoi ⟨s.toArray⟩ n (by rw [Lib.size_eq]; simp only [List.toList_toArray]; exact h2) hn' w).mono ?_
  rintro e w' ⟨rfl, t, rfl⟩
  refine ⟨_, rfl, Fr.bytes w _ t, ?_⟩
  refine ⟨_, rfl, rfl, fun j hj => ?_⟩
  match j, hj with
  | 0, _ => exact ⟨_, rfl, rfl⟩
  | 1, _ => exact ⟨_, rfl, rfl⟩
theorem okAtoi : SpecOK Tryz.prog 144 sAtoi := by
  refine SpecOK.raw Tryz.func144 rfl (by decide) fun args hp w L vs hL ha => ?_
  match args, hp with
  | [x], hp =>
    obtain ⟨h1, h2, h3⟩ := hp
    cases ha with
    | cons hx hr => cases hr with
      | nil =>
        have ex := h1 _ _ _ _ hx
        simp only [kS, Rep] at ex
        subst ex
        exact atoi_calls h2 h3 w L
end Go.Proofs.YthpjjjnbkfnghaaGreatDoor
set_option linter.unusedSimpArgs false
set_option linter.unusedVariables false
set_option maxRecDepth 100000
set_option maxHeartbeats 4000000
namespace Go.Proofs.YthpjjjnbkfnghaaGreatDoor
open Go
attribute [local irreducible] AW AVle ASle RowLe
abbrev rSt (v : Nat) (l : List StE) : Row := rowL v 86 (eP eI (eL eS)) l
theorem put_cells {l : List StE} {k : Int} {ts : List (List UInt8)} {q v : Nat} {d : Nat → Nat → AV} (h0 : d 0 0 = .val (.int .i64 k)) (h1 : d 0 1 = .ow q v ts.length) :
    ∀ i, i < l.length + 1 → ∀ j, j < 2 → AVle (fz q v ts.length 1 (fun i => eS.enc (ts.getD i [])) (apC l.length (fun i => (eP eI (eL eS)).enc (l.getD i (0, []))) d i j)) ((eP eI (eL eS)).enc ((l ++ [(k, ts)]).getD i (0, [])) j) := fun i hi j hj => by
  unfold apC
  by_cases h : i < l.length
  · rw [if_pos h]
    rw [show (l ++ [(k, ts)]).getD i (0, []) = l.getD i (0, []) by simp [List.getD, List.getElem?_append_left h]]
    match j, hj with
    | 0, _ => exact AVle.refl _
    | 1, _ => exact AVle.refl _
  · obtain rfl : i = l.length := by omega
    rw [if_neg h, Nat.sub_self]
    rw [show (l ++ [(k, ts)]).getD l.length (0, []) = (k, ts) by simp [List.getD]]
    match j, hj with
    | 0, _ => rw [h0]; exact AVle.refl _
    | 1, _ =>
      rw [h1]
      simp only [fz, and_self, if_true, Nat.le_refl]
      exact AVle.refl _
def sPutA0 : MSpec := fun args hp top nx K => ∃ l v k y ts, AVle y (sL eS ts) ∧ args = [.ow 0 v l.length, kI.enc k, y] ∧ hp = rws [(0, rSt v l)] ∧ top = 1 ∧ l.length < 10000000 ∧ ts.length < 1000000000 ∧
  ∀ v' nx', (v' = v ∨ nx ≤ v') → nx ≤ nx' → K (.ow 0 v' (appP l k ts).length) (rws [(0, rSt v' (appP l k ts))]) 1 nx'
theorem okPutA0 : MethOK Tryz.prog 43 sPutA0 := by
  refine MethOK.mk Tryz.func43 rfl (by decide) Tryz.results43 Tryz.ntmps43 ?_
  rintro args hp top nx K ⟨l, v, k, y, ts, hy, rfl, rfl, rfl, hl, ht, hK⟩
  have hΓ : GOK Tryz.prog (gam [(103, sCloneS)]) := (.cons okCloneS .nil)
  refine ⟨Nat.le_of_ble_eq_true rfl, AW.late ?_⟩
  refine AW.le (stM_le (.cons (AVle.refl _) (.cons (AVle.refl _) (.cons hy .nil)))) ?_
  by_cases h0 : ts.length = 0
  · obtain rfl := List.length_eq_zero_iff.1 h0
    refine AW.of hΓ mixed [99999] _ _ _ rfl ?_
    simp only [go_sem, sCloneS, st_sz]
    refine ⟨_, ASle.refl _, ?_⟩
    simp only [go_sem, sCloneS]
    exact hK v nx (.inl rfl) (Nat.le_refl _)
  · have hts : ((ts.length : Int) = 0) = False := eq_false (by omega)
    refine AW.of hΓ mixed [99999] _ _ _ rfl ?_
    simp only [go_sem, sCloneS, st_sz, hts]
    refine ⟨sL eS ts, ts, rfl, AVle.refl _, ht, fun ver nx' h1 h2 => ⟨by omega, _, (ASle.freeze 1 ver 9 1 ts.length (fun i => eS.enc (ts.getD i [])) rfl fun i _ j _ => rfl).trans (toFitsV (fun p => p) (l := [(6, .ow 0 (nx' + 1) (l.length + 1))]) (r := [(0, rSt (nx' + 1) (appP l k ts))]) (sz := 18) (top := 1) (nx := nx' + 1 + 1) (df := []) ?_), ?_⟩⟩
    · rw [appP_ne h0]
      simp only [go_sem, sCloneS, st_sz]
      exact RowLe.sl (by simp) (put_cells rfl rfl)
    · simp only [go_sem, sCloneS]
      have := hK (nx' + 1) (nx' + 1 + 1) (.inr (by omega)) (by omega)
      rwa [show (appP l k ts).length = l.length + 1 by rw [appP_ne h0]; simp] at this
def sPutB0 : MSpec := fun args hp top nx K => ∃ k y ts, AVle y (sL eS ts) ∧ args = [.em, kI.enc k, y] ∧ hp = (fun _ => .dead) ∧ top = 0 ∧ ts.length < 1000000000 ∧ ∀ v' nx', nx ≤ v' → v' < nx' → K (.ow 0 v' (appP [] k ts).length) (rws [(0, rSt v' (appP [] k ts))]) 1 nx'
theorem okPutB0 : MethOK Tryz.prog 43 sPutB0 := by
  refine MethOK.mk Tryz.func43 rfl (by decide) Tryz.results43 Tryz.ntmps43 ?_
  rintro args hp top nx K ⟨k, y, ts, hy, rfl, rfl, rfl, ht, hK⟩
  have hΓ : GOK Tryz.prog (gam [(103, sCloneS)]) := (.cons okCloneS .nil)
  refine ⟨Nat.le_of_ble_eq_true rfl, AW.late ?_⟩
  refine AW.le (stM_le (.cons (AVle.refl _) (.cons (AVle.refl _) (.cons hy .nil)))) ?_
  refine AW.adopt 0 86 2 (fun i => (eP eI (eL eS)).enc (([] : List StE).getD i (0, []))) rfl ?_
  by_cases h0 : ts.length = 0
  · obtain rfl := List.length_eq_zero_iff.1 h0
    refine AW.of hΓ mixed [99999] _ _ _ rfl ?_
    simp only [go_sem, sCloneS, st_sz]
    refine ⟨_, toFitsV (fun p => p) (l := [(6, .ow 0 nx 0)]) (r := [(0, rSt nx [])]) (sz := 18) (top := 1) (nx := nx + 1) (df := []) ?_, ?_⟩
    · simp only [go_sem, sCloneS, st_sz]
      exact RowLe.refl _
    · simp only [go_sem, sCloneS]
      exact hK nx (nx + 1) (Nat.le_refl _) (by omega)
  · have hts : ((ts.length : Int) = 0) = False := eq_false (by omega)
    refine AW.of hΓ mixed [99999] _ _ _ rfl ?_
    simp only [go_sem, sCloneS, st_sz, hts]
    refine ⟨sL eS ts, ts, rfl, AVle.refl _, ht, fun ver nx' h1 h2 => ⟨_, (ASle.freeze 1 ver 9 1 ts.length (fun i => eS.enc (ts.getD i [])) rfl fun i _ j _ => rfl).trans (toFitsV (fun p => p) (l := [(6, .ow 0 (nx' + 1) 1)]) (r := [(0, rSt (nx' + 1) (appP [] k ts))]) (sz := 18) (top := 1) (nx := nx' + 1 + 1) (df := []) ?_), ?_⟩⟩
    · rw [appP_ne h0]
      simp only [go_sem, sCloneS, st_sz]
      exact RowLe.sl (by simp) (put_cells (l := []) rfl rfl)
    · simp only [go_sem, sCloneS]
      have := hK (nx' + 1) (nx' + 1 + 1) (by omega) (by omega)
      rwa [show (appP [] k ts).length = 1 by rw [appP_ne h0]; simp] at this
def sPutP : MSpec := fun args hp top nx K => framed sPutA0 args hp top nx K ∨ freshM sPutB0 args hp top nx K
theorem okPutP : MethOK Tryz.prog 43 sPutP := okPutA0.frame.or okPutB0.fresh
theorem putP_go {l : List StE} {v q n : Nat} {k : Int} {y : AV} {ts : List (List UInt8)} {hp : Nat → Row} {top nx : Nat} {K : AV → (Nat → Row) → Nat → Nat → Prop} (hn : n = l.length) (hy : AVle y (sL eS ts)) (hr : RowLe (hp q) (rSt v l)) (ht : q < top) (hl : l.length < 10000000) (hl2 : ts.length < 1000000000)
    (hK : ∀ v' nx', nx ≤ nx' → K (.ow q v' (appP l k ts).length) (updR hp q (rSt v' (appP l k ts))) top nx') : sPutP [.ow q v n, .val (.int .i64 k), y] hp top nx K := by
  subst hn
  have hver : (hp q).ver = some v := hr.vers.symm
  refine .inl ⟨[q], [.ow 0 v l.length, kI.enc k, y], rws [(0, rSt v l)], by simp, by simpa using ht, .cons AVle.ow (.cons (AVle.refl _) (.cons (AVle.refl _) .nil)), one_row hr, fun i hi => rws_top (top := 1) (by simp) i (by simpa using hi), l, v, k, y, ts, hy, rfl, rfl, rfl, hl, hl2, fun v' nx' h1 h3 => ?_⟩
  refine ⟨.ow q v' (appP l k ts).length, _, AVle.ow, fun i r hr => ?_, fun r hr => ?_, fun r hr w hw => ?_, hK v' nx' h3⟩
  · cases i with
    | zero =>
      simp only [List.getElem?_cons_zero, Option.some.injEq] at hr
      subst hr
      rw [updR_at]
      exact RowLe.refl _
    | succ i => simp at hr
  · rw [updR_ne _ _ (by simpa using hr)]
  · simp only [List.mem_singleton] at hr
    subst hr
    rw [updR_at] at hw
    have : some v' = some w := hw
    obtain rfl := Option.some.inj this
    rcases h1 with rfl | h1
    · exact .inl hver
    · exact .inr h1
theorem putN_go {k : Int} {y : AV} {ts : List (List UInt8)} {hp : Nat → Row} {top nx : Nat} {K : AV → (Nat → Row) → Nat → Nat → Prop} (hy : AVle y (sL eS ts)) (hl2 : ts.length < 1000000000)
    (hK : ∀ v' nx', nx ≤ v' → v' < nx' → K (.ow top v' (appP [] k ts).length) (updR hp top (rSt v' (appP [] k ts))) (top + 1) nx') : sPutP [.em, .val (.int .i64 k), y] hp top nx K :=
  .inr ⟨[.em, kI.enc k, y], .cons (AVle.refl _) (.cons (AVle.refl _) (.cons (AVle.refl _) .nil)), k, y, ts, hy, rfl, rfl, rfl, hl2, fun v' nx' h1 h2 => ⟨v', _, _, rfl, rfl, rfl, h1, hK v' nx' h1 h2⟩⟩
abbrev rHk (v : Nat) (l : List Hk) : Row := rowL v 84 (eP eI (eP eI (eL (eP eI (eL eS))))) l
def sClosed0 : MSpec := fun args hp top nx K => ∃ l v x h, AVle x ((kA (eP eI (eP eI (eL (eP eI (eL eS)))))).enc h) ∧ args = [.ow 0 v l.length, x] ∧ hp = rws [(0, rHk v l)] ∧ top = 1 ∧ l.length < 1000000 ∧ h.2.2.length < 100000000 ∧
  ∀ v' nx', (v' = v ∨ nx ≤ v') → nx ≤ nx' → K (.ow 0 v' (clsP l h).length) (rws [(0, rHk v' (clsP l h))]) 1 nx'
theorem okClosed0 : MethOK Tryz.prog 45 sClosed0 := by
  refine MethOK.mk Tryz.func45 rfl (by decide) Tryz.results45 Tryz.ntmps45 ?_
  rintro args hp top nx K ⟨l, v, x, h, hx, rfl, rfl, rfl, hl, hs, hK⟩
  have hΓ : GOK Tryz.prog (gam [(104, sChangesP)]) := (.cons okChangesP .nil)
  refine ⟨Nat.le_of_ble_eq_true rfl, AW.late ?_⟩
  refine AW.le (stM_le (.cons (AVle.refl _) (.cons hx .nil))) ?_
  cases hc : chgP h.2.2 with
  | false =>
    have e : clsP l h = l := by unfold clsP; rw [if_neg (by rw [hc]; simp)]
    refine AW.of hΓ mixed [99999] _ _ _ rfl ?_
    simp only [go_sem, sChangesP, hk_sz, hk_d, hk0, hk1, hk2, hc]
    refine ⟨hs, _, toFitsV (fun p => p) (l := [(4, .ow 0 v l.length)]) (r := [(0, rHk v l)]) (sz := 14) (top := 1) (nx := nx + 1) (df := []) ?_, ?_⟩
    · simp only [go_sem, sChangesP, hk_sz, hk_d]
      exact RowLe.refl _
    · simp only [go_sem, sChangesP]
      have := hK v (nx + 1) (.inl rfl) (by omega)
      rwa [e] at this
  | true =>
    have e : clsP l h = l ++ [h] := by unfold clsP; rw [if_pos hc]
    refine AW.of hΓ mixed [99999] _ _ _ rfl ?_
    simp only [go_sem, sChangesP, hk_sz, hk_d, hk0, hk1, hk2, hc]
    refine ⟨hs, by omega, _, toFitsV (fun p => p) (l := [(4, .ow 0 (nx + 1) (l.length + 1))]) (r := [(0, rHk (nx + 1) (clsP l h))]) (sz := 14) (top := 1) (nx := nx + 1 + 1) (df := []) ?_, ?_⟩
    · rw [e]
      simp only [go_sem, sChangesP, hk_sz, hk_d]
      exact row_app1 (E := eHk) rfl rfl rfl rfl (by simp) fun j hj => AVle.refl _
    · simp only [go_sem, sChangesP]
      have := hK (nx + 1) (nx + 1 + 1) (.inr (by omega)) (by omega)
      rwa [e, show (l ++ [h]).length = l.length + 1 by simp, ← e] at this
def sClosed : MSpec := framed sClosed0
theorem okClosedP : MethOK Tryz.prog 45 sClosed := okClosed0.frame
def sClosedP : MSpec := sClosed
theorem closed_go {l : List Hk} {v q n : Nat} {h : Hk} {x : AV} {hp : Nat → Row} {top nx : Nat} {K : AV → (Nat → Row) → Nat → Nat → Prop} (hn : n = l.length) (hx : AVle x ((kA (eP eI (eP eI (eL (eP eI (eL eS)))))).enc h)) (hr : RowLe (hp q) (rHk v l)) (ht : q < top) (hl : l.length < 1000000) (hl2 : h.2.2.length < 100000000)
    (hK : ∀ v' nx', nx ≤ nx' → K (.ow q v' (clsP l h).length) (updR hp q (rHk v' (clsP l h))) top nx') : sClosedP [.ow q v n, x] hp top nx K := by
  subst hn
  have hver : (hp q).ver = some v := hr.vers.symm
  refine ⟨[q], [.ow 0 v l.length, x], rws [(0, rHk v l)], by simp, by simpa using ht, .cons AVle.ow (.cons (AVle.refl _) .nil), one_row hr, fun i hi => rws_top (top := 1) (by simp) i (by simpa using hi), l, v, x, h, hx, rfl, rfl, rfl, hl, hl2, fun v' nx' h1 h3 => ?_⟩
  refine ⟨.ow q v' (clsP l h).length, _, AVle.ow, fun i r hr => ?_, fun r hr => ?_, fun r hr w hw => ?_, hK v' nx' h3⟩
  · cases i with
    | zero =>
      simp only [List.getElem?_cons_zero, Option.some.injEq] at hr
      subst hr
      rw [updR_at]
      exact RowLe.refl _
    | succ i => simp at hr
  · rw [updR_ne _ _ (by simpa using hr)]
  · simp only [List.mem_singleton] at hr
    subst hr
    rw [updR_at] at hw
    have : some v' = some w := hw
    obtain rfl := Option.some.inj this
    rcases h1 with rfl | h1
    · exact .inl hver
    · exact .inr h1
end Go.Proofs.YthpjjjnbkfnghaaGreatDoor
set_option linter.unusedSimpArgs false
set_option linter.unusedVariables false
set_option maxRecDepth 100000
namespace Go.Proofs.YthpjjjnbkfnghaaGreatDoor
open Go
attribute [local irreducible] AW AVle ASle RowLe
def sRun : Spec := Spec.f1 kS (fun l => l.length ≤ 100000000000) (fun l => kI.enc (runL l))
def sIndexByte : Spec := Spec.f2 kS kU (fun _ _ => True) (fun a c => kI.enc (Lib.indexByte a c.toNat.toUInt8))
theorem okIndexByte : SpecOK Tryz.prog 146 sIndexByte := by
  refine SpecOK.raw Tryz.func146 rfl (by decide) fun args hp w L vs hL ha => ?_
  match args, hp with
  | [x, y], hp =>
    obtain ⟨h1, h2, h3⟩ := hp
    cases ha with
    | cons hx hr => cases hr with
      | cons hy hr => cases hr with
        | nil =>
          have ex := okGet h1 hx
          have ey := okGet h2 hy
          obtain rfl := ex
          obtain rfl := ey
          refine (Tryz.strings_IndexByte _ _ w).mono ?_
          rintro e w' ⟨rfl, rfl⟩
          exact ⟨_, rfl, Fr.refl _ _, rfl⟩
theorem run_head (l : List UInt8) (h : l ≠ []) : (Lib.indexByte [60, 124, 61, 62] (l.getD 0 0).toNat.toUInt8 < 0 → runL l = 0) ∧
    (¬ Lib.indexByte [60, 124, 61, 62] (l.getD 0 0).toNat.toUInt8 < 0 → ∀ n, 1 ≤ n → n ≤ l.length → (∀ k, k < n → l.getD k 0 = l.getD 0 0) → (n < l.length → l.getD n 0 ≠ l.getD 0 0) → n = runL l) := by
  cases l with
  | nil => exact absurd rfl h
  | cons c r =>
    have e : ∀ c : UInt8, c.toNat.toUInt8 = c := fun c => by simp
    simp only [List.getD_cons_zero, e]
    have hc : Lib.indexByte [60, 124, 61, 62] c < 0 ↔ ¬ (c = 60 ∨ c = 124 ∨ c = 61 ∨ c = 62) := by
      constructor
      · intro h0 h1
        rcases h1 with rfl | rfl | rfl | rfl <;> exact absurd h0 (by decide)
      · intro h0
        rcases Int.lt_or_le (Lib.indexByte [60, 124, 61, 62] c) 0 with h1 | h1
        · exact h1
        · obtain ⟨o, ho⟩ := Int.eq_ofNat_of_zero_le h1
          have := (Lib.indexByte_some (o := o) ho).1
          have hm := List.mem_of_getElem? this
          simp only [List.mem_cons, List.not_mem_nil, or_false] at hm
          exact absurd hm h0
    refine ⟨fun h0 => ?_, fun h0 n h1 h2 h3 h4 => ?_⟩
    · rw [runL, if_neg (hc.1 h0)]
    · rw [runL, if_pos (Decidable.not_not.1 fun hh => h0 (hc.2 hh))]
      obtain ⟨m, rfl⟩ : ∃ m, n = m + 1 := ⟨n - 1, by omega⟩
      rw [takeWhile_at c r m (by simpa using h2) (fun k hk => by simpa using h3 (k + 1) (by omega)) (fun hm => by simpa using h4 (by simpa using hm))]
      omega
theorem okRun : SpecOK Tryz.prog 180 sRun := by
  refine SpecOK.f1 Tryz.func180 rfl (by decide) Tryz.results180 Tryz.ntmps180 (by decide) fun l hl => ?_
  have hΓ : GOK Tryz.prog (gam [(146, sIndexByte)]) := (.cons okIndexByte .nil)
  by_cases h : l = []
  · subst h
    refine AW.of hΓ mixed [99999] _ _ _ rfl ?_
    simp only [go_sem, sIndexByte]
    rfl
  · obtain ⟨r1, r2⟩ := run_head l h
    have hpos : 0 < l.length := List.length_pos_iff.2 h
    refine AW.of hΓ mixed [99999] _ _ _ rfl ?_
    simp only [go_sem, sIndexByte, h]
    refine ⟨by omega, fun h0 => by rw [r1 h0]; rfl, fun h0 => ?_⟩
    refine AW.round (α := { n : Nat // 1 ≤ n ∧ n ≤ l.length ∧ ∀ k, k < n → l.getD k 0 = l.getD 0 0 }) (fun n => ⟨[(0, .st l), (3, .val (.int .i64 n.1))], [], 27, 0, 0, []⟩) (fun n => l.length - n.1) ⟨1, Nat.le_refl _, hpos, fun k hk => by rw [show k = 0 by omega]⟩ ?_ ?_
    · simp only [go_sem, sIndexByte]
    · rintro ⟨n, h1, h2, h3⟩
      refine AW.of hΓ mixed [99999] _ _ _ rfl ?_
      simp only [go_sem, sIndexByte]
      refine ⟨fun _ => by omega, fun _ => by omega, fun ⟨ha, hb⟩ => ⟨by omega, ⟨n + 1, by omega, by omega, fun k hk => ?_⟩, by dsimp only; omega⟩, fun hh => ?_⟩
      · rcases Nat.lt_or_ge k n with h' | h'
        · exact h3 k h'
        · obtain rfl : k = n := by omega
          exact hb
      · rw [r2 h0 n h1 h2 h3 fun hl => hh (by omega)]
theorem longL_snoc (l : List (List UInt8)) (x : List UInt8) : longL (l ++ [x]) = max (longL l) (runL x) := by
  unfold longL
  rw [List.foldl_append]
  rfl
def sLongest : Spec := Spec.f1 (kL (eL eS)) (fun l => l.length ≤ 100000000 ∧ ∀ f ∈ l, okLs f) (fun l => kI.enc (longL l.flatten))
theorem okLongest : SpecOK Tryz.prog 198 sLongest := by
  refine SpecOK.f1 Tryz.func198 rfl (by decide) Tryz.results198 Tryz.ntmps198 (by decide) fun fs ⟨hl, hf⟩ => ?_
  have hΓ : GOK Tryz.prog (gam [(180, sRun)]) := (.cons okRun .nil)
  refine AW.of hΓ mixed [] _ _ _ rfl ?_
  simp only [go_sem, sRun]
  refine AW.round (α := { i : Nat // i ≤ fs.length }) (fun i => ⟨[(3, .val (.int .i64 (longL (fs.take i.1).flatten))), (8, sL (eL eS) fs), (9, .val (.int .i64 fs.length)), (10, .val (.int .i64 i.1))], [], 27, 0, 0, []⟩) (fun i => fs.length - i.1) ⟨0, by simp⟩ ?_ ?_
  · simp only [go_sem, sRun]
    rfl
  · rintro ⟨i, hi⟩
    refine AW.of hΓ mixed [5] _ _ _ rfl ?_
    simp only [go_sem, sRun]
    refine ⟨fun hil => ?_, fun hil => ?_⟩
    · have hlt : i < fs.length := by omega
      have hfi := hf _ (gd_lt fs [] hlt ▸ List.getElem_mem hlt)
      have hft : (fs.take (i + 1)).flatten = (fs.take i).flatten ++ fs.getD i [] := by rw [take_snoc fs [] hlt]; simp
      generalize hfe : fs.getD i [] = f at *
      obtain ⟨hf1, hf2⟩ := hfi
      refine ⟨by omega, ?_⟩
      refine AW.to (fun _ : Unit => Sh.st ⟨[(3, .val (.int .i64 (longL ((fs.take i).flatten ++ f)))), (8, sL (eL eS) fs), (9, .val (.int .i64 fs.length)), (10, .val (.int .i64 i))], [], 27, 0, 0, []⟩) ?_ ?_
      · refine AW.block (AW.round (α := { k : Nat // k ≤ f.length }) (fun k => ⟨[(3, .val (.int .i64 (longL ((fs.take i).flatten ++ f.take k.1)))), (8, sL (eL eS) fs), (9, .val (.int .i64 fs.length)), (10, .val (.int .i64 i)), (14, sL eS f), (15, .val (.int .i64 f.length)), (16, .val (.int .i64 k.1))], [], 27, 0, 0, []⟩) (fun k => f.length - k.1) ⟨0, by simp⟩ ?_ ?_)
        · simp only [go_sem, sRun]
          simp
        · rintro ⟨k, hk⟩
          refine AW.of hΓ mixed [99999] _ _ _ rfl ?_
          simp only [go_sem, sRun]
          refine ⟨fun hkf => ?_, fun hkf => ?_⟩
          · have hkl : k < f.length := by omega
            have hfl := flat_len f k
            refine ⟨by omega, by omega, by omega, ⟨k + 1, by omega⟩, ⟨?_, by dsimp only; omega⟩, by dsimp only; omega⟩
            dsimp only
            rw [take_snoc f [] hkl, ← List.append_assoc, longL_snoc]
            omega
          · obtain rfl : k = f.length := by omega
            refine ⟨(), toFits ?_⟩
            simp only [go_sem, sRun]
      · intro _
        simp only [go_sem, sRun]
        exact ⟨by omega, ⟨i + 1, by omega⟩, ⟨by dsimp only; rw [hft], by dsimp only; omega⟩, by dsimp only; omega⟩
    · obtain rfl : i = fs.length := by omega
      rw [List.take_length]
end Go.Proofs.YthpjjjnbkfnghaaGreatDoor
set_option linter.unusedSimpArgs false
set_option linter.unusedVariables false
set_option maxRecDepth 100000
set_option maxHeartbeats 4000000
namespace Go.Proofs.YthpjjjnbkfnghaaGreatDoor
open Go
theorem trimS_le (a b : List UInt8) : (Lib.trimSuffix a b).length ≤ a.length := by
  unfold Lib.trimSuffix
  split
  · rw [List.length_take]; omega
  · exact Nat.le_refl _
theorem trimP_le (a b : List UInt8) : (Lib.trimPrefix a b).length ≤ a.length := by
  unfold Lib.trimPrefix
  split
  · rw [List.length_drop]; omega
  · exact Nat.le_refl _
theorem cutP_leP (a b : List UInt8) : (Lib.cut a b).1.length ≤ a.length ∧ (Lib.cut a b).2.1.length ≤ a.length := by
  unfold Lib.cut
  split
  · simp only [List.length_take, List.length_drop]; omega
  · simp
theorem kindB_eq (line : List UInt8) : Lib.indexByte [32, 45, 43] (line.getD 0 0).toNat.toUInt8 = kindB line := by
  unfold kindB
  congr 1
  simp
theorem rdL_h {l : List Hk} {A B : Int} {line : List UInt8} {l' : List Hk} (h : rdL (l ++ [(A, B, [])]) line = some l') : line ≠ noEndB ∧ 0 ≤ kindB line ∧ l' = l ++ [(A, B, [] ++ [(kindB line, [] ++ [line.drop 1])])] := by
  rw [rdL_snoc] at h
  unfold rdS at h
  dsimp only at h
  by_cases h1 : line = noEndB
  · rw [if_pos h1] at h; simp at h
  · rw [if_neg h1] at h
    by_cases h2 : kindB line < 0
    · rw [if_pos h2] at h; simp at h
    · rw [if_neg h2] at h
      simp only [Option.map_some, Option.some.injEq] at h
      refine ⟨h1, by omega, ?_⟩
      rw [← h]
      rfl
theorem rdL_s {l : List Hk} {A B : Int} {st : List StE} {k : Int} {ts : List (List UInt8)} {t line : List UInt8} {l' : List Hk} (h : rdL (l ++ [(A, B, st ++ [(k, ts ++ [t])])]) line = some l') :
    (line = noEndB ∧ l' = l ++ [(A, B, st ++ [(k, ts ++ [Lib.trimSuffix t [10]])])]) ∨
    (line ≠ noEndB ∧ 0 ≤ kindB line ∧ ((k = kindB line ∧ l' = l ++ [(A, B, st ++ [(k, (ts ++ [t]) ++ [line.drop 1])])]) ∨ (k ≠ kindB line ∧ l' = l ++ [(A, B, (st ++ [(k, ts ++ [t])]) ++ [(kindB line, [] ++ [line.drop 1])])]))) := by
  rw [rdL_snoc] at h
  unfold rdS at h
  dsimp only at h
  by_cases h1 : line = noEndB
  · rw [if_pos h1, if_neg (by simp)] at h
    left
    refine ⟨h1, ?_⟩
    simp only [Option.map_some, Option.some.injEq] at h
    rw [← h]
    unfold cutS0
    rw [List.getLast?_append, List.getLast?_singleton, Option.some_or]
    dsimp only
    rw [List.dropLast_concat, List.dropLast_concat, List.getLast?_append, List.getLast?_singleton, Option.some_or]
    rfl
  · rw [if_neg h1] at h
    right
    by_cases h2 : kindB line < 0
    · rw [if_pos h2] at h; simp at h
    · rw [if_neg h2] at h
      simp only [Option.map_some, Option.some.injEq] at h
      refine ⟨h1, by omega, ?_⟩
      unfold addS at h
      rw [List.getLast?_append, List.getLast?_singleton, Option.some_or] at h
      dsimp only at h
      by_cases h3 : k = kindB line
      · rw [if_pos h3, List.dropLast_concat] at h
        exact .inl ⟨h3, by rw [← h, ← h3]⟩
      · rw [if_neg h3] at h
        exact .inr ⟨h3, by rw [← h]; rfl⟩
abbrev rHx (v : Nat) (l : List Hk) (A B : Int) (x : AV) : Row := .sl v 84 3 (l.length + 1) (apC l.length (fun i => (eP eI (eP eI (eL (eP eI (eL eS))))).enc (l.getD i (0, 0, []))) fun _ j => if j = 0 then .val (.int .i64 A) else if j = 1 then .val (.int .i64 B) else x)
abbrev rSx (v : Nat) (st : List StE) (k : Int) (x : AV) : Row := .sl v 86 2 (st.length + 1) (apC st.length (fun i => (eP eI (eL eS)).enc (st.getD i (0, []))) fun _ j => if j = 0 then .val (.int .i64 k) else x)
theorem apC_at (n : Nat) (c d : Nat → Nat → AV) (j : Nat) : apC n c d n j = d 0 j := by unfold apC; rw [if_neg (Nat.lt_irrefl _), Nat.sub_self]
theorem rSx_le {v p p' u n k' : Nat} {st : List StE} {k : Int} : RowLe (rSx v st k (.ow p u n)) (rSx v st k (.ow p' u n)) := RowLe.sl rfl fun i hi j hj => by
  unfold apC
  split
  · exact AVle.refl _
  · dsimp only
    split
    · exact AVle.refl _
    · exact AVle.ow
theorem texts_last {ts : List (List UInt8)} {t u : List UInt8} : ∀ i, i < ts.length + 1 → ∀ j, j < 1 → AVle (stE (fun i => eS.enc ((ts ++ [t]).getD i [])) ts.length 0 1 (fun _ => AV.st u) i j) (eS.enc ((ts ++ [u]).getD i []) j) := fun i hi j hj => by
  obtain rfl : j = 0 := by omega
  unfold stE
  by_cases h : i = ts.length
  · subst h
    rw [if_pos (by simp), show (ts ++ [u]).getD ts.length [] = u by simp [List.getD]]
    exact AVle.refl _
  · rw [if_neg (by simp [h])]
    dsimp only
    rw [show (ts ++ [t]).getD i [] = (ts ++ [u]).getD i [] by simp [List.getD, List.getElem?_append_left (show i < ts.length by omega)]]
    exact AVle.refl _
theorem rowL_snoc (u : Nat) (e : TypeId) (ts : List (List UInt8)) (x : List UInt8) : rowL u e eS (ts ++ [x]) = .sl u e 1 (ts.length + 1) fun i => eS.enc ((ts ++ [x]).getD i []) := by
  unfold rowL
  rw [show (ts ++ [x]).length = ts.length + 1 by simp]
  rfl
def sDropE0 : MSpec := fun args hp top nx K => ∃ (v u : Nat) (st : List StE) (k : Int) (ts : List (List UInt8)) (t : List UInt8), args = [.ow 0 v (st.length + 1)] ∧ hp = rws [(0, rSx v st k (.ow 1 u (ts.length + 1))), (1, rowL u 9 eS (ts ++ [t]))] ∧ top = 2 ∧ (st.length < 1000000000 ∧ ts.length < 1000000000 ∧ t.length ≤ 100000000000) ∧
  ∀ nx', nx ≤ nx' → K (.val (.bool true)) (rws [(0, rSx v st k (.ow 1 u (ts.length + 1))), (1, rowL u 9 eS (ts ++ [Lib.trimSuffix t [10]]))]) 2 nx'
attribute [local irreducible] AW AVle ASle RowLe
theorem okDropE0 : MethOK Tryz.prog 145 sDropE0 := by
  refine MethOK.mk Tryz.func145 rfl (by decide) Tryz.results145 Tryz.ntmps145 ?_
  rintro args hp top nx K ⟨v, u, st, k, ts, t, rfl, rfl, rfl, ⟨h1, h2, h3⟩, hK⟩
  have hΓ : GOK Tryz.prog (gam [(141, sTrimSuf)]) := (.cons okTrimSuf .nil)
  refine ⟨Nat.le_of_ble_eq_true rfl, AW.late ?_⟩
  have e1 : (((st.length + 1 : Nat) : Int) - 1).toNat = st.length := by omega
  have e2 : (((ts.length + 1 : Nat) : Int) - 1).toNat = ts.length := by omega
  have e3 : (((st.length + 1 : Nat) : Int) = 0) = False := eq_false (by omega)
  have e4 : (ts ++ [t]).getD ts.length [] = t := by simp [List.getD]
  refine AW.of hΓ mixed [99999] _ _ _ rfl ?_
  simp only [go_sem, sTrimSuf, e1, e2, e3, e4, apC_at, rowL, st_sz]
  refine ⟨by omega, by omega, by omega, by omega, by omega, by omega, by omega, h3, by omega, by omega, _, toFitsV (fun p => p) (l := [(2, .val (.bool true))]) (r := [(0, rSx v st k (.ow 1 u (ts.length + 1))), (1, rowL u 9 eS (ts ++ [Lib.trimSuffix t [10]]))]) (sz := 26) (top := 2) (nx := nx) (df := []) ?_, ?_⟩
  · simp only [go_sem, sTrimSuf]
    exact ⟨RowLe.refl _, RowLe.sl (by simp) fun i hi j hj => texts_last i hi j hj⟩
  · simp only [go_sem, sTrimSuf]
    have := hK nx (Nat.le_refl _)
    rw [rowL_snoc] at this
    exact this
def sDropE : MSpec := framed sDropE0
theorem okDropE : MethOK Tryz.prog 145 sDropE := okDropE0.frame
def outHead (line : List UInt8) : AV := tu2 (.ag 3 fun j => if j = 0 then .val (.int .i64 (rdH line).1) else if j = 1 then .val (.int .i64 (rdH line).2.1) else .em) (.val (.bool true))
def okHd (line : List UInt8) : Prop := line.length ≤ 1000000000 ∧ rdOK line = true ∧ numOK line ∧ ((-1 ≤ (rdH line).1 ∧ (rdH line).1 ≤ 1000000000) ∧ -1 ≤ (rdH line).2.1 ∧ (rdH line).2.1 ≤ 1000000000)
def sReadH : Spec := Spec.f1 kS okHd outHead
theorem okReadH : SpecOK Tryz.prog 86 sReadH := by
  refine SpecOK.f1 Tryz.func86 rfl (by decide) Tryz.results86 Tryz.ntmps86 (by decide) fun line ⟨h1, h2, h3, ⟨h4, h5⟩, h6, h7⟩ => ?_
  have hΓ : GOK Tryz.prog (gam [(142, sTrimPre), (141, sTrimSuf), (143, sCutAt), (144, sAtoi)]) := (.cons okTrimPre (.cons okTrimSuf (.cons okCutAt (.cons okAtoi .nil))))
  unfold rdOK at h2
  simp only [Bool.and_eq_true] at h2
  obtain ⟨a1, a2, a3⟩ := h2
  obtain ⟨⟨n1, n2⟩, n3, n4⟩ := h3 (by unfold rdOK; rw [a1, a2, a3]; rfl)
  have c1 : (rdIn line).length ≤ line.length := Nat.le_trans (trimS_le _ _) (trimP_le _ _)
  have c2 := trimP_le line opnB
  have c3 := cutP_leP (rdIn line) btwB
  have e1 : Lib.cut (Lib.trimSuffix (Lib.trimPrefix line [37, 37, 32, 45]) [32, 37, 37, 10]) [32, 43] = rdX line := rfl
  have e2 : Lib.cut (rdX line).1 [44] = rdA line := rfl
  have e3 : Lib.cut (rdX line).2.1 [44] = rdB line := rfl
  refine AW.of hΓ mixed [200009] _ _ _ rfl ?_
  simp only [go_sem, sTrimPre, sTrimSuf, sCutAt, sAtoi, e1, e2, e3, a1, a2, a3]
  have c4 : (Lib.trimPrefix line [37, 37, 32, 45]).length ≤ line.length := trimP_le _ _
  have c5 : (Lib.trimSuffix (Lib.trimPrefix line [37, 37, 32, 45]) [32, 37, 37, 10]).length ≤ line.length := Nat.le_trans (trimS_le _ _) c4
  have c6 : (rdX line).1.length ≤ (rdIn line).length := c3.1
  have c7 : (rdX line).2.1.length ≤ (rdIn line).length := c3.2
  refine ⟨by omega, by omega, by omega, by omega, ⟨n1, n2⟩, ⟨n3, n4⟩, ?_⟩
  refine AW.drawZ hΓ mixed 11 [] [8, 9, 10] [] (by decide +kernel) ?_
  have h4 : -1 ≤ (Lib.atoi (rdA line).1).getD 0 - 1 := h4
  have h5 : (Lib.atoi (rdA line).1).getD 0 - 1 ≤ 1000000000 := h5
  have h6 : -1 ≤ (Lib.atoi (rdB line).1).getD 0 - 1 := h6
  have h7 : (Lib.atoi (rdB line).1).getD 0 - 1 ≤ 1000000000 := h7
  simp only [go_sem, sTrimPre, sTrimSuf, sCutAt, sAtoi, e1, e2, e3, a1, a2, a3, outHead]
  refine ⟨by omega, by omega, show vwQ _ AV.em from ⟨rfl, .inl rfl⟩, AVle.ag fun j hj => ?_⟩
  match j, hj with
  | 0, _ => exact AVle.refl _
  | 1, _ => exact AVle.refl _
  | 2, _ => exact AVle.refl _
end Go.Proofs.YthpjjjnbkfnghaaGreatDoor
set_option linter.unusedSimpArgs false
set_option linter.unusedVariables false
set_option maxRecDepth 100000
set_option maxHeartbeats 8000000
namespace Go.Proofs.YthpjjjnbkfnghaaGreatDoor
open Go
theorem kc_nil : kCell (.slice none 0 0) = .em := rfl
theorem dropE_go {p q v u n : Nat} {st : List StE} {k : Int} {ts : List (List UInt8)} {t : List UInt8} {hp : Nat → Row} {top nx : Nat} {K : AV → (Nat → Row) → Nat → Nat → Prop} (hn : n = st.length + 1) (hpq : p ≠ q)
    (hr : RowLe (hp p) (rSx v st k (.ow q u (ts.length + 1)))) (hr2 : RowLe (hp q) (rowL u 9 eS (ts ++ [t]))) (ht : p < top ∧ q < top) (hl : st.length < 1000000000 ∧ ts.length < 1000000000 ∧ t.length ≤ 100000000000)
    (hK : ∀ nx', nx ≤ nx' → K (.val (.bool true)) (updR (updR hp p (rSx v st k (.ow q u (ts.length + 1)))) q (rowL u 9 eS (ts ++ [Lib.trimSuffix t [10]]))) top nx') :
    sDropE [.ow p v n] hp top nx K := by
  subst hn
  have e1 : (hp p).ver = some v := hr.vers.symm
  have e2 : (hp q).ver = some u := hr2.vers.symm
  refine ⟨[p, q], [.ow 0 v (st.length + 1)], rws [(0, rSx v st k (.ow 1 u (ts.length + 1))), (1, rowL u 9 eS (ts ++ [t]))], by simp [hpq], by simp; omega, .cons AVle.ow .nil, rows_2 (hr.trans (rSx_le (k' := 0))) hr2, fun i hi => rws_top (top := 2) (by simp) i (by simpa using hi), v, u, st, k, ts, t, rfl, rfl, rfl, hl, fun nx' h1 => ?_⟩
  refine ⟨_, _, AVle.refl _, fun i o ho => ?_, fun o ho => ?_, fun o ho w hv => ?_, hK nx' h1⟩
  · match i with
    | 0 =>
      simp only [List.getElem?_cons_zero, Option.some.injEq] at ho
      subst ho
      rw [updR_ne _ _ hpq, updR_at]
      exact rSx_le (k' := 0)
    | 1 =>
      simp only [List.getElem?_cons_succ, List.getElem?_cons_zero, Option.some.injEq] at ho
      subst ho
      rw [updR_at]
      exact RowLe.refl _
    | i + 2 => simp at ho
  · simp only [List.mem_cons, List.not_mem_nil, or_false, not_or] at ho
    rw [updR_ne _ _ ho.2, updR_ne _ _ ho.1]
  · simp only [List.mem_cons, List.not_mem_nil, or_false] at ho
    rcases ho with rfl | rfl
    · rw [updR_ne _ _ hpq, updR_at] at hv
      have : some v = some w := hv
      obtain rfl := Option.some.inj this
      exact .inl e1
    · rw [updR_at] at hv
      have : some u = some w := hv
      obtain rfl := Option.some.inj this
      exact .inl e2
theorem hk_put {l : List Hk} {A B : Int} {x : AV} {d : Nat → AV} {c0 : AV} {i j : Nat} (hi : i < l.length + 1) (hj : j < 3) (hd : AVle (d 0) x) :
    AVle (stE (apC l.length (fun i => (eP eI (eP eI (eL (eP eI (eL eS))))).enc (l.getD i (0, 0, []))) fun _ j => if j = 0 then .val (.int .i64 A) else if j = 1 then .val (.int .i64 B) else c0) l.length 2 1 d i j) (apC l.length (fun i => (eP eI (eP eI (eL (eP eI (eL eS))))).enc (l.getD i (0, 0, []))) (fun _ j => if j = 0 then .val (.int .i64 A) else if j = 1 then .val (.int .i64 B) else x) i j) := by
  unfold stE apC
  by_cases h : i < l.length
  · rw [if_neg (by omega), if_pos h, if_pos h]
    exact AVle.refl _
  · obtain rfl : i = l.length := by omega
    rw [if_neg h, if_neg h]
    match j, hj with
    | 0, _ => rw [if_neg (by omega)]; exact AVle.refl _
    | 1, _ => rw [if_neg (by omega)]; exact AVle.refl _
    | 2, _ =>
      rw [if_pos ⟨rfl, Nat.le_refl _, Nat.lt_succ_self _⟩]
      exact hd
theorem st_put {l : List StE} {k : Int} {x : AV} {d : Nat → AV} {c0 : AV} {i j : Nat} (hi : i < l.length + 1) (hj : j < 2) (hd : AVle (d 0) x) :
    AVle (stE (apC l.length (fun i => (eP eI (eL eS)).enc (l.getD i (0, []))) fun _ j => if j = 0 then .val (.int .i64 k) else c0) l.length 1 1 d i j) (apC l.length (fun i => (eP eI (eL eS)).enc (l.getD i (0, []))) (fun _ j => if j = 0 then .val (.int .i64 k) else x) i j) := by
  unfold stE apC
  by_cases h : i < l.length
  · rw [if_neg (by omega), if_pos h, if_pos h]
    exact AVle.refl _
  · obtain rfl : i = l.length := by omega
    rw [if_neg h, if_neg h]
    match j, hj with
    | 0, _ => rw [if_neg (by omega)]; exact AVle.refl _
    | 1, _ =>
      rw [if_pos ⟨rfl, Nat.le_refl _, Nat.lt_succ_self _⟩]
      exact hd
theorem rHx_le {v p p' u n : Nat} {l : List Hk} {A B : Int} : RowLe (rHx v l A B (.ow p u n)) (rHx v l A B (.ow p' u n)) := RowLe.sl rfl fun i hi j hj => by
  unfold apC
  split
  · exact AVle.refl _
  · dsimp only
    split
    · exact AVle.refl _
    · split
      · exact AVle.refl _
      · exact AVle.ow
theorem hk_fz {v v1 v2 n m z : Nat} {cc : Nat → Nat → AV} {l : List Hk} {A B : Int} : RowLe (.sl v 84 3 (l.length + 1) fun i j => fz 2 v2 n z cc (apC l.length (fun i => (eP eI (eP eI (eL (eP eI (eL eS))))).enc (l.getD i (0, 0, []))) (fun _ j => if j = 0 then .val (.int .i64 A) else if j = 1 then .val (.int .i64 B) else .ow 1 v1 m) i j)) (rHx v l A B (.ow 1 v1 m)) := RowLe.sl rfl fun i hi j hj => by
  unfold apC
  split
  · match j, hj with
    | 0, _ => exact AVle.refl _
    | 1, _ => exact AVle.refl _
    | 2, _ => exact AVle.refl _
  · match j, hj with
    | 0, _ => exact AVle.refl _
    | 1, _ => exact AVle.refl _
    | 2, _ => exact AVle.of_eq (show (if (1 : Nat) = 2 ∧ v1 = v2 ∧ m ≤ n then AV.sn m z cc else AV.ow 1 v1 m) = AV.ow 1 v1 m from if_neg (by omega))
theorem one_text {u e : Nat} {x : List UInt8} : RowLe (.sl u e 1 1 fun i => [fun _ => AV.st x].getD i fun _ => .any) (.sl u e 1 1 fun i => eS.enc ([x].getD i [])) := RowLe.sl rfl fun i hi j hj => by
  obtain rfl : i = 0 := by omega
  exact AVle.refl _
attribute [local irreducible] AW AVle ASle RowLe
def sReadLH : MSpec := fun args hp top nx K => ∃ (v : Nat) (l : List Hk) (A B : Int) (line : List UInt8), args = [.ow 0 v (l.length + 1), .st line] ∧ hp = rws [(0, rHx v l A B .em)] ∧ top = 3 ∧ l.length < 1000000000 ∧ line ≠ [] ∧ line.length ≤ 1000000000 ∧ line ≠ noEndB ∧ 0 ≤ kindB line ∧
  ∀ v1 v2 nx', nx ≤ nx' → K (.val (.bool true)) (rws [(0, rHx v l A B (.ow 1 v1 1)), (1, rSx v1 [] (kindB line) (.ow 2 v2 1)), (2, rowL v2 9 eS [line.drop 1])]) 3 nx'
theorem okReadLH : MethOK Tryz.prog 87 sReadLH := by
  refine MethOK.mk Tryz.func87 rfl (by decide) Tryz.results87 Tryz.ntmps87 ?_
  rintro args hp top nx K ⟨v, l, A, B, line, rfl, rfl, rfl, hl, hne, hll, hno, hk, hK⟩
  have hΓ : GOK Tryz.prog (gam [(146, sIndexByte), (145, sDropE)]) := (.cons okIndexByte (.cons okDropE .nil))
  refine ⟨Nat.le_of_ble_eq_true rfl, AW.late ?_⟩
  have e1 : (((l.length + 1 : Nat) : Int) - 1).toNat = l.length := by omega
  have e3 : (((l.length + 1 : Nat) : Int) = 0) = False := eq_false (by omega)
  have e4 : (line = [92, 32, 110, 111, 32, 101, 110, 100, 10]) = False := eq_false hno
  have e5 : (Lib.indexByte [32, 45, 43] (line.getD 0 0).toNat.toUInt8 < 0) = False := by rw [kindB_eq]; exact eq_false (by omega)
  have e6 : (kindB line < 0) = False := eq_false (by omega)
  have hpos : 0 < line.length := List.length_pos_iff.2 hne
  refine AW.of hΓ mixed [99999, 200013] _ _ _ rfl ?_
  simp only [go_sem, sIndexByte, sDropE, e1, e3, e4, e6, apC_at, hk_sz, kindB_eq, st_sz, kc_nil]
  refine ⟨by omega, by omega, by omega, by omega, by omega, by omega, ?_⟩
  refine AW.cut ⟨[(1, .st line), (5, .pe 0 v 3 l.length 0), (7, .val (.int .i64 0))], [(0, rHx v l A B (.ow 3 nx 1)), (3, rSx nx [] (kindB line) .em)], 80, 4, nx + 1, []⟩ ?_ ?_
  · simp only [go_sem, sIndexByte, sDropE]
    exact ⟨RowLe.sl rfl fun i hi j hj => hk_put hi hj (AVle.refl _), RowLe.sl rfl fun i hi j hj => by
      obtain rfl : i = 0 := by simp at hi; omega
      match j, hj with
      | 0, _ => exact AVle.refl _
      | 1, _ => exact AVle.refl _⟩
  refine AW.drawK hΓ mixed 16 [] [1, 2, 3] [] [0] (by decide +kernel) ?_
  simp only [go_sem, sIndexByte, sDropE, e1, e3, e4, e6, apC_at, hk_sz, kindB_eq, st_sz, kc_nil]
  refine ⟨by omega, by omega, by omega, _, toFitsV (fun p => if p = 0 then 0 else p + 2) (l := [(4, .val (.bool true))]) (r := [(0, rHx v l A B (.ow 1 nx 1)), (1, rSx nx [] (kindB line) (.ow 2 (nx + 1) 1)), (2, rowL (nx + 1) 9 eS [line.drop 1])]) (sz := 80) (top := 3) (nx := nx + 2) (df := []) ?_, ?_⟩
  · simp only [go_sem, sIndexByte, sDropE]
    exact ⟨rHx_le, RowLe.sl rfl fun i hi j hj => st_put (l := []) hi hj AVle.ow, one_text⟩
  · simp only [go_sem, sIndexByte, sDropE]
    have := hK nx (nx + 1) (nx + 2) (by omega)
    exact this
def sReadLS : MSpec := fun args hp top nx K => ∃ (v v1 v2 : Nat) (l : List Hk) (A B : Int) (st : List StE) (k : Int) (ts : List (List UInt8)) (t line : List UInt8), args = [.ow 0 v (l.length + 1), .st line] ∧
  hp = rws [(0, rHx v l A B (.ow 1 v1 (st.length + 1))), (1, rSx v1 st k (.ow 2 v2 (ts.length + 1))), (2, rowL v2 9 eS (ts ++ [t]))] ∧ top = 3 ∧ (l.length < 1000000000 ∧ st.length < 1000000000 ∧ ts.length < 1000000000 ∧ t.length ≤ 100000000000) ∧ line ≠ [] ∧ line.length ≤ 1000000000 ∧
  (line = noEndB → ∀ nx', nx ≤ nx' → K (.val (.bool true)) (rws [(0, rHx v l A B (.ow 1 v1 (st.length + 1))), (1, rSx v1 st k (.ow 2 v2 (ts.length + 1))), (2, rowL v2 9 eS (ts ++ [Lib.trimSuffix t [10]]))]) 3 nx') ∧
  (line ≠ noEndB → 0 ≤ kindB line ∧
    (k = kindB line → ∀ v2' nx', nx ≤ nx' → K (.val (.bool true)) (rws [(0, rHx v l A B (.ow 1 v1 (st.length + 1))), (1, rSx v1 st k (.ow 2 v2' ((ts ++ [t]).length + 1))), (2, rowL v2' 9 eS (ts ++ [t] ++ [line.drop 1]))]) 3 nx') ∧
    (k ≠ kindB line → ∀ v1' v2' nx', nx ≤ nx' → K (.val (.bool true)) (rws [(0, rHx v l A B (.ow 1 v1' ((st ++ [(k, ts ++ [t])]).length + 1))), (1, rSx v1' (st ++ [(k, ts ++ [t])]) (kindB line) (.ow 2 v2' 1)), (2, rowL v2' 9 eS [line.drop 1])]) 3 nx'))
theorem steps_end {st : List StE} {k : Int} {ts : List (List UInt8)} {t : List UInt8} {q v : Nat} : ∀ i, i < st.length + 1 → ∀ j, j < 2 → AVle (fz q v (ts.length + 1) 1 (fun i => eS.enc ((ts ++ [t]).getD i [])) (apC st.length (fun i => (eP eI (eL eS)).enc (st.getD i (0, []))) (fun _ j => if j = 0 then .val (.int .i64 k) else .ow q v (ts.length + 1)) i j)) ((eP eI (eL eS)).enc ((st ++ [(k, ts ++ [t])]).getD i (0, [])) j) := fun i hi j hj => by
  unfold apC
  by_cases h : i < st.length
  · rw [if_pos h, show (st ++ [(k, ts ++ [t])]).getD i (0, []) = st.getD i (0, []) by simp [List.getD, List.getElem?_append_left h]]
    match j, hj with
    | 0, _ => exact AVle.refl _
    | 1, _ => exact AVle.refl _
  · obtain rfl : i = st.length := by omega
    rw [if_neg h, show (st ++ [(k, ts ++ [t])]).getD st.length (0, []) = (k, ts ++ [t]) by simp [List.getD]]
    match j, hj with
    | 0, _ => exact AVle.refl _
    | 1, _ =>
      show AVle (fz q v (ts.length + 1) 1 (fun i => eS.enc ((ts ++ [t]).getD i [])) (.ow q v (ts.length + 1))) (sL eS (ts ++ [t]))
      have e : fz q v (ts.length + 1) 1 (fun i => eS.enc ((ts ++ [t]).getD i [])) (.ow q v (ts.length + 1)) = .sn (ts.length + 1) 1 (fun i => eS.enc ((ts ++ [t]).getD i [])) := if_pos ⟨rfl, rfl, Nat.le_refl _⟩
      rw [e]
      unfold sL
      rw [show (ts ++ [t]).length = ts.length + 1 by simp]
      exact AVle.refl _
theorem okReadLS : MethOK Tryz.prog 87 sReadLS := by
  refine MethOK.mk Tryz.func87 rfl (by decide) Tryz.results87 Tryz.ntmps87 ?_
  rintro args hp top nx K ⟨v, v1, v2, l, A, B, st, k, ts, t, line, rfl, rfl, rfl, ⟨hl, hl1, hl2, hl3⟩, hne, hll, hKa, hKb⟩
  have hΓ : GOK Tryz.prog (gam [(146, sIndexByte), (145, sDropE)]) := (.cons okIndexByte (.cons okDropE .nil))
  refine ⟨Nat.le_of_ble_eq_true rfl, AW.late ?_⟩
  have e1 : (((l.length + 1 : Nat) : Int) - 1).toNat = l.length := by omega
  have e2 : (((st.length + 1 : Nat) : Int) - 1).toNat = st.length := by omega
  have e3 : (((l.length + 1 : Nat) : Int) = 0) = False := eq_false (by omega)
  have hpos : 0 < line.length := List.length_pos_iff.2 hne
  by_cases hno : line = noEndB
  · have e4 : (line = [92, 32, 110, 111, 32, 101, 110, 100, 10]) = True := eq_true hno
    refine AW.of hΓ mixed [99999, 200013] _ _ _ rfl ?_
    simp only [go_sem, sIndexByte, sDropE, e1, e3, e4, apC_at, hk_sz, st_sz]
    refine ⟨by omega, by omega, by omega, ?_⟩
    refine dropE_go (p := 1) (q := 2) (st := st) (k := k) (ts := ts) (t := t) (u := v2) rfl (by decide) (RowLe.refl _) (by rw [rowL_snoc]; exact RowLe.refl _) (by decide) ⟨hl1, hl2, hl3⟩ fun nx' h1 => ?_
    simp only [go_sem, sIndexByte, sDropE]
    refine ⟨_, toFitsV (fun p => p) (l := [(4, .val (.bool true))]) (r := [(0, rHx v l A B (.ow 1 v1 (st.length + 1))), (1, rSx v1 st k (.ow 2 v2 (ts.length + 1))), (2, rowL v2 9 eS (ts ++ [Lib.trimSuffix t [10]]))]) (sz := 80) (top := 3) (nx := nx') (df := []) ?_, ?_⟩
    · simp only [go_sem, sIndexByte, sDropE]
      exact ⟨RowLe.refl _, RowLe.refl _, RowLe.refl _⟩
    · simp only [go_sem, sIndexByte, sDropE]
      have := hKa hno nx' h1
      rw [rowL_snoc] at this
      exact this
  obtain ⟨hk, hKc, hKd⟩ := hKb hno
  have e4 : (line = [92, 32, 110, 111, 32, 101, 110, 100, 10]) = False := eq_false hno
  have e6 : (kindB line < 0) = False := eq_false (by omega)
  have e7 : ((((st.length + 1 : Nat) : Int) - 1) < 0) = False := eq_false (by omega)
  by_cases hkk : k = kindB line
  · have e8 : (k = kindB line) = True := eq_true hkk
    refine AW.of hΓ mixed [99999, 200013] _ _ _ rfl ?_
    simp only [go_sem, sIndexByte, sDropE, e1, e2, e3, e4, e6, e7, e8, apC_at, hk_sz, kindB_eq, st_sz, kc_nil]
    refine ⟨by omega, by omega, by omega, by omega, by omega, by omega, by omega, by omega, ?_⟩
    refine AW.drawK hΓ mixed 16 [] [1, 2, 3] [] [0] (by decide +kernel) ?_
    simp only [go_sem, sIndexByte, sDropE, e1, e2, e3, e4, e6, e7, e8, apC_at, hk_sz, kindB_eq, st_sz, kc_nil]
    refine ⟨by omega, by omega, by omega, by omega, by omega, by omega, by omega, by omega, _, toFitsV (fun p => p) (l := [(4, .val (.bool true))]) (r := [(0, rHx v l A B (.ow 1 v1 (st.length + 1))), (1, rSx v1 st k (.ow 2 nx ((ts ++ [t]).length + 1))), (2, rowL nx 9 eS (ts ++ [t] ++ [line.drop 1]))]) (sz := 80) (top := 3) (nx := nx + 1) (df := []) ?_, ?_⟩
    · simp only [go_sem, sIndexByte, sDropE]
      refine ⟨RowLe.refl _, RowLe.sl rfl fun i hi j hj => st_put hi hj (AVle.refl _), ?_⟩
      · exact row_app1 (E := eS) (l := ts ++ [t]) rfl rfl (by simp) (by simp) (by simp) fun j hj => AVle.refl _
    · simp only [go_sem, sIndexByte, sDropE]
      have := hKc hkk nx (nx + 1) (by omega)
      rw [rowL_snoc, show (ts ++ [t]).length = ts.length + 1 by simp] at this
      exact this
  · have e8 : (k = kindB line) = False := eq_false hkk
    refine AW.freeze 2 v2 9 1 (ts.length + 1) (fun i => eS.enc ((ts ++ [t]).getD i [])) (by show rowL v2 9 eS (ts ++ [t]) = _; exact rowL_snoc _ _ _ _) (fun _ _ _ _ => rfl) ?_
    refine AW.cut ⟨[(0, .ow 0 v (l.length + 1)), (1, .st line)], [(0, rHx v l A B (.ow 1 v1 (st.length + 1))), (1, .sl v1 86 2 (st.length + 1) fun i => (eP eI (eL eS)).enc ((st ++ [(k, ts ++ [t])]).getD i (0, [])))], 80, 3, nx, []⟩ ?_ ?_
    · simp only [go_sem, sIndexByte, sDropE]
      refine ⟨hk_fz, RowLe.sl (by simp) steps_end⟩
    have e9 : (st ++ [(k, ts ++ [t])]).getD st.length (0, []) = (k, ts ++ [t]) := by simp [List.getD]
    refine AW.of hΓ mixed [99999, 200013] _ _ _ rfl ?_
    simp only [go_sem, sIndexByte, sDropE, e1, e2, e3, e4, e6, e7, e8, e9, apC_at, hk_sz, kindB_eq, st_sz, kc_nil, sp0, sp1]
    refine ⟨by omega, by omega, by omega, by omega, by omega, by omega, by omega, by omega, by omega, by omega, by omega, by omega, ?_⟩
    have e10 : (st ++ [(k, ts ++ [t])]).length = st.length + 1 := by simp
    generalize hst : st ++ [(k, ts ++ [t])] = st' at *
    refine AW.cut ⟨[(1, .st line), (5, .pe 0 v 3 l.length 0), (7, .val (.int .i64 st'.length))], [(0, rHx v l A B (.ow 1 nx (st'.length + 1))), (1, rSx nx st' (kindB line) .em)], 80, 3, nx + 1, []⟩ ?_ ?_
    · simp only [go_sem, sIndexByte, sDropE, e10]
      exact ⟨by omega, RowLe.sl rfl fun i hi j hj => hk_put hi hj (AVle.refl _), RowLe.sl (by rw [e10]) fun i hi j hj => by
        rw [e10]
        unfold apC
        by_cases h : i < st.length + 1
        · rw [if_pos h, if_pos h]; exact AVle.refl _
        · rw [if_neg h, if_neg h]
          obtain rfl : i = st.length + 1 := by omega
          rw [Nat.sub_self]
          match j, hj with
          | 0, _ => exact AVle.refl _
          | 1, _ => exact AVle.refl _⟩
    refine AW.drawK hΓ mixed 16 [] [1, 2, 3] [] [0] (by decide +kernel) ?_
    simp only [go_sem, sIndexByte, sDropE, e1, e2, e3, e4, e6, e7, e8, e9, apC_at, hk_sz, kindB_eq, st_sz, kc_nil, sp0, sp1]
    refine ⟨by omega, by omega, by omega, by omega, by omega, by omega, by omega, _, toFitsV (fun p => if p = 2 then 3 else p) (l := [(4, .val (.bool true))]) (r := [(0, rHx v l A B (.ow 1 nx (st'.length + 1))), (1, rSx nx st' (kindB line) (.ow 2 (nx + 1) 1)), (2, rowL (nx + 1) 9 eS [line.drop 1])]) (sz := 80) (top := 3) (nx := nx + 2) (df := []) ?_, ?_⟩
    · simp only [go_sem, sIndexByte, sDropE]
      exact ⟨rHx_le, RowLe.sl rfl fun i hi j hj => st_put hi hj AVle.ow, one_text⟩
    · simp only [go_sem, sIndexByte, sDropE]
      have := hKd hkk nx (nx + 1) (nx + 2) (by omega)
      exact this
def sReadL : MSpec := fun args hp top nx K => sReadLH args hp top nx K ∨ sReadLS args hp top nx K
theorem okReadL : MethOK Tryz.prog 87 sReadL := okReadLH.or okReadLS
end Go.Proofs.YthpjjjnbkfnghaaGreatDoor
set_option linter.unusedSimpArgs false
set_option linter.unusedVariables false
set_option maxRecDepth 100000
set_option maxHeartbeats 8000000
namespace Go.Proofs.YthpjjjnbkfnghaaGreatDoor
open Go
attribute [local irreducible] AW AVle ASle RowLe
theorem txtH_take {l : List Hk} {i : Nat} (h : i < l.length) : txtH (l.take (i + 1)) = txtH (l.take i) ++ hunkT (l.getD i (0, 0, [])) := by
  rw [take_snocE l (0, 0, []) h]; simp [txtH]
theorem txtH_le (l : List Hk) (i : Nat) : (txtH (l.take i)).length ≤ (txtH l).length := by
  have h : txtH (l.take i ++ l.drop i) = txtH (l.take i) ++ txtH (l.drop i) := by unfold txtH; rw [List.map_append, List.flatten_append]
  rw [List.take_append_drop] at h
  rw [h, List.length_append]
  omega
def stepsT (st : List StE) : List UInt8 := (st.map stepT).flatten
theorem stepsT_take {l : List StE} {i : Nat} (h : i < l.length) : stepsT (l.take (i + 1)) = stepsT (l.take i) ++ stepT (l.getD i (0, [])) := by
  rw [take_snocE l (0, []) h]; simp [stepsT]
theorem stepsT_le (l : List StE) (i : Nat) : (stepsT (l.take i)).length ≤ (stepsT l).length := by
  have h : stepsT (l.take i ++ l.drop i) = stepsT (l.take i) ++ stepsT (l.drop i) := by unfold stepsT; rw [List.map_append, List.flatten_append]
  rw [List.take_append_drop] at h
  rw [h, List.length_append]
  omega
def linesT (k : Int) (ts : List (List UInt8)) : List UInt8 := (ts.map (lineP k)).flatten
theorem linesT_take {k : Int} {l : List (List UInt8)} {i : Nat} (h : i < l.length) : linesT k (l.take (i + 1)) = linesT k (l.take i) ++ lineP k (l.getD i []) := by
  rw [take_snocE l [] h]; simp [linesT]
theorem linesT_le (k : Int) (l : List (List UInt8)) (i : Nat) : (linesT k (l.take i)).length ≤ (linesT k l).length := by
  have h : linesT k (l.take i ++ l.drop i) = linesT k (l.take i) ++ linesT k (l.drop i) := by unfold linesT; rw [List.map_append, List.flatten_append]
  rw [List.take_append_drop] at h
  rw [h, List.length_append]
  omega
theorem head_ne (h : Hk) : headP h ≠ [] := by simp [headP, opnB]
theorem right_mem : ∀ {l : List Hk} {n s : Int}, rightP l n s = true → ∀ h ∈ l, rightE (-1) h.2.2 = true
  | [], _, _, _, h, hm => by cases hm
  | g :: r, n, s, hr, h, hm => by
    rw [rightP, Bool.and_eq_true] at hr
    rcases List.mem_cons.1 hm with rfl | hm
    · have := hr.1
      unfold hunkP at this
      simp only [Bool.and_eq_true] at this
      exact this.1.1
    · exact right_mem hr.2 h hm
theorem dec_hk (hp : Nat → Row) (h : Hk) : (kA (eP eI (eP eI (eL (eP eI (eL eS)))))).dec (.ag 3 fun j => if j < 3 then vw0 hp ((eP eI (eP eI (eL (eP eI (eL eS))))).enc h j) else .any) = h := by
  show (h.1, h.2.1, gL (eP eI (eL eS)) (sL (eP eI (eL eS)) h.2.2)) = h
  rw [gL_sL]
theorem ok_hk (hp : Nat → Row) (h : Hk) : (kA (eP eI (eP eI (eL (eP eI (eL eS)))))).ok (.ag 3 fun j => if j < 3 then vw0 hp ((eP eI (eP eI (eL (eP eI (eL eS))))).enc h j) else .any) = True := by
  refine eq_true ?_
  unfold Kd.ok
  rw [dec_hk]
  refine AVle.ag fun j hj => ?_
  match j, hj with
  | 0, _ => exact AVle.refl _
  | 1, _ => exact AVle.refl _
  | 2, _ => exact AVle.refl _
def sTextPt : Spec := Spec.f1 (kL (eP eI (eP eI (eL (eP eI (eL eS)))))) (fun l => okHs l ∧ (∀ h ∈ l, (0 ≤ h.1 ∧ h.1 ≤ 1000000) ∧ 0 ≤ h.2.1 ∧ h.2.1 ≤ 100000000) ∧ (txtH l).length ≤ 50000000000) (fun l => kS.enc (textP0 l))
theorem okTextPt : SpecOK Tryz.prog 32 sTextPt := by
  refine SpecOK.f1 Tryz.func32 rfl (by decide) Tryz.results32 Tryz.ntmps32 (by decide) fun l ⟨ho, hb, hlen⟩ => ?_
  have hΓ : GOK Tryz.prog (gam [(49, sRightP), (89, sHeadP), (88, sWriteX), (90, sWriteB), (91, sHasSufP), (92, sStrX)]) := (.cons okRightP (.cons okHeadP (.cons okWriteX (.cons okWriteB (.cons okHasSufP (.cons okStrX .nil))))))
  have hR0 : rightP l 0 0 = true ∨ rightP l 0 0 = false := by cases rightP l 0 0 <;> simp
  rcases hR0 with hR | hR
  · have eT : textP0 l = txtH l := by unfold textP0; rw [if_pos hR]
    have hl0 := ho.1
    rw [eT]
    refine AW.of hΓ mixed [0] _ _ _ rfl ?_
    simp only [go_sem, sRightP, sHeadP, sWriteX, sWriteB, sHasSufP, sStrX, hk_sz]
    refine AW.seqTo (fun _ : Unit => Sh.st ⟨[(0, sL (eP eI (eP eI (eL (eP eI (eL eS))))) l)], [], 50, 0, 0, []⟩) ?_ fun _ => ?_
    · refine AW.of hΓ mixed [] _ _ _ rfl ?_
      simp only [go_sem, sRightP, sHeadP, sWriteX, sWriteB, sHasSufP, sStrX, hk_sz, hR]
      refine ⟨ho, (), toFits ?_⟩
      simp only [go_sem, sRightP, sHeadP, sWriteX, sWriteB, sHasSufP, sStrX]
    refine AW.fork (AW.regionO hΓ [true] ?_)
    simp only [go_sem, sRightP, sHeadP, sWriteX, sWriteB, sHasSufP, sStrX]
    refine alloc_wp rfl zero138 (Nat.lt_of_lt_of_le (by decide : 3 < 50) (Nat.le_refl _)) ?_
    simp only [go_sem, sRightP, sHeadP, sWriteX, sWriteB, sHasSufP, sStrX]
    refine AW.cut ⟨[(0, sL (eP eI (eP eI (eL (eP eI (eL eS))))) l), (3, .pt 0 0 0)], [(0, .box 0 138 2 (bldX false 0 0 1 0 [])), (1, rowX 0 [])], 50, 2, 1, []⟩ ?_ ?_
    · simp only [go_sem, sRightP, sHeadP, sWriteX, sWriteB, sHasSufP, sStrX]
      refine ⟨RowLe.box fun j hj => ?_, RowLe.refl _⟩
      match j, hj with
      | 0, _ => exact AVle.refl _
      | 1, _ => exact AVle.refl _
    refine AW.of hΓ mixed [] _ _ _ rfl ?_
    simp only [go_sem, sRightP, sHeadP, sWriteX, sWriteB, sHasSufP, sStrX, hk_sz]
    refine AW.round (α := { x : Nat × Bool × Nat × Nat // x.1 ≤ l.length })
      (fun x => ⟨[(3, .pt 0 0 0), (13, sL (eP eI (eP eI (eL (eP eI (eL eS))))) l), (14, .val (.int .i64 l.length)), (15, .val (.int .i64 x.1.1))],
        [(0, .box 0 138 2 (bldX x.1.2.1 0 0 1 x.1.2.2.1 (txtH (l.take x.1.1)))), (1, rowX x.1.2.2.1 (txtH (l.take x.1.1)))], 50, 2, x.1.2.2.2, []⟩) (fun x => l.length - x.1.1) ⟨(0, false, 0, 1), Nat.zero_le _⟩ ?_ ?_
    · simp only [go_sem, sRightP, sHeadP, sWriteX, sWriteB, sHasSufP, sStrX, hk_sz]
      rw [show txtH (List.take 0 l) = [] by simp [txtH]]
      exact ⟨RowLe.refl _, RowLe.refl _⟩
    · rintro ⟨⟨i, f, u, nx⟩, hi⟩
      dsimp only at hi
      rcases Nat.lt_or_ge i l.length with hlt | hge
      · have hlI : ((i : Int) < (l.length : Nat)) = True := eq_true (by omega)
        have hm : l.getD i (0, 0, []) ∈ l := by
          simp only [List.getD, List.getElem?_eq_getElem hlt, Option.getD_some]
          exact List.getElem_mem _
        have hh := hb _ hm
        have hre := right_mem hR _ hm
        have hok := ho.2 _ hm
        have e1 := txtH_take hlt
        have e2 := txtH_le l (i + 1)
        generalize hge : l.getD i (0, 0, []) = g at *
        refine AW.of hΓ mixed [6, 8] _ _ _ rfl ?_
        simp only [go_sem, sRightP, sHeadP, sWriteX, sWriteB, sHasSufP, sStrX, hk_sz, hk_d, hlI, hge]
        refine ⟨by omega, ?_⟩
        obtain ⟨A, B, st⟩ := g
        dsimp only at hh hre
        refine AW.cut ⟨[(3, .pt 0 0 0), (5, .pt 2 nx 0), (13, sL (eP eI (eP eI (eL (eP eI (eL eS))))) l), (14, .val (.int .i64 l.length)), (15, .val (.int .i64 i))],
          [(0, .box 0 138 2 (bldX f 0 0 1 u (txtH (l.take i)))), (1, rowX u (txtH (l.take i))), (2, .box nx 84 3 ((eP eI (eP eI (eL (eP eI (eL eS))))).enc (A, B, st)))], 50, 3, nx + 1, []⟩ ?_ ?_
        · simp only [go_sem, sRightP, sHeadP, sWriteX, sWriteB, sHasSufP, sStrX, hk_sz]
          exact ⟨RowLe.refl _, RowLe.refl _, RowLe.box fun j hj => AVle.of_eq (stC_in (Nat.zero_le _) (by omega))⟩
        obtain ⟨⟨k1, k2⟩, k3, k4⟩ := hok
        dsimp only at k1 k2 k3 k4
        refine AW.of hΓ mixed [7, 8] _ _ _ rfl ?_
        simp only [go_sem, sRightP, sHeadP, sWriteX, sWriteB, sHasSufP, sStrX, hk_sz, hk_d, hk0, hk1, hk2, ok_hk]
        have hT : hunkT (A, B, st) = headP (A, B, st) ++ stepsT st := rfl
        rw [hT] at e1
        have e3 : (txtH (l.take i)).length + (headP (A, B, st)).length + (stepsT st).length ≤ 50000000000 := by
          rw [e1] at e2
          simp only [List.length_append] at e2
          omega
        refine ⟨⟨hh.1, hh.2, k1, k2⟩, writeX_go (by decide) (RowLe.refl _) (RowLe.refl _) (by decide) (by omega) fun u1 n1 g1 h1 => ?_⟩
        simp only [go_sem, sRightP, sHeadP, sWriteX, sWriteB, sHasSufP, sStrX, hk_sz, hk_d, hk0, hk1, hk2]
        refine AW.of hΓ mixed [8] _ _ _ rfl ?_
        simp only [go_sem, sRightP, sHeadP, sWriteX, sWriteB, sHasSufP, sStrX, hk_sz, hk_d, hk0, hk1, hk2]
        refine AW.to (fun x : Nat × Nat => Sh.st ⟨[(3, .pt 0 0 0), (13, sL (eP eI (eP eI (eL (eP eI (eL eS))))) l), (14, .val (.int .i64 l.length)), (15, .val (.int .i64 i))],
          [(0, .box 0 138 2 (bldX true 0 0 1 x.1 (txtH (l.take (i + 1))))), (1, rowX x.1 (txtH (l.take (i + 1))))], 50, 2, x.2, []⟩) ?_ fun x => ?_
        · refine AW.block (AW.round (α := { x : Nat × Nat × Nat // x.1 ≤ st.length })
            (fun x => ⟨[(3, .pt 0 0 0), (13, sL (eP eI (eP eI (eL (eP eI (eL eS))))) l), (14, .val (.int .i64 l.length)), (15, .val (.int .i64 i)), (23, sL (eP eI (eL eS)) st), (24, .val (.int .i64 st.length)), (25, .val (.int .i64 x.1.1))],
              [(0, .box 0 138 2 (bldX true 0 0 1 x.1.2.1 (txtH (l.take i) ++ headP (A, B, st) ++ stepsT (st.take x.1.1)))), (1, rowX x.1.2.1 (txtH (l.take i) ++ headP (A, B, st) ++ stepsT (st.take x.1.1)))], 50, 2, x.1.2.2, []⟩) (fun x => st.length - x.1.1) ⟨(0, u1, n1), Nat.zero_le _⟩ ?_ ?_)
          · simp only [go_sem, sRightP, sHeadP, sWriteX, sWriteB, sHasSufP, sStrX, hk_sz, hk_d, hk0, hk1, hk2]
            rw [show stepsT (List.take 0 st) = [] by simp [stepsT], List.append_nil]
            exact ⟨RowLe.refl _, RowLe.refl _⟩
          · rintro ⟨⟨j, u2, n2⟩, hj⟩
            dsimp only at hj
            rcases Nat.lt_or_ge j st.length with hjt | hjg
            · have hjI : ((j : Int) < (st.length : Nat)) = True := eq_true (by omega)
              have jm : st.getD j (0, []) ∈ st := by
                simp only [List.getD, List.getElem?_eq_getElem hjt, Option.getD_some]
                exact List.getElem_mem _
              have jk := right_kind hre _ jm
              have j2 := k2 _ jm
              have j3 := k3 _ jm
              have d1 := stepsT_take hjt
              have d2 := stepsT_le st (j + 1)
              generalize hgj : st.getD j (0, []) = s at *
              refine AW.of hΓ mixed [10, 11] _ _ _ rfl ?_
              simp only [go_sem, sRightP, sHeadP, sWriteX, sWriteB, sHasSufP, sStrX, st_sz, st_d, hjI, hgj]
              refine ⟨by omega, ?_⟩
              obtain ⟨k, ts⟩ := s
              dsimp only at jk j2 j3
              have hsT : stepT (k, ts) = linesT k ts := rfl
              rw [hsT] at d1
              have hne : txtH (l.take i) ++ headP (A, B, st) ++ stepsT (st.take j) ≠ [] := by simp [head_ne]
              have hnl : (txtH (l.take i) ++ headP (A, B, st) ++ stepsT (st.take j)).length + (linesT k ts).length ≤ 50000000000 := by
                rw [d1] at d2
                simp only [List.length_append] at d2 ⊢
                omega
              have d3 : txtH (l.take i) ++ headP (A, B, st) ++ stepsT (st.take (j + 1)) = txtH (l.take i) ++ headP (A, B, st) ++ stepsT (st.take j) ++ linesT k ts := by rw [d1, ← List.append_assoc]
              generalize hP : txtH (l.take i) ++ headP (A, B, st) ++ stepsT (st.take j) = pre at d3 hne hnl ⊢
              refine AW.cut ⟨[(3, .pt 0 0 0), (7, .pt 2 n2 0), (13, sL (eP eI (eP eI (eL (eP eI (eL eS))))) l), (14, .val (.int .i64 l.length)), (15, .val (.int .i64 i)), (23, sL (eP eI (eL eS)) st), (24, .val (.int .i64 st.length)), (25, .val (.int .i64 j))],
                [(0, .box 0 138 2 (bldX true 0 0 1 u2 pre)), (1, rowX u2 pre), (2, .box n2 86 2 ((eP eI (eL eS)).enc (k, ts)))], 50, 3, n2 + 1, []⟩ ?_ ?_
              · simp only [go_sem, sRightP, sHeadP, sWriteX, sWriteB, sHasSufP, sStrX, st_sz]
                exact ⟨RowLe.refl _, RowLe.refl _, RowLe.box fun j hj => AVle.of_eq (stC_in (Nat.zero_le _) (by omega))⟩
              refine AW.of hΓ mixed [11] _ _ _ rfl ?_
              simp only [go_sem, sRightP, sHeadP, sWriteX, sWriteB, sHasSufP, sStrX, st_sz, st_d, sp0, sp1]
              refine AW.to (fun x : Nat × Nat => Sh.st ⟨[(3, .pt 0 0 0), (13, sL (eP eI (eP eI (eL (eP eI (eL eS))))) l), (14, .val (.int .i64 l.length)), (15, .val (.int .i64 i)), (23, sL (eP eI (eL eS)) st), (24, .val (.int .i64 st.length)), (25, .val (.int .i64 j))],
                [(0, .box 0 138 2 (bldX true 0 0 1 x.1 (pre ++ linesT k ts))), (1, rowX x.1 (pre ++ linesT k ts))], 50, 2, x.2, []⟩) ?_ fun x => ?_
              · refine AW.block (AW.round (α := { x : Nat × Nat × Nat // x.1 ≤ ts.length })
                  (fun x => ⟨[(3, .pt 0 0 0), (7, .pt 2 n2 0), (13, sL (eP eI (eP eI (eL (eP eI (eL eS))))) l), (14, .val (.int .i64 l.length)), (15, .val (.int .i64 i)), (23, sL (eP eI (eL eS)) st), (24, .val (.int .i64 st.length)), (25, .val (.int .i64 j)), (30, sL eS ts), (31, .val (.int .i64 ts.length)), (32, .val (.int .i64 x.1.1))],
                    [(0, .box 0 138 2 (bldX true 0 0 1 x.1.2.1 (pre ++ linesT k (ts.take x.1.1)))), (1, rowX x.1.2.1 (pre ++ linesT k (ts.take x.1.1))), (2, .box n2 86 2 ((eP eI (eL eS)).enc (k, ts)))], 50, 3, x.1.2.2, []⟩) (fun x => ts.length - x.1.1) ⟨(0, u2, n2 + 1), Nat.zero_le _⟩ ?_ ?_)
                · simp only [go_sem, sRightP, sHeadP, sWriteX, sWriteB, sHasSufP, sStrX, st_sz, st_d, sp0, sp1]
                  rw [show linesT k (List.take 0 ts) = [] by simp [linesT], List.append_nil]
                  exact ⟨RowLe.refl _, RowLe.refl _, RowLe.refl _⟩
                · rintro ⟨⟨m, u3, n3⟩, hm'⟩
                  dsimp only at hm'
                  rcases Nat.lt_or_ge m ts.length with hmt | hmg
                  · have hmI : ((m : Int) < (ts.length : Nat)) = True := eq_true (by omega)
                    have t1 := linesT_take (k := k) hmt
                    have t2 := linesT_le k ts (m + 1)
                    have t3 : (ts.getD m []).length ≤ 100000000 := by
                      simp only [List.getD, List.getElem?_eq_getElem hmt, Option.getD_some]
                      exact j3 _ (List.getElem_mem _)
                    have hne2 : pre ++ linesT k (ts.take m) ≠ [] := by simp [hne]
                    have hnl2 : (pre ++ linesT k (ts.take m)).length + (lineP k (ts.getD m [])).length ≤ 50000000000 := by
                      rw [t1] at t2
                      simp only [List.length_append] at t2 ⊢
                      omega
                    have t5 : pre ++ linesT k (ts.take (m + 1)) = pre ++ linesT k (ts.take m) ++ lineP k (ts.getD m []) := by rw [t1, ← List.append_assoc]
                    generalize hline : ts.getD m [] = line at t3 hnl2 t5 ⊢
                    generalize hQ : pre ++ linesT k (ts.take m) = acc at hne2 hnl2 t5 ⊢
                    have hsx := suf_ends line
                    cases hE : endsL line with
                    | true =>
                      have hL : acc ++ [sgnB k] ++ line = acc ++ lineP k line := by unfold lineP; rw [if_pos hE]; simp
                      have hLl : (lineP k line).length = line.length + 1 := by unfold lineP; rw [if_pos hE]; simp
                      rw [hE] at hsx
                      refine AW.of hΓ mixed [99999] _ _ _ rfl ?_
                      simp only [go_sem, sRightP, sHeadP, sWriteX, sWriteB, sHasSufP, sStrX, st_sz, st_d, sp0, sp1, hmI, hline, hsx]
                      refine ⟨by omega, ⟨by omega, by omega⟩, writeB_go (b := sgnB k) (by decide) (RowLe.refl _) (RowLe.refl _) (by decide) hne2 (by omega) fun u4 n4 g4 h4 => ?_⟩
                      simp only [go_sem, sRightP, sHeadP, sWriteX, sWriteB, sHasSufP, sStrX, hsx]
                      refine writeX_go (by decide) (RowLe.refl _) (RowLe.refl _) (by decide) (by simp only [List.length_append, List.length_cons, List.length_nil]; omega) fun u5 n5 g5 h5 => ?_
                      simp only [go_sem, sRightP, sHeadP, sWriteX, sWriteB, sHasSufP, sStrX, hsx]
                      exact ⟨by omega, by omega, ⟨(m + 1, u5, n5), by dsimp only; omega⟩, ⟨Nat.le_refl _, by dsimp only; omega, by dsimp only; rw [t5, ← hL]; exact RowLe.refl _, by dsimp only; rw [t5, ← hL]; exact RowLe.refl _, RowLe.refl _⟩, by dsimp only; omega⟩
                    | false =>
                      have hL : acc ++ [sgnB k] ++ line ++ (10 :: noEndB) = acc ++ lineP k line := by unfold lineP; rw [if_neg (by rw [hE]; simp)]; simp
                      have hLl : (lineP k line).length = line.length + 11 := by unfold lineP; rw [if_neg (by rw [hE]; simp)]; simp [noEndB]
                      rw [hE] at hsx
                      refine AW.of hΓ mixed [99999] _ _ _ rfl ?_
                      simp only [go_sem, sRightP, sHeadP, sWriteX, sWriteB, sHasSufP, sStrX, st_sz, st_d, sp0, sp1, hmI, hline, hsx]
                      refine ⟨by omega, ⟨by omega, by omega⟩, writeB_go (b := sgnB k) (by decide) (RowLe.refl _) (RowLe.refl _) (by decide) hne2 (by omega) fun u4 n4 g4 h4 => ?_⟩
                      simp only [go_sem, sRightP, sHeadP, sWriteX, sWriteB, sHasSufP, sStrX, hsx]
                      refine writeX_go (by decide) (RowLe.refl _) (RowLe.refl _) (by decide) (by simp only [List.length_append, List.length_cons, List.length_nil]; omega) fun u5 n5 g5 h5 => ?_
                      simp only [go_sem, sRightP, sHeadP, sWriteX, sWriteB, sHasSufP, sStrX, hsx]
                      refine ⟨by omega, writeX_go (s := 10 :: noEndB) (by decide) (RowLe.refl _) (RowLe.refl _) (by decide) (by simp only [List.length_append, List.length_cons, List.length_nil, noEndB]; omega) fun u6 n6 g6 h6 => ?_⟩
                      simp only [go_sem, sRightP, sHeadP, sWriteX, sWriteB, sHasSufP, sStrX, hsx]
                      exact ⟨by omega, ⟨(m + 1, u6, n6), by dsimp only; omega⟩, ⟨Nat.le_refl _, by dsimp only; omega, by dsimp only; rw [t5, ← hL]; exact RowLe.refl _, by dsimp only; rw [t5, ← hL]; exact RowLe.refl _, RowLe.refl _⟩, by dsimp only; omega⟩
                  · obtain rfl : m = ts.length := by omega
                    have hmI : ((ts.length : Int) < (ts.length : Nat)) = False := eq_false (by omega)
                    refine AW.of hΓ mixed [99999] _ _ _ rfl ?_
                    simp only [go_sem, sRightP, sHeadP, sWriteX, sWriteB, sHasSufP, sStrX, hmI]
                    refine ⟨(u3, n3), toFits ?_⟩
                    simp only [go_sem, sRightP, sHeadP, sWriteX, sWriteB, sHasSufP, sStrX]
                    exact ⟨RowLe.refl _, RowLe.refl _⟩
              · simp only [go_sem, sRightP, sHeadP, sWriteX, sWriteB, sHasSufP, sStrX]
                exact ⟨by omega, ⟨(j + 1, x.1, x.2), by dsimp only; omega⟩, ⟨Nat.le_refl _, by dsimp only; omega, by dsimp only; rw [d3]; exact RowLe.refl _, by dsimp only; rw [d3]; exact RowLe.refl _⟩, by dsimp only; omega⟩
            · obtain rfl : j = st.length := by omega
              have hjI : ((st.length : Int) < (st.length : Nat)) = False := eq_false (by omega)
              refine AW.of hΓ mixed [99999] _ _ _ rfl ?_
              simp only [go_sem, sRightP, sHeadP, sWriteX, sWriteB, sHasSufP, sStrX, hjI]
              refine ⟨(u2, n2), toFits ?_⟩
              simp only [go_sem, sRightP, sHeadP, sWriteX, sWriteB, sHasSufP, sStrX]
              rw [e1, ← List.append_assoc]
              exact ⟨RowLe.refl _, RowLe.refl _⟩
        · simp only [go_sem, sRightP, sHeadP, sWriteX, sWriteB, sHasSufP, sStrX]
          exact ⟨by omega, ⟨(i + 1, true, x.1, x.2), by dsimp only; omega⟩, ⟨Nat.le_refl _, by dsimp only; omega, RowLe.refl _, RowLe.refl _⟩, by dsimp only; omega⟩
      · obtain rfl : i = l.length := by omega
        have hlI : ((l.length : Int) < (l.length : Nat)) = False := eq_false (by omega)
        refine AW.of hΓ mixed [99999] _ _ _ rfl ?_
        simp only [go_sem, sRightP, sHeadP, sWriteX, sWriteB, sHasSufP, sStrX, hlI]
        exact ⟨f, 0, 0, 1, u, txtH l, rfl, rfl, rfl, by omega, rfl⟩
  · have eT : textP0 l = [] := by unfold textP0; rw [if_neg (by rw [hR]; simp)]
    rw [eT]
    refine AW.of hΓ mixed [99999] _ _ _ rfl ?_
    simp only [go_sem, sRightP, sHeadP, sWriteX, sWriteB, sHasSufP, sStrX, hk_sz, hR]
    exact ho
end Go.Proofs.YthpjjjnbkfnghaaGreatDoor
set_option linter.unusedVariables false
namespace Go.Proofs.YthpjjjnbkfnghaaGreatDoor
section
variable (a b : List Int)
def nextR (x : Int) (prev : Nat → Nat) : Nat → Nat
  | 0 => 0
  | k + 1 => if x = b.getD k 0 then prev k + 1 else max (prev (k + 1)) (nextR x prev k)
def tabL : Nat → Nat → Nat
  | 0 => fun _ => 0
  | i + 1 => nextR b (a.getD i 0) (tabL i)
end
section
variable {a b : List Int}
theorem tabL_0 (k : Nat) : tabL a b 0 k = 0 := rfl
theorem tabL_i0 (i : Nat) : tabL a b i 0 = 0 := by cases i <;> rfl
theorem tabL_eq {i k : Nat} (h : a.getD i 0 = b.getD k 0) : tabL a b (i + 1) (k + 1) = tabL a b i k + 1 := by
  show nextR b (a.getD i 0) (tabL a b i) (k + 1) = _
  rw [nextR, if_pos h]
theorem tabL_ne {i k : Nat} (h : a.getD i 0 ≠ b.getD k 0) : tabL a b (i + 1) (k + 1) = max (tabL a b i (k + 1)) (tabL a b (i + 1) k) := by
  show nextR b (a.getD i 0) (tabL a b i) (k + 1) = _
  rw [nextR, if_neg h]
  rfl
theorem tabL_steps : ∀ (n i k : Nat), i + k ≤ n → tabL a b i k ≤ tabL a b (i + 1) k ∧ tabL a b (i + 1) k ≤ tabL a b i k + 1 ∧ tabL a b i k ≤ tabL a b i (k + 1) ∧ tabL a b i (k + 1) ≤ tabL a b i k + 1
  | n, i, k, hn => by
    have hB : ∀ i k, i + k ≤ n → tabL a b i k ≤ tabL a b i (k + 1) ∧ tabL a b i (k + 1) ≤ tabL a b i k + 1 := by
      intro i k hik
      cases i with
      | zero => simp [tabL_0]
      | succ i =>
        cases n with
        | zero => omega
        | succ n =>
          have h1 := tabL_steps n i k (by omega)
          by_cases h : a.getD i 0 = b.getD k 0
          · rw [tabL_eq h]; omega
          · rw [tabL_ne h]; omega
    have hA : tabL a b i k ≤ tabL a b (i + 1) k ∧ tabL a b (i + 1) k ≤ tabL a b i k + 1 := by
      cases k with
      | zero => simp [tabL_i0]
      | succ k =>
        cases n with
        | zero => omega
        | succ n =>
          have h1 := tabL_steps n i k (by omega)
          by_cases h : a.getD i 0 = b.getD k 0
          · rw [tabL_eq h]; omega
          · have h2 := hB i k (by omega)
            rw [tabL_ne h]; omega
    exact ⟨hA.1, hA.2, hB i k hn⟩
theorem tabL_right (i k : Nat) : tabL a b i k ≤ tabL a b (i + 1) k ∧ tabL a b (i + 1) k ≤ tabL a b i k + 1 := ⟨(tabL_steps _ i k (Nat.le_refl _)).1, (tabL_steps _ i k (Nat.le_refl _)).2.1⟩
theorem tabL_down (i k : Nat) : tabL a b i k ≤ tabL a b i (k + 1) ∧ tabL a b i (k + 1) ≤ tabL a b i k + 1 := (tabL_steps _ i k (Nat.le_refl _)).2.2
theorem tabL_diag (i k : Nat) : tabL a b (i + 1) (k + 1) ≤ tabL a b i k + 1 := by
  by_cases h : a.getD i 0 = b.getD k 0
  · rw [tabL_eq h]; omega
  · rw [tabL_ne h]
    have := tabL_right (a := a) (b := b) i k
    have := tabL_down (a := a) (b := b) i k
    omega
theorem tabL_le (i k : Nat) : tabL a b i k ≤ i ∧ tabL a b i k ≤ k := by
  induction i with
  | zero => simp [tabL_0]
  | succ i ih =>
    constructor
    · have := (tabL_right (a := a) (b := b) i k).2; omega
    · clear ih
      induction k with
      | zero => simp [tabL_i0]
      | succ k ih => have := (tabL_down (a := a) (b := b) (i + 1) k).2; omega
end
theorem sub_snoc {c l : List Int} {z : Int} (h : c.Sublist (l ++ [z])) : c.Sublist l ∨ ∃ d, c = d ++ [z] ∧ d.Sublist l := by
  rw [List.sublist_append_iff] at h
  obtain ⟨c1, c2, rfl, h1, h2⟩ := h
  cases c2 with
  | nil => exact .inl (by simpa using h1)
  | cons y r =>
    have hl := h2.length_le
    simp only [List.length_cons, List.length_nil] at hl
    have hr : r = [] := List.length_eq_zero_iff.1 (by omega)
    subst hr
    have hy : y = z := by
      have := h2.subset (List.mem_cons_self ..)
      simpa using this
    subst hy
    exact .inr ⟨c1, rfl, h1⟩
theorem take_snoc' {l : List Int} {i : Nat} (h : i < l.length) : l.take (i + 1) = l.take i ++ [l.getD i 0] := by
  rw [List.take_add_one, gd_lt _ _ h]; simp [h]
section
variable {a b : List Int}
theorem tabL_max : ∀ (n i k : Nat), i + k ≤ n → i ≤ a.length → k ≤ b.length → ∀ c : List Int, c.Sublist (a.take i) → c.Sublist (b.take k) → c.length ≤ tabL a b i k
  | n, 0, k, _, _, _, c, h1, _ => by simp at h1; simp [h1]
  | n, i + 1, 0, _, _, _, c, _, h2 => by simp at h2; simp [h2]
  | 0, i + 1, k + 1, hn, _, _, _, _, _ => by omega
  | n + 1, i + 1, k + 1, hn, hi, hk, c, h1, h2 => by
    have h1' := h1
    have h2' := h2
    rw [take_snoc' (by omega)] at h1 h2
    by_cases h : a.getD i 0 = b.getD k 0
    · rw [tabL_eq h]
      have d1 : c.dropLast.Sublist (a.take i) := by
        rcases sub_snoc h1 with h | ⟨d, rfl, h⟩
        · exact (List.dropLast_sublist c).trans h
        · simpa using h
      have d2 : c.dropLast.Sublist (b.take k) := by
        rcases sub_snoc h2 with h | ⟨d, rfl, h⟩
        · exact (List.dropLast_sublist c).trans h
        · simpa using h
      have := tabL_max n i k (by omega) (by omega) (by omega) _ d1 d2
      simp at this
      omega
    · rw [tabL_ne h]
      rcases sub_snoc h1 with g1 | ⟨d, rfl, g1⟩
      · have := tabL_max n i (k + 1) (by omega) (by omega) hk c g1 h2'
        omega
      · rcases sub_snoc h2 with g2 | ⟨e, he, g2⟩
        · have := tabL_max n (i + 1) k (by omega) hi (by omega) _ h1' g2
          omega
        · have := List.append_inj' he rfl
          simp at this
          exact absurd this.2 h
theorem tabL_some : ∀ (n i k : Nat), i + k ≤ n → i ≤ a.length → k ≤ b.length → ∃ c : List Int, c.Sublist (a.take i) ∧ c.Sublist (b.take k) ∧ c.length = tabL a b i k
  | n, 0, k, _, _, _ => ⟨[], by simp, by simp, rfl⟩
  | n, i + 1, 0, _, _, _ => ⟨[], by simp, by simp, by simp [tabL_i0]⟩
  | 0, i + 1, k + 1, hn, _, _ => by omega
  | n + 1, i + 1, k + 1, hn, hi, hk => by
    by_cases h : a.getD i 0 = b.getD k 0
    · obtain ⟨c, h1, h2, h3⟩ := tabL_some n i k (by omega) (by omega) (by omega)
      refine ⟨c ++ [a.getD i 0], ?_, ?_, ?_⟩
      · rw [take_snoc' (by omega)]; exact h1.append (List.Sublist.refl _)
      · rw [take_snoc' (by omega), h]; exact h2.append (List.Sublist.refl _)
      · rw [tabL_eq h]; simp [h3]
    · rw [tabL_ne h]
      rcases Nat.le_total (tabL a b i (k + 1)) (tabL a b (i + 1) k) with g | g
      · obtain ⟨c, h1, h2, h3⟩ := tabL_some n (i + 1) k (by omega) hi (by omega)
        refine ⟨c, h1, ?_, by omega⟩
        rw [take_snoc' (by omega)]
        exact h2.trans (List.sublist_append_left _ _)
      · obtain ⟨c, h1, h2, h3⟩ := tabL_some n i (k + 1) (by omega) (by omega) hk
        refine ⟨c, ?_, h2, by omega⟩
        rw [take_snoc' (by omega)]
        exact h1.trans (List.sublist_append_left _ _)
end
def lcsN (a b : List Int) : Nat := tabL a b a.length b.length
theorem lcsN_max {a b c : List Int} (h1 : c.Sublist a) (h2 : c.Sublist b) : c.length ≤ lcsN a b :=
  tabL_max _ _ _ (Nat.le_refl _) (Nat.le_refl _) (Nat.le_refl _) c (by simpa using h1) (by simpa using h2)
theorem lcsN_some (a b : List Int) : ∃ c : List Int, c.Sublist a ∧ c.Sublist b ∧ c.length = lcsN a b := by
  obtain ⟨c, h1, h2, h3⟩ := tabL_some (a := a) (b := b) _ _ _ (Nat.le_refl _) (Nat.le_refl _) (Nat.le_refl _)
  exact ⟨c, by simpa using h1, by simpa using h2, h3⟩
theorem lcsN_eq {a b : List Int} {v : Nat} (h : ∃ c : List Int, c.Sublist a ∧ c.Sublist b ∧ c.length = v) (k : ∀ c : List Int, c.Sublist a → c.Sublist b → c.length ≤ v) : lcsN a b = v := by
  obtain ⟨c, h1, h2, h3⟩ := h
  obtain ⟨e, g1, g2, g3⟩ := lcsN_some a b
  have := lcsN_max h1 h2
  have := k e g1 g2
  omega
theorem tabL_lcs {a b : List Int} {i k : Nat} (hi : i ≤ a.length) (hk : k ≤ b.length) : tabL a b i k = lcsN (a.take i) (b.take k) := by
  refine (lcsN_eq ?_ ?_).symm
  · exact tabL_some _ _ _ (Nat.le_refl _) hi hk
  · exact tabL_max _ _ _ (Nat.le_refl _) hi hk
theorem lcsN_comm (a b : List Int) : lcsN a b = lcsN b a := by
  obtain ⟨c, h1, h2, h3⟩ := lcsN_some b a
  refine lcsN_eq ⟨c, h2, h1, h3⟩ fun c h1 h2 => lcsN_max h2 h1
theorem lcsN_rev (a b : List Int) : lcsN a.reverse b.reverse = lcsN a b := by
  obtain ⟨c, h1, h2, h3⟩ := lcsN_some a b
  refine lcsN_eq ⟨c.reverse, h1.reverse, h2.reverse, by simpa using h3⟩ fun c h1 h2 => ?_
  have := lcsN_max (c := c.reverse) (by simpa using h1.reverse) (by simpa using h2.reverse)
  simpa using this
theorem lcsN_append (a a' b b' : List Int) : lcsN a b + lcsN a' b' ≤ lcsN (a ++ a') (b ++ b') := by
  obtain ⟨c, h1, h2, h3⟩ := lcsN_some a b
  obtain ⟨d, g1, g2, g3⟩ := lcsN_some a' b'
  have := lcsN_max (h1.append g1) (h2.append g2)
  simp at this
  omega
theorem lcsN_nil (b : List Int) : lcsN [] b = 0 := by
  refine lcsN_eq ⟨[], by simp, by simp, rfl⟩ fun c h1 _ => ?_
  have := h1.length_le
  simpa using this
theorem lcsN_nil' (b : List Int) : lcsN b [] = 0 := by rw [lcsN_comm, lcsN_nil]
theorem lcsN_le (a b : List Int) : lcsN a b ≤ a.length ∧ lcsN a b ≤ b.length := tabL_le _ _
theorem lcsN_cons (x : Int) (a b : List Int) : lcsN (x :: a) (x :: b) = lcsN a b + 1 := by
  obtain ⟨c, h1, h2, h3⟩ := lcsN_some a b
  refine lcsN_eq ⟨x :: c, h1.cons_cons x, h2.cons_cons x, by simp [h3]⟩ fun c h1 h2 => ?_
  have t1 : c.tail.Sublist a := by
    cases c with
    | nil => simp
    | cons y c =>
      rcases List.sublist_cons_iff.1 h1 with h | ⟨r, e, h⟩
      · exact (List.tail_sublist _).trans h
      · injection e with _ e; subst e; exact h
  have t2 : c.tail.Sublist b := by
    cases c with
    | nil => simp
    | cons y c =>
      rcases List.sublist_cons_iff.1 h2 with h | ⟨r, e, h⟩
      · exact (List.tail_sublist _).trans h
      · injection e with _ e; subst e; exact h
  have := lcsN_max t1 t2
  simp at this
  omega
theorem lcsN_ahead (p a b : List Int) : lcsN (p ++ a) (p ++ b) = p.length + lcsN a b := by
  induction p with
  | nil => simp
  | cons x p ih => simp only [List.cons_append, lcsN_cons, ih, List.length_cons]; omega
theorem lcsN_behind (p a b : List Int) : lcsN (a ++ p) (b ++ p) = lcsN a b + p.length := by
  rw [← lcsN_rev, List.reverse_append, List.reverse_append, lcsN_ahead, lcsN_rev]
  simp; omega
end Go.Proofs.YthpjjjnbkfnghaaGreatDoor
set_option linter.unusedSimpArgs false
set_option linter.unusedVariables false
set_option maxRecDepth 100000
set_option maxHeartbeats 2000000
namespace Go.Proofs.YthpjjjnbkfnghaaGreatDoor
open Go
attribute [local irreducible] AW AVle ASle RowLe
def sLcsLength : Spec := Spec.f2 (kL eI) (kL eI) (fun a b => a.length < 100000000 ∧ b.length < 100000000) (fun a b => kI.enc (lcsN a b))
def rowN (n : Nat) (f : Nat → Nat) : List Int := (List.range n).map fun k => (f k : Int)
theorem rowN_len (n : Nat) (f : Nat → Nat) : (rowN n f).length = n := by simp [rowN]
theorem rowN_at {n : Nat} (f : Nat → Nat) {k : Nat} (h : k < n) : (rowN n f).getD k 0 = f k := by simp [rowN, List.getD, h]
theorem rowN_set {n k : Nat} {f g : Nat → Nat} {w : Int} (hw : w = g k) (h : ∀ t, t < n → t ≠ k → f t = g t) : (rowN n f).set k w = rowN n g := by
  refine list_ext_getD 0 (by simp [rowN]) fun t ht => ?_
  simp only [List.length_set, rowN_len] at ht
  rw [rowN_at _ ht]
  by_cases e : t = k
  · subst e
    simp [List.getD, rowN_len, ht, hw]
  · have e2 : ((rowN n f).set k w).getD t 0 = (rowN n f).getD t 0 := by simp only [List.getD]; rw [List.getElem?_set_ne (by omega)]
    rw [e2, rowN_at _ ht, h t ht e]
theorem okLcsLength : SpecOK Tryz.prog 35 sLcsLength := by
  refine SpecOK.f2 Tryz.func35 rfl (by decide) Tryz.results35 Tryz.ntmps35 (by decide) fun a b ⟨ha, hb⟩ => ?_
  have hΓ : GOK Tryz.prog (gam []) := GOK.nil
  refine AW.of hΓ mixed [] _ _ _ rfl ?_
  simp only [go_sem]
  refine ⟨by omega, by omega, ?_⟩
  refine AW.round (α := { x : Nat × Nat × Nat // x.1 ≤ a.length })
    (fun x => ⟨[(0, sL eI a), (1, sL eI b), (5, .ow 0 x.1.2.1 (b.length + 1)), (6, .val (.int .i64 x.1.1))], [(0, rowL x.1.2.1 3 eI (rowN (b.length + 1) (tabL a b x.1.1)))], 67, 1, x.1.2.2, []⟩) (fun x => a.length - x.1.1) ⟨(0, 0, 1), Nat.zero_le _⟩ ?_ ?_
  · simp only [go_sem]
    refine RowLe.sl (rowN_len _ _) fun k hk j hj => AVle.of_eq ?_
    match j, hj with
    | 0, _ =>
      rw [rowN_at _ hk]
      rfl
  · rintro ⟨⟨i, v, nx⟩, hi⟩
    simp only at hi
    refine AW.of hΓ mixed [5, 99999] _ _ _ rfl ?_
    simp only [go_sem]
    refine ⟨fun hlt => ?_, fun hge => ?_⟩
    · refine ⟨by omega, by omega, ?_⟩
      refine AW.seqTo (fun n3 : Nat => Sh.st ⟨[(0, sL eI a), (1, sL eI b), (6, .val (.int .i64 i)), (7, .ow 0 nx (b.length + 1))], [(0, rowL nx 3 eI (rowN (b.length + 1) (tabL a b (i + 1))))], 67, 1, n3, []⟩) ?_ ?_
      · refine AW.of hΓ mixed [] _ _ _ rfl ?_
        simp only [go_sem]
        refine AW.round (α := { x : Nat × Nat // x.1 ≤ b.length })
          (fun x => ⟨[(0, sL eI a), (1, sL eI b), (5, .ow 0 v (b.length + 1)), (6, .val (.int .i64 i)), (7, .ow 1 nx (b.length + 1)), (8, .val (.int .i64 x.1.1))],
            [(0, rowL v 3 eI (rowN (b.length + 1) (tabL a b i))), (1, rowL nx 3 eI (rowN (b.length + 1) fun t => if t ≤ x.1.1 then tabL a b (i + 1) t else 0))], 67, 2, x.1.2, []⟩) (fun x => b.length - x.1.1) ⟨(0, nx + 1), Nat.zero_le _⟩ ?_ ?_
        · simp only [go_sem]
          refine ⟨RowLe.refl _, RowLe.sl (rowN_len _ _) fun k hk j hj => AVle.of_eq ?_⟩
          match j, hj with
          | 0, _ =>
            rw [rowN_at _ hk]
            by_cases h0 : k ≤ 0
            · obtain rfl : k = 0 := by omega
              rw [if_pos (Nat.le_refl _), tabL_i0]
              rfl
            · rw [if_neg h0]
              rfl
        · rintro ⟨⟨k, n2⟩, hk⟩
          simp only at hk
          refine AW.of hΓ mixed [9, 99999] _ _ _ rfl ?_
          simp only [go_sem]
          refine ⟨fun hlt2 => ?_, fun hge2 => ?_⟩
          · have k1 : k < b.length := by omega
            have g1 := rowN_at (n := b.length + 1) (tabL a b i) (k := k + 1) (by omega)
            have g2 := rowN_at (n := b.length + 1) (fun t => if t ≤ k then tabL a b (i + 1) t else 0) (k := k) (by omega)
            rw [if_pos (Nat.le_refl _)] at g2
            have g3 := rowN_at (n := b.length + 1) (tabL a b i) (k := k) (by omega)
            have g4 := (tabL_le (a := a) (b := b) i k)
            refine ⟨by omega, by omega, by omega, by rw [rowN_len]; omega, by omega, by rw [rowN_len]; omega, by omega, by rw [rowN_len]; omega, ?_⟩
            refine AW.cut ⟨[(0, sL eI a), (1, sL eI b), (5, .ow 0 v (b.length + 1)), (6, .val (.int .i64 i)), (7, .ow 1 nx (b.length + 1)), (8, .val (.int .i64 k))],
              [(0, rowL v 3 eI (rowN (b.length + 1) (tabL a b i))), (1, rowL nx 3 eI ((rowN (b.length + 1) fun t => if t ≤ k then tabL a b (i + 1) t else 0).set (k + 1) (max (tabL a b i (k + 1) : Int) (tabL a b (i + 1) k))))], 67, 2, n2, []⟩ ?_ ?_
            · simp only [go_sem]
              refine ⟨RowLe.refl _, row_set (E := eI) rfl rfl rfl (by simp) fun j hj => AVle.of_eq ?_⟩
              rw [g1, g2]
              rfl
            · by_cases he : a.getD i 0 = b.getD k 0
              · refine AW.of hΓ mixed [99999] _ _ _ rfl ?_
                simp only [go_sem, he, g3]
                have hset : rowN (b.length + 1) (fun t => if t ≤ k + 1 then tabL a b (i + 1) t else 0) = (((rowN (b.length + 1) fun t => if t ≤ k then tabL a b (i + 1) t else 0).set (k + 1) (max (tabL a b i (k + 1) : Int) (tabL a b (i + 1) k))).set (k + 1) ((tabL a b i k : Int) + 1)) := by
                  rw [List.set_set]
                  refine (rowN_set ?_ fun t ht hne => ?_).symm
                  · rw [if_pos (Nat.le_refl _), tabL_eq he]
                    omega
                  · by_cases h1 : t ≤ k
                    · rw [if_pos h1, if_pos (by omega)]
                    · rw [if_neg h1, if_neg (by omega)]
                refine ⟨by omega, by omega, by omega, by omega, by rw [rowN_len]; omega, by omega, by omega, by rw [rowN_len]; omega, by omega, ⟨(k + 1, n2), by dsimp only; omega⟩, ⟨Nat.le_refl _, rfl, RowLe.refl _, ?_⟩, by dsimp only; omega⟩
                exact row_set (E := eI) rfl hset (by simp) (by simp) (fun j hj => AVle.refl _)
              · refine AW.of hΓ mixed [99999] _ _ _ rfl ?_
                simp only [go_sem, he]
                have hset : (rowN (b.length + 1) fun t => if t ≤ k then tabL a b (i + 1) t else 0).set (k + 1) (max (tabL a b i (k + 1) : Int) (tabL a b (i + 1) k)) = rowN (b.length + 1) fun t => if t ≤ k + 1 then tabL a b (i + 1) t else 0 := by
                  refine rowN_set ?_ fun t ht hne => ?_
                  · rw [if_pos (Nat.le_refl _), tabL_ne he]
                    omega
                  · by_cases h1 : t ≤ k
                    · rw [if_pos h1, if_pos (by omega)]
                    · rw [if_neg h1, if_neg (by omega)]
                refine ⟨by omega, by omega, by omega, ⟨(k + 1, n2), by dsimp only; omega⟩, ⟨Nat.le_refl _, rfl, RowLe.refl _, ?_⟩, by dsimp only; omega⟩
                rw [hset, rowN_len, rowN_len]
                exact RowLe.refl _
          · obtain rfl : k = b.length := by omega
            refine ⟨n2, toFitsV (fun _ => 1) ?_⟩
            simp only [go_sem]
            have hall : (rowN (b.length + 1) fun t => if t ≤ b.length then tabL a b (i + 1) t else 0) = rowN (b.length + 1) (tabL a b (i + 1)) := by
              unfold rowN
              refine List.map_congr_left fun t ht => ?_
              dsimp only
              rw [if_pos (by have := List.mem_range.1 ht; omega)]
            rw [hall]
            exact RowLe.refl _
      · intro n3
        refine AW.of hΓ mixed [] _ _ _ rfl ?_
        simp only [go_sem]
        exact ⟨by omega, ⟨(i + 1, nx, n3), by dsimp only; omega⟩, ⟨Nat.le_refl _, ⟨rfl, rfl⟩, RowLe.refl _⟩, by dsimp only; omega⟩
    · obtain rfl : i = a.length := by omega
      have e := rowN_at (n := b.length + 1) (tabL a b a.length) (k := b.length) (by omega)
      exact ⟨by omega, by rw [rowN_len]; omega, e⟩
end Go.Proofs.YthpjjjnbkfnghaaGreatDoor
set_option linter.unusedSimpArgs false
set_option linter.unusedVariables false
set_option maxRecDepth 100000
set_option maxHeartbeats 2000000
namespace Go.Proofs.YthpjjjnbkfnghaaGreatDoor
open Go
attribute [local irreducible] AW AVle ASle RowLe
theorem sn_gen {α : Type} {E : El α} {l : List α} {n s : Nat} {f : Nat → Nat → AV} (hs : s = E.sz) (hn : n = l.length) (h : ∀ i, i < n → ∀ j, j < s → AVle (f i j) (E.enc (l.getD i E.dflt) j)) : AVle (.sn n s f) (sL E l) := by
  subst hs hn
  exact AVle.sn h
end Go.Proofs.YthpjjjnbkfnghaaGreatDoor
set_option linter.unusedSimpArgs false
set_option linter.unusedVariables false
set_option maxRecDepth 100000
set_option maxHeartbeats 8000000
namespace Go.Proofs.YthpjjjnbkfnghaaGreatDoor
open Go
attribute [local irreducible] AW AVle ASle RowLe
def opnC (h : Hk) (q v : Nat) : Nat → AV := fun j => if j = 0 then .val (.int .i64 h.1) else if j = 1 then .val (.int .i64 h.2.1) else .ow q v h.2.2.length
theorem opn0 (h : Hk) (q v : Nat) : opnC h q v 0 = .val (.int .i64 h.1) := rfl
theorem opn1 (h : Hk) (q v : Nat) : opnC h q v 1 = .val (.int .i64 h.2.1) := rfl
theorem opn2 (h : Hk) (q v : Nat) : opnC h q v 2 = .ow q v h.2.2.length := rfl
theorem app_len (l : List StE) (k : Int) (ts : List (List UInt8)) : (appP l k ts).length ≤ l.length + 1 := by
  unfold appP
  split
  · omega
  · simp
theorem of_bnd {L : List StE} (hL : ∀ s ∈ L, s.2.length ≤ 10000) (n : Nat) : ∀ i, i ≤ L.length → (ofI L n i).1.length ≤ i ∧ (ofI L n i).2.1.2.2.length ≤ i ∧ (0 ≤ (ofI L n i).2.2.1 ∧ (ofI L n i).2.2.1 ≤ i * 10000) ∧ 0 ≤ (ofI L n i).2.2.2 ∧ (ofI L n i).2.2.2 ≤ i * 10000
  | 0, _ => by simp [ofI]
  | i + 1, h => by
    obtain ⟨h1, h2, h3, h4⟩ := of_bnd hL n i (by omega)
    have hm : L.getD i (0, []) ∈ L := by
      simp only [List.getD, List.getElem?_eq_getElem (show i < L.length by omega), Option.getD_some]
      exact List.getElem_mem _
    have hs := hL _ hm
    rw [ofI]
    generalize L.getD i (0, []) = s at *
    generalize ofI L n i = o at *
    generalize decide (i = 0) = f
    generalize decide (i + 1 = L.length) = t
    obtain ⟨hs', ⟨oa, ob, st⟩, ca, cb⟩ := o
    obtain ⟨k, ts⟩ := s
    dsimp only at h1 h2 h3 h4 hs
    have a1 := app_len st k ts
    have a2 := app_len st 0 ts
    have a3 := app_len [] 0 (ts.drop (ts.length - ahP n t (k, ts)))
    have a4 : (clsP hs' (oa, ob, appP st 0 (ts.take (bhP n f (k, ts))))).length ≤ i + 1 := by rw [cls_len]; split <;> omega
    unfold stepPt
    dsimp only
    have p1 : 0 ≤ pasA (k, ts) ∧ pasA (k, ts) ≤ 10000 := by unfold pasA; dsimp only; split <;> omega
    have p2 : 0 ≤ pasB (k, ts) ∧ pasB (k, ts) ≤ 10000 := by unfold pasB; dsimp only; split <;> omega
    split
    · dsimp only
      exact ⟨by omega, by omega, by omega, by omega⟩
    · split
      · dsimp only
        exact ⟨by omega, by omega, by omega, by omega⟩
      · dsimp only
        simp only [List.length_nil] at a3
        exact ⟨a4, by omega, by omega, by omega⟩
theorem take_sn {ts : List (List UInt8)} {B : Nat} (h : B ≤ ts.length) : AVle (.sn (B - 0) 1 fun i => eS.enc (ts.getD i [])) (sL eS (ts.take B)) := by
  refine sn_gen rfl (by rw [List.length_take]; omega) fun i hi j hj => ?_
  rw [show (ts.take B).getD i eS.dflt = ts.getD i [] by simp only [List.getD, List.getElem?_take]; rw [if_pos (by omega)]; rfl]
  exact AVle.refl _
theorem drop_sn {ts : List (List UInt8)} {A : Nat} (h : A ≤ ts.length) : AVle (.sn (ts.length - (ts.length - A)) 1 fun i => eS.enc (ts.getD (ts.length - A + i) [])) (sL eS (ts.drop (ts.length - A))) := by
  refine sn_gen rfl (by rw [List.length_drop]) fun i hi j hj => ?_
  rw [show (ts.drop (ts.length - A)).getD i eS.dflt = ts.getD (ts.length - A + i) [] by simp only [List.getD, List.getElem?_drop]; rfl]
  exact AVle.refl _
def sOfP : Spec := Spec.f2 (kL (eP eI (eL eS))) kI (fun l _ => l.length < 10000 ∧ ∀ s ∈ l, s.2.length ≤ 10000) (fun l n => sL (eP eI (eP eI (eL (eP eI (eL eS))))) (if rightE (-1) l = true ∧ 0 ≤ n ∧ n ≤ 100 then ofP l n.toNat else []))
theorem okOfP : SpecOK Tryz.prog 10 sOfP := by
  refine SpecOK.f2 Tryz.func10 rfl (by decide) Tryz.results10 Tryz.ntmps10 (by decide) fun l n ⟨hl, hs⟩ => ?_
  have hΓ : GOK Tryz.prog (gam [(42, sRightE), (43, sPutP), (44, sPassP), (45, sClosedP)]) := (.cons okRightE (.cons okPutP (.cons okPassP (.cons okClosedP .nil))))
  by_cases hc : rightE (-1) l = true ∧ 0 ≤ n ∧ n ≤ 100
  · obtain ⟨hc1, hc2, hc3⟩ := hc
    rw [if_pos ⟨hc1, hc2, hc3⟩]
    have b1 : decide (n < 0) = false := decide_eq_false (by omega)
    have b2 : decide (100 < n) = false := decide_eq_false (by omega)
    obtain ⟨N, rfl⟩ := Int.eq_ofNat_of_zero_le hc2
    rw [Int.toNat_natCast]
    refine AW.of hΓ mixed [6] _ _ _ rfl ?_
    simp only [go_sem, sRightE, sPutP, sPassP, sClosedP, st_sz, hk_sz, hc1, b1, b2]
    refine ⟨⟨hl, hs⟩, ?_⟩
    refine AW.adopt 5 84 3 (fun i => (eP eI (eP eI (eL (eP eI (eL eS))))).enc (([] : List Hk).getD i (0, 0, []))) rfl ?_
    refine AW.adoptB (q := 0) 2 86 2 (fun i => (eP eI (eL eS)).enc (([] : List StE).getD i (0, []))) rfl rfl ?_
    refine AW.to (fun x : Nat × Nat => Sh.st ⟨[(5, .ow 1 x.1 (ofI l N l.length).1.length), (6, .pt 0 0 0)], [(0, .box 0 84 3 ((eP eI (eP eI (eL (eP eI (eL eS))))).enc (ofI l N l.length).2.1)), (1, rHk x.1 (ofI l N l.length).1)], 124, 2, x.2, []⟩) ?_ ?_
    · refine AW.block (AW.round (α := { x : Nat × Nat × Nat × Nat // x.1 ≤ l.length }) (fun x => ⟨[(0, sL (eP eI (eL eS)) l), (1, .val (.int .i64 N)), (5, .ow 1 x.1.2.1 (ofI l N x.1.1).1.length), (6, .pt 0 0 0), (7, .val (.int .i64 (ofI l N x.1.1).2.2.1)), (8, .val (.int .i64 (ofI l N x.1.1).2.2.2)), (27, sL (eP eI (eL eS)) l), (28, .val (.int .i64 l.length)), (29, .val (.int .i64 x.1.1))],
        [(0, .box 0 84 3 (opnC (ofI l N x.1.1).2.1 2 x.1.2.2.1)), (1, rHk x.1.2.1 (ofI l N x.1.1).1), (2, rSt x.1.2.2.1 (ofI l N x.1.1).2.1.2.2)], 124, 3, x.1.2.2.2, []⟩) (fun x => l.length - x.1.1) ⟨(0, 1, 2, 3), Nat.zero_le _⟩ ?_ ?_)
      · simp only [go_sem, sRightE, sPutP, sPassP, sClosedP, hk_sz]
        exact ⟨⟨rfl, rfl, rfl⟩, RowLe.box fun j hj => AVle.of_eq (match j, hj with | 0, _ => rfl | 1, _ => rfl | 2, _ => rfl), RowLe.refl _, RowLe.refl _⟩
      · rintro ⟨⟨i, vh, vs, nx⟩, hi⟩
        simp only at hi
        rcases Nat.lt_or_ge i l.length with hlt | hge
        · have hlI : ((i : Int) < (l.length : Nat)) = True := eq_true (by omega)
          obtain ⟨g1, g2, g3, g4⟩ := of_bnd hs N i hi
          have hm : l.getD i (0, []) ∈ l := by
            simp only [List.getD, List.getElem?_eq_getElem hlt, Option.getD_some]
            exact List.getElem_mem _
          have hg := hs _ hm
          have hst : ofI l N (i + 1) = stepPt N (decide (i = 0)) (decide (i + 1 = l.length)) (l.getD i (0, [])) (ofI l N i) := rfl
          generalize hge : l.getD i (0, []) = g at *
          generalize hoe : ofI l N i = o at *
          obtain ⟨k, ts⟩ := g
          obtain ⟨hs', ⟨oa, ob, st⟩, ca, cb⟩ := o
          dsimp only at g1 g2 g3 g4 hg ⊢
          by_cases hk : k = 0
          · subst hk
            have e2 : decide ((i : Int) = (l.length : Int) - 1) = decide (i + 1 = l.length) := by rw [decide_eq_decide]; omega
            have e1 : decide ((i : Int) = 0) = decide (i = 0) := by rw [decide_eq_decide]; omega
            generalize hfe : decide (i = 0) = f at *
            generalize hte : decide (i + 1 = l.length) = t at *
            by_cases hin : f = false ∧ t = false ∧ ts.length ≤ 2 * N
            · obtain ⟨rfl, rfl, hle⟩ := hin
              have hle' : ((ts.length : Int) ≤ 2 * (N : Int)) = True := eq_true (by omega)
              refine AW.of hΓ mixed [99999] _ _ _ rfl ?_
              simp only [go_sem, sRightE, sPutP, sPassP, sClosedP, st_sz, st_d, hlI, hge, sp0, sp1, opn0, opn1, opn2, e1, e2, hle', dec_st, ok_stC]
              refine ⟨by omega, ⟨by omega, by omega⟩, ⟨by omega, by omega, by omega⟩, ⟨by omega, by omega⟩, putP_go (l := st) rfl (AVle.refl _) (RowLe.refl _) (by decide) (by omega) (by omega) fun v' nx' hnx => ?_⟩
              simp only [go_sem, sRightE, sPutP, sPassP, sClosedP, st_sz, st_d, sp0, sp1, opn0, opn1, opn2, dec_st, ok_stC]
              have hst2 : ofI l N (i + 1) = (hs', (oa, ob, appP st 0 ts), ca + ts.length, cb + ts.length) := by
                rw [hst]; unfold stepPt; rw [if_neg (by simp), if_pos ⟨rfl, rfl, hle⟩]
              have pA : pasA (0, ts) = ts.length := by unfold pasA; rw [if_neg (show ¬ (0 : Int) = 2 by decide)]
              have pB : pasB (0, ts) = ts.length := by unfold pasB; rw [if_neg (show ¬ (0 : Int) = 1 by decide)]
              refine ⟨by omega, ⟨(i + 1, vh, v', nx'), by omega⟩, ?_⟩
              dsimp only
              rw [hst2, pA, pB]
              exact ⟨⟨Nat.le_refl _, ⟨⟨rfl, rfl⟩, rfl, rfl, by omega⟩, RowLe.box fun j hj => AVle.of_eq (match j, hj with | 0, _ => rfl | 1, _ => rfl | 2, _ => rfl), RowLe.refl _, RowLe.refl _⟩, by omega⟩
            · have hmin : min (ts.length : Int) (N : Int) = ((min ts.length N : Nat) : Int) := by omega
              have pA : pasA (0, ts) = ts.length := by unfold pasA; rw [if_neg (show ¬ (0 : Int) = 2 by decide)]
              have pB : pasB (0, ts) = ts.length := by unfold pasB; rw [if_neg (show ¬ (0 : Int) = 1 by decide)]
              have hcond : (!f && !t && decide ((ts.length : Int) ≤ 2 * (N : Int))) = false := by
                cases f <;> cases t <;> simp
                simp at hin
                omega
              refine AW.of hΓ mixed [200021] _ _ _ rfl ?_
              simp only [go_sem, sRightE, sPutP, sPassP, sClosedP, hlI]
              refine AW.fork (AW.block ?_)
              refine AW.of hΓ mixed [200021] _ _ _ rfl ?_
              simp only [go_sem, sRightE, sPutP, sPassP, sClosedP, st_sz, st_d, hlI, hge, sp0, sp1, opn0, opn1, opn2, e1, e2, hmin, hcond, dec_st, ok_stC]
              refine ⟨by omega, ⟨by omega, by omega⟩, ⟨by omega, by omega, by omega⟩, fun _ => by omega, ?_⟩
              rw [pA, pB]
              refine AW.seqTo (fun _ : Unit => Sh.st ⟨[(0, sL (eP eI (eL eS)) l), (1, .val (.int .i64 N)), (5, .ow 1 vh hs'.length), (6, .pt 0 0 0), (7, .val (.int .i64 (ca + ts.length))), (8, .val (.int .i64 (cb + ts.length))), (10, .pt 3 nx 0), (12, .val (.bool t)), (13, .val (.int .i64 ts.length)), (14, .val (.int .i64 (bhP N f (0, ts) : Nat))), (15, .val (.int .i64 (min ts.length N : Nat))), (27, sL (eP eI (eL eS)) l), (28, .val (.int .i64 l.length)), (29, .val (.int .i64 i))], [(0, .box 0 84 3 (opnC (oa, ob, st) 2 vs)), (1, rHk vh hs'), (2, rSt vs st), (3, .box nx 86 2 ((eP eI (eL eS)).enc (0, ts)))], 124, 4, nx + 1, []⟩) ?_ fun _ => ?_
              · cases f with
                | true =>
                  refine AW.of hΓ mixed [99999] _ _ _ rfl ?_
                  simp only [go_sem, sRightE, sPutP, sPassP, sClosedP]
                  refine ⟨(), toFits ?_⟩
                  simp only [go_sem, sRightE, sPutP, sPassP, sClosedP]
                  exact ⟨by simp [bhP], RowLe.refl _, RowLe.refl _, RowLe.refl _, RowLe.box fun j hj => AVle.of_eq (match j, hj with | 0, _ => rfl | 1, _ => rfl)⟩
                | false =>
                  refine AW.of hΓ mixed [99999] _ _ _ rfl ?_
                  simp only [go_sem, sRightE, sPutP, sPassP, sClosedP]
                  refine ⟨(), toFits ?_⟩
                  simp only [go_sem, sRightE, sPutP, sPassP, sClosedP]
                  exact ⟨by simp [bhP], RowLe.refl _, RowLe.refl _, RowLe.refl _, RowLe.box fun j hj => AVle.of_eq (match j, hj with | 0, _ => rfl | 1, _ => rfl)⟩
              refine AW.seqTo (fun _ : Unit => Sh.st ⟨[(0, sL (eP eI (eL eS)) l), (1, .val (.int .i64 N)), (5, .ow 1 vh hs'.length), (6, .pt 0 0 0), (7, .val (.int .i64 (ca + ts.length))), (8, .val (.int .i64 (cb + ts.length))), (10, .pt 3 nx 0), (12, .val (.bool t)), (13, .val (.int .i64 ts.length)), (14, .val (.int .i64 (bhP N f (0, ts) : Nat))), (15, .val (.int .i64 (ahP N t (0, ts) : Nat))), (27, sL (eP eI (eL eS)) l), (28, .val (.int .i64 l.length)), (29, .val (.int .i64 i))], [(0, .box 0 84 3 (opnC (oa, ob, st) 2 vs)), (1, rHk vh hs'), (2, rSt vs st), (3, .box nx 86 2 ((eP eI (eL eS)).enc (0, ts)))], 124, 4, nx + 1, []⟩) ?_ fun _ => ?_
              · cases t with
                | true =>
                  refine AW.of hΓ mixed [99999] _ _ _ rfl ?_
                  simp only [go_sem, sRightE, sPutP, sPassP, sClosedP]
                  refine ⟨(), toFits ?_⟩
                  simp only [go_sem, sRightE, sPutP, sPassP, sClosedP]
                  exact ⟨by simp [ahP], RowLe.refl _, RowLe.refl _, RowLe.refl _, RowLe.refl _⟩
                | false =>
                  refine AW.of hΓ mixed [99999] _ _ _ rfl ?_
                  simp only [go_sem, sRightE, sPutP, sPassP, sClosedP]
                  refine ⟨(), toFits ?_⟩
                  simp only [go_sem, sRightE, sPutP, sPassP, sClosedP]
                  exact ⟨by simp [ahP], RowLe.refl _, RowLe.refl _, RowLe.refl _, RowLe.refl _⟩
              refine AW.fork (AW.drawZ hΓ mixed 6 [7] [7] [] (by decide +kernel) ?_)
              simp only [go_sem, sRightE, sPutP, sPassP, sClosedP, st_sz, st_d, sp0, sp1, opn0, opn1, opn2]
              have hbh : bhP N f (0, ts) ≤ ts.length := by unfold bhP; split <;> (try dsimp only) <;> omega
              have hah : ahP N t (0, ts) ≤ ts.length := by unfold ahP; split <;> (try dsimp only) <;> omega
              have hst2 : ofI l N (i + 1) = (clsP hs' (oa, ob, appP st 0 (ts.take (bhP N f (0, ts)))), (ca + ts.length - ahP N t (0, ts), cb + ts.length - ahP N t (0, ts), appP [] 0 (ts.drop (ts.length - ahP N t (0, ts)))), ca + ts.length, cb + ts.length) := by
                rw [hst]; unfold stepPt; rw [if_neg (by simp), if_neg hin]
              generalize bhP N f (0, ts) = B at *
              generalize ahP N t (0, ts) = A at *
              refine ⟨⟨by omega, by omega⟩, putP_go (l := st) (ts := ts.take B) rfl (take_sn hbh) (RowLe.refl _) (by decide) (by omega) (by rw [List.length_take]; omega) fun v' nx' hnx => ?_⟩
              simp only [go_sem, sRightE, sPutP, sPassP, sClosedP, st_sz, st_d, sp0, sp1, opn0, opn1, opn2]
              refine AW.freeze 2 v' 86 2 (appP st 0 (ts.take B)).length (fun i => (eP eI (eL eS)).enc ((appP st 0 (ts.take B)).getD i (0, []))) rfl (fun i _ j hj => match j, hj with | 0, _ => rfl | 1, _ => rfl) ?_
              refine AW.of hΓ mixed [22, 23] _ _ _ rfl ?_
              simp only [go_sem, sRightE, sPutP, sPassP, sClosedP, st_sz, st_d, hk_sz, hk_d, sp0, sp1, opn0, opn1, opn2]
              have hal := app_len st 0 (ts.take B)
              refine closed_go (l := hs') (h := (oa, ob, appP st 0 (ts.take B))) rfl (AVle.ag fun j hj => AVle.of_eq (match j, hj with | 0, _ => rfl | 1, _ => rfl | 2, _ => by show fz 2 v' _ 2 _ (.ow 2 v' _) = _; simp only [fz, and_self, if_true, Nat.le_refl]; rfl)) (RowLe.sl rfl fun i hi j hj => match j, hj with | 0, _ => AVle.refl _ | 1, _ => AVle.refl _ | 2, _ => AVle.refl _) (by decide) (by omega) (by dsimp only; omega) fun v2 nx2 hnx2 => ?_
              simp only [go_sem, sRightE, sPutP, sPassP, sClosedP, st_sz, st_d, hk_sz, hk_d, sp0, sp1, opn0, opn1, opn2]
              refine AW.cut ⟨[(0, sL (eP eI (eL eS)) l), (1, .val (.int .i64 N)), (5, .ow 1 v2 (clsP hs' (oa, ob, appP st 0 (ts.take B))).length), (6, .pt 0 0 0), (7, .val (.int .i64 (ca + ts.length))), (8, .val (.int .i64 (cb + ts.length))), (10, .pt 3 nx 0), (13, .val (.int .i64 ts.length)), (15, .val (.int .i64 A)), (27, sL (eP eI (eL eS)) l), (28, .val (.int .i64 l.length)), (29, .val (.int .i64 i))], [(0, .box 0 84 3 ((eP eI (eP eI (eL (eP eI (eL eS))))).enc (oa, ob, appP st 0 (ts.take B)))), (1, rHk v2 (clsP hs' (oa, ob, appP st 0 (ts.take B)))), (3, .box nx 86 2 ((eP eI (eL eS)).enc (0, ts)))], 124, 4, nx2, []⟩ ?_ ?_
              · simp only [go_sem, sRightE, sPutP, sPassP, sClosedP, hk_sz, st_sz]
                exact ⟨RowLe.box fun j hj => AVle.of_eq (match j, hj with | 0, _ => rfl | 1, _ => rfl | 2, _ => by show fz 2 v' _ 2 _ (.ow 2 v' _) = _; simp only [fz, and_self, if_true, Nat.le_refl]; rfl), RowLe.refl _, RowLe.box fun j hj => AVle.of_eq (match j, hj with | 0, _ => rfl | 1, _ => rfl)⟩
              have hsub : ((ts.length : Int) - (A : Int)).toNat = ts.length - A := by omega
              refine AW.of hΓ mixed [23] _ _ _ rfl ?_
              simp only [go_sem, sRightE, sPutP, sPassP, sClosedP, st_sz, st_d, hk_sz, hk_d, sp0, sp1, hsub]
              refine ⟨⟨by omega, by omega⟩, ⟨by omega, by omega⟩, ⟨by omega, by omega⟩, ⟨by omega, by omega, by omega⟩, putN_go (ts := ts.drop (ts.length - A)) (drop_sn hah) (by rw [List.length_drop]; omega) fun v3 nx3 h3 h4 => ?_⟩
              simp only [go_sem, sRightE, sPutP, sPassP, sClosedP, st_sz, st_d, hk_sz, hk_d, sp0, sp1]
              refine AW.cutV (fun p => if p = 2 then 4 else p) ⟨[(0, sL (eP eI (eL eS)) l), (1, .val (.int .i64 N)), (5, .ow 1 v2 (clsP hs' (oa, ob, appP st 0 (ts.take B))).length), (6, .pt 0 0 0), (7, .val (.int .i64 (ca + ts.length))), (8, .val (.int .i64 (cb + ts.length))), (27, sL (eP eI (eL eS)) l), (28, .val (.int .i64 l.length)), (29, .val (.int .i64 i))], [(0, .box 0 84 3 (opnC (ca + ts.length - A, cb + ts.length - A, appP [] 0 (ts.drop (ts.length - A))) 2 v3)), (1, rHk v2 (clsP hs' (oa, ob, appP st 0 (ts.take B)))), (2, rSt v3 (appP [] 0 (ts.drop (ts.length - A))))], 124, 3, nx3, []⟩ ?_ ?_
              · simp only [go_sem, sRightE, sPutP, sPassP, sClosedP, hk_sz, st_sz]
                exact ⟨RowLe.box fun j hj => match j, hj with | 0, _ => AVle.refl _ | 1, _ => AVle.refl _ | 2, _ => AVle.ow, RowLe.refl _, RowLe.refl _⟩
              refine AW.of hΓ mixed [99999] _ _ _ rfl ?_
              simp only [go_sem, sRightE, sPutP, sPassP, sClosedP]
              refine ⟨by omega, ⟨(i + 1, v2, v3, nx3), by omega⟩, ?_⟩
              dsimp only
              rw [hst2]
              exact ⟨⟨Nat.le_refl _, ⟨⟨rfl, rfl⟩, rfl, rfl, by omega⟩, RowLe.refl _, RowLe.refl _, RowLe.refl _⟩, by omega⟩
          · have hk' : (k = 0) = False := eq_false hk
            refine AW.of hΓ mixed [99999] _ _ _ rfl ?_
            simp only [go_sem, sRightE, sPutP, sPassP, sClosedP, st_sz, st_d, hlI, hge, sp0, sp1, opn0, opn1, opn2, hk']
            refine ⟨by omega, putP_go (l := st) rfl (AVle.refl _) (RowLe.refl _) (by decide) (by omega) (by omega) fun v' nx' hnx => ?_⟩
            simp only [go_sem, sRightE, sPutP, sPassP, sClosedP, st_sz, st_d, sp0, sp1, opn0, opn1, opn2, dec_st, ok_stC]
            have hst2 : ofI l N (i + 1) = (hs', (oa, ob, appP st k ts), ca + pasA (k, ts), cb + pasB (k, ts)) := by
              rw [hst]; unfold stepPt; rw [if_pos hk]
            refine ⟨⟨by omega, by omega, by omega⟩, by omega, ⟨(i + 1, vh, v', nx'), by omega⟩, ?_⟩
            dsimp only
            rw [hst2]
            exact ⟨⟨Nat.le_refl _, ⟨⟨rfl, rfl⟩, rfl, rfl, by omega⟩, RowLe.box fun j hj => AVle.of_eq (match j, hj with | 0, _ => rfl | 1, _ => rfl | 2, _ => rfl), RowLe.refl _, RowLe.refl _⟩, by omega⟩
        · obtain rfl : i = l.length := by omega
          have hlI : ((l.length : Int) < (l.length : Nat)) = False := eq_false (by omega)
          refine AW.of hΓ mixed [99999] _ _ _ rfl ?_
          simp only [go_sem, sRightE, sPutP, sPassP, sClosedP, hlI]
          refine ⟨(vh, nx), ASle.trans (ASle.freeze 2 vs 86 2 (ofI l N l.length).2.1.2.2.length (fun i => (eP eI (eL eS)).enc ((ofI l N l.length).2.1.2.2.getD i (0, []))) rfl fun i _ j hj => match j, hj with | 0, _ => rfl | 1, _ => rfl) (toFits ?_)⟩
          simp only [go_sem, sRightE, sPutP, sPassP, sClosedP, opn0, opn1, opn2]
          exact ⟨RowLe.box fun j hj => AVle.of_eq (match j, hj with | 0, _ => rfl | 1, _ => rfl | 2, _ => by show fz 2 vs _ 2 _ (.ow 2 vs _) = _; simp only [fz, and_self, if_true, Nat.le_refl]; rfl), RowLe.sl rfl fun i hi j hj => match j, hj with | 0, _ => AVle.refl _ | 1, _ => AVle.refl _ | 2, _ => AVle.refl _⟩
    · rintro ⟨vh, nx⟩
      obtain ⟨g1, g2, _⟩ := of_bnd hs N l.length (Nat.le_refl _)
      simp only [go_sem, sRightE, sPutP, sPassP, sClosedP, hk_sz]
      refine closed_go rfl (AVle.refl _) (RowLe.refl _) (by decide) (by omega) (by omega) fun v' nx' hnx => ?_
      simp only [go_sem, sRightE, sPutP, sPassP, sClosedP, hk_sz]
      exact AVle.refl _
  · rw [if_neg hc]
    have hbad : (!rightE (-1) l || decide (n < 0) || decide (100 < n)) = true := by
      cases hR : rightE (-1) l with
      | false => rfl
      | true =>
        have : n < 0 ∨ 100 < n := by
          rcases Int.lt_or_le n 0 with g | g
          · exact .inl g
          · rcases Int.lt_or_le 100 n with g2 | g2
            · exact .inr g2
            · exact absurd ⟨hR, g, g2⟩ hc
        simpa using this
    refine AW.of hΓ mixed [99999] _ _ _ rfl ?_
    simp only [go_sem, sRightE, sPutP, sPassP, sClosedP, st_sz, hk_sz, hbad]
    have g1 : (!rightE (-1) l) = false → (!!rightE (-1) l) = true := fun h => by rw [h]; rfl
    exact ⟨⟨hl, hs⟩, g1, fun h => by rw [h]; rfl, em_sL _⟩
end Go.Proofs.YthpjjjnbkfnghaaGreatDoor
set_option linter.unusedSimpArgs false
set_option linter.unusedVariables false
set_option maxRecDepth 100000
set_option maxHeartbeats 8000000
namespace Go.Proofs.YthpjjjnbkfnghaaGreatDoor
open Go
attribute [local irreducible] AW AVle ASle RowLe
def newH (l : List Hk) : List (List UInt8) := l.flatMap fun h => lessL 1 h.2.2
theorem newH_snoc (l : List Hk) (h : Hk) : newH (l ++ [h]) = newH l ++ lessL 1 h.2.2 := by simp [newH]
theorem newH_take (l : List Hk) (i : Nat) : (newH (l.take i)).length ≤ (newH l).length ∧ (newH (l.take i)).flatten.length ≤ (newH l).flatten.length := by
  have h : newH (l.take i ++ l.drop i) = newH (l.take i) ++ newH (l.drop i) := by unfold newH; rw [List.flatMap_append]
  rw [List.take_append_drop] at h
  rw [h, List.flatten_append, List.length_append, List.length_append]
  omega
theorem cut_flatP {a : List (List UInt8)} {i j : Nat} (h : i ≤ j) : (a.take i).flatten.length + (cutL a i j).flatten.length = (a.take j).flatten.length := by
  have : a.take i ++ cutL a i j = a.take j := by
    unfold cutL
    have := List.take_append_drop i (a.take j)
    rwa [List.take_take, Nat.min_eq_left h] at this
  rw [← this, List.flatten_append, List.length_append]
theorem row_two {v k : Nat} {ch old y : List (List UInt8)} {a b : Nat} (hb : b ≤ old.length) (hk : k = b - a) :
    RowLe (.sl v 9 1 (ch.length + k + y.length) (apC (ch.length + k) (apC ch.length (fun i => eS.enc (ch.getD i [])) fun i => eS.enc (old.getD (a + i) [])) fun i => eS.enc (y.getD i []))) (rowL v 9 eS (ch ++ cutL old a b ++ y)) := by
  subst hk
  have hl := cutL_len old (i := a) (j := b) hb
  refine RowLe.trans (RowLe.sl rfl (d := apC (ch.length + (b - a)) (fun i => eS.enc ((ch ++ cutL old a b).getD i [])) fun i => eS.enc (y.getD i [])) fun i hi j hj => ?_) (row_app (E := eS) (l := ch ++ cutL old a b) (ys := y) rfl rfl (by rw [List.length_append, hl]) rfl (by simp only [List.length_append, hl]) fun _ _ _ _ => AVle.refl _)
  simp only [apC]
  split
  · rename_i h1
    split
    · rename_i h2
      rw [show (ch ++ cutL old a b).getD i [] = ch.getD i [] by simp [List.getD, List.getElem?_append_left h2]]
      exact AVle.refl _
    · rename_i h2
      rw [show (ch ++ cutL old a b).getD i [] = old.getD (a + (i - ch.length)) [] by
        unfold cutL
        simp only [List.getD, List.getElem?_append_right (by omega : ch.length ≤ i), List.getElem?_drop, List.getElem?_take]
        rw [if_pos (by omega)]]
      exact AVle.refl _
  · exact AVle.refl _
def appA (l : List Hk) (s : List UInt8) : List UInt8 × Int × Int := if rightP l 0 0 = true then appR (splitL s) l 0 [] 0 else ([], 11, -1)
structure ApS (l : List Hk) (old : List (List UInt8)) (i at' : Nat) (sh : Int) (ch : List (List UInt8)) : Prop where
  hi : i ≤ l.length
  hat : at' ≤ old.length
  hr : rightP (l.drop i) at' sh = true
  he : appR old l 0 [] 0 = appR old (l.drop i) at' ch i
  hn : ch.length ≤ (newH (l.take i)).length + at'
  hf : ch.flatten.length ≤ (newH (l.take i)).flatten.length + (old.take at').flatten.length
theorem ap_step {l : List Hk} {old : List (List UInt8)} {i at' : Nat} {sh : Int} {ch : List (List UInt8)} (h : ApS l old i at' sh ch) (hlt : i < l.length) :
    rightE (-1) (l.getD i (0, 0, [])).2.2 = true ∧ (at' : Int) ≤ (l.getD i (0, 0, [])).1 ∧ (l.getD i (0, 0, [])).1 ≤ 999999 ∧
    ((((lessL 2 (l.getD i (0, 0, [])).2.2).length : Int) > old.length - (l.getD i (0, 0, [])).1 ∨ lessL 2 (l.getD i (0, 0, [])).2.2 ≠ cutL old (l.getD i (0, 0, [])).1.toNat ((l.getD i (0, 0, [])).1.toNat + (lessL 2 (l.getD i (0, 0, [])).2.2).length)) → appR old l 0 [] 0 = ([], 12, (i : Int))) ∧
    (¬ (((lessL 2 (l.getD i (0, 0, [])).2.2).length : Int) > old.length - (l.getD i (0, 0, [])).1 ∨ lessL 2 (l.getD i (0, 0, [])).2.2 ≠ cutL old (l.getD i (0, 0, [])).1.toNat ((l.getD i (0, 0, [])).1.toNat + (lessL 2 (l.getD i (0, 0, [])).2.2).length)) →
      ∃ sh', ApS l old (i + 1) ((l.getD i (0, 0, [])).1.toNat + (lessL 2 (l.getD i (0, 0, [])).2.2).length) sh' (ch ++ cutL old at' (l.getD i (0, 0, [])).1.toNat ++ lessL 1 (l.getD i (0, 0, [])).2.2)) := by
  have hd : l.drop i = l.getD i (0, 0, []) :: l.drop (i + 1) := by
    rw [List.drop_eq_getElem_cons hlt]
    simp [List.getD, List.getElem?_eq_getElem hlt]
  have ht : newH (l.take (i + 1)) = newH (l.take i) ++ lessL 1 (l.getD i (0, 0, [])).2.2 := by rw [take_snocE l (0, 0, []) hlt, newH_snoc]
  obtain ⟨_, hat, hr, he, hn, hf⟩ := h
  generalize l.getD i (0, 0, []) = g at *
  rw [hd, rightP, Bool.and_eq_true] at hr
  rw [hd, appR] at he
  obtain ⟨hr1, hr2⟩ := hr
  unfold hunkP at hr1
  simp only [Bool.and_eq_true, decide_eq_true_eq] at hr1
  obtain ⟨⟨r1, r2, r3⟩, r4, r5, r6⟩ := hr1
  refine ⟨r1, r4, r5, fun hc => by rw [he, if_pos hc], fun hc => ?_⟩
  rw [if_neg hc] at he
  have hc1 : ((lessL 2 g.2.2).length : Int) ≤ old.length - g.1 := by
    rcases Int.lt_or_le ((old.length : Int) - g.1) (lessL 2 g.2.2).length with q | q
    · exact absurd (.inl q) hc
    · exact q
  obtain ⟨q1, q2⟩ := count_less r1
  have q3 : (at' : Int) ≤ g.1 := r4
  have e1 : g.1 + countL 0 g.2.2 + countL 1 g.2.2 = ((g.1.toNat + (lessL 2 g.2.2).length : Nat) : Int) := by omega
  rw [e1] at hr2
  have c1 := cutL_len old (i := at') (j := g.1.toNat) (by omega)
  have c2 := cut_flatP (a := old) (i := at') (j := g.1.toNat) (by omega)
  have c3 := cut_flatP (a := old) (i := g.1.toNat) (j := g.1.toNat + (lessL 2 g.2.2).length) (by omega)
  refine ⟨_, by omega, by omega, hr2, he.trans ?_, ?_, ?_⟩
  · rfl
  · rw [ht]
    simp only [List.length_append]
    omega
  · rw [ht]
    simp only [List.flatten_append, List.length_append]
    omega
theorem ap_zero {l : List Hk} {old : List (List UInt8)} (h : rightP l 0 0 = true) : ApS l old 0 0 0 [] := ⟨Nat.zero_le _, Nat.zero_le _, h, rfl, Nat.zero_le _, by simp⟩
def sApplyP : Spec := Spec.f2 (kL (eP eI (eP eI (eL (eP eI (eL eS)))))) kS (fun l s => okHs l ∧ s.length ≤ 50000000 ∧ (newH l).length ≤ 50000000 ∧ (newH l).flatten.length ≤ 10000000000) (fun l s => tu3 (kS.enc (appA l s).1) (kI.enc (appA l s).2.1) (kI.enc (appA l s).2.2))
theorem okApplyP : SpecOK Tryz.prog 14 sApplyP := by
  refine SpecOK.f2 Tryz.func14 rfl (by decide) Tryz.results14 Tryz.ntmps14 (by decide) fun l s ⟨ho, hs, hn1, hn2⟩ => ?_
  have hΓ : GOK Tryz.prog (gam [(49, sRightP), (26, sSplit), (50, sWithoutP), (51, sEqualS), (52, sWhole), (53, sJoin)]) := (.cons okRightP (.cons okSplit (.cons okWithoutP (.cons okEqualS (.cons okWhole (.cons okJoin .nil))))))
  have hR0 : rightP l 0 0 = true ∨ rightP l 0 0 = false := by cases rightP l 0 0 <;> simp
  rcases hR0 with hR | hR
  · have eA : appA l s = appR (splitL s) l 0 [] 0 := by unfold appA; rw [if_pos hR]
    have hfl := splitL_flat s
    have hol := splitL_len s
    rw [eA]
    refine AW.of hΓ mixed [6, 16] _ _ _ rfl ?_
    simp only [go_sem, sRightP, sSplit, sWithoutP, sEqualS, sWhole, sJoin, hk_sz, hR]
    refine ⟨ho, by omega, ?_⟩
    generalize splitL s = old at *
    refine AW.adopt 8 9 1 (fun i => eS.enc (([] : List (List UInt8)).getD i [])) rfl ?_
    refine AW.to (fun x : { x : Nat × Int × List (List UInt8) × Nat × Nat // ApS l old l.length x.1 x.2.1 x.2.2.1 } => Sh.st ⟨[(0, sL (eP eI (eP eI (eL (eP eI (eL eS))))) l), (7, sL eS old), (8, .ow 0 x.1.2.2.2.1 x.1.2.2.1.length), (9, .val (.int .i64 x.1.1))], [(0, rowL x.1.2.2.2.1 9 eS x.1.2.2.1)], 82, 1, x.1.2.2.2.2, []⟩) ?_ ?_
    · refine AW.block (AW.round (α := { x : Nat × Nat × Int × List (List UInt8) × Nat × Nat // ApS l old x.1 x.2.1 x.2.2.1 x.2.2.2.1 }) (fun x => ⟨[(0, sL (eP eI (eP eI (eL (eP eI (eL eS))))) l), (7, sL eS old), (8, .ow 0 x.1.2.2.2.2.1 x.1.2.2.2.1.length), (9, .val (.int .i64 x.1.2.1)), (18, sL (eP eI (eP eI (eL (eP eI (eL eS))))) l), (19, .val (.int .i64 l.length)), (20, .val (.int .i64 x.1.1))], [(0, rowL x.1.2.2.2.2.1 9 eS x.1.2.2.2.1)], 82, 1, x.1.2.2.2.2.2, []⟩) (fun x => l.length - x.1.1) ⟨(0, 0, 0, [], 0, 1), ap_zero hR⟩ ?_ ?_)
      · simp only [go_sem, sRightP, sSplit, sWithoutP, sEqualS, sWhole, sJoin, hk_sz]
        exact RowLe.refl _
      · rintro ⟨⟨i, at', sh, ch, v, nx⟩, hS⟩
        dsimp only at hS
        have hi := hS.hi
        rcases Nat.lt_or_ge i l.length with hlt | hge
        · have hlI : ((i : Int) < (l.length : Nat)) = True := eq_true (by omega)
          obtain ⟨p1, p2, p3, p4, p5⟩ := ap_step hS hlt
          have hm : l.getD i (0, 0, []) ∈ l := by
            simp only [List.getD, List.getElem?_eq_getElem hlt, Option.getD_some]
            exact List.getElem_mem _
          obtain ⟨⟨k1, k2⟩, k3, k4⟩ := ho.2 _ hm
          generalize hge : l.getD i (0, 0, []) = g at *
          obtain ⟨A, B, st⟩ := g
          dsimp only at p1 p2 p3 p4 p5 k1 k2 k3 k4
          have n1 := Nat.le_trans (lessL_le k2 1) (Nat.mul_le_mul_right _ (show st.length ≤ 10000 by omega))
          have n2 := Nat.le_trans (lessL_le k2 2) (Nat.mul_le_mul_right _ (show st.length ≤ 10000 by omega))
          have hmap : A + (lessL 2 st).length ≤ old.length → (List.range ((A + (lessL 2 st).length).toNat - A.toNat)).map (fun k => old.getD (A.toNat + k) []) = cutL old A.toNat (A.toNat + (lessL 2 st).length) := fun h => by
            rw [cut_map (by omega), show (A + ((lessL 2 st).length : Int)).toNat = A.toNat + (lessL 2 st).length by omega]
          have hl0 := ho.1
          have hS1 := hS.hat
          have hS2 := hS.hn
          have hS3 := (newH_take l i).1
          refine AW.of hΓ mixed [99999] _ _ _ rfl ?_
          simp only [go_sem, sRightP, sSplit, sWithoutP, sEqualS, sWhole, sJoin, hk_sz, hk_d, hlI, hge, stC30, stC31, stC32, hk0, hk1, hk2]
          refine ⟨by omega, ⟨k1, k2⟩, by omega, fun _ => by omega, fun h => ?_, fun h => ?_, fun h => by rw [decide_eq_false h]; rfl, fun h => ?_, fun h => ?_⟩
          · simp only [Bool.not_eq_true', decide_eq_false_iff_not] at h
            exact ⟨by omega, by omega, by omega⟩
          · simp only [Bool.not_eq_true', decide_eq_false_iff_not] at h
            rw [List.length_range]
            exact ⟨by omega, by omega⟩
          · simp only [Bool.or_eq_true, decide_eq_true_eq, Bool.not_eq_true', decide_eq_false_iff_not] at h
            rw [p4 (by
              rcases h with h | h
              · exact .inl h
              · rcases Int.lt_or_le ((old.length : Int) - A) (lessL 2 st).length with q | q
                · exact .inl q
                · rw [hmap (by omega)] at h
                  exact .inr h)]
            exact ⟨rfl, rfl, rfl⟩
          · simp only [Bool.or_eq_false_iff, decide_eq_false_iff_not, Bool.not_eq_false', decide_eq_true_eq] at h
            obtain ⟨h1, h2⟩ := h
            rw [hmap (by omega)] at h2
            obtain ⟨sh', hS'⟩ := p5 (by
              rintro (q | q)
              · exact h1 q
              · exact q h2)
            have hl2 : (cutL old at' A.toNat).length = A.toNat - at' := cutL_len old (by omega)
            refine ⟨⟨by omega, by omega, by omega⟩, by omega, ⟨k1, k2⟩, by omega, by omega, by omega, ⟨(i + 1, A.toNat + (lessL 2 st).length, sh', ch ++ cutL old at' A.toNat ++ lessL 1 st, nx + 1 + 1, nx + 1 + 1 + 1), hS'⟩, ⟨Nat.le_refl _, ⟨⟨rfl, by simp only [List.length_append]; omega⟩, by dsimp only; omega, by dsimp only; omega⟩, row_two (by omega) rfl⟩, by dsimp only; omega⟩
        · obtain rfl : i = l.length := by omega
          have hlI : ((l.length : Int) < (l.length : Nat)) = False := eq_false (by omega)
          refine AW.of hΓ mixed [99999] _ _ _ rfl ?_
          simp only [go_sem, sRightP, sSplit, sWithoutP, sEqualS, sWhole, sJoin, hlI]
          refine ⟨⟨(at', sh, ch, v, nx), hS⟩, toFits ?_⟩
          simp only [go_sem, sRightP, sSplit, sWithoutP, sEqualS, sWhole, sJoin]
          exact RowLe.refl _
    · rintro ⟨⟨at', sh, ch, v, nx⟩, hS⟩
      dsimp only at hS
      obtain ⟨_, hat, _, he, hn, hf⟩ := hS
      rw [List.take_length] at hn hf
      rw [List.drop_length, appR] at he
      have hcl : (ch ++ old.drop at').length = ch.length + (old.length - at') := by rw [List.length_append, List.length_drop]
      have hfl2 : (old.take at').flatten.length + (old.drop at').flatten.length = s.length := by
        rw [← List.length_append, ← List.flatten_append, List.take_append_drop, hfl]
      have hok : okLs (ch ++ old.drop at') := ⟨by omega, by rw [List.flatten_append, List.length_append]; omega⟩
      simp only [go_sem, sRightP, sSplit, sWithoutP, sEqualS, sWhole, sJoin, hk_sz]
      refine ⟨⟨by omega, by omega, by omega⟩, by omega, ?_⟩
      have hdp : ∀ i, (old.drop at').getD i [] = old.getD (at' + i) [] := fun i => by simp [List.getD, List.getElem?_drop]
      have hmr : (List.range (ch.length + (old.length - at'))).map (fun i => (ch ++ old.drop at').getD i []) = ch ++ old.drop at' := by
        rw [← hcl]
        refine List.ext_getElem (by simp) fun i h1 h2 => ?_
        simp [List.getD, List.getElem?_eq_getElem h2]
      refine AW.cut ⟨[(0, sL (eP eI (eP eI (eL (eP eI (eL eS))))) l), (8, .ow 0 nx (ch ++ old.drop at').length)], [(0, rowL nx 9 eS (ch ++ old.drop at'))], 82, 1, nx + 1, []⟩ ?_ ?_
      · simp only [go_sem, sRightP, sSplit, sWithoutP, sEqualS, sWhole, sJoin]
        rw [← hcl]
        exact row_app (E := eS) (l := ch) (ys := old.drop at') rfl rfl rfl (by simp) rfl fun i hi j hj => by rw [hdp]; exact AVle.refl _
      refine AW.freeze 0 nx 9 1 (ch ++ old.drop at').length (fun i => eS.enc ((ch ++ old.drop at').getD i [])) rfl (fun _ _ _ _ => rfl) ?_
      refine AW.of hΓ mixed [99999] _ _ _ rfl ?_
      simp only [go_sem, sRightP, sSplit, sWithoutP, sEqualS, sWhole, sJoin, hk_sz, hmr]
      have hl0 := ho.1
      refine ⟨hok, fun h => ?_, fun h => ?_⟩
      · rw [Bool.not_eq_true'] at h
        rw [he, if_neg (by rw [h]; simp)]
        exact ⟨by omega, rfl, rfl, rfl⟩
      · rw [Bool.not_eq_false'] at h
        rw [he, if_pos h]
        exact ⟨hok, rfl, rfl, rfl⟩
  · have eA : appA l s = ([], 11, -1) := by unfold appA; rw [if_neg (by rw [hR]; simp)]
    rw [eA]
    refine AW.of hΓ mixed [99999] _ _ _ rfl ?_
    simp only [go_sem, sRightP, sSplit, sWithoutP, sEqualS, sWhole, sJoin, hk_sz, hR]
    exact ho
end Go.Proofs.YthpjjjnbkfnghaaGreatDoor
set_option linter.unusedSimpArgs false
set_option linter.unusedVariables false
namespace Go.Proofs.YthpjjjnbkfnghaaGreatDoor
open Go
def lstK (k : Int) (l : List StE) : Int := match l.getLast? with
  | some s => s.1
  | none => k
theorem lst_cons (k : Int) (s : StE) : ∀ l : List StE, lstK k (s :: l) = lstK s.1 l
  | [] => rfl
  | t :: l => by
    unfold lstK
    rw [List.getLast?_cons_cons]
    cases h : (t :: l).getLast? with
    | none => simp at h
    | some x => rfl
theorem lst_snoc (k : Int) (l : List StE) (s : StE) : lstK k (l ++ [s]) = s.1 := by
  unfold lstK
  rw [List.getLast?_append, List.getLast?_singleton, Option.some_or]
theorem right_snocP : ∀ {l : List StE} {k : Int} {s : StE}, rightE k (l ++ [s]) = true ↔ rightE k l = true ∧ ((s.1 = 0 ∨ s.1 = 1 ∨ s.1 = 2) ∧ s.2.length ≠ 0) ∧ (lstK k l ≠ s.1 ∧ ¬ (lstK k l = 2 ∧ s.1 = 1))
  | [], k, s => by
    rw [List.nil_append, rightE_cons]
    constructor
    · rintro ⟨h1, h2, _⟩; exact ⟨rfl, h1, h2⟩
    · rintro ⟨_, h1, h2⟩; exact ⟨h1, h2, rfl⟩
  | t :: l, k, s => by
    rw [List.cons_append, rightE_cons, rightE_cons, right_snocP, lst_cons]
    constructor
    · rintro ⟨h1, h2, h3, h4, h5⟩; exact ⟨⟨h1, h2, h3⟩, h4, h5⟩
    · rintro ⟨⟨h1, h2, h3⟩, h4, h5⟩; exact ⟨h1, h2, h3, h4, h5⟩
theorem put_right {s : List StE} {k : Int} {ts : List (List UInt8)} (h : rightE (-1) s = true) (hk : k = 0 ∨ k = 1 ∨ k = 2) (hf : lstK (-1) s = k ∨ (lstK (-1) s ≠ k ∧ ¬ (lstK (-1) s = 2 ∧ k = 1))) :
    rightE (-1) (putL s k ts) = true ∧ lstK (-1) (putL s k ts) = if ts.length = 0 then lstK (-1) s else k := by
  by_cases h0 : ts.length = 0
  · obtain rfl := List.length_eq_zero_iff.1 h0
    rw [putL_nil]
    exact ⟨h, by simp⟩
  · rw [if_neg h0]
    rcases s.eq_nil_or_concat with rfl | ⟨m, x, rfl⟩
    · rw [putL_first h0]
      exact ⟨rightE_cons.2 ⟨⟨hk, h0⟩, ⟨by omega, by omega⟩, rfl⟩, rfl⟩
    · rw [List.concat_eq_append] at h hf ⊢
      rw [lst_snoc] at hf
      by_cases hx : x.1 = k
      · rw [putL_same h0 hx, lst_snoc]
        obtain ⟨g1, g2, g3⟩ := right_snocP.1 h
        refine ⟨right_snocP.2 ⟨g1, ⟨hk, ?_⟩, by rw [← hx]; exact g3⟩, rfl⟩
        dsimp only
        rw [List.length_append]
        omega
      · rw [putL_new h0 hx, lst_snoc]
        refine ⟨right_snocP.2 ⟨h, ⟨hk, h0⟩, ?_⟩, rfl⟩
        rw [lst_snoc]
        rcases hf with hf | hf
        · exact absurd hf hx
        · exact hf
theorem ofG_right {a b : List (List UInt8)} : ∀ (l : List (Int × Int)) (i k : Nat) (s : List StE), i ≤ a.length → rgt (numA a b) (numB a b) ((i : Int) - 1) ((k : Int) - 1) l = true → rightE (-1) s = true → (lstK (-1) s = -1 ∨ lstK (-1) s = 0) → rightE (-1) (ofG a b l i k s) = true
  | [], i, k, s, _, _, h, hl => by
    rw [ofG]
    obtain ⟨h1, e1⟩ := put_right (ts := a.drop i) h (.inr (.inl rfl)) (.inr ⟨by omega, by omega⟩)
    refine (put_right h1 (.inr (.inr rfl)) (.inr ?_)).1
    rw [e1]
    split <;> omega
  | p :: l, i, k, s, hi, hr, h, hl => by
    rw [rgt] at hr
    simp only [Bool.and_eq_true, decide_eq_true_eq] at hr
    obtain ⟨⟨c1, c2, c3, c4, _⟩, hr⟩ := hr
    rw [numA_len] at c3
    rw [ofG]
    obtain ⟨h1, e1⟩ := put_right (ts := cutL a i p.1.toNat) h (.inr (.inl rfl)) (.inr ⟨by omega, by omega⟩)
    have f1 : lstK (-1) (putL s 1 (cutL a i p.1.toNat)) = -1 ∨ lstK (-1) (putL s 1 (cutL a i p.1.toNat)) = 0 ∨ lstK (-1) (putL s 1 (cutL a i p.1.toNat)) = 1 := by
      rw [e1]; split <;> omega
    obtain ⟨h2, e2⟩ := put_right (ts := cutL b k p.2.toNat) h1 (.inr (.inr rfl)) (.inr ⟨by omega, by omega⟩)
    obtain ⟨h3, e3⟩ := put_right (ts := cutL a p.1.toNat (p.1.toNat + 1)) h2 (.inl rfl) (by
      rcases Int.decEq (lstK (-1) (putL (putL s 1 (cutL a i p.1.toNat)) 2 (cutL b k p.2.toNat))) 0 with g | g
      · exact .inr ⟨g, by omega⟩
      · exact .inl g)
    refine ofG_right l _ _ _ (by omega) ?_ h3 (.inr ?_)
    · have t1 : ((p.1.toNat + 1 : Nat) : Int) - 1 = p.1 := by omega
      have t2 : ((p.2.toNat + 1 : Nat) : Int) - 1 = p.2 := by omega
      rw [t1, t2]
      exact hr
    · rw [e3, if_neg]
      rw [cutL_len a (by omega)]
      omega
end Go.Proofs.YthpjjjnbkfnghaaGreatDoor
set_option linter.unusedSimpArgs false
set_option linter.unusedVariables false
namespace Go.Proofs.YthpjjjnbkfnghaaGreatDoor
open Go
def wtT (f : List UInt8 → Nat) (ts : List (List UInt8)) : Nat := (ts.map f).sum
def wtL (f : List UInt8 → Nat) (l : List StE) : Nat := (l.map fun s => wtT f s.2).sum
def wtH (f : List UInt8 → Nat) (l : List Hk) : Nat := (l.map fun h => wtL f h.2.2).sum
section
variable (f : List UInt8 → Nat)
theorem wtT_app (a b : List (List UInt8)) : wtT f (a ++ b) = wtT f a + wtT f b := by simp [wtT]
theorem wtL_app (a b : List StE) : wtL f (a ++ b) = wtL f a + wtL f b := by simp [wtL]
theorem wtH_app (a b : List Hk) : wtH f (a ++ b) = wtH f a + wtH f b := by simp [wtH]
theorem wtT_cut (ts : List (List UInt8)) {a b : Nat} (h : a + b ≤ ts.length) : wtT f (ts.take a) + wtT f (ts.drop (ts.length - b)) ≤ wtT f ts := by
  have e : ts = ts.take a ++ ((ts.drop a).take (ts.length - b - a) ++ (ts.drop a).drop (ts.length - b - a)) := by
    rw [List.take_append_drop, List.take_append_drop]
  have e2 : (ts.drop a).drop (ts.length - b - a) = ts.drop (ts.length - b) := by
    rw [List.drop_drop]; congr 1; omega
  rw [e2] at e
  have := congrArg (wtT f) e
  rw [wtT_app, wtT_app] at this
  omega
theorem wt_appP (l : List StE) (k : Int) (ts : List (List UInt8)) : wtL f (appP l k ts) = wtL f l + wtT f ts := by
  by_cases h : ts.length = 0
  · obtain rfl := List.length_eq_zero_iff.1 h
    rw [appP_nil]; rfl
  · rw [appP_ne h, wtL_app]
    simp [wtL]
theorem wt_cls (hs : List Hk) (o : Hk) : wtH f (clsP hs o) ≤ wtH f hs + wtL f o.2.2 := by
  unfold clsP
  split
  · rw [wtH_app]; simp [wtH]
  · omega
theorem wt_step (n : Nat) (b t : Bool) (s : StE) (q : Os) : wtH f (stepPt n b t s q).1 + wtL f (stepPt n b t s q).2.1.2.2 ≤ wtH f q.1 + wtL f q.2.1.2.2 + wtT f s.2 := by
  unfold stepPt
  split
  · dsimp only
    rw [wt_appP]; omega
  · split
    · dsimp only
      rw [wt_appP]; omega
    · rename_i h1 h2
      dsimp only
      have c1 := wt_cls f q.1 (q.2.1.1, q.2.1.2.1, appP q.2.1.2.2 0 (s.2.take (bhP n b s)))
      dsimp only at c1
      rw [wt_appP] at c1
      rw [wt_appP]
      have c2 : bhP n b s + ahP n t s ≤ s.2.length := by
        unfold bhP ahP
        cases b <;> cases t <;> simp at h2 ⊢ <;> omega
      have c3 := wtT_cut f s.2 c2
      have c4 : wtL f [] = 0 := rfl
      omega
theorem wt_ofI (L : List StE) (n : Nat) : ∀ i, i ≤ L.length → wtH f (ofI L n i).1 + wtL f (ofI L n i).2.1.2.2 ≤ wtL f (L.take i)
  | 0, _ => by simp [ofI, wtH, wtL]
  | i + 1, h => by
    have ih := wt_ofI L n i (by omega)
    have st := wt_step f n (decide (i = 0)) (decide (i + 1 = L.length)) (L.getD i (0, [])) (ofI L n i)
    rw [ofI, take_snocE L (0, []) (by omega), wtL_app]
    have e : wtL f [L.getD i (0, [])] = wtT f (L.getD i (0, [])).2 := by simp [wtL]
    omega
theorem wt_ofP (L : List StE) (n : Nat) : wtH f (ofP L n) ≤ wtL f L := by
  have h := wt_ofI f L n L.length (Nat.le_refl _)
  rw [List.take_length] at h
  have c := wt_cls f (ofI L n L.length).1 (ofI L n L.length).2.1
  unfold ofP
  omega
theorem wt_sides (L : List StE) : wtL f L ≤ wtT f (lessL 2 L) + wtT f (lessL 1 L) := by
  induction L with
  | nil => exact Nat.zero_le _
  | cons s L ih =>
    rw [lessL_cons, lessL_cons, wtT_app, wtT_app]
    have e : wtL f (s :: L) = wtT f s.2 + wtL f L := by simp [wtL]
    rw [e]
    have z : wtT f [] = 0 := rfl
    by_cases h2 : s.1 = 2
    · rw [if_pos h2, if_neg (by omega)]
      omega
    · rw [if_neg h2]
      omega
theorem sum_memP {n : Nat} : ∀ {l : List Nat}, n ∈ l → n ≤ l.sum
  | m :: l, h => by
    rw [List.sum_cons]
    rcases List.mem_cons.1 h with rfl | h
    · omega
    · have := sum_memP h; omega
theorem wtT_mem {ts : List (List UInt8)} {t : List UInt8} (h : t ∈ ts) : f t ≤ wtT f ts := by
  unfold wtT
  exact sum_memP (List.mem_map_of_mem h)
theorem wtL_mem {l : List StE} {s : StE} (h : s ∈ l) : wtT f s.2 ≤ wtL f l := by
  unfold wtL
  exact sum_memP (List.mem_map_of_mem (f := fun s : StE => wtT f s.2) h)
theorem wtH_mem {l : List Hk} {s : Hk} (h : s ∈ l) : wtL f s.2.2 ≤ wtH f l := by
  unfold wtH
  exact sum_memP (List.mem_map_of_mem (f := fun s : Hk => wtL f s.2.2) h)
theorem wt_less (j : Int) (l : List StE) : wtT f (lessL j l) ≤ wtL f l := by
  induction l with
  | nil => exact Nat.zero_le _
  | cons s l ih =>
    rw [lessL_cons, wtT_app]
    have e : wtL f (s :: l) = wtT f s.2 + wtL f l := by simp [wtL]
    have z : wtT f [] = 0 := rfl
    rw [e]
    split <;> omega
theorem wt_new (l : List Hk) : wtT f (newH l) ≤ wtH f l := by
  induction l with
  | nil => exact Nat.zero_le _
  | cons h l ih =>
    have e : newH (h :: l) = lessL 1 h.2.2 ++ newH l := rfl
    have e2 : wtH f (h :: l) = wtL f h.2.2 + wtH f l := by simp [wtH]
    have := wt_less f 1 h.2.2
    rw [e, e2, wtT_app]
    omega
end
theorem wt_one (ts : List (List UInt8)) : wtT (fun _ => 1) ts = ts.length := by
  induction ts with
  | nil => rfl
  | cons t ts ih => unfold wtT at ih ⊢; rw [List.map_cons, List.sum_cons, ih, List.length_cons]; omega
theorem wt_flat (ts : List (List UInt8)) : wtT List.length ts = ts.flatten.length := by
  induction ts with
  | nil => rfl
  | cons t ts ih => unfold wtT at ih ⊢; rw [List.map_cons, List.sum_cons, ih, List.flatten_cons, List.length_append]
theorem wt_plus (c : Nat) (ts : List (List UInt8)) : wtT (fun t => t.length + c) ts = ts.flatten.length + c * ts.length := by
  induction ts with
  | nil => rfl
  | cons t ts ih => unfold wtT at ih ⊢; rw [List.map_cons, List.sum_cons, ih, List.flatten_cons, List.length_append, List.length_cons, Nat.mul_add]; omega
theorem wt_cnt {l : List StE} (h : ∀ s ∈ l, s.2.length ≠ 0) : l.length ≤ wtL (fun _ => 1) l := by
  induction l with
  | nil => exact Nat.zero_le _
  | cons s l ih =>
    have e : wtL (fun _ => 1) (s :: l) = wtT (fun _ => 1) s.2 + wtL (fun _ => 1) l := by simp [wtL]
    have h1 := h s (List.mem_cons_self ..)
    have h2 := ih fun x hx => h x (List.mem_cons_of_mem _ hx)
    rw [wt_one] at e
    rw [e, List.length_cons]
    omega
theorem right_chg : ∀ {l : List Hk} {n s : Int}, rightP l n s = true → ∀ h ∈ l, chgP h.2.2 = true
  | [], _, _, _, h, hm => by cases hm
  | g :: r, n, s, hr, h, hm => by
    rw [rightP, Bool.and_eq_true] at hr
    rcases List.mem_cons.1 hm with rfl | hm
    · have := hr.1
      unfold hunkP at this
      simp only [Bool.and_eq_true] at this
      exact this.1.2.1
    · exact right_chg hr.2 h hm
theorem wt_hcnt {l : List Hk} (h : ∀ x ∈ l, 1 ≤ wtL (fun _ => 1) x.2.2) : l.length ≤ wtH (fun _ => 1) l := by
  induction l with
  | nil => exact Nat.zero_le _
  | cons s l ih =>
    have e : wtH (fun _ => 1) (s :: l) = wtL (fun _ => 1) s.2.2 + wtH (fun _ => 1) l := by simp [wtH]
    have h1 := h s (List.mem_cons_self ..)
    have h2 := ih fun x hx => h x (List.mem_cons_of_mem _ hx)
    rw [e, List.length_cons]
    omega
theorem line_le (k : Int) (t : List UInt8) : (lineP k t).length ≤ t.length + 12 := by
  unfold lineP
  split
  · simp
  · simp [noEndB]
theorem lines_le (k : Int) (ts : List (List UInt8)) : (linesT k ts).length ≤ wtT (fun t => t.length + 12) ts := by
  induction ts with
  | nil => exact Nat.zero_le _
  | cons t ts ih =>
    have := line_le k t
    unfold linesT at ih ⊢
    unfold wtT at ih ⊢
    rw [List.map_cons, List.flatten_cons, List.length_append, List.map_cons, List.sum_cons]
    omega
theorem steps_le (l : List StE) : (stepsT l).length ≤ wtL (fun t => t.length + 12) l := by
  induction l with
  | nil => exact Nat.zero_le _
  | cons s l ih =>
    have := lines_le s.1 s.2
    have e : wtL (fun t => t.length + 12) (s :: l) = wtT (fun t => t.length + 12) s.2 + wtL (fun t => t.length + 12) l := by simp [wtL]
    have e2 : stepsT (s :: l) = linesT s.1 s.2 ++ stepsT l := rfl
    rw [e, e2, List.length_append]
    omega
theorem of_sizes {L : List StE} {x y : List (List UInt8)} (hr : rightE (-1) L = true) (hx : lessL 2 L = x) (hy : lessL 1 L = y) (wx : wholeL x = true) (wy : wholeL y = true) (hc : x.length + y.length < 10000) (hb : x.flatten.length + y.flatten.length ≤ 1000000) (n : Nat) :
    (L.length < 10000 ∧ ∀ s ∈ L, s.2.length ≤ 10000) ∧ okHs (ofP L n) ∧ ((newH (ofP L n)).length ≤ 50000000 ∧ (newH (ofP L n)).flatten.length ≤ 10000000000) ∧ (∀ h ∈ ofP L n, (0 ≤ h.1 ∧ h.1 ≤ 1000000) ∧ 0 ≤ h.2.1 ∧ h.2.1 ≤ 100000000) ∧ (txtH (ofP L n)).length ≤ 5000000 ∧ ∀ h ∈ ofP L n, okHk h := by
  obtain ⟨hR, _, hB⟩ := ofP_all hr hx hy wx wy (by omega) n
  have s1 := wt_sides (fun _ => 1) L
  have s2 := wt_sides List.length L
  have s3 := wt_sides (fun t => t.length + 12) L
  rw [hx, hy, wt_one, wt_one] at s1
  rw [hx, hy, wt_flat, wt_flat] at s2
  rw [hx, hy, wt_plus, wt_plus] at s3
  have o1 := wt_ofP (fun _ => 1) L n
  have o2 := wt_ofP List.length L n
  have o3 := wt_ofP (fun t => t.length + 12) L n
  have st1 : ∀ h ∈ ofP L n, okSt h.2.2 := fun h hh => by
    have r := right_mem hR h hh
    have m1 := wtH_mem (fun _ => 1) hh
    have m2 := wtH_mem List.length hh
    refine ⟨⟨?_, fun s hs => ?_⟩, fun s hs t ht => ?_, fun j => ?_⟩
    · have := wt_cnt (right_ne r)
      omega
    · have := wtL_mem (fun _ => 1) hs
      rw [wt_one] at this
      omega
    · have a1 := wtL_mem List.length hs
      have a2 := wtT_mem List.length ht
      omega
    · have := wt_less List.length j h.2.2
      rw [wt_flat] at this
      omega
  have hlen : (ofP L n).length ≤ wtH (fun _ => 1) (ofP L n) := wt_hcnt fun h hh => by
    have r := right_mem hR h hh
    have c := right_chg hR h hh
    have := wt_cnt (right_ne r)
    have : h.2.2 ≠ [] := fun e => by rw [e] at c; cases c
    have := List.length_pos_iff.2 this
    omega
  refine ⟨⟨?_, fun s hs => ?_⟩, ⟨by omega, st1⟩, ⟨?_, ?_⟩, fun h hh => ?_, ?_, fun h hh => ?_⟩
  · have := wt_cnt (right_ne hr)
    omega
  · have := wtL_mem (fun _ => 1) hs
    rw [wt_one] at this
    omega
  · have := wt_new (fun _ => 1) (ofP L n)
    rw [wt_one] at this
    omega
  · have := wt_new List.length (ofP L n)
    rw [wt_flat] at this
    omega
  · obtain ⟨b1, b2, b3⟩ := hB h hh
    obtain ⟨g1, g2, _⟩ := right_ok hR h hh
    omega
  · have key : ∀ l : List Hk, (∀ h ∈ l, h ∈ ofP L n) → (txtH l).length ≤ 80 * l.length + wtH (fun t => t.length + 12) l := by
      intro l
      induction l with
      | nil => exact fun _ => Nat.zero_le _
      | cons h l ih =>
        intro hm
        have hh := hm h (List.mem_cons_self ..)
        have ih := ih fun x hx => hm x (List.mem_cons_of_mem _ hx)
        obtain ⟨b1, b2, b3⟩ := hB h hh
        obtain ⟨g1, g2, _⟩ := right_ok hR h hh
        obtain ⟨⟨k1, k2⟩, _⟩ := st1 h hh
        have c0 := Nat.le_trans (countL_le k2 0) (Nat.mul_le_mul_right _ (show h.2.2.length ≤ 10000 by omega))
        have c1 := Nat.le_trans (countL_le k2 1) (Nat.mul_le_mul_right _ (show h.2.2.length ≤ 10000 by omega))
        have c2 := Nat.le_trans (countL_le k2 2) (Nat.mul_le_mul_right _ (show h.2.2.length ≤ 10000 by omega))
        have l1 := place_len (a := h.1) (n := (countL 0 h.2.2 : Int) + countL 1 h.2.2) b1 (by omega) (by omega) (by omega)
        have l2 := place_len (a := h.2.1) (n := (countL 0 h.2.2 : Int) + countL 2 h.2.2) b2 (by omega) (by omega) (by omega)
        have e : txtH (h :: l) = headP h ++ stepsT h.2.2 ++ txtH l := rfl
        have e2 : wtH (fun t => t.length + 12) (h :: l) = wtL (fun t => t.length + 12) h.2.2 + wtH (fun t => t.length + 12) l := by simp [wtH]
        have e3 := steps_le h.2.2
        have e4 : (headP h).length ≤ 80 := by
          unfold headP
          simp only [List.length_append, opnB, btwB, clsB, List.length_cons, List.length_nil]
          omega
        rw [e, e2, List.length_append, List.length_append, List.length_cons]
        omega
    have := key (ofP L n) fun _ h => h
    omega
  · obtain ⟨b1, b2, b3⟩ := hB h hh
    obtain ⟨g1, g2, g3⟩ := right_ok hR h hh
    exact ⟨⟨b1, g2, b2, by omega⟩, g1, g3⟩
end Go.Proofs.YthpjjjnbkfnghaaGreatDoor
set_option linter.unusedSimpArgs false
set_option linter.unusedVariables false
set_option maxRecDepth 100000
set_option maxHeartbeats 8000000
namespace Go.Proofs.YthpjjjnbkfnghaaGreatDoor
open Go
inductive Rd where
  | e
  | h (l : List Hk) (A B : Int)
  | s (l : List Hk) (A B : Int) (st : List StE) (k : Int) (ts : List (List UInt8)) (t : List UInt8)
def Rd.val : Rd → List Hk
  | .e => []
  | .h l A B => l ++ [(A, B, [])]
  | .s l A B st k ts t => l ++ [(A, B, st ++ [(k, ts ++ [t])])]
def Rd.len : Rd → Nat
  | .e => 0
  | .h l _ _ => l.length + 1
  | .s l _ _ _ _ _ _ => l.length + 1
def Rd.small (n : Nat) : Rd → Prop
  | .e => True
  | .h l _ _ => l.length < n
  | .s l _ _ st _ ts t => l.length + st.length + ts.length < n ∧ t.length ≤ 1000000000
def Rd.rows (v v1 v2 : Nat) : Rd → List (Nat × Row)
  | .e => [(0, rHk v [])]
  | .h l A B => [(0, rHx v l A B .em)]
  | .s l A B st k ts t => [(0, rHx v l A B (.ow 1 v1 (st.length + 1))), (1, rSx v1 st k (.ow 2 v2 (ts.length + 1))), (2, rowL v2 9 eS (ts ++ [t]))]
theorem lines_lined {l : List Hk} (h : ∀ x ∈ l, okHk x) : ∀ x ∈ linesH l, linedP x := fun x hx => by
  unfold linesH at hx
  obtain ⟨k, hk, hx⟩ := List.mem_flatMap.1 hx
  obtain ⟨⟨h1, h2, h3, h4⟩, hr, ho⟩ := h k hk
  rcases List.mem_cons.1 hx with rfl | hx
  · exact head_lined h1 h3
  · obtain ⟨s, hs, hx⟩ := List.mem_flatMap.1 hx
    unfold stepLs at hx
    obtain ⟨t, ht, hx⟩ := List.mem_flatMap.1 hx
    exact lns_lined (right_kind hr s hs) (ho s hs t ht) x hx
theorem lines_hd {l : List Hk} (h : ∀ x ∈ l, okHk x) (hlen : (txtH l).length ≤ 100000000) : ∀ x ∈ linesH l, isHd x = true → okHd x := fun x hx hd => by
  have hxl : x.length ≤ 100000000 := by
    have h1 := wtT_mem List.length hx
    rw [wt_flat, lines_flat] at h1
    omega
  unfold linesH at hx
  obtain ⟨k, hk, hx⟩ := List.mem_flatMap.1 hx
  obtain ⟨⟨h1, h2, h3, h4⟩, hr, ho⟩ := h k hk
  rcases List.mem_cons.1 hx with rfl | hx
  · obtain ⟨g1, g2, g3, _⟩ := head_read k h1 h2 h3 h4
    refine ⟨by omega, g1, g3, ?_⟩
    rw [g2]
    exact ⟨⟨by dsimp only; omega, by dsimp only; omega⟩, by dsimp only; omega, by dsimp only; omega⟩
  · exfalso
    obtain ⟨s, hs, hx⟩ := List.mem_flatMap.1 hx
    unfold stepLs at hx
    obtain ⟨t, ht, hx⟩ := List.mem_flatMap.1 hx
    have hsg := fun u => (sgn_facts (right_kind hr s hs) u).1
    unfold lnsP at hx
    split at hx
    · rw [List.mem_singleton] at hx
      subst hx
      rw [hsg] at hd
      cases hd
    · rcases List.mem_cons.1 hx with rfl | hx
      · rw [hsg] at hd
        cases hd
      · rw [List.mem_singleton] at hx
        subst hx
        revert hd
        decide
attribute [local irreducible] AW AVle ASle RowLe
def pGood (l : List Hk) : Prop := rightP l 0 0 = true ∧ (∀ x ∈ l, okHk x) ∧ okHs l ∧ (∀ h ∈ l, (0 ≤ h.1 ∧ h.1 ≤ 1000000) ∧ 0 ≤ h.2.1 ∧ h.2.1 ≤ 100000000) ∧ (txtH l).length ≤ 50000000
def Rd.at (s : List UInt8) (ls : List (List UInt8)) (i : Nat) (x : Rd) (v v1 v2 nx : Nat) : AS :=
  (Sh.mk [(0, .st s), (4, .ow 0 v x.len), (10, sL eS ls), (11, .val (.int .i64 ls.length)), (12, .val (.int .i64 i))] (x.rows v v1 v2) 43 3 nx []).st
theorem hk_end {l : List Hk} {A B : Int} {st : List StE} {x : AV} (hx : AVle x (sL (eP eI (eL eS)) st)) : ∀ i, i < l.length + 1 → ∀ j, j < 3 → AVle (apC l.length (fun i => (eP eI (eP eI (eL (eP eI (eL eS))))).enc (l.getD i (0, 0, []))) (fun _ j => if j = 0 then .val (.int .i64 A) else if j = 1 then .val (.int .i64 B) else x) i j) ((eP eI (eP eI (eL (eP eI (eL eS))))).enc ((l ++ [(A, B, st)]).getD i (0, 0, [])) j) := fun i hi j hj => by
  unfold apC
  by_cases h : i < l.length
  · rw [if_pos h, show (l ++ [(A, B, st)]).getD i (0, 0, []) = l.getD i (0, 0, []) by simp [List.getD, List.getElem?_append_left h]]
    exact AVle.refl _
  · obtain rfl : i = l.length := by omega
    rw [if_neg h, show (l ++ [(A, B, st)]).getD l.length (0, 0, []) = (A, B, st) by simp [List.getD]]
    match j, hj with
    | 0, _ => exact AVle.refl _
    | 1, _ => exact AVle.refl _
    | 2, _ => exact hx
theorem hk_fz2 {v1 n z : Nat} {cc : Nat → Nat → AV} {l : List Hk} {A B : Int} {x : AV} {i j : Nat} (hi : i < l.length + 1) (hj : j < 3) (hx : AVle (.sn n z cc) x) :
    AVle (fz 1 v1 n z cc (apC l.length (fun i => (eP eI (eP eI (eL (eP eI (eL eS))))).enc (l.getD i (0, 0, []))) (fun _ j => if j = 0 then .val (.int .i64 A) else if j = 1 then .val (.int .i64 B) else .ow 1 v1 n) i j)) (apC l.length (fun i => (eP eI (eP eI (eL (eP eI (eL eS))))).enc (l.getD i (0, 0, []))) (fun _ j => if j = 0 then .val (.int .i64 A) else if j = 1 then .val (.int .i64 B) else x) i j) := by
  unfold apC
  split
  · match j, hj with
    | 0, _ => exact AVle.refl _
    | 1, _ => exact AVle.refl _
    | 2, _ => exact AVle.refl _
  · match j, hj with
    | 0, _ => exact AVle.refl _
    | 1, _ => exact AVle.refl _
    | 2, _ =>
      have e : fz 1 v1 n z cc (.ow 1 v1 n) = .sn n z cc := if_pos ⟨rfl, rfl, Nat.le_refl _⟩
      show AVle (fz 1 v1 n z cc (.ow 1 v1 n)) x
      rw [e]
      exact hx
theorem Rd.full (s : List UInt8) (ls : List (List UInt8)) (i : Nat) (x : Rd) (v v1 v2 nx : Nat) :
    ASle (x.at s ls i v v1 v2 nx) (Sh.mk [(0, .st s), (4, .ow 0 v x.val.length), (10, sL eS ls), (11, .val (.int .i64 ls.length)), (12, .val (.int .i64 i))] [(0, rHk v x.val)] 43 3 nx []).st := by
  cases x with
  | e => exact ASle.refl _
  | h l A B =>
    refine toFitsV (fun p => p) ?_
    simp only [go_sem, Rd.at, Rd.len, Rd.rows, Rd.val, List.length_append, List.length_cons, List.length_nil]
    exact RowLe.sl (by simp) (hk_end (em_sL _))
  | s l A B st k ts t =>
    refine (ASle.freeze 2 v2 9 1 (ts.length + 1) (fun i => eS.enc ((ts ++ [t]).getD i [])) (by show rowL v2 9 eS (ts ++ [t]) = _; exact rowL_snoc _ _ _ _) (fun _ _ _ _ => rfl)).trans ?_
    refine ASle.trans (b := (Sh.mk [(0, .st s), (4, .ow 0 v (l.length + 1)), (10, sL eS ls), (11, .val (.int .i64 ls.length)), (12, .val (.int .i64 i))] [(0, rHx v l A B (.ow 1 v1 (st.length + 1))), (1, .sl v1 86 2 (st.length + 1) fun i => (eP eI (eL eS)).enc ((st ++ [(k, ts ++ [t])]).getD i (0, [])))] 43 3 nx []).st) (toFitsV (fun p => p) ?_) ?_
    · simp only [go_sem, Rd.at, Rd.len, Rd.rows, Rd.val]
      exact ⟨hk_fz, RowLe.sl (by simp) steps_end⟩
    refine (ASle.freeze 1 v1 86 2 (st.length + 1) (fun i => (eP eI (eL eS)).enc ((st ++ [(k, ts ++ [t])]).getD i (0, []))) rfl (fun _ _ j hj => match j, hj with | 0, _ => rfl | 1, _ => rfl)).trans (toFitsV (fun p => p) ?_)
    simp only [go_sem, Rd.val, List.length_append, List.length_cons, List.length_nil]
    refine RowLe.sl (by simp) fun i hi j hj => (hk_fz2 hi hj ?_).trans (hk_end (x := sL (eP eI (eL eS)) (st ++ [(k, ts ++ [t])])) (AVle.refl _) i hi j hj)
    unfold sL
    rw [show (st ++ [(k, ts ++ [t])]).length = st.length + 1 by simp]
    exact AVle.refl _
theorem Rd.small.len {n : Nat} {x : Rd} (h : x.small n) : x.val.length ≤ n := by
  cases x with
  | e => exact Nat.zero_le _
  | h l A B =>
    have h : l.length < n := h
    simp [Rd.val]; omega
  | s l A B st k ts t =>
    obtain ⟨h, _⟩ : l.length + st.length + ts.length < n ∧ t.length ≤ 1000000000 := h
    simp [Rd.val]; omega
theorem Rd.small.step {n : Nat} {x : Rd} {A B : Int} (h : x.small n) : (Rd.h x.val A B).small (n + 1) := Nat.lt_succ_of_le h.len
theorem rd1_head {x : Rd} {line : List UInt8} {m : List Hk} (hd : isHd line = true) (h : rd1 x.val line = some m) : m = (Rd.h x.val (rdH line).1 (rdH line).2.1).val := by
  unfold rd1 at h
  rw [if_pos hd] at h
  split at h
  · simp only [Option.some.injEq] at h
    rw [← h]
    rfl
  · cases h
def sParseP : Spec := Spec.f1 kS (fun s => ∃ l, pGood l ∧ s = txtH l) (fun s => tu2 (sL (eP eI (eP eI (eL (eP eI (eL eS))))) (parseP s).1) (kI.enc 0))
theorem okParseP : SpecOK Tryz.prog 31 sParseP := by
  refine SpecOK.f1 Tryz.func31 rfl (by decide) Tryz.results31 Tryz.ntmps31 (by decide) fun s ⟨fin, ⟨hR, hok, hs1, hs2, hs3⟩, hs⟩ => ?_
  have hΓ : GOK Tryz.prog (gam [(26, sSplit), (85, sHasPre), (86, sReadH), (87, sReadL), (49, sRightP), (32, sTextPt)]) := (.cons okSplit (.cons okHasPre (.cons okReadH (.cons okReadL (.cons okRightP (.cons okTextPt .nil))))))
  have eT : textP0 fin = s := by unfold textP0; rw [if_pos hR, hs]
  have eP0 : parseP s = (fin, 0) := by rw [← eT]; exact parse_txt hR hok
  have hsl : s.length ≤ 50000000 := by rw [hs]; exact hs3
  have hlines : splitL s = linesH fin := by rw [hs]; exact split_txt hok
  have hall : rdAll (splitL s) [] = some fin := by rw [hlines]; exact rd_back fin [] hok
  have hlin : ∀ x ∈ splitL s, linedP x := by rw [hlines]; exact lines_lined hok
  have hhd : ∀ x ∈ splitL s, isHd x = true → okHd x := by rw [hlines]; exact lines_hd hok (by omega)
  have hll : ∀ x ∈ splitL s, x.length ≤ 100000000 := fun x hx => by
    have h1 := wtT_mem List.length hx
    rw [wt_flat, splitL_flat] at h1
    omega
  have hol := splitL_len s
  rw [eP0]
  refine AW.of hΓ mixed [2] _ _ _ rfl ?_
  simp only [go_sem, sSplit, sHasPre, sReadH, sReadL, sRightP, sTextPt]
  refine ⟨by omega, ?_⟩
  generalize splitL s = ls at *
  refine AW.adopt 4 84 3 (fun i => (eP eI (eP eI (eL (eP eI (eL eS))))).enc (([] : List Hk).getD i (0, 0, []))) rfl ?_
  refine AW.to (fun x : Nat => Sh.st ⟨[(0, .st s), (4, sL (eP eI (eP eI (eL (eP eI (eL eS))))) fin)], [], 43, 3, x, []⟩) ?_ fun x => ?_
  · refine AW.block (AW.roundL (α := { y : Nat × Rd × Nat × Nat × Nat × Nat // y.1 ≤ ls.length ∧ rdAll (ls.drop y.1) y.2.1.val = some fin ∧ y.2.1.small y.1 }) (fun y => Rd.at s ls y.1.1 y.1.2.1 y.1.2.2.1 y.1.2.2.2.1 y.1.2.2.2.2.1 y.1.2.2.2.2.2) (fun y => ls.length - y.1.1) ⟨(0, .e, 0, 0, 0, 1), Nat.zero_le _, hall, trivial⟩ ?_ ?_)
    · refine toFitsV (fun p => p) ?_
      simp only [go_sem, sSplit, sHasPre, sReadH, sReadL, sRightP, sTextPt, Rd.len, Rd.rows, hk_sz]
      exact RowLe.refl _
    · rintro ⟨⟨i, x, v, v1, v2, nx⟩, hi0, hr0, hsm0⟩
      have hi : i ≤ ls.length := hi0
      have hr : rdAll (ls.drop i) x.val = some fin := hr0
      have hsm : x.small i := hsm0
      dsimp only
      rcases Nat.lt_or_ge i ls.length with hlt | hge
      · have hlI : ((i : Int) < (ls.length : Nat)) = True := eq_true (by omega)
        have hm : ls.getD i [] ∈ ls := by
          simp only [List.getD, List.getElem?_eq_getElem hlt, Option.getD_some]
          exact List.getElem_mem _
        have hd : ls.drop i = ls.getD i [] :: ls.drop (i + 1) := by
          rw [List.drop_eq_getElem_cons hlt]
          simp [List.getD, List.getElem?_eq_getElem hlt]
        rw [hd, rdAll] at hr
        have l1 := hlin _ hm
        have l2 := hhd _ hm
        have l3 := hll _ hm
        generalize hg : ls.getD i [] = line at *
        have hne : line ≠ [] := by
          obtain ⟨p, _, rfl⟩ := l1
          simp
        cases h1 : rd1 x.val line with
        | none => rw [h1] at hr; cases hr
        | some m =>
          rw [h1] at hr
          dsimp only at hr
          by_cases hh : isHd line = true
          · have em := rd1_head hh h1
            have ep : Lib.hasPrefix line [37, 37, 32, 45] = true := hh
            refine AW.le (Rd.full s ls i x v v1 v2 nx) ?_
            have hsl2 := hsm.len
            refine AW.of hΓ mixed [99999] _ _ _ rfl ?_
            simp only [go_sem, sSplit, sHasPre, sReadH, sReadL, sRightP, sTextPt, hk_sz, hlI, hg, ep, outHead]
            refine ⟨by omega, l2 hh, by omega, by omega, ⟨(i + 1, .h x.val (rdH line).1 (rdH line).2.1, nx + 1, 0, 0, nx + 2), by dsimp only; omega, by rw [em] at hr; exact hr, hsm.step⟩, toFitsV (fun p => p) ?_, by dsimp only; omega⟩
            simp only [go_sem, sSplit, sHasPre, sReadH, sReadL, sRightP, sTextPt, Rd.len, Rd.rows, hk_sz]
            refine ⟨by omega, RowLe.sl rfl fun i hi j hj => ?_⟩
            · unfold apC
              split
              · exact AVle.refl _
              · obtain rfl : i = x.val.length := by omega
                rw [Nat.sub_self]
                match j, hj with
                | 0, _ => exact AVle.refl _
                | 1, _ => exact AVle.refl _
                | 2, _ => exact AVle.refl _
          · have ep : Lib.hasPrefix line [37, 37, 32, 45] = false := by
              cases h : isHd line with
              | true => exact absurd h hh
              | false => exact h
            have hL : rdL x.val line = some m := by
              unfold rd1 at h1
              rwa [if_neg hh] at h1
            cases x with
            | e => cases hL
            | h l A B =>
              obtain ⟨n1, n2, em⟩ := rdL_h hL
              refine AW.of hΓ mixed [99999] _ _ _ rfl ?_
              simp only [go_sem, sSplit, sHasPre, sReadH, sReadL, sRightP, sTextPt, hk_sz, hlI, hg, ep, Rd.at, Rd.len, Rd.rows]
              have hsm : l.length < i := hsm
              refine ⟨by omega, .inl ⟨v, l, A, B, line, rfl, rfl, rfl, by omega, hne, by omega, n1, n2, fun w1 w2 nx' h2 => ?_⟩⟩
              simp only [go_sem, sSplit, sHasPre, sReadH, sReadL, sRightP, sTextPt, hlI]
              refine ⟨by omega, ⟨(i + 1, .s l A B [] (kindB line) [] (line.drop 1), v, w1, w2, nx'), by dsimp only; omega, by rw [em] at hr; exact hr, ⟨by simp; omega, by rw [List.length_drop]; omega⟩⟩, toFitsV (fun p => p) ?_, by dsimp only; omega⟩
              simp only [go_sem, sSplit, sHasPre, sReadH, sReadL, sRightP, sTextPt, Rd.len, Rd.rows, hk_sz, st_sz]
              exact ⟨by omega, RowLe.refl _, RowLe.refl _, RowLe.refl _⟩
            | s l A B st k ts t =>
              refine AW.of hΓ mixed [99999] _ _ _ rfl ?_
              simp only [go_sem, sSplit, sHasPre, sReadH, sReadL, sRightP, sTextPt, hk_sz, hlI, hg, ep, Rd.at, Rd.len, Rd.rows]
              obtain ⟨hsm1, hsm2⟩ : l.length + st.length + ts.length < i ∧ t.length ≤ 1000000000 := hsm
              refine ⟨by omega, .inr ⟨v, v1, v2, l, A, B, st, k, ts, t, line, rfl, by rw [← rowL_snoc], rfl, ⟨by omega, by omega, by omega, by omega⟩, hne, by omega, fun ha nx' h2 => ?_, fun hb => ?_⟩⟩
              · simp only [go_sem, sSplit, sHasPre, sReadH, sReadL, sRightP, sTextPt, hlI]
                rcases rdL_s hL with ⟨_, em⟩ | ⟨q, _⟩
                · have := trimS_le t [10]
                  refine ⟨by omega, ⟨(i + 1, .s l A B st k ts (Lib.trimSuffix t [10]), v, v1, v2, nx'), by dsimp only; omega, by rw [em] at hr; exact hr, ⟨by dsimp only; omega, by omega⟩⟩, toFitsV (fun p => p) ?_, by dsimp only; omega⟩
                  simp only [go_sem, sSplit, sHasPre, sReadH, sReadL, sRightP, sTextPt, Rd.len, Rd.rows, hk_sz, st_sz]
                  exact ⟨by omega, RowLe.refl _, RowLe.refl _, RowLe.refl _⟩
                · exact absurd ha q
              · rcases rdL_s hL with ⟨q, _⟩ | ⟨_, n2, hc⟩
                · exact absurd q hb
                refine ⟨n2, fun hk w2 nx' h2 => ?_, fun hk w1 w2 nx' h2 => ?_⟩
                · rcases hc with ⟨_, em⟩ | ⟨q, _⟩
                  · simp only [go_sem, sSplit, sHasPre, sReadH, sReadL, sRightP, sTextPt, hlI]
                    refine ⟨by omega, ⟨(i + 1, .s l A B st k (ts ++ [t]) (line.drop 1), v, v1, w2, nx'), by dsimp only; omega, by rw [em] at hr; exact hr, ⟨by simp; omega, by rw [List.length_drop]; omega⟩⟩, toFitsV (fun p => p) ?_, by dsimp only; omega⟩
                    simp only [go_sem, sSplit, sHasPre, sReadH, sReadL, sRightP, sTextPt, Rd.len, Rd.rows, hk_sz, st_sz]
                    exact ⟨by omega, RowLe.refl _, RowLe.refl _, RowLe.refl _⟩
                  · exact absurd hk q
                · rcases hc with ⟨q, _⟩ | ⟨_, em⟩
                  · exact absurd q hk
                  · simp only [go_sem, sSplit, sHasPre, sReadH, sReadL, sRightP, sTextPt, hlI]
                    refine ⟨by omega, ⟨(i + 1, .s l A B (st ++ [(k, ts ++ [t])]) (kindB line) [] (line.drop 1), v, w1, w2, nx'), by dsimp only; omega, by rw [em] at hr; exact hr, ⟨by simp; omega, by rw [List.length_drop]; omega⟩⟩, toFitsV (fun p => p) ?_, by dsimp only; omega⟩
                    simp only [go_sem, sSplit, sHasPre, sReadH, sReadL, sRightP, sTextPt, Rd.len, Rd.rows, hk_sz, st_sz]
                    exact ⟨by omega, RowLe.refl _, RowLe.refl _, RowLe.refl _⟩
      · obtain rfl : i = ls.length := by omega
        have hlI : ((ls.length : Int) < (ls.length : Nat)) = False := eq_false (by omega)
        rw [List.drop_length, rdAll, Option.some.injEq] at hr
        have hfull := Rd.full s ls ls.length x v v1 v2 nx
        rw [hr] at hfull
        refine AW.le (hfull.trans ((ASle.freeze (st := Sh.st ⟨[(0, .st s), (4, .ow 0 v fin.length), (10, sL eS ls), (11, .val (.int .i64 ls.length)), (12, .val (.int .i64 ls.length))], [(0, rHk v fin)], 43, 3, nx, []⟩) 0 v 84 3 fin.length (fun i => (eP eI (eP eI (eL (eP eI (eL eS))))).enc (fin.getD i (0, 0, []))) rfl (fun _ _ j hj => match j, hj with | 0, _ => rfl | 1, _ => rfl | 2, _ => rfl)).trans (toFitsV (fun p => p) (l := [(0, .st s), (4, sL (eP eI (eP eI (eL (eP eI (eL eS))))) fin), (10, sL eS ls), (11, .val (.int .i64 ls.length)), (12, .val (.int .i64 ls.length))]) (r := []) (sz := 43) (top := 3) (nx := nx) (df := []) ?_))) ?_
        · simp only [go_sem, sSplit, sHasPre, sReadH, sReadL, sRightP, sTextPt, hk_sz]
          exact AVle.refl _
        refine AW.of hΓ mixed [99999] _ _ _ rfl ?_
        simp only [go_sem, sSplit, sHasPre, sReadH, sReadL, sRightP, sTextPt, hk_sz, hlI]
        refine ⟨nx, toFits ?_⟩
        simp only [go_sem, sSplit, sHasPre, sReadH, sReadL, sRightP, sTextPt, hk_sz]
  · simp only [go_sem, sSplit, sHasPre, sReadH, sReadL, sRightP, sTextPt, hk_sz, hR, eT]
    exact ⟨hs1, hs1, hs2, by omega⟩
end Go.Proofs.YthpjjjnbkfnghaaGreatDoor
set_option linter.unusedSimpArgs false
set_option linter.unusedVariables false
set_option maxRecDepth 100000
set_option maxHeartbeats 8000000
namespace Go.Proofs.YthpjjjnbkfnghaaGreatDoor
open Go
theorem u64_modP (n : Int) (k : Int) (hk : 0 < k) : 0 ≤ (IntKind.u64.wrap n).tmod k ∧ (IntKind.u64.wrap n).tmod k < k := by
  have h : 0 ≤ IntKind.u64.wrap n := by rw [IntKind.wrap_u64]; omega
  exact ⟨Int.tmod_nonneg _ h, Int.tmod_lt_of_pos _ hk⟩
attribute [local irreducible] AW AVle ASle RowLe
end Go.Proofs.YthpjjjnbkfnghaaGreatDoor
set_option linter.unusedSimpArgs false
set_option maxRecDepth 100000
namespace Go.Proofs.YthpjjjnbkfnghaaGreatDoor
open Go
attribute [local irreducible] AW AVle ASle RowLe
def sAheadI : Spec := Spec.f2 (kL eI) (kL eI) (fun a b => a.length < 1000000000 ∧ b.length < 1000000000) (fun a b => kI.enc (ahd a b))
theorem idleAheadI : Idle Tryz.prog 242 := idle_recover Tryz.func242 (by decide) rfl rfl
theorem okAheadI : SpecOK Tryz.prog 218 sAheadI := by
  refine SpecOK.f2D idleAheadI Tryz.func218 rfl (by decide) Tryz.results218 Tryz.ntmps218 (by decide) fun a b hd => ?_
  have hΓ : GOK Tryz.prog (gam []) := GOK.nil
  refine AW.of hΓ mixed [] _ _ _ rfl ?_
  simp only [go_sem]
  refine AW.round (α := { i : Nat // i ≤ a.length ∧ i ≤ b.length ∧ ∀ k, k < i → a.getD k 0 = b.getD k 0 }) (fun i => ⟨[(0, sL eI a), (1, sL eI b), (4, .val (.int .i64 i.1))], [], 29, 0, 0, [⟨.fn (.func 242) #[], #[]⟩]⟩) (fun i => a.length - i.1) ⟨0, by simp⟩ ?_ ?_
  · simp only [go_sem]
  · rintro ⟨i, hi, hb, hk⟩
    refine AW.of hΓ mixed [] _ _ _ rfl ?_
    simp only [go_sem]
    repeat' (first | refine And.intro ?_ ?_ | intro h)
    all_goals (try omega)
    · refine ⟨⟨i + 1, by omega, by omega, fun k hk' => ?_⟩, by simp, by simp; omega⟩
      rcases Nat.lt_or_ge k i with h' | h'
      · exact hk k h'
      · obtain rfl : k = i := by omega
        exact h.2
    · exact congrArg _ (ahd_eq 0 i a b hi hb hk fun p q => h ⟨by omega, by omega⟩)

def sBehindI : Spec := Spec.f2 (kL eI) (kL eI) (fun a b => a.length < 1000000000 ∧ b.length < 1000000000) (fun a b => kI.enc (bhd a b))
theorem idleBehindI : Idle Tryz.prog 243 := idle_recover Tryz.func243 (by decide) rfl rfl
theorem okBehindI : SpecOK Tryz.prog 219 sBehindI := by
  refine SpecOK.f2D idleBehindI Tryz.func219 rfl (by decide) Tryz.results219 Tryz.ntmps219 (by decide) fun a b hd => ?_
  have hΓ : GOK Tryz.prog (gam []) := GOK.nil
  refine AW.of hΓ mixed [] _ _ _ rfl ?_
  simp only [go_sem]
  refine AW.round (α := { i : Nat // i ≤ a.length ∧ i ≤ b.length ∧ ∀ k, k < i → a.getD (a.length - 1 - k) 0 = b.getD (b.length - 1 - k) 0 }) (fun i => ⟨[(0, sL eI a), (1, sL eI b), (4, .val (.int .i64 i.1))], [], 37, 0, 0, [⟨.fn (.func 243) #[], #[]⟩]⟩) (fun i => a.length - i.1) ⟨0, by simp⟩ ?_ ?_
  · simp only [go_sem]
  · rintro ⟨i, hi, hb, hk⟩
    refine AW.of hΓ mixed [] _ _ _ rfl ?_
    simp only [go_sem]
    have e1 : (↑i : Int) < ↑a.length → ((a.length : Int) - 1 - i).toNat = a.length - 1 - i := fun h => by omega
    have e2 : (↑i : Int) < ↑b.length → ((b.length : Int) - 1 - i).toNat = b.length - 1 - i := fun h => by omega
    repeat' (first | refine And.intro ?_ ?_ | intro h)
    all_goals (try omega)
    · refine ⟨⟨i + 1, by omega, by omega, fun k hk' => ?_⟩, by simp, by simp; omega⟩
      rcases Nat.lt_or_ge k i with h' | h'
      · exact hk k h'
      · obtain rfl : k = i := by omega
        have := h.2
        rwa [e1 h.1.1, e2 h.1.2] at this
    · refine congrArg _ (bhd_eq 0 i a b hi hb hk fun p q => ?_)
      have := h ⟨by omega, by omega⟩
      rwa [e1 (by omega), e2 (by omega)] at this

def sEndsI : Spec := Spec.f2 (kL eI) (kL eI) (fun a b => a.length < 1000000000 ∧ b.length < 1000000000) (fun a b => tu2 (kI.enc (ahd a b)) (kI.enc (bhd (a.drop (ahd a b)) (b.drop (ahd a b)))))
theorem okEndsI : SpecOK Tryz.prog 187 sEndsI := by
  refine SpecOK.f2 Tryz.func187 rfl (by decide) Tryz.results187 Tryz.ntmps187 (by decide) fun a b hd => ?_
  have hΓ : GOK Tryz.prog (gam [(218, sAheadI), (219, sBehindI)]) := .cons okAheadI (.cons okBehindI .nil)
  refine AW.of hΓ mixed [] _ _ _ rfl ?_
  have h1 := ahd_le a b
  have p1 : (List.range (a.length - ahd a b)).map (fun i => a.getD (ahd a b + i) 0) = a.drop (ahd a b) := by rw [part_eq a 0 (by omega), List.take_of_length_le (by simp)]
  have p2 : (List.range (b.length - ahd a b)).map (fun i => b.getD (ahd a b + i) 0) = b.drop (ahd a b) := by rw [part_eq b 0 (by omega), List.take_of_length_le (by simp)]
  simp only [go_sem, sAheadI, sBehindI, p1, p2, List.length_drop]
  omega
def sAheadS : Spec := Spec.f2 (kL eS) (kL eS) (fun a b => a.length < 1000000000 ∧ b.length < 1000000000) (fun a b => kI.enc (ahd a b))
theorem idleAheadS : Idle Tryz.prog 247 := idle_recover Tryz.func247 (by decide) rfl rfl
theorem okAheadS : SpecOK Tryz.prog 230 sAheadS := by
  refine SpecOK.f2D idleAheadS Tryz.func230 rfl (by decide) Tryz.results230 Tryz.ntmps230 (by decide) fun a b hd => ?_
  have hΓ : GOK Tryz.prog (gam []) := GOK.nil
  refine AW.of hΓ mixed [] _ _ _ rfl ?_
  simp only [go_sem]
  refine AW.round (α := { i : Nat // i ≤ a.length ∧ i ≤ b.length ∧ ∀ k, k < i → a.getD k [] = b.getD k [] }) (fun i => ⟨[(0, sL eS a), (1, sL eS b), (4, .val (.int .i64 i.1))], [], 29, 0, 0, [⟨.fn (.func 247) #[], #[]⟩]⟩) (fun i => a.length - i.1) ⟨0, by simp⟩ ?_ ?_
  · simp only [go_sem]
  · rintro ⟨i, hi, hb, hk⟩
    refine AW.of hΓ mixed [] _ _ _ rfl ?_
    simp only [go_sem]
    repeat' (first | refine And.intro ?_ ?_ | intro h)
    all_goals (try omega)
    · refine ⟨⟨i + 1, by omega, by omega, fun k hk' => ?_⟩, by simp, by simp; omega⟩
      rcases Nat.lt_or_ge k i with h' | h'
      · exact hk k h'
      · obtain rfl : k = i := by omega
        exact h.2
    · exact congrArg _ (ahd_eq [] i a b hi hb hk fun p q => h ⟨by omega, by omega⟩)

def sBehindS : Spec := Spec.f2 (kL eS) (kL eS) (fun a b => a.length < 1000000000 ∧ b.length < 1000000000) (fun a b => kI.enc (bhd a b))
theorem idleBehindS : Idle Tryz.prog 256 := idle_recover Tryz.func256 (by decide) rfl rfl
theorem okBehindS : SpecOK Tryz.prog 248 sBehindS := by
  refine SpecOK.f2D idleBehindS Tryz.func248 rfl (by decide) Tryz.results248 Tryz.ntmps248 (by decide) fun a b hd => ?_
  have hΓ : GOK Tryz.prog (gam []) := GOK.nil
  refine AW.of hΓ mixed [] _ _ _ rfl ?_
  simp only [go_sem]
  refine AW.round (α := { i : Nat // i ≤ a.length ∧ i ≤ b.length ∧ ∀ k, k < i → a.getD (a.length - 1 - k) [] = b.getD (b.length - 1 - k) [] }) (fun i => ⟨[(0, sL eS a), (1, sL eS b), (4, .val (.int .i64 i.1))], [], 37, 0, 0, [⟨.fn (.func 256) #[], #[]⟩]⟩) (fun i => a.length - i.1) ⟨0, by simp⟩ ?_ ?_
  · simp only [go_sem]
  · rintro ⟨i, hi, hb, hk⟩
    refine AW.of hΓ mixed [] _ _ _ rfl ?_
    simp only [go_sem]
    have e1 : (↑i : Int) < ↑a.length → ((a.length : Int) - 1 - i).toNat = a.length - 1 - i := fun h => by omega
    have e2 : (↑i : Int) < ↑b.length → ((b.length : Int) - 1 - i).toNat = b.length - 1 - i := fun h => by omega
    repeat' (first | refine And.intro ?_ ?_ | intro h)
    all_goals (try omega)
    · refine ⟨⟨i + 1, by omega, by omega, fun k hk' => ?_⟩, by simp, by simp; omega⟩
      rcases Nat.lt_or_ge k i with h' | h'
      · exact hk k h'
      · obtain rfl : k = i := by omega
        have := h.2
        rwa [e1 h.1.1, e2 h.1.2] at this
    · refine congrArg _ (bhd_eq [] i a b hi hb hk fun p q => ?_)
      have := h ⟨by omega, by omega⟩
      rwa [e1 (by omega), e2 (by omega)] at this

def sEndsS : Spec := Spec.f2 (kL eS) (kL eS) (fun a b => a.length < 1000000000 ∧ b.length < 1000000000) (fun a b => tu2 (kI.enc (ahd a b)) (kI.enc (bhd (a.drop (ahd a b)) (b.drop (ahd a b)))))
theorem okEndsS : SpecOK Tryz.prog 231 sEndsS := by
  refine SpecOK.f2 Tryz.func231 rfl (by decide) Tryz.results231 Tryz.ntmps231 (by decide) fun a b hd => ?_
  have hΓ : GOK Tryz.prog (gam [(230, sAheadS), (248, sBehindS)]) := .cons okAheadS (.cons okBehindS .nil)
  refine AW.of hΓ mixed [] _ _ _ rfl ?_
  have h1 := ahd_le a b
  have p1 : (List.range (a.length - ahd a b)).map (fun i => a.getD (ahd a b + i) []) = a.drop (ahd a b) := by rw [part_eq a [] (by omega), List.take_of_length_le (by simp)]
  have p2 : (List.range (b.length - ahd a b)).map (fun i => b.getD (ahd a b + i) []) = b.drop (ahd a b) := by rw [part_eq b [] (by omega), List.take_of_length_le (by simp)]
  simp only [go_sem, sAheadS, sBehindS, p1, p2, List.length_drop]
  omega
def sEqS : Spec := Spec.f2 (kL eS) (kL eS) (fun a b => a.length < 1000000000 ∧ b.length < 1000000000) (fun a b => kB.enc (decide (a = b)))
theorem okEqS : SpecOK Tryz.prog 200 sEqS := by
  refine SpecOK.f2 Tryz.func200 rfl (by decide) Tryz.results200 Tryz.ntmps200 (by decide) fun a b hd => ?_
  have hΓ : GOK Tryz.prog (gam [(230, sAheadS)]) := .cons okAheadS .nil
  refine AW.of hΓ mixed [] _ _ _ rfl ?_
  simp only [go_sem, sAheadS]
  refine ⟨fun _ => hd, ?_⟩
  rw [Bool.eq_iff_iff]
  simp only [Bool.and_eq_true, decide_eq_true_eq]
  refine ⟨fun h => ahd_all (by omega) (by omega), fun h => ?_⟩
  subst h
  rw [ahd_self]
  exact ⟨rfl, rfl⟩

end Go.Proofs.YthpjjjnbkfnghaaGreatDoor
set_option linter.unusedSimpArgs false
set_option linter.unusedVariables false
set_option maxRecDepth 100000
set_option maxHeartbeats 2000000
namespace Go.Proofs.YthpjjjnbkfnghaaGreatDoor
open Go
attribute [local irreducible] AW AVle ASle RowLe
abbrev Sp := Int × Int
abbrev Ck := Bool × Sp × Sp × Sp
abbrev Pl := Int × Int × Int
abbrev eSp : El Sp := eP eI eI
abbrev eCk : El Ck := eP eB (eP eSp (eP eSp eSp))
abbrev ePl : El Pl := eP eI (eP eI eI)
theorem pl_le {a b d : Int} {c : Nat → AV} (h0 : c 0 = .val (.int .i64 a)) (h1 : c 1 = .val (.int .i64 b)) (h2 : c 2 = .val (.int .i64 d)) : AVle (.ag 3 c) (.ag 3 (ePl.enc (a, b, d))) := AVle.ag fun j hj => AVle.of_eq (match j, hj with
  | 0, _ => h0
  | 1, _ => h1
  | 2, _ => h2)
theorem ck_le {s : Bool} {b1 b2 l1 l2 r1 r2 : Int} {c : Nat → AV} (h0 : c 0 = .val (.bool s)) (h1 : c 1 = .val (.int .i64 b1)) (h2 : c 2 = .val (.int .i64 b2)) (h3 : c 3 = .val (.int .i64 l1)) (h4 : c 4 = .val (.int .i64 l2)) (h5 : c 5 = .val (.int .i64 r1)) (h6 : c 6 = .val (.int .i64 r2)) :
    AVle (.ag 7 c) (.ag 7 (eCk.enc (s, (b1, b2), (l1, l2), r1, r2))) := AVle.ag fun j hj => AVle.of_eq (match j, hj with
  | 0, _ => h0
  | 1, _ => h1
  | 2, _ => h2
  | 3, _ => h3
  | 4, _ => h4
  | 5, _ => h5
  | 6, _ => h6)
def cutS (s : Sp) (l : List (List UInt8)) : List (List UInt8) := if s.1 < 0 ∨ (l.length : Int) < s.2 ∨ s.2 < s.1 then [] else cutL l s.1.toNat s.2.toNat
theorem cutS_le (s : Sp) (l : List (List UInt8)) : (cutS s l).length ≤ l.length := by
  unfold cutS
  by_cases h : s.1 < 0 ∨ (l.length : Int) < s.2 ∨ s.2 < s.1
  · rw [if_pos h]; simp
  · rw [if_neg h, cutL_len l (by omega)]; omega
def sCutK : Spec := Spec.f2 (kA eSp) (kL eS) (fun s l => l.length < 100000000) (fun s l => sL eS (cutS s l))
theorem okCutK : SpecOK Tryz.prog 199 sCutK := by
  refine SpecOK.f2 Tryz.func199 rfl (by decide) Tryz.results199 Tryz.ntmps199 (by decide) fun s l hl => ?_
  have hΓ : GOK Tryz.prog (gam [(103, sCloneS)]) := (.cons okCloneS .nil)
  obtain ⟨f, t⟩ := s
  unfold cutS
  refine AW.of hΓ mixed [] _ _ _ rfl ?_
  simp only [go_sem, sCloneS]
  refine ⟨fun h => by simp [h], fun h => by simp [h], fun h => ?_, fun h => ?_⟩
  · simp only [Bool.or_eq_true, decide_eq_true_eq, or_assoc] at h
    rw [if_pos h]
    exact AVle.em_sn
  · simp only [Bool.or_eq_false_iff, decide_eq_false_iff_not] at h
    refine ⟨by omega, _, cutL l f.toNat t.toNat, rfl, cut_le (by omega), by rw [cutL_len l (by omega)]; omega, fun ver nx' _ _ => ?_⟩
    rw [if_neg (by omega)]
    exact AVle.refl _
def btw (p q : Pl) : Ck := (false, (p.1, q.1), (p.2.1, q.2.1), (p.2.2, q.2.2))
def sBetween : Spec := Spec.f2 (kA ePl) (kA ePl) (fun _ _ => True) (fun p q => (kA eCk).enc (btw p q))
theorem okBetween : SpecOK Tryz.prog 154 sBetween := by
  refine SpecOK.f2 Tryz.func154 rfl (by decide) Tryz.results154 Tryz.ntmps154 (by decide) fun p q _ => ?_
  have hΓ : GOK Tryz.prog (gam []) := GOK.nil
  obtain ⟨p1, p2, p3⟩ := p
  obtain ⟨q1, q2, q3⟩ := q
  unfold btw
  refine AW.of hΓ mixed [] _ _ _ rfl ?_
  simp only [go_sem]
  exact ck_le rfl rfl rfl rfl rfl rfl rfl
def nextP (p : Pl) : Pl := (p.1 + 1, p.2.1 + 1, p.2.2 + 1)
def okPl (p : Pl) : Prop := (-9223372036854775808 ≤ p.1 ∧ p.1 < 9223372036854775807) ∧ (-9223372036854775808 ≤ p.2.1 ∧ p.2.1 < 9223372036854775807) ∧ -9223372036854775808 ≤ p.2.2 ∧ p.2.2 < 9223372036854775807
def sNextP : Spec := Spec.f1 (kA ePl) okPl (fun p => (kA ePl).enc (nextP p))
theorem okNextP : SpecOK Tryz.prog 156 sNextP := by
  refine SpecOK.f1 Tryz.func156 rfl (by decide) Tryz.results156 Tryz.ntmps156 (by decide) fun p hp => ?_
  have hΓ : GOK Tryz.prog (gam []) := GOK.nil
  obtain ⟨p1, p2, p3⟩ := p
  obtain ⟨h1, h2, h3⟩ := hp
  simp only at h1 h2 h3
  unfold nextP
  refine AW.of hΓ mixed [] _ _ _ rfl ?_
  simp only [go_sem]
  exact ⟨by omega, by omega, by omega, pl_le rfl rfl rfl⟩
def classK (c : Ck) (b l r : List (List UInt8)) : Int := if c.1 = true then 0 else if cutS c.2.2.1 l = cutS c.2.1 b then 2 else if cutS c.2.2.2 r = cutS c.2.1 b then 1 else if cutS c.2.2.1 l = cutS c.2.2.2 r then 3 else 4
def sClassK : Spec := Spec.f4 (kA eCk) (kL eS) (kL eS) (kL eS) (fun c b l r => b.length < 100000000 ∧ l.length < 100000000 ∧ r.length < 100000000) (fun c b l r => kI.enc (classK c b l r))
theorem okClassK : SpecOK Tryz.prog 159 sClassK := by
  refine SpecOK.f4 Tryz.func159 rfl (by decide) Tryz.results159 Tryz.ntmps159 (by decide) fun c b l r ⟨hb, hl, hr⟩ => ?_
  have hΓ : GOK Tryz.prog (gam [(199, sCutK), (200, sEqS)]) := (.cons okCutK (.cons okEqS .nil))
  obtain ⟨s, ⟨b1, b2⟩, ⟨l1, l2⟩, r1, r2⟩ := c
  unfold classK
  dsimp only
  have g1 := cutS_le (b1, b2) b
  have g2 := cutS_le (l1, l2) l
  have g3 := cutS_le (r1, r2) r
  refine AW.of hΓ mixed [] _ _ _ rfl ?_
  simp only [go_sem, sCutK, sEqS]
  refine ⟨fun h => by rw [if_pos h], fun h => ⟨hb, hl, hr, by omega, fun h1 => by simp [h, h1], fun h1 => ⟨by omega, fun h2 => by simp [h, h1, h2], fun h2 => ⟨by omega, fun h3 => ?_, fun h3 => ?_⟩⟩⟩⟩
  · rw [if_neg (by simp [h]), if_neg h1, if_neg h2, if_pos h3]
  · rw [if_neg (by simp [h]), if_neg h1, if_neg h2, if_neg h3]
end Go.Proofs.YthpjjjnbkfnghaaGreatDoor
set_option linter.unusedSimpArgs false
set_option linter.unusedVariables false
set_option maxRecDepth 100000
set_option maxHeartbeats 2000000
namespace Go.Proofs.YthpjjjnbkfnghaaGreatDoor
open Go
attribute [local irreducible] AW AVle ASle RowLe
def riseB (a b : Int) : Int → Int → List (Int × Int) → Bool
  | _, _, [] => true
  | u, v, p :: l => decide (u < p.1 ∧ v < p.2 ∧ p.1 < a ∧ p.2 < b) && riseB a b p.1 p.2 l
def sRises : Spec := Spec.f3 (kL (eP eI eI)) kI kI (fun l a b => l.length < 100000000) (fun l a b => kB.enc (riseB a b (-1) (-1) l))
theorem okRises : SpecOK Tryz.prog 152 sRises := by
  refine SpecOK.f3 Tryz.func152 rfl (by decide) Tryz.results152 Tryz.ntmps152 (by decide) fun l a b hl => ?_
  have hΓ : GOK Tryz.prog (gam []) := GOK.nil
  refine AW.of hΓ mixed [] _ _ _ rfl ?_
  simp only [go_sem, pp_sz]
  refine AW.round (α := { x : Nat × Int × Int × Nat // x.1 ≤ l.length ∧ riseB a b (-1) (-1) l = riseB a b x.2.1 x.2.2.1 (l.drop x.1) ∧ -1 ≤ x.2.1 ∧ -1 ≤ x.2.2.1 })
    (fun x => ⟨[(1, .val (.int .i64 a)), (2, .val (.int .i64 b)), (7, .pt 0 0 0), (11, sL (eP eI eI) l), (12, .val (.int .i64 l.length)), (13, .val (.int .i64 x.1.1))], [(0, .box 0 129 2 fun j => if j = 0 then .val (.int .i64 x.1.2.1) else .val (.int .i64 x.1.2.2.1))], 43, 1, x.1.2.2.2, []⟩) (fun x => l.length - x.1.1) ⟨(0, -1, -1, 1), Nat.zero_le _, rfl, Int.le_refl _, Int.le_refl _⟩ ?_ ?_
  · simp only [go_sem]
    refine RowLe.box fun j hj => AVle.of_eq ?_
    match j, hj with
    | 0, _ => rfl
    | 1, _ => rfl
  · rintro ⟨⟨i, u, v, nx⟩, hi, hr, hu, hv⟩
    simp only at hi hr hu hv
    refine AW.of hΓ mixed [4, 99999] _ _ _ rfl ?_
    simp only [go_sem, pp_sz]
    refine ⟨fun hlt => ?_, fun hge => ?_⟩
    · obtain ⟨x, y, hxy⟩ : ∃ x y, l.getD i (0, 0) = (x, y) := ⟨_, _, rfl⟩
      have hd : l.drop i = (x, y) :: l.drop (i + 1) := by
        rw [List.drop_eq_getElem_cons (by omega), ← gd_lt l (0, 0) (by omega), hxy]
      rw [hd, riseB] at hr
      dsimp only at hr
      refine ⟨by omega, ?_⟩
      refine AW.cut ⟨[(1, .val (.int .i64 a)), (2, .val (.int .i64 b)), (7, .pt 0 0 0), (9, .pt 1 nx 0), (11, sL (eP eI eI) l), (12, .val (.int .i64 l.length)), (13, .val (.int .i64 i))], [(0, .box 0 129 2 fun j => if j = 0 then .val (.int .i64 u) else .val (.int .i64 v)), (1, .box nx 129 2 fun j => if j = 0 then .val (.int .i64 x) else .val (.int .i64 y))], 43, 2, nx + 1, []⟩ ?_ ?_
      · simp only [go_sem]
        refine ⟨RowLe.refl _, RowLe.box fun j hj => AVle.of_eq ?_⟩
        match j, hj with
        | 0, _ => show (eP eI eI).enc (l.getD i (0, 0)) 0 = _; rw [hxy]; rfl
        | 1, _ => show (eP eI eI).enc (l.getD i (0, 0)) 1 = _; rw [hxy]; rfl
      · refine AW.of hΓ mixed [99999] _ _ _ rfl ?_
        simp only [go_sem]
        refine ⟨fun h => by simp [h], fun h => by rw [h]; rfl, fun h => by rw [h]; rfl, fun h => ?_, fun h => ?_⟩
        · simp only [Bool.or_eq_true, decide_eq_true_eq] at h
          rw [hr, decide_eq_false (by omega), Bool.false_and]
        · simp only [Bool.or_eq_false_iff, decide_eq_false_iff_not] at h
          rw [decide_eq_true (by omega), Bool.true_and] at hr
          exact ⟨by omega, ⟨(i + 1, x, y, nx + 1), by dsimp only; omega, hr, by dsimp only; omega, by dsimp only; omega⟩, ⟨Nat.le_refl _, by dsimp only; omega, box_st⟩, by dsimp only; omega⟩
    · obtain rfl : i = l.length := by omega
      rw [List.drop_length] at hr
      exact hr.symm
end Go.Proofs.YthpjjjnbkfnghaaGreatDoor
set_option linter.unusedSimpArgs false
set_option linter.unusedVariables false
set_option maxRecDepth 100000
set_option maxHeartbeats 2000000
namespace Go.Proofs.YthpjjjnbkfnghaaGreatDoor
open Go
attribute [local irreducible] AW AVle ASle RowLe
def bothF : List (Int × Int) → List (Int × Int) → List Pl
  | [], _ => []
  | _ :: _, [] => []
  | p :: l, q :: r => if p.1 < q.1 then bothF l (q :: r) else if q.1 < p.1 then bothF (p :: l) r else (p.1, p.2, q.2) :: bothF l r
  termination_by l r => l.length + r.length
theorem both_nil (l : List (Int × Int)) : bothF l [] = [] := by cases l <;> simp [bothF]
theorem both_nil' (r : List (Int × Int)) : bothF [] r = [] := by simp [bothF]
def sBoth : Spec := Spec.f2 (kL (eP eI eI)) (kL (eP eI eI)) (fun l r => l.length < 100000000 ∧ r.length < 100000000) (fun l r => sL ePl (bothF l r))
theorem okBoth : SpecOK Tryz.prog 153 sBoth := by
  refine SpecOK.f2 Tryz.func153 rfl (by decide) Tryz.results153 Tryz.ntmps153 (by decide) fun l r ⟨hl, hr⟩ => ?_
  have hΓ : GOK Tryz.prog (gam []) := GOK.nil
  refine AW.of hΓ mixed [200004] _ _ _ rfl ?_
  simp only [go_sem, pp_sz]
  refine AW.adopt 5 210 3 (fun i => ePl.enc (([] : List Pl).getD i (0, 0, 0))) rfl ?_
  refine AW.round (α := { x : Nat × Nat × List Pl × Nat × Nat // x.1 ≤ l.length ∧ x.2.1 ≤ r.length ∧ x.2.2.1.length ≤ x.1 ∧ bothF l r = x.2.2.1 ++ bothF (l.drop x.1) (r.drop x.2.1) })
    (fun x => ⟨[(0, sL (eP eI eI) l), (1, sL (eP eI eI) r), (5, .ow 0 x.1.2.2.2.1 x.1.2.2.1.length), (6, .val (.int .i64 x.1.1)), (7, .val (.int .i64 x.1.2.1))], [(0, rowL x.1.2.2.2.1 210 ePl x.1.2.2.1)], 70, 1, x.1.2.2.2.2, []⟩) (fun x => l.length + r.length - x.1.1 - x.1.2.1) ⟨(0, 0, [], 0, 1), Nat.zero_le _, Nat.zero_le _, Nat.le_refl _, rfl⟩ ?_ ?_
  · simp only [go_sem, pp_sz]
    exact RowLe.refl _
  · rintro ⟨⟨i, j, out, v, nx⟩, hi, hj, ho, hb⟩
    simp only at hi hj ho hb
    refine AW.of hΓ mixed [200004, 99999] _ _ _ rfl ?_
    simp only [go_sem, pp_sz, pp_d, pp0, pp1]
    refine ⟨fun ⟨h1, h2⟩ => ?_, fun h => ?_⟩
    · have hdl : l.drop i = l.getD i (0, 0) :: l.drop (i + 1) := by
        rw [List.drop_eq_getElem_cons (by omega), ← gd_lt l (0, 0) (by omega)]
      have hdr : r.drop j = r.getD j (0, 0) :: r.drop (j + 1) := by
        rw [List.drop_eq_getElem_cons (by omega), ← gd_lt r (0, 0) (by omega)]
      refine ⟨by omega, by omega, fun c => ?_, fun c => ⟨by omega, by omega, fun c2 => ?_, fun c2 => ?_⟩⟩
      · rw [hdl, hdr, bothF, if_pos c, ← hdr] at hb
        exact ⟨by omega, ⟨(i + 1, j, out, v, nx), by dsimp only; omega, by dsimp only; omega, by dsimp only; omega, hb⟩, ⟨Nat.le_refl _, ⟨⟨rfl, rfl⟩, by dsimp only; omega, rfl⟩, RowLe.refl _⟩, by dsimp only; omega⟩
      · rw [hdl, hdr, bothF, if_neg c, if_pos c2, ← hdl] at hb
        exact ⟨by omega, ⟨(i, j + 1, out, v, nx), by dsimp only; omega, by dsimp only; omega, by dsimp only; omega, hb⟩, ⟨Nat.le_refl _, ⟨⟨rfl, rfl⟩, rfl, by dsimp only; omega⟩, RowLe.refl _⟩, by dsimp only; omega⟩
      · rw [hdl, hdr, bothF, if_neg c, if_neg c2] at hb
        refine AW.drawT hΓ mixed 18 [] (by decide +kernel) ?_
        simp only [go_sem, pp_sz, pp_d, pp0, pp1]
        refine ⟨by omega, by omega, by omega, by omega, by omega, by omega, ⟨(i + 1, j + 1, out ++ [((l.getD i (0, 0)).1, (l.getD i (0, 0)).2, (r.getD j (0, 0)).2)], nx, nx + 1), by dsimp only; omega, by dsimp only; omega, by simp; omega, by dsimp only; rw [hb, List.append_assoc]; rfl⟩, ⟨Nat.le_refl _, ⟨⟨rfl, by simp⟩, by dsimp only; omega, by dsimp only; omega⟩, ?_⟩, by dsimp only; omega⟩
        refine row_app1 (E := ePl) rfl rfl rfl rfl (by simp) fun k hk => ?_
        match k, hk with
        | 0, _ => exact AVle.refl _
        | 1, _ => exact AVle.refl _
        | 2, _ => exact AVle.refl _
    · have e : bothF (l.drop i) (r.drop j) = [] := by
        rcases Nat.lt_or_ge i l.length with c | c
        · rw [show r.drop j = [] from List.drop_eq_nil_of_le (by omega)]
          exact both_nil _
        · rw [show l.drop i = [] from List.drop_eq_nil_of_le (by omega)]
          exact both_nil' _
      rw [e, List.append_nil] at hb
      rw [hb]
      exact vw_all (E := ePl) rfl rfl rfl
end Go.Proofs.YthpjjjnbkfnghaaGreatDoor
set_option linter.unusedSimpArgs false
set_option linter.unusedVariables false
set_option maxRecDepth 100000
set_option maxHeartbeats 2000000
namespace Go.Proofs.YthpjjjnbkfnghaaGreatDoor
open Go
attribute [local irreducible] AW AVle ASle RowLe
def stretchF (l : List Ck) (p : Pl) : List Ck :=
  match l.getLast? with
  | some c => if c.1 = true then l.dropLast ++ [(true, (c.2.1.1, p.1 + 1), (c.2.2.1.1, p.2.1 + 1), (c.2.2.2.1, p.2.2 + 1))] else l ++ [(true, (p.1, p.1 + 1), (p.2.1, p.2.1 + 1), (p.2.2, p.2.2 + 1))]
  | none => l ++ [(true, (p.1, p.1 + 1), (p.2.1, p.2.1 + 1), (p.2.2, p.2.2 + 1))]
theorem stretch_snoc (m : List Ck) (c : Ck) (p : Pl) : stretchF (m ++ [c]) p = if c.1 = true then m ++ [(true, (c.2.1.1, p.1 + 1), (c.2.2.1.1, p.2.1 + 1), (c.2.2.2.1, p.2.2 + 1))] else m ++ [c] ++ [(true, (p.1, p.1 + 1), (p.2.1, p.2.1 + 1), (p.2.2, p.2.2 + 1))] := by
  simp [stretchF]
theorem stretch_nil (p : Pl) : stretchF [] p = [(true, (p.1, p.1 + 1), (p.2.1, p.2.1 + 1), (p.2.2, p.2.2 + 1))] := rfl
theorem snocD {α : Type} (m : List α) (c d : α) : (m ++ [c]).getD m.length d = c := by simp [List.getD]
def sStretch0 : MSpec := fun args hp top nx K => ∃ (l : List Ck) (v : Nat) (p : Pl), args = [.ow 0 v l.length, (kA ePl).enc p] ∧ hp = rws [(0, rowL v 216 eCk l)] ∧ top = 1 ∧ l.length < 100000000 ∧ okPl p ∧
  ∀ v' nx', (v' = v ∨ nx ≤ v') → nx ≤ nx' → K (.ow 0 v' (stretchF l p).length) (rws [(0, rowL v' 216 eCk (stretchF l p))]) 1 nx'
theorem okStretch0 : MethOK Tryz.prog 155 sStretch0 := by
  refine MethOK.mk Tryz.func155 rfl (by decide) Tryz.results155 Tryz.ntmps155 ?_
  rintro args hp top nx K ⟨l, v, p, rfl, rfl, rfl, hl, hp, hK⟩
  have hΓ : GOK Tryz.prog (gam [(156, sNextP), (154, sBetween)]) := (.cons okNextP (.cons okBetween .nil))
  refine ⟨Nat.le_of_ble_eq_true rfl, AW.late ?_⟩
  have hp' := hp
  obtain ⟨p1, p2, p3⟩ := p
  obtain ⟨q1, q2, q3⟩ := hp'
  simp only at q1 q2 q3
  have hn : nextP (p1, p2, p3) = (p1 + 1, p2 + 1, p3 + 1) := rfl
  have hb : btw (p1, p2, p3) (p1 + 1, p2 + 1, p3 + 1) = (false, (p1, p1 + 1), (p2, p2 + 1), (p3, p3 + 1)) := rfl
  rcases l.eq_nil_or_concat with rfl | ⟨m, c, hms⟩
  · refine AW.of hΓ mixed [200005, 99999] _ _ _ rfl ?_
    simp only [go_sem, sNextP, sBetween, hn, hb]
    refine ⟨hp, _, toFitsV (fun p => p) (l := [(4, .ow 0 (nx + 1 + 1 + 1) 1)]) (r := [(0, rowL (nx + 1 + 1 + 1) 216 eCk (stretchF [] (p1, p2, p3)))]) (sz := 53) (top := 1) (nx := nx + 1 + 1 + 1 + 1) (df := []) ?_, ?_⟩
    · simp only [go_sem, sNextP, sBetween]
      rw [stretch_nil]
      refine row_app1 (E := eCk) (l := []) rfl rfl rfl rfl rfl fun j hj => ?_
      match j, hj with
      | 0, _ => exact AVle.refl _
      | 1, _ => exact AVle.refl _
      | 2, _ => exact AVle.refl _
      | 3, _ => exact AVle.refl _
      | 4, _ => exact AVle.refl _
      | 5, _ => exact AVle.refl _
      | 6, _ => exact AVle.refl _
    · simp only [go_sem, sNextP, sBetween]
      exact hK (nx + 1 + 1 + 1) (nx + 1 + 1 + 1 + 1) (.inr (by omega)) (by omega)
  · rw [List.concat_eq_append] at hms
    subst hms
    have e1 : (((m.length + 1 : Nat) : Int) - 1) = (m.length : Int) := by omega
    have e2 : (0 ≤ (m.length : Int)) = True := eq_true (by omega)
    have hlm : m.length + 1 < 100000000 := by simpa using hl
    obtain ⟨s, ⟨b1, b2⟩, ⟨l1, l2⟩, r1, r2⟩ := c
    cases s with
    | true =>
      refine AW.of hΓ mixed [200005, 99999] _ _ _ rfl ?_
      simp only [go_sem, sNextP, sBetween, hn, hb, snocD, e1, e2]
      refine ⟨hp, by omega, by omega, by omega, by omega, ?_⟩
      refine AW.still 5 2 (nx + 1) 210 3 _ rfl rfl (fun j hj => match j, hj with | 0, _ => rfl | 1, _ => rfl | 2, _ => rfl) ?_
      refine AW.drawZ hΓ mixed 12 [13, 14, 15, 17, 18, 19] [3, 4, 5, 6, 7, 8, 13, 14, 15, 17, 18, 19] [] (by decide +kernel) ?_
      simp only [go_sem, sNextP, sBetween, hn, hb, snocD, e1, e2]
      refine ⟨by omega, by omega, by omega, _, toFitsV (fun p => p) (l := [(4, .ow 0 v (m.length + 1))]) (r := [(0, rowL v 216 eCk (stretchF (m ++ [(true, (b1, b2), (l1, l2), r1, r2)]) (p1, p2, p3)))]) (sz := 53) (top := 1) (nx := nx + 1 + 1) (df := []) ?_, ?_⟩
      · simp only [go_sem, sNextP, sBetween]
        rw [stretch_snoc, if_pos rfl]
        refine RowLe.sl (by simp) fun i hi j hj => ?_
        simp only [stE]
        by_cases e : i = m.length
        · subst e
          rw [snocD, snocD]
          match j, hj with
          | 0, _ => simp; exact AVle.refl _
          | 1, _ => simp; exact AVle.refl _
          | 2, _ => simp; exact AVle.refl _
          | 3, _ => simp; exact AVle.refl _
          | 4, _ => simp; exact AVle.refl _
          | 5, _ => simp; exact AVle.refl _
          | 6, _ => simp; exact AVle.refl _
        · rw [if_neg (fun h => e h.1), if_neg (fun h => e h.1), if_neg (fun h => e h.1)]
          have e3 : ∀ c : Ck, (m ++ [c]).getD i eCk.dflt = m.getD i eCk.dflt := fun c => by simp [List.getD, List.getElem?_append_left (show i < m.length by omega)]
          rw [e3, e3]
          exact AVle.refl _
      · simp only [go_sem, sNextP, sBetween]
        have := hK v (nx + 1 + 1) (.inl rfl) (by omega)
        rwa [show (stretchF (m ++ [(true, (b1, b2), (l1, l2), r1, r2)]) (p1, p2, p3)).length = m.length + 1 by rw [stretch_snoc, if_pos rfl]; simp] at this
    | false =>
      refine AW.of hΓ mixed [200005, 99999] _ _ _ rfl ?_
      simp only [go_sem, sNextP, sBetween, hn, hb, snocD, e1, e2]
      refine ⟨hp, by omega, by omega, by omega, by omega, _, toFitsV (fun p => p) (l := [(4, .ow 0 (nx + 1 + 1 + 1) (m.length + 1 + 1))]) (r := [(0, rowL (nx + 1 + 1 + 1) 216 eCk (stretchF (m ++ [(false, (b1, b2), (l1, l2), r1, r2)]) (p1, p2, p3)))]) (sz := 53) (top := 1) (nx := nx + 1 + 1 + 1 + 1) (df := []) ?_, ?_⟩
      · simp only [go_sem, sNextP, sBetween]
        rw [stretch_snoc, if_neg (fun h => by cases h)]
        refine row_app1 (E := eCk) rfl rfl (by simp) rfl (by simp) fun j hj => ?_
        match j, hj with
        | 0, _ => exact AVle.refl _
        | 1, _ => exact AVle.refl _
        | 2, _ => exact AVle.refl _
        | 3, _ => exact AVle.refl _
        | 4, _ => exact AVle.refl _
        | 5, _ => exact AVle.refl _
        | 6, _ => exact AVle.refl _
      · simp only [go_sem, sNextP, sBetween]
        have := hK (nx + 1 + 1 + 1) (nx + 1 + 1 + 1 + 1) (.inr (by omega)) (by omega)
        rwa [show (stretchF (m ++ [(false, (b1, b2), (l1, l2), r1, r2)]) (p1, p2, p3)).length = m.length + 1 + 1 by rw [stretch_snoc, if_neg (fun h => by cases h)]; simp] at this
end Go.Proofs.YthpjjjnbkfnghaaGreatDoor
set_option linter.unusedSimpArgs false
set_option linter.unusedVariables false
set_option maxRecDepth 100000
set_option maxHeartbeats 2000000
namespace Go.Proofs.YthpjjjnbkfnghaaGreatDoor
open Go
attribute [local irreducible] AW AVle ASle RowLe
def sStretch : MSpec := framed sStretch0
theorem okStretch : MethOK Tryz.prog 155 sStretch := okStretch0.frame
theorem stretch_go {l : List Ck} {v q n : Nat} {p : Pl} {x : AV} {hp : Nat → Row} {top nx : Nat} {K : AV → (Nat → Row) → Nat → Nat → Prop} (hn : n = l.length) (hx : AVle x ((kA ePl).enc p)) (hr : RowLe (hp q) (rowL v 216 eCk l)) (ht : q < top) (hl : l.length < 100000000) (hp0 : okPl p)
    (hK : ∀ v' nx', nx ≤ nx' → K (.ow q v' (stretchF l p).length) (updR hp q (rowL v' 216 eCk (stretchF l p))) top nx') : sStretch [.ow q v n, x] hp top nx K := by
  subst hn
  have hver : (hp q).ver = some v := hr.vers.symm
  refine ⟨[q], [.ow 0 v l.length, (kA ePl).enc p], rws [(0, rowL v 216 eCk l)], by simp, by simpa using ht, .cons AVle.ow (.cons hx .nil), one_row hr, fun i hi => rws_top (top := 1) (by simp) i (by simpa using hi), l, v, p, rfl, rfl, rfl, hl, hp0, fun v' nx' h1 h3 => ?_⟩
  refine ⟨.ow q v' (stretchF l p).length, _, AVle.ow, fun i r hr => ?_, fun r hr => ?_, fun r hr w hw => ?_, hK v' nx' h3⟩
  · cases i with
    | zero =>
      simp only [List.getElem?_cons_zero, Option.some.injEq] at hr
      subst hr
      rw [updR_at]
      exact RowLe.refl _
    | succ i => simp at hr
  · rw [updR_ne _ _ (by simpa using hr)]
  · simp only [List.mem_singleton] at hr
    subst hr
    rw [updR_at] at hw
    have : some v' = some w := hw
    obtain rfl := Option.some.inj this
    rcases h1 with rfl | h1
    · exact .inl hver
    · exact .inr h1
theorem plEq (p1 p2 p3 t1 t2 t3 : Int) : (decide (p1 = t1) && (decide (p2 = t2) && decide (p3 = t3))) = decide (((p1, p2, p3) : Pl) = (t1, t2, t3)) := by
  rw [Bool.eq_iff_iff]
  simp only [Bool.and_eq_true, decide_eq_true_eq, Prod.mk.injEq]
def ofK (ends : Pl) : List Pl → List Ck → Pl → List Ck
  | [], s, t => if t = ends then s else s ++ [btw t ends]
  | p :: M, s, t => ofK ends M (stretchF (if p = t then s else s ++ [btw t p]) p) (nextP p)
theorem rise_mem {a b : Int} : ∀ {l : List (Int × Int)} {u v : Int}, riseB a b u v l = true → ∀ p ∈ l, u < p.1 ∧ v < p.2 ∧ p.1 < a ∧ p.2 < b
  | q :: l, u, v, h, p, hp => by
    rw [riseB, Bool.and_eq_true, decide_eq_true_eq] at h
    rcases List.mem_cons.1 hp with rfl | hp
    · exact h.1
    · have := rise_mem h.2 p hp
      omega
theorem both_mem : ∀ (n : Nat) (l r : List (Int × Int)), l.length + r.length ≤ n → ∀ x ∈ bothF l r, ∃ p ∈ l, ∃ q ∈ r, p.1 = q.1 ∧ x = (p.1, p.2, q.2)
  | _, [], r, _, x, hx => by rw [both_nil'] at hx; cases hx
  | _, p :: l, [], _, x, hx => by rw [both_nil] at hx; cases hx
  | 0, _ :: _, _ :: _, h, _, _ => by simp at h
  | n + 1, p :: l, q :: r, h, x, hx => by
    simp only [List.length_cons] at h
    rw [bothF] at hx
    by_cases c : p.1 < q.1
    · rw [if_pos c] at hx
      obtain ⟨p', hp, q', hq, e⟩ := both_mem n l (q :: r) (by simp only [List.length_cons]; omega) x hx
      exact ⟨p', List.mem_cons_of_mem _ hp, q', hq, e⟩
    · rw [if_neg c] at hx
      by_cases c2 : q.1 < p.1
      · rw [if_pos c2] at hx
        obtain ⟨p', hp, q', hq, e⟩ := both_mem n (p :: l) r (by simp only [List.length_cons]; omega) x hx
        exact ⟨p', hp, q', List.mem_cons_of_mem _ hq, e⟩
      · rw [if_neg c2] at hx
        rcases List.mem_cons.1 hx with rfl | hx
        · exact ⟨p, List.mem_cons_self .., q, List.mem_cons_self .., by omega, rfl⟩
        · obtain ⟨p', hp, q', hq, e⟩ := both_mem n l r (by omega) x hx
          exact ⟨p', List.mem_cons_of_mem _ hp, q', List.mem_cons_of_mem _ hq, e⟩
theorem both_len : ∀ (n : Nat) (l r : List (Int × Int)), l.length + r.length ≤ n → (bothF l r).length ≤ l.length
  | _, [], r, _ => by rw [both_nil']; simp
  | _, p :: l, [], _ => by rw [both_nil]; simp
  | 0, _ :: _, _ :: _, h => by simp at h
  | n + 1, p :: l, q :: r, h => by
    simp only [List.length_cons] at h
    rw [bothF]
    by_cases c : p.1 < q.1
    · rw [if_pos c]
      have := both_len n l (q :: r) (by simp only [List.length_cons]; omega)
      simp only [List.length_cons]; omega
    · rw [if_neg c]
      by_cases c2 : q.1 < p.1
      · rw [if_pos c2]
        exact both_len n (p :: l) r (by simp only [List.length_cons]; omega)
      · rw [if_neg c2]
        have := both_len n l r (by omega)
        simp only [List.length_cons]; omega
theorem stretch_len (l : List Ck) (p : Pl) : (stretchF l p).length ≤ l.length + 1 := by
  rcases l.eq_nil_or_concat with rfl | ⟨m, c, rfl⟩
  · simp [stretch_nil]
  · rw [List.concat_eq_append, stretch_snoc]
    by_cases h : c.1 = true
    · rw [if_pos h]; simp
    · rw [if_neg h]; simp
def fitK (a b c : Int) (l r : List (Int × Int)) : Bool := decide (0 ≤ a ∧ 0 ≤ b ∧ 0 ≤ c) && (riseB a b (-1) (-1) l && riseB a c (-1) (-1) r)
def sOfK : Spec := Spec.f5 kI kI kI (kL (eP eI eI)) (kL (eP eI eI)) (fun a b c l r => a < 100000000 ∧ b < 100000000 ∧ c < 100000000 ∧ l.length < 10000000 ∧ r.length < 10000000)
  (fun a b c l r => if fitK a b c l r then tu2 (sL eCk (ofK (a, b, c) (bothF l r) [] (0, 0, 0))) (kI.enc 0) else tu2 .em (kI.enc 12))
theorem okOfK : SpecOK Tryz.prog 99 sOfK := by
  refine SpecOK.f5 Tryz.func99 rfl (by decide) Tryz.results99 Tryz.ntmps99 (by decide) fun a b c l r ⟨ha, hb, hc, hl, hr⟩ => ?_
  have hΓ : GOK Tryz.prog (gam [(152, sRises), (153, sBoth), (154, sBetween), (155, sStretch), (156, sNextP)]) := (.cons okRises (.cons okBoth (.cons okBetween (.cons okStretch (.cons okNextP .nil)))))
  rcases hf : fitK a b c l r with _ | _
  · have hbad : (decide (a < 0) || decide (b < 0) || decide (c < 0) || !riseB a b (-1) (-1) l || !riseB a c (-1) (-1) r) = true := by
      cases h : (decide (a < 0) || decide (b < 0) || decide (c < 0) || !riseB a b (-1) (-1) l || !riseB a c (-1) (-1) r) with
      | true => rfl
      | false =>
        simp only [Bool.or_eq_false_iff, decide_eq_false_iff_not, Bool.not_eq_false'] at h
        obtain ⟨⟨⟨⟨h1, h2⟩, h3⟩, h4⟩, h5⟩ := h
        have : fitK a b c l r = true := by
          unfold fitK
          rw [h4, h5, decide_eq_true (by omega)]
          rfl
        rw [this] at hf
        cases hf
    refine AW.of hΓ mixed [5] _ _ _ rfl ?_
    simp only [go_sem, sRises, sBoth, sBetween, sStretch, sNextP, pp_sz, hf]
    refine ⟨fun h => by simp [h], fun h => by rw [h]; rfl, fun _ => by omega, fun h => by rw [h]; rfl, fun _ => by omega, fun h => by rw [h]; rfl, fun h => by rw [hbad] at h; cases h⟩
  · have hf' := hf
    unfold fitK at hf'
    simp only [Bool.and_eq_true, decide_eq_true_eq] at hf'
    obtain ⟨⟨a0, b0, c0⟩, g1, g2⟩ := hf'
    have d1 : (a < 0) = False := eq_false (by omega)
    have d2 : (b < 0) = False := eq_false (by omega)
    have d3 : (c < 0) = False := eq_false (by omega)
    refine AW.of hΓ mixed [5] _ _ _ rfl ?_
    simp only [go_sem, sRises, sBoth, sBetween, sStretch, sNextP, pp_sz, hf, d1, d2, d3, g1, g2]
    refine ⟨by omega, by omega, by omega, ?_⟩
    refine AW.adopt 12 216 7 (fun i => eCk.enc (([] : List Ck).getD i eCk.dflt)) rfl ?_
    have hM : ∀ p ∈ bothF l r, (0 ≤ p.1 ∧ p.1 < a) ∧ (0 ≤ p.2.1 ∧ p.2.1 < b) ∧ 0 ≤ p.2.2 ∧ p.2.2 < c := fun p hp => by
      obtain ⟨x, hx, y, hy, _, rfl⟩ := both_mem _ l r (Nat.le_refl _) p hp
      have h1 := rise_mem g1 x hx
      have h2 := rise_mem g2 y hy
      exact ⟨by dsimp only; omega, by dsimp only; omega, by dsimp only; omega⟩
    have hMl := both_len _ l r (Nat.le_refl _)
    generalize hMe : bothF l r = M at *
    refine AW.block (AW.round (α := { x : Nat × List Ck × Pl × Nat × Nat × Nat × Nat // x.1 ≤ M.length ∧ x.2.1.length ≤ 2 * x.1 ∧ ofK (a, b, c) M [] (0, 0, 0) = ofK (a, b, c) (M.drop x.1) x.2.1 x.2.2.1 })
      (fun x => ⟨[(12, .ow 2 x.1.2.2.2.2.2.1 x.1.2.1.length), (13, .pt 0 x.1.2.2.2.1 0), (14, .pt 1 x.1.2.2.2.2.1 0), (48, sL ePl M), (49, .val (.int .i64 M.length)), (50, .val (.int .i64 x.1.1))],
        [(0, .box x.1.2.2.2.1 210 3 (ePl.enc x.1.2.2.1)), (1, .box x.1.2.2.2.2.1 210 3 (ePl.enc (a, b, c))), (2, rowL x.1.2.2.2.2.2.1 216 eCk x.1.2.1)], 80, 3, x.1.2.2.2.2.2.2, []⟩) (fun x => M.length - x.1.1) ⟨(0, [], (0, 0, 0), 0, 1, 2, 3), Nat.zero_le _, Nat.le_refl _, rfl⟩ ?_ ?_)
    · simp only [go_sem, sRises, sBoth, sBetween, sStretch, sNextP]
      refine ⟨RowLe.box fun j hj => ?_, RowLe.box fun j hj => ?_, RowLe.refl _⟩
      · match j, hj with
        | 0, _ => exact AVle.refl _
        | 1, _ => exact AVle.refl _
        | 2, _ => exact AVle.refl _
      · match j, hj with
        | 0, _ => exact AVle.refl _
        | 1, _ => exact AVle.refl _
        | 2, _ => exact AVle.refl _
    · rintro ⟨⟨i, s, ⟨t1, t2, t3⟩, va, vb, v, nx⟩, hi, hs, he⟩
      simp only at hi hs he
      refine AW.of hΓ mixed [8, 99999] _ _ _ rfl ?_
      simp only [go_sem, sRises, sBoth, sBetween, sStretch, sNextP]
      refine ⟨fun hil => ?_, fun hil => ?_⟩
      · have hlt : i < M.length := by omega
        obtain ⟨p1, p2, p3, hp⟩ : ∃ p1 p2 p3, M.getD i ePl.dflt = (p1, p2, p3) := ⟨_, _, _, rfl⟩
        have hd : M.drop i = (p1, p2, p3) :: M.drop (i + 1) := by
          rw [List.drop_eq_getElem_cons hlt, ← gd_lt M ePl.dflt hlt, hp]
        have hpb := hM (p1, p2, p3) (by rw [← hp, gd_lt M _ hlt]; exact List.getElem_mem _)
        simp only at hpb
        rw [hd, ofK] at he
        refine ⟨by omega, ?_⟩
        obtain ⟨s', hs'⟩ : ∃ s', (if (p1, p2, p3) = (t1, t2, t3) then s else s ++ [btw (t1, t2, t3) (p1, p2, p3)]) = s' := ⟨_, rfl⟩
        have hsl : s'.length ≤ s.length + 1 := by
          rw [← hs']
          split
          · omega
          · simp
        rw [hs'] at he
        refine AW.to (fun x : Nat × Nat => Sh.st ⟨[(12, .ow 2 x.1 s'.length), (13, .pt 0 va 0), (14, .pt 1 vb 0), (16, .pt 3 nx 0), (48, sL ePl M), (49, .val (.int .i64 M.length)), (50, .val (.int .i64 i))],
          [(0, .box va 210 3 (ePl.enc (p1, p2, p3))), (1, .box vb 210 3 (ePl.enc (a, b, c))), (2, rowL x.1 216 eCk s'), (3, .box nx 210 3 (ePl.enc (p1, p2, p3)))], 80, 4, x.2, []⟩) ?_ ?_
        · refine AW.of hΓ mixed [99999] _ _ _ rfl ?_
          simp only [go_sem, sRises, sBoth, sBetween, sStretch, sNextP, hp]
          rw [plEq]
          refine ⟨fun h => ⟨by omega, ⟨(nx + 1, nx + 1 + 1), toFits ?_⟩⟩, fun h => ⟨(v, nx + 1), toFits ?_⟩⟩
          · have hne : ¬ ((p1, p2, p3) : Pl) = (t1, t2, t3) := fun e => by rw [decide_eq_true e] at h; cases h
            rw [if_neg hne] at hs'
            subst hs'
            simp only [go_sem, sRises, sBoth, sBetween, sStretch, sNextP]
            refine ⟨RowLe.box fun j hj => ?_, RowLe.refl _, row_app1 (E := eCk) rfl rfl rfl rfl (by simp) fun j hj => AVle.refl _, RowLe.box fun j hj => ?_⟩
            · match j, hj with
              | 0, _ => exact AVle.refl _
              | 1, _ => exact AVle.refl _
              | 2, _ => exact AVle.refl _
            · match j, hj with
              | 0, _ => exact AVle.refl _
              | 1, _ => exact AVle.refl _
              | 2, _ => exact AVle.refl _
          · have heq : ((p1, p2, p3) : Pl) = (t1, t2, t3) := of_decide_eq_true (by simpa only [Bool.not_eq_false'] using h)
            rw [if_pos heq] at hs'
            subst hs'
            obtain ⟨rfl, rfl, rfl⟩ : p1 = t1 ∧ p2 = t2 ∧ p3 = t3 := by simpa using heq
            simp only [go_sem, sRises, sBoth, sBetween, sStretch, sNextP]
            refine ⟨RowLe.refl _, RowLe.refl _, RowLe.refl _, RowLe.box fun j hj => ?_⟩
            match j, hj with
            | 0, _ => exact AVle.refl _
            | 1, _ => exact AVle.refl _
            | 2, _ => exact AVle.refl _
        · rintro ⟨v', nx'⟩
          simp only [go_sem, sRises, sBoth, sBetween, sStretch, sNextP]
          have hok : okPl (p1, p2, p3) := ⟨by dsimp only; omega, by dsimp only; omega, by dsimp only; omega⟩
          have hsl2 := stretch_len s' (p1, p2, p3)
          refine stretch_go (q := 2) (l := s') (p := (p1, p2, p3)) rfl (AVle.refl _) (RowLe.refl _) (by decide) (by omega) hok fun v2 n2 h2 => ?_
          generalize stretchF s' (p1, p2, p3) = s2 at *
          simp only [go_sem, sRises, sBoth, sBetween, sStretch, sNextP]
          refine ⟨hok, by omega, ⟨(i + 1, s2, nextP (p1, p2, p3), va, vb, v2, n2), by dsimp only; omega, by dsimp only; omega, he⟩, ⟨Nat.le_refl _, ⟨⟨rfl, rfl⟩, rfl, rfl, by dsimp only; omega⟩, RowLe.box fun j hj => ?_, RowLe.refl _, RowLe.refl _⟩, by dsimp only; omega⟩
          match j, hj with
          | 0, _ => exact AVle.refl _
          | 1, _ => exact AVle.refl _
          | 2, _ => exact AVle.refl _
      · obtain rfl : i = M.length := by omega
        rw [List.drop_length, ofK] at he
        refine AW.seqTo (fun x : Nat × Nat => Sh.st ⟨[(12, .ow 2 x.1 (ofK (a, b, c) M [] (0, 0, 0)).length)], [(2, rowL x.1 216 eCk (ofK (a, b, c) M [] (0, 0, 0)))], 80, 3, x.2, []⟩) ?_ ?_
        · refine AW.of hΓ mixed [] _ _ _ rfl ?_
          simp only [go_sem, sRises, sBoth, sBetween, sStretch, sNextP]
          rw [plEq]
          refine ⟨fun h => ⟨by omega, ⟨(nx, nx + 1), toFits ?_⟩⟩, fun h => ⟨(v, nx), toFits ?_⟩⟩
          · have hne : ¬ ((t1, t2, t3) : Pl) = (a, b, c) := fun e => by rw [decide_eq_true e] at h; cases h
            rw [if_neg hne] at he
            rw [he]
            simp only [go_sem, sRises, sBoth, sBetween, sStretch, sNextP]
            exact row_app1 (E := eCk) rfl rfl rfl rfl (by simp) fun j hj => AVle.refl _
          · have heq : ((t1, t2, t3) : Pl) = (a, b, c) := of_decide_eq_true (by simpa only [Bool.not_eq_false'] using h)
            rw [if_pos heq] at he
            rw [he]
            simp only [go_sem, sRises, sBoth, sBetween, sStretch, sNextP]
            exact RowLe.refl _
        · rintro ⟨v', nx'⟩
          refine AW.of hΓ mixed [] _ _ _ rfl ?_
          simp only [go_sem, sRises, sBoth, sBetween, sStretch, sNextP]
          exact vw_all (E := eCk) rfl rfl rfl
end Go.Proofs.YthpjjjnbkfnghaaGreatDoor
set_option linter.unusedSimpArgs false
set_option linter.unusedVariables false
namespace Go.Proofs.YthpjjjnbkfnghaaGreatDoor
theorem rise_tail {a b u v : Int} {p : Int × Int} {l : List (Int × Int)} (h : riseB a b u v (p :: l) = true) : (u < p.1 ∧ v < p.2 ∧ p.1 < a ∧ p.2 < b) ∧ riseB a b p.1 p.2 l = true := by
  rw [riseB, Bool.and_eq_true, decide_eq_true_eq] at h
  exact h
end Go.Proofs.YthpjjjnbkfnghaaGreatDoor
set_option linter.unusedSimpArgs false
set_option linter.unusedVariables false
namespace Go.Proofs.YthpjjjnbkfnghaaGreatDoor
def fromP (c : Ck) : Pl := (c.2.1.1, c.2.2.1.1, c.2.2.2.1)
def toP (c : Ck) : Pl := (c.2.1.2, c.2.2.1.2, c.2.2.2.2)
def leP (p q : Pl) : Prop := p.1 ≤ q.1 ∧ p.2.1 ≤ q.2.1 ∧ p.2.2 ≤ q.2.2
def chF : Pl → Option Bool → List Ck → Pl → Prop
  | t, _, [], e => t = e
  | t, o, c :: l, e => fromP c = t ∧ leP t (toP c) ∧ t ≠ toP c ∧ o ≠ some c.1 ∧ chF (toP c) (some c.1) l e
def lastO : Option Bool → List Ck → Option Bool
  | o, [] => o
  | _, c :: l => lastO (some c.1) l
theorem lastO_snoc (c : Ck) : ∀ (o : Option Bool) (s : List Ck), lastO o (s ++ [c]) = some c.1
  | _, [] => rfl
  | _, d :: s => lastO_snoc c (some d.1) s
theorem ch_snoc {e : Pl} {c : Ck} : ∀ {t : Pl} {o : Option Bool} {s : List Ck}, chF t o (s ++ [c]) e ↔ chF t o s (fromP c) ∧ leP (fromP c) (toP c) ∧ fromP c ≠ toP c ∧ lastO o s ≠ some c.1 ∧ toP c = e
  | t, o, [] => by
    show (fromP c = t ∧ leP t (toP c) ∧ t ≠ toP c ∧ o ≠ some c.1 ∧ toP c = e) ↔ (t = fromP c ∧ leP (fromP c) (toP c) ∧ fromP c ≠ toP c ∧ o ≠ some c.1 ∧ toP c = e)
    constructor
    · rintro ⟨rfl, h⟩; exact ⟨rfl, h⟩
    · rintro ⟨rfl, h⟩; exact ⟨rfl, h⟩
  | t, o, d :: s => by
    have ih := ch_snoc (e := e) (c := c) (t := toP d) (o := some d.1) (s := s)
    show (fromP d = t ∧ leP t (toP d) ∧ t ≠ toP d ∧ o ≠ some d.1 ∧ chF (toP d) (some d.1) (s ++ [c]) e) ↔ ((fromP d = t ∧ leP t (toP d) ∧ t ≠ toP d ∧ o ≠ some d.1 ∧ chF (toP d) (some d.1) s (fromP c)) ∧ leP (fromP c) (toP c) ∧ fromP c ≠ toP c ∧ lastO (some d.1) s ≠ some c.1 ∧ toP c = e)
    rw [ih]
    constructor
    · rintro ⟨h1, h2, h3, h4, h5, h6⟩; exact ⟨⟨h1, h2, h3, h4, h5⟩, h6⟩
    · rintro ⟨⟨h1, h2, h3, h4, h5⟩, h6⟩; exact ⟨h1, h2, h3, h4, h5, h6⟩
theorem leP_trans {p q r : Pl} (h : leP p q) (k : leP q r) : leP p r := ⟨Int.le_trans h.1 k.1, Int.le_trans h.2.1 k.2.1, Int.le_trans h.2.2 k.2.2⟩
theorem leP_refl (p : Pl) : leP p p := ⟨Int.le_refl _, Int.le_refl _, Int.le_refl _⟩
theorem ch_le : ∀ {t : Pl} {o : Option Bool} {s : List Ck} {e : Pl}, chF t o s e → leP t e
  | t, _, [], _, h => by rw [show t = _ from h]; exact leP_refl _
  | _, _, _ :: _, _, ⟨_, h2, _, _, h5⟩ => leP_trans h2 (ch_le h5)
def upM (ends : Pl) : Pl → List Pl → Prop
  | t, [] => leP t ends
  | t, p :: M => leP t p ∧ upM ends (nextP p) M
theorem both_up {a b c : Int} : ∀ (n : Nat) (l r : List (Int × Int)) (u v u' w : Int) (t : Pl), l.length + r.length ≤ n → riseB a b u v l = true → riseB a c u' w r = true → (t.1 ≤ u + 1 ∨ t.1 ≤ u' + 1) → t.2.1 ≤ v + 1 → t.2.2 ≤ w + 1 → leP t (a, b, c) → upM (a, b, c) t (bothF l r)
  | _, [], r, _, _, _, _, t, _, _, _, _, _, _, h => by rw [both_nil']; exact h
  | _, p :: l, [], _, _, _, _, t, _, _, _, _, _, _, h => by rw [both_nil]; exact h
  | 0, _ :: _, _ :: _, _, _, _, _, _, h, _, _, _, _, _, _ => by simp at h
  | n + 1, p :: l, q :: r, u, v, u', w, t, h, hl, hr, h1, h2, h3, h4 => by
    simp only [List.length_cons] at h
    obtain ⟨l1, l2⟩ := rise_tail hl
    obtain ⟨r1, r2⟩ := rise_tail hr
    rw [bothF]
    by_cases e1 : p.1 < q.1
    · rw [if_pos e1]
      exact both_up n l (q :: r) p.1 p.2 u' w t (by simp only [List.length_cons]; omega) l2 hr (by omega) (by omega) h3 h4
    · by_cases e2 : q.1 < p.1
      · rw [if_neg e1, if_pos e2]
        exact both_up n (p :: l) r u v q.1 q.2 t (by simp only [List.length_cons]; omega) hl r2 (by omega) h2 (by omega) h4
      · rw [if_neg e1, if_neg e2]
        refine ⟨⟨?_, ?_, ?_⟩, both_up n l r p.1 p.2 q.1 q.2 _ (by omega) l2 r2 (.inl (Int.le_refl _)) (Int.le_refl _) (Int.le_refl _) ⟨?_, ?_, ?_⟩⟩
        · show t.1 ≤ p.1
          omega
        · show t.2.1 ≤ p.2
          omega
        · show t.2.2 ≤ q.2
          omega
        · show p.1 + 1 ≤ a
          omega
        · show p.2 + 1 ≤ b
          omega
        · show q.2 + 1 ≤ c
          omega
theorem nextP_ne (p q : Pl) (h : leP p q) : p ≠ nextP q := fun e => by
  have h1 : p.1 = q.1 + 1 := congrArg Prod.fst e
  have := h.1
  omega
theorem le_nextP (p : Pl) : leP p (nextP p) := ⟨Int.le_of_lt (Int.lt_succ _), Int.le_of_lt (Int.lt_succ _), Int.le_of_lt (Int.lt_succ _)⟩
theorem ch_stretch {s : List Ck} {t : Pl} (h : chF (0, 0, 0) none s t) : chF (0, 0, 0) none (stretchF s t) (nextP t) ∧ lastO none (stretchF s t) = some true := by
  rcases s.eq_nil_or_concat with rfl | ⟨m, c, rfl⟩
  · have h : (0, 0, 0) = t := h
    subst h
    exact ⟨⟨rfl, le_nextP _, nextP_ne _ _ (leP_refl _), by simp, rfl⟩, rfl⟩
  · rw [List.concat_eq_append] at h ⊢
    rw [stretch_snoc]
    by_cases hc : c.1 = true
    · rw [if_pos hc]
      obtain ⟨h1, h2, h3, h4, h5⟩ := ch_snoc.1 h
      refine ⟨ch_snoc.2 ⟨h1, ?_, ?_, ?_, rfl⟩, lastO_snoc _ _ _⟩
      · exact leP_trans (h5 ▸ h2) (le_nextP t)
      · exact nextP_ne _ t (h5 ▸ h2)
      · rw [hc] at h4; exact h4
    · rw [if_neg hc]
      refine ⟨ch_snoc.2 ⟨h, le_nextP t, nextP_ne _ t (leP_refl _), ?_, rfl⟩, lastO_snoc _ _ _⟩
      rw [lastO_snoc]
      intro e
      exact hc (Option.some.inj e)
theorem ch_of (ends : Pl) : ∀ (M : List Pl) (s : List Ck) (t : Pl), chF (0, 0, 0) none s t → lastO none s ≠ some false → upM ends t M → chF (0, 0, 0) none (ofK ends M s t) ends
  | [], s, t, h, hl, hu => by
    rw [ofK]
    by_cases e : t = ends
    · rw [if_pos e, ← e]; exact h
    · rw [if_neg e]
      exact ch_snoc.2 ⟨h, hu, e, hl, rfl⟩
  | p :: M, s, t, h, hl, hu => by
    rw [ofK]
    by_cases e : p = t
    · rw [if_pos e, e]
      obtain ⟨h1, h2⟩ := ch_stretch h
      exact ch_of ends M _ _ h1 (by rw [h2]; simp) (e ▸ hu.2)
    · rw [if_neg e]
      obtain ⟨h1, h2⟩ := ch_stretch (s := s ++ [btw t p]) (t := p) (ch_snoc.2 ⟨h, hu.1, fun e2 => e e2.symm, hl, rfl⟩)
      exact ch_of ends M _ _ h1 (by rw [h2]; simp) hu.2
theorem ch_all {a b c : Int} {l r : List (Int × Int)} (h : fitK a b c l r = true) : chF (0, 0, 0) none (ofK (a, b, c) (bothF l r) [] (0, 0, 0)) (a, b, c) := by
  unfold fitK at h
  simp only [Bool.and_eq_true, decide_eq_true_eq] at h
  obtain ⟨⟨h1, h2, h3⟩, h4, h5⟩ := h
  exact ch_of (a, b, c) _ _ _ rfl (by simp [lastO]) (both_up _ l r (-1) (-1) (-1) (-1) (0, 0, 0) (Nat.le_refl _) h4 h5 (.inl (Int.le_refl _)) (Int.le_refl _) (Int.le_refl _) ⟨h1, h2, h3⟩)
end Go.Proofs.YthpjjjnbkfnghaaGreatDoor
set_option linter.unusedVariables false
namespace Go.Proofs.YthpjjjnbkfnghaaGreatDoor
open Go
abbrev BS := List UInt8
instance : DecidableEq (BS × BS × BS × BS × Bool) := inferInstance
instance : DecidableEq (Bool × BS × BS × BS × BS × Bool) := inferInstance
abbrev Pt := BS × BS × BS × Bool × BS × BS × BS × BS × Bool
instance : DecidableEq Pt := inferInstance
abbrev ePt : El Pt := eP eS (eP eS (eP eS (eP eB (eP eS (eP eS (eP eS (eP eS eB)))))))
abbrev eLb : El (BS × BS × BS) := eP eS (eP eS eS)
@[reducible] def hkP (p : Pt) : Bool := p.2.2.2.1
@[reducible] def txP (p : Pt) : BS := p.2.2.2.2.1
def textP (t : BS) : Pt := ([], [], [], false, t, [], [], [], false)
def isTextD (p : Pt) : Bool := decide (p = textP (txP p))
def plainB (s : BS) : Bool := decide ((10 : UInt8) ∉ s)
def plainD (p : Pt) : Bool := plainB p.1 && (plainB p.2.1 && plainB p.2.2.1)
theorem plain_app (a b : BS) : plainB (a ++ b) = (plainB a && plainB b) := by
  unfold plainB
  rw [Bool.eq_iff_iff]
  simp [not_or]
theorem plain_ix (s : BS) : decide (0 ≤ Lib.indexByte s 10) = !plainB s := by
  unfold plainB
  rcases idx_cases s with ⟨h1, h2⟩ | ⟨p, r, rfl, h2, h1⟩
  · rw [h1]
    simp [h2]
  · rw [h1]
    simp
def confD (p : Pt) : Bool := p.2.2.2.1 && (decide (p.2.2.2.2.1 = []) && ((p.2.2.2.2.2.2.2.2 || (decide (p.2.2.2.2.2.2.1 = []) && decide (p.2.1 = []))) && plainD p))
def aheadD (p : Pt) (another : Bool) : Bool := isTextD p && (decide (txP p ≠ []) && (!another || endsL (txP p)))
def okAt (d : List Pt) (i : Nat) : Bool := (hkP (d.getD i ePt.dflt) || (decide (i = 0) || hkP (d.getD (i - 1) ePt.dflt))) && (confD (d.getD i ePt.dflt) || aheadD (d.getD i ePt.dflt) (decide (i + 1 < d.length)))
def rightD (d : List Pt) : Bool := decide (∀ i, i < d.length → okAt d i = true)
def conflD (d : List Pt) : Nat := (d.filter hkP).length
def longT (l : List BS) : Nat := l.foldl (fun n s => max n (longL (splitL s))) 0
theorem longT_snoc (l : List BS) (x : BS) : longT (l ++ [x]) = max (longT l) (longL (splitL x)) := by
  unfold longT
  rw [List.foldl_append]
  rfl
def fourP (p : Pt) : List BS := [p.2.2.2.2.1, p.2.2.2.2.2.1, p.2.2.2.2.2.2.1, p.2.2.2.2.2.2.2.1]
def fitsD (d : List Pt) (w : Int) : Bool := decide (1 ≤ w) && decide (∀ p ∈ d, (longT (fourP p) : Int) < w)
def withD (d : List Pt) (ts : List BS) : List Pt := if ts.flatten = [] then d else d ++ [textP ts.flatten]
def ofGo : List Pt → List Pt → List BS → List Pt
  | [], d, ts => withD d ts
  | p :: l, d, ts => if isTextD p = true then ofGo l d (ts ++ [txP p]) else ofGo l (withD d ts ++ [p]) []
def ofD (l : List Pt) : List Pt := ofGo l [] []
theorem isText_textP (t : BS) : isTextD (textP t) = true := decide_eq_true rfl
theorem isText_eq {p : Pt} (h : isTextD p = true) : p = textP (txP p) := of_decide_eq_true h
def joinR (out : List Pt) (p : Pt) : List Pt :=
  if isTextD p = true then
    if txP p = [] then out else
      match out.getLast? with
      | some q => if isTextD q = true then out.dropLast ++ [textP (txP q ++ txP p)] else out ++ [p]
      | none => out ++ [p]
  else out ++ [p]
theorem join_no {out : List Pt} {p : Pt} (h : isTextD p = false) : joinR out p = out ++ [p] := by unfold joinR; rw [if_neg (by simp [h])]
theorem join_em {out : List Pt} {p : Pt} (h : isTextD p = true) (h2 : txP p = []) : joinR out p = out := by unfold joinR; rw [if_pos h, if_pos h2]
theorem joinR_nil {p : Pt} (h2 : ¬ (isTextD p = true ∧ txP p = [])) : joinR [] p = [p] := by
  unfold joinR
  by_cases h : isTextD p = true
  · rw [if_pos h, if_neg fun e => h2 ⟨h, e⟩]
    rfl
  · rw [if_neg h]
    rfl
theorem join_two {m : List Pt} {q p : Pt} (h : isTextD p = true) (h2 : txP p ≠ []) (hq : isTextD q = true) : joinR (m ++ [q]) p = m ++ [textP (txP q ++ txP p)] := by
  unfold joinR
  rw [if_pos h, if_neg h2]
  simp [hq]
theorem join_new {m : List Pt} {q p : Pt} (h2 : ¬ (isTextD p = true ∧ txP p = [])) (hq : isTextD q = false) : joinR (m ++ [q]) p = m ++ [q] ++ [p] := by
  unfold joinR
  by_cases h : isTextD p = true
  · rw [if_pos h, if_neg fun e => h2 ⟨h, e⟩]
    simp [hq]
  · rw [if_neg h]
theorem with_nil (d : List Pt) : withD d [] = d := rfl
theorem with_join {d : List Pt} {ts : List BS} {p : Pt} (hd : ∀ q, d.getLast? = some q → isTextD q = false) (hp : isTextD p = true) : withD d (ts ++ [txP p]) = joinR (withD d ts) p := by
  have e := isText_eq hp
  by_cases h0 : txP p = []
  · rw [join_em hp h0]
    unfold withD
    rw [h0]
    simp
  · unfold withD
    have hf : ¬ (ts ++ [txP p]).flatten = [] := by simp [h0]
    rw [if_neg hf]
    by_cases h1 : ts.flatten = []
    · rw [if_pos h1]
      have ef : (ts ++ [txP p]).flatten = txP p := by simp [h1]
      rw [ef, ← e]
      rcases d.eq_nil_or_concat with rfl | ⟨m, q, rfl⟩
      · rw [joinR_nil fun h => h0 h.2]
        rfl
      · rw [List.concat_eq_append] at hd ⊢
        rw [join_new (fun h => h0 h.2) (hd q (by simp))]
    · rw [if_neg h1, join_two hp h0 (isText_textP _)]
      simp [textP, txP]
theorem of_go : ∀ (l d : List Pt) (ts : List BS), (∀ q, d.getLast? = some q → isTextD q = false) → ofGo l d ts = l.foldl joinR (withD d ts)
  | [], d, ts, _ => rfl
  | p :: l, d, ts, hd => by
    rw [ofGo, List.foldl_cons]
    cases h : isTextD p with
    | true => rw [if_pos rfl, of_go l d _ hd, with_join hd h]
    | false =>
      rw [if_neg (by simp), of_go l _ [] (fun q hq => by
        rw [List.getLast?_append] at hq
        simp at hq
        rw [← hq]; exact h), with_nil, join_no h]
theorem ofD_eq (l : List Pt) : ofD l = l.foldl joinR [] := of_go l [] [] (fun q h => by cases h)
def sumT (l : List Pt) : Nat := (l.map fun p => (txP p).length).sum
theorem sumT_app (l m : List Pt) : sumT (l ++ m) = sumT l + sumT m := by simp [sumT]
theorem sumT_one (p : Pt) : sumT [p] = (txP p).length := by simp [sumT]
theorem sumT_take (l : List Pt) (i : Nat) : sumT (l.take i) ≤ sumT l := by
  have := sumT_app (l.take i) (l.drop i)
  rw [List.take_append_drop] at this
  omega
theorem join_sum (out : List Pt) (p : Pt) : sumT (joinR out p) ≤ sumT out + (txP p).length ∧ (joinR out p).length ≤ out.length + 1 := by
  have hn : sumT (out ++ [p]) ≤ sumT out + (txP p).length ∧ (out ++ [p]).length ≤ out.length + 1 := by rw [sumT_app, sumT_one]; simp
  cases hp : isTextD p with
  | false => rw [join_no hp]; exact hn
  | true =>
    by_cases h0 : txP p = []
    · rw [join_em hp h0]; omega
    · rcases out.eq_nil_or_concat with rfl | ⟨m, q, rfl⟩
      · rw [joinR_nil fun e => h0 e.2]; exact hn
      · rw [List.concat_eq_append] at *
        cases hqt : isTextD q with
        | false => rw [join_new (fun e => h0 e.2) hqt]; exact hn
        | true =>
          rw [join_two hp h0 hqt, sumT_app, sumT_app, sumT_one, sumT_one]
          simp [textP, txP]
          omega
theorem fold_sum : ∀ (l out : List Pt), sumT (l.foldl joinR out) ≤ sumT out + sumT l ∧ (l.foldl joinR out).length ≤ out.length + l.length
  | [], out => by simp [sumT]
  | p :: l, out => by
    have h1 := fold_sum l (joinR out p)
    have h2 := join_sum out p
    have e : sumT (p :: l) = (txP p).length + sumT l := by simp [sumT]
    rw [List.foldl_cons, e, List.length_cons]
    omega
theorem ofD_sum (l : List Pt) : sumT (ofD l) ≤ sumT l ∧ (ofD l).length ≤ l.length := by
  have := fold_sum l []
  rw [← ofD_eq] at this
  simpa [sumT] using this
end Go.Proofs.YthpjjjnbkfnghaaGreatDoor
set_option linter.unusedSimpArgs false
set_option linter.unusedVariables false
set_option maxRecDepth 100000
namespace Go.Proofs.YthpjjjnbkfnghaaGreatDoor
open Go
def okS (l : List Pt) (i : Nat) : Bool := (hkP (l.getD i ePt.dflt) || (decide (i = 0) || hkP (l.getD (i - 1) ePt.dflt))) && (confD (l.getD i ePt.dflt) || aheadD (l.getD i ePt.dflt) true)
def SrP (l : List Pt) : Prop := ∀ i, i < l.length → okS l i = true
theorem ahead_any {p : Pt} (b : Bool) (h : aheadD p true = true) : aheadD p b = true := by
  unfold aheadD at *
  simp only [Bool.and_eq_true, Bool.not_true, Bool.false_or] at h
  rw [h.1, h.2.1, h.2.2]
  simp
theorem ok_of {l : List Pt} {i : Nat} (h : okS l i = true) : okAt l i = true := by
  unfold okS at h
  unfold okAt
  simp only [Bool.and_eq_true] at h ⊢
  refine ⟨h.1, ?_⟩
  have h3 := h.2
  rw [Bool.or_eq_true] at h3 ⊢
  rcases h3 with h2 | h2
  · exact .inl h2
  · exact .inr (ahead_any _ h2)
theorem SrP.right {l : List Pt} (h : SrP l) : rightD l = true := decide_eq_true fun i hi => ok_of (h i hi)
theorem okS_app {l : List Pt} {p : Pt} {i : Nat} (h : i < l.length) : okS (l ++ [p]) i = okS l i := by
  have e : ∀ k, k < l.length → (l ++ [p]).getD k ePt.dflt = l.getD k ePt.dflt := fun k hk => by simp [List.getD, List.getElem?_append_left hk]
  unfold okS
  rw [e i h]
  rcases Nat.eq_zero_or_pos i with rfl | h0
  · simp
  · rw [e (i - 1) (by omega)]
theorem snocPt (l : List Pt) (p : Pt) : (l ++ [p]).getD l.length ePt.dflt = p := by simp [List.getD]
theorem prevD (l : List Pt) (p : Pt) (h : 0 < l.length) : (l ++ [p]).getD (l.length - 1) ePt.dflt = l.getD (l.length - 1) ePt.dflt := by
  simp [List.getD, List.getElem?_append_left (show l.length - 1 < l.length by omega)]
theorem SrP.left {l : List Pt} {p : Pt} (h : SrP (l ++ [p])) : SrP l := fun i hi => by
  have := h i (by simp; omega)
  rwa [okS_app hi] at this
theorem SrP.snoc {l : List Pt} {p : Pt} (h : SrP l) (hp : okS (l ++ [p]) l.length = true) : SrP (l ++ [p]) := fun i hi => by
  rcases Nat.lt_or_ge i l.length with g | g
  · rw [okS_app g]; exact h i g
  · obtain rfl : i = l.length := by simp at hi; omega
    exact hp
theorem right_snoc {l : List Pt} {p : Pt} (h : SrP l) (hp : okAt (l ++ [p]) l.length = true) : rightD (l ++ [p]) = true := decide_eq_true fun i hi => by
  rcases Nat.lt_or_ge i l.length with g | g
  · exact ok_of (by rw [okS_app g]; exact h i g)
  · obtain rfl : i = l.length := by simp at hi; omega
    exact hp
theorem conf_hk {p : Pt} (h : confD p = true) : hkP p = true := by
  unfold confD at h
  simp only [Bool.and_eq_true] at h
  exact h.1
theorem text_noHk {p : Pt} (h : isTextD p = true) : hkP p = false := by
  rw [isText_eq h]
  rfl
theorem conf_noText {p : Pt} (h : confD p = true) : isTextD p = false := by
  cases c : isTextD p with
  | false => rfl
  | true => have := text_noHk c; rw [conf_hk h] at this; cases this
theorem SrP.last {l : List Pt} {q : Pt} (h : SrP (l ++ [q])) (hq : isTextD q = false) : hkP q = true := by
  have := h l.length (by simp)
  unfold okS at this
  rw [snocPt] at this
  simp only [Bool.and_eq_true, Bool.or_eq_true] at this
  rcases this.2 with h2 | h2
  · exact conf_hk h2
  · unfold aheadD at h2
    rw [hq] at h2
    cases h2
theorem okS_text {l : List Pt} {t : BS} (h : SrP l) (h0 : t ≠ []) (he : endsL t = true) (hl : ∀ q, l.getLast? = some q → isTextD q = false) : okS (l ++ [textP t]) l.length = true := by
  unfold okS
  rw [snocPt]
  have hk : (decide (l.length = 0) || hkP ((l ++ [textP t]).getD (l.length - 1) ePt.dflt)) = true := by
    rcases l.eq_nil_or_concat with rfl | ⟨m, q, rfl⟩
    · rfl
    · rw [List.concat_eq_append] at *
      rw [prevD _ _ (by simp)]
      have : (m ++ [q]).getD ((m ++ [q]).length - 1) ePt.dflt = q := by simp [List.getD]
      rw [this, h.last (hl q (by simp)), Bool.or_true]
  rw [hk, Bool.or_true, Bool.true_and]
  unfold aheadD
  rw [isText_textP]
  have e : txP (textP t) = t := rfl
  rw [e, he, decide_eq_true h0]
  simp
theorem okAt_text {l : List Pt} {t : BS} (h : SrP l) (h0 : t ≠ []) (hl : ∀ q, l.getLast? = some q → isTextD q = false) : okAt (l ++ [textP t]) l.length = true := by
  unfold okAt
  rw [snocPt]
  have hk : (decide (l.length = 0) || hkP ((l ++ [textP t]).getD (l.length - 1) ePt.dflt)) = true := by
    rcases l.eq_nil_or_concat with rfl | ⟨m, q, rfl⟩
    · rfl
    · rw [List.concat_eq_append] at *
      rw [prevD _ _ (by simp)]
      have : (m ++ [q]).getD ((m ++ [q]).length - 1) ePt.dflt = q := by simp [List.getD]
      rw [this, h.last (hl q (by simp)), Bool.or_true]
  rw [hk, Bool.or_true, Bool.true_and]
  unfold aheadD
  rw [isText_textP, decide_eq_false (show ¬ l.length + 1 < (l ++ [textP t]).length by simp)]
  have e : txP (textP t) = t := rfl
  rw [e, decide_eq_true h0]
  simp
theorem okS_conf {l : List Pt} {p : Pt} (h : confD p = true) : okS (l ++ [p]) l.length = true := by
  unfold okS
  rw [snocPt, conf_hk h, h]
  rfl
theorem join_cases (out : List Pt) (p : Pt) (hp : isTextD p = true) : (txP p = [] ∧ joinR out p = out) ∨
    (txP p ≠ [] ∧ ((∃ m q, out = m ++ [q] ∧ isTextD q = true ∧ joinR out p = m ++ [textP (txP q ++ txP p)]) ∨ ((∀ q, out.getLast? = some q → isTextD q = false) ∧ joinR out p = out ++ [p]))) := by
  by_cases h0 : txP p = []
  · exact .inl ⟨h0, join_em hp h0⟩
  · refine .inr ⟨h0, ?_⟩
    rcases out.eq_nil_or_concat with rfl | ⟨m, q, rfl⟩
    · exact .inr ⟨(fun q h => by cases h), joinR_nil fun e => h0 e.2⟩
    · rw [List.concat_eq_append]
      cases hq : isTextD q with
      | true => exact .inl ⟨m, q, rfl, hq, join_two hp h0 hq⟩
      | false =>
        refine .inr ⟨fun q' h => ?_, join_new (fun e => h0 e.2) hq⟩
        simp at h
        rw [← h]; exact hq
theorem SrP.text {m : List Pt} {q : Pt} (h : SrP (m ++ [q])) (hq : isTextD q = true) : ∀ q', m.getLast? = some q' → isTextD q' = false := fun q' hq' => by
  have := h m.length (by simp)
  unfold okS at this
  rw [snocPt, text_noHk hq] at this
  simp only [Bool.and_eq_true, Bool.or_eq_true, Bool.false_eq_true, false_or, decide_eq_true_eq] at this
  rcases m.eq_nil_or_concat with rfl | ⟨m', q2, rfl⟩
  · cases hq'
  · rw [List.concat_eq_append] at *
    simp at hq'
    subst hq'
    rcases this.1 with h1 | h1
    · simp at h1
    · rw [prevD _ _ (by simp)] at h1
      have e : (m' ++ [q2]).getD ((m' ++ [q2]).length - 1) ePt.dflt = q2 := by simp [List.getD]
      rw [e] at h1
      cases c : isTextD q2 with
      | false => rfl
      | true => rw [text_noHk c] at h1; cases h1
theorem ends_app {a b : BS} (h0 : b ≠ []) : endsL (a ++ b) = endsL b := by
  unfold endsL
  rcases b.eq_nil_or_concat with rfl | ⟨m, c, rfl⟩
  · exact absurd rfl h0
  · rw [List.concat_eq_append, ← List.append_assoc, List.getLast?_concat, List.getLast?_concat]
theorem join_Sr {out : List Pt} {p : Pt} (h : SrP out) (hp : confD p = true ∨ (isTextD p = true ∧ (txP p = [] ∨ endsL (txP p) = true))) : SrP (joinR out p) := by
  rcases hp with hp | ⟨hp, he⟩
  · rw [join_no (conf_noText hp)]
    exact h.snoc (okS_conf hp)
  · rcases join_cases out p hp with ⟨_, e⟩ | ⟨h0, ⟨m, q, rfl, hq, e⟩ | ⟨hl, e⟩⟩
    · rw [e]; exact h
    · rw [e]
      have he := he.resolve_left h0
      exact h.left.snoc (okS_text h.left (by simp [h0]) (by rw [ends_app h0]; exact he) (h.text hq))
    · rw [e]
      have he := he.resolve_left h0
      rw [isText_eq hp]
      exact h.snoc (okS_text h h0 he hl)
theorem join_right {out : List Pt} {p : Pt} (h : SrP out) (hp : confD p = true ∨ isTextD p = true) : rightD (joinR out p) = true := by
  rcases hp with hp | hp
  · exact (join_Sr h (.inl hp)).right
  · rcases join_cases out p hp with ⟨_, e⟩ | ⟨h0, ⟨m, q, rfl, hq, e⟩ | ⟨hl, e⟩⟩
    · rw [e]; exact h.right
    · rw [e]
      exact right_snoc h.left (okAt_text h.left (by simp [h0]) (h.text hq))
    · rw [e, isText_eq hp]
      exact right_snoc h (okAt_text h h0 hl)
theorem fold_Sr : ∀ (l out : List Pt), SrP out → (∀ p ∈ l, confD p = true ∨ (isTextD p = true ∧ (txP p = [] ∨ endsL (txP p) = true))) → SrP (l.foldl joinR out)
  | [], _, h, _ => h
  | p :: l, out, h, hl => fold_Sr l _ (join_Sr h (hl p (List.mem_cons_self ..))) fun q hq => hl q (List.mem_cons_of_mem p hq)
theorem of_right {l : List Pt} (h1 : ∀ p ∈ l, confD p = true ∨ isTextD p = true) (h2 : ∀ p ∈ l.dropLast, confD p = true ∨ (isTextD p = true ∧ (txP p = [] ∨ endsL (txP p) = true))) : rightD (ofD l) = true := by
  rw [ofD_eq]
  rcases l.eq_nil_or_concat with rfl | ⟨m, p, rfl⟩
  · rfl
  · rw [List.concat_eq_append] at *
    rw [List.dropLast_concat] at h2
    rw [List.foldl_append]
    exact join_right (fold_Sr m [] (fun i hi => by simp at hi) h2) (h1 p (by simp))
theorem of_conflG : ∀ (l out : List Pt), conflD (l.foldl joinR out) = conflD out + conflD l
  | [], out => by simp [conflD]
  | p :: l, out => by
    have key : conflD (joinR out p) = conflD out + conflD [p] := by
      have hap : ∀ a b : List Pt, conflD (a ++ b) = conflD a + conflD b := fun a b => by simp [conflD]
      cases hp : isTextD p with
      | false => rw [join_no hp, hap]
      | true =>
        have h1 : ∀ t : BS, conflD [textP t] = 0 := fun t => rfl
        have h2 : conflD [p] = 0 := by rw [isText_eq hp]; rfl
        rcases join_cases out p hp with ⟨_, e⟩ | ⟨h0, ⟨m, q, rfl, hq, e⟩ | ⟨hl, e⟩⟩
        · rw [e, h2]; rfl
        · have h3 : conflD [q] = 0 := by rw [isText_eq hq]; rfl
          rw [e, hap, hap, h1, h2, h3]
        · rw [e, hap]
    have hap : conflD (p :: l) = conflD [p] + conflD l := by
      rw [show p :: l = [p] ++ l from rfl]
      unfold conflD
      rw [List.filter_append, List.length_append]
    rw [List.foldl_cons, of_conflG l, key, hap]
    omega
theorem of_confl (l : List Pt) : conflD (ofD l) = conflD l := by
  rw [ofD_eq, of_conflG]
  simp [conflD]
end Go.Proofs.YthpjjjnbkfnghaaGreatDoor
