/-
  Part 6 of what the proof rests on: values that are told, code that is walked, what comes out.
-/
import Derived.Test.YtjfmigpahglajaaGreatDoorMf5
import Derived.Laws.CopyRow
set_option linter.unusedSimpArgs false
set_option linter.unusedVariables false
set_option maxRecDepth 100000
set_option maxHeartbeats 2000000
namespace Go.Proofs.YtjfmigpahglajaaGreatDoor
open Go
def bldG (f : Bool) (q v : Nat) (x : AV) : Nat → AV := fun j => if j = 0 then (if f = true then .pt q v 0 else .val (.pointer none)) else x
theorem bldG1 (f : Bool) (q v : Nat) (x : AV) : bldG f q v x 1 = x := rfl
def sCheckG : MSpec := fun args hp top nx K => ∃ (f : Bool) (q v : Nat) (x : AV), args = [.pt q v 0] ∧ hp q = .box v 149 2 (bldG f q v x) ∧ K (.val (.tuple #[])) (updR hp q (.box v 149 2 (bldG true q v x))) top nx
theorem okCheckG : MethOK Tryz.prog 135 sCheckG := by
  refine ⟨enters Tryz.func135 rfl (by decide), ?_⟩
  rintro args hp top nx K ⟨f, q, v, x, rfl, hrow, hK⟩ c η w vs hs hdead hargs
  cases hargs with
  | cons hx hr => cases hr with
    | nil =>
      obtain ⟨g, cap, hη, rfl⟩ := hx
      have hr := hs.rows q
      rw [hrow] at hr
      obtain ⟨b, cur, hb, hh, hsz, hc⟩ := hr _ _ hη
      obtain rfl : g = b := by simpa using hb
      obtain ⟨x0, hx0, ho0, hr0⟩ := hc 0 (by decide)
      have hblk : (hp q).blk η = some g := by rw [hrow]; simp [Row.blk, Row.ver, hη]
      have hcell : w.cell? ⟨g, 0, none⟩ = some x0 := by rw [cell_heap hh]; exact hx0
      cases f with
      | true =>
        have hr0 : ∃ g' cap', η v = some (some g', cap') ∧ x0 = .pointer (some ⟨g', 0, none⟩) := hr0
        obtain ⟨g', cap', h1, rfl⟩ := hr0
        rw [hη] at h1
        simp only [Option.some.injEq, Prod.mk.injEq] at h1
        obtain ⟨rfl, rfl⟩ := h1
        refine (check_used g w hcell).mono ?_
        rintro e w' ⟨rfl, rfl⟩
        have e : updR hp q (.box v 149 2 (bldG true q v x)) = hp := by
          rw [← hrow]
          funext p
          unfold updR
          split
          · rename_i h; rw [h]
          · rfl
        rw [e] at hK
        exact ⟨_, _, _, _, _, η, rfl, hK, hs, hdead, rfl⟩
      | false =>
        have hr0 : x0 = .pointer none := hr0
        subst hr0
        refine (check_fresh g w hcell (by simp [World.shape?, hh, hsz]) (by simp [World.frozen?, hh])).mono ?_
        rintro e w' ⟨rfl, rfl⟩
        have hf := fr_setCell w g 0 (.pointer (some ⟨g, 0, none⟩))
        have hO : ∀ k, k < w.heap.size → k = g → Lset c η hp k := fun k _ e => .inr ⟨q, by rw [e]; exact hblk⟩
        have hwr := hs.write (row := .box v 149 2 (bldG true q v x)) hblk (by rw [hrow]; rfl) hf (by
          intro g' cap' he
          rw [hη] at he
          simp only [Option.some.injEq, Prod.mk.injEq] at he
          obtain ⟨rfl, rfl⟩ := he
          refine ⟨g, cur.setIfInBounds 0 (.pointer (some ⟨g, 0, none⟩)), rfl, by simp [World.setCell, Array.getElem?_modify, hh], by simp [hsz], fun j hj => ?_⟩
          match j, hj with
          | 0, _ => exact ⟨_, by simp [hsz], rfl, g, cap, hη, rfl⟩
          | 1, _ =>
            obtain ⟨x1, hx1, ho1, hr1⟩ := hc 1 (by decide)
            exact ⟨x1, by rw [Array.getElem?_setIfInBounds_ne (by decide)]; exact hx1, ho1, Rep.keep hf hO (fun _ _ h => h) _ _ _ _ (Env.le_refl _) hr1⟩)
        refine ⟨_, _, _, _, _, η, rfl, hK, hwr.1, fun p hp' => ?_, rfl⟩
        by_cases e : p = q
        · subst e; rw [hdead p hp'] at hrow; cases hrow
        · rw [updR_ne _ _ e]; exact hdead p hp'
section
variable {P : Program} {st : AS} {K : AS → Prop} {o : Oper}
theorem appN_wp {t t' e : TypeId} {x y : Operand} {s : List UInt8} (ho : o.op = .call ⟨.builtin .append, ⟨[x, y]⟩, ⟨[t, t']⟩⟩) (hu : P.underlying t = some (.slice e)) (hu' : P.underlying t' = some .string)
    (hxe : st.ev x = .val (.slice none 0 0)) (hye : st.ev y = .st s) (h0 : s ≠ []) (hd : dstOK st.sz o.dst) (hok : appOK P e 1 s.length)
    (hK : K ⟨updO st.fr o.dst (.ow st.top st.nx s.length), updR st.hp st.top (.sl st.nx e 1 s.length (byteC s)), st.sz, st.top + 1, st.nx + 1, st.df⟩) : OpW P o st K := by
  intro c η a w next Q hsr hnext
  have hev : ∀ x, Rep w η (Lset c η st.hp) (st.ev x) (a.eval x) := rep_ev hsr.slots
  have hxv : a.eval x = .slice none 0 0 := by
    have hx := hev x
    rw [hxe] at hx
    exact hx
  have hyv : a.eval y = .string ⟨s.toArray⟩ := by
    have hy := hev y
    rw [hye] at hy
    exact hy
  have hnl := strCells_len s
  obtain ⟨hsz, hz0, hb0, hbytes, zl, hz, hzl⟩ := hok
  obtain ⟨i, zv, hi, hiz, hzc, his, hib⟩ := info_of hz
  have hisz : i.size = 1 := by rw [his, hsz]
  have hss : (⟨s.toArray⟩ : ByteArray).size = s.length := by simp [ByteArray.size]
  have hmb : s.length * 1 ≤ s.length * P.bytesOf e := Nat.mul_le_mul_left _ hb0
  have hmx : s.length ≤ maxLen := by simp only [maxLen]; omega
  have hpos : 0 < s.length := List.length_pos_iff.2 h0
  obtain ⟨cap', hrun, hge, hle⟩ : ∃ cap', (Builtin.append_ #[t, t'] o.type #[a.eval x, a.eval y]).run P w = .ok (.slice (some ⟨w.heap.size, 0, none⟩) s.length cap')
      (w.drew.alloc (.cells ((Lib.strCells ⟨s.toArray⟩).toArray ++ Builtin.zeroCells zv.cells (cap' - s.length)) e)) ∧ s.length ≤ cap' ∧ cap' ≤ maxLen := by
    refine ⟨grownCap w s.length 0 e, ?_, grownCap_ge _ _ _ _, grownCap_le_maxLen _ _ _ _ hmx⟩
    rw [hxv, hyv]
    have hr := run_append_nil_string (P := P) w t t' o.type e i zv hu hu' hi hiz ⟨s.toArray⟩ (by rw [hss]; omega) (by rw [hss]; omega) (by rw [hss, hib]; omega)
    have e1 : ((⟨s.toArray⟩ : ByteArray).data.map fun b => Value.int .u8 b.toNat) = (Lib.strCells ⟨s.toArray⟩).toArray := by
      apply Array.ext'
      simp [Lib.strCells]
    rw [hss] at hr
    rw [← e1]
    exact hr
  generalize hw' : w.drew.alloc (.cells ((Lib.strCells ⟨s.toArray⟩).toArray ++ Builtin.zeroCells zv.cells (cap' - s.length)) e) = w' at hrun
  obtain ⟨hs', hL⟩ := hsr.hs.declare (p := st.top) (row := .sl st.nx e 1 s.length (byteC s)) rfl
  have hs'' : HS c (updR st.hp st.top (.sl st.nx e 1 s.length (byteC s))) (st.nx + 1) η w.drew := hs'.world (Fr.refl _ _).drew
  have hrow : updR st.hp st.top (.sl st.nx e 1 s.length (byteC s)) st.top = .sl st.nx e 1 s.length (byteC s) := updR_at ..
  have hlay := hs''.lay (p := st.top) (ver := st.nx) (cap := cap') (by rw [hrow]; rfl) (hsr.hs.fresh _ (Nat.le_refl _)) hsr.hs.env.2.1 (.cells ((Lib.strCells ⟨s.toArray⟩).toArray ++ Builtin.zeroCells zv.cells (cap' - s.length)) e) (by
    rw [hrow]
    intro g cap he
    rw [layAt_at] at he
    simp only [Option.some.injEq, Prod.mk.injEq] at he
    obtain ⟨rfl, rfl⟩ := he
    refine ⟨_, heap_alloc_new w.drew _, ?_, hge, hle, fun i hi j hj => ?_⟩
    · simp only [Array.size_append, List.size_toArray, size_zeroCells, hzc, hzl, hnl]
      omega
    · obtain ⟨u, hu1, hu2, hu3⟩ := strCells_at (η := layAt η st.nx (some w.drew.heap.size, cap')) (L := Lset c (layAt η st.nx (some w.drew.heap.size, cap')) (updR st.hp st.top (.sl st.nx e 1 s.length (byteC s)))) s i hi j hj
      refine ⟨u, ?_, hu2, ?_⟩
      · rw [Array.getElem?_append_left (by simp only [List.size_toArray, hnl]; omega), List.getElem?_toArray]
        exact hu1
      · exact hu3)
  rw [hw'] at hlay
  have hexec : (execOp a.eval o).run P w = .ok (.value (.slice (some ⟨w.heap.size, 0, none⟩) s.length cap')) w' := by
    unfold execOp
    rw [ho]
    simp [resolve, invoke, builtin, hrun]
  unfold Oper.wp
  rw [hexec]
  have hrep : Rep w' (layAt η st.nx (some w.drew.heap.size, cap')) (Lset c (layAt η st.nx (some w.drew.heap.size, cap')) (updR st.hp st.top (.sl st.nx e 1 s.length (byteC s)))) (.ow st.top st.nx s.length) (.slice (some ⟨w.heap.size, 0, none⟩) s.length cap') :=
    ⟨some w.drew.heap.size, cap', layAt_at _ _ _, rfl, hge⟩
  refine hnext _ _ _ _ (hsr.put hd hlay.1 (fun p hp => ?_) (fun x u hx => hlay.2.rep (Rep.keep (Fr.refl (fun _ => False) w).drew (fun _ _ h => h.elim) (fun b _ hb => hL b hb) _ _ _ _ (Env.le_refl _) hx)) hrep) hK
  rw [updR_ne _ _ (by omega)]
  exact hsr.dead p (by omega)
theorem appN0_wp {t t' e : TypeId} {x y : Operand} (ho : o.op = .call ⟨.builtin .append, ⟨[x, y]⟩, ⟨[t, t']⟩⟩) (hu : P.underlying t = some (.slice e)) (hu' : P.underlying t' = some .string) {k : Nat} (hk : P.cellsOf e = k) (h0 : 0 < k)
    (hxe : st.ev x = .val (.slice none 0 0)) (hye : st.ev y = .st []) (hd : dstOK st.sz o.dst)
    (hK : K ⟨updO st.fr o.dst (.val (.slice none 0 0)), st.hp, st.sz, st.top, st.nx, st.df⟩) : OpW P o st K := by
  refine pure_wp hd (fun c η a w hsr => ?_) hK
  have hev : ∀ x, Rep w η (Lset c η st.hp) (st.ev x) (a.eval x) := rep_ev hsr.slots
  have hxv : a.eval x = .slice none 0 0 := by
    have hx := hev x
    rw [hxe] at hx
    exact hx
  have hyv : a.eval y = .string ⟨#[]⟩ := by
    have hy := hev y
    rw [hye] at hy
    exact hy
  refine ⟨.slice none 0 0, ?_, rfl⟩
  have hr := run_append_empty (P := P) (w := w) (ty := o.type) hu hu' hk h0 (a := none) (n := 0) (cap := 0) (Nat.le_refl _)
  unfold execOp
  rw [ho]
  simp [resolve, invoke, builtin, hxv, hyv, hr]
end
end Go.Proofs.YtjfmigpahglajaaGreatDoor
set_option linter.unusedSimpArgs false
set_option linter.unusedVariables false
set_option maxRecDepth 100000
set_option maxHeartbeats 2000000
namespace Go.Proofs.YtjfmigpahglajaaGreatDoor
open Go
attribute [local irreducible] AW AVle ASle RowLe
def bldX (f : Bool) (p v q u : Nat) (l : List UInt8) : Nat → AV := bldG f p v (if l = [] then .val (.slice none 0 0) else .ow q u l.length)
def rowX (u : Nat) (l : List UInt8) : Row := if l = [] then .dead else rowB u l
theorem bldX_nil (f : Bool) (p v q u : Nat) : bldX f p v q u [] = bldG f p v (.val (.slice none 0 0)) := rfl
theorem bldX_ne {f : Bool} {p v q u : Nat} {l : List UInt8} (h : ¬ l = []) : bldX f p v q u l = bldG f p v (.ow q u l.length) := by
  unfold bldX
  rw [if_neg h]
theorem rowX_nil (u : Nat) : rowX u [] = .dead := rfl
theorem rowX_ne {u : Nat} {l : List UInt8} (h : ¬ l = []) : rowX u l = rowB u l := if_neg h
theorem bldG_le {f : Bool} {p v p' : Nat} {x y : AV} (h : AVle x y) : RowLe (.box v 149 2 (bldG f p v x)) (.box v 149 2 (bldG f p' v y)) := RowLe.box fun j hj => by
  match j, hj with
  | 0, _ =>
    cases f with
    | true => exact AVle.pt
    | false => exact AVle.refl _
  | 1, _ => exact h
theorem bldX_le (f : Bool) (p q p' q' v u : Nat) (l : List UInt8) : RowLe (.box v 149 2 (bldX f p v q u l)) (.box v 149 2 (bldX f p' v q' u l)) := bldG_le (by
  split
  · exact AVle.refl _
  · exact AVle.ow)
theorem cellsAV_nil : cellsAV (.val (.slice none 0 0)) = some (1, fun _ => .val (.slice none 0 0)) := rfl
def sWriteX0 : MSpec := fun args hp top nx K => ∃ (f : Bool) (v u : Nat) (l s : List UInt8), args = [.pt 0 v 0, .st s] ∧ hp = rws [(0, .box v 149 2 (bldX f 0 v 1 u l)), (1, rowX u l)] ∧ top = 2 ∧ l.length + s.length ≤ 100000000000 ∧
  ∀ u' nx', ((l ≠ [] ∧ u' = u) ∨ nx ≤ u') → nx ≤ nx' → K (tu2 (.val (.int .i64 s.length)) (.val .nilIface)) (rws [(0, .box v 149 2 (bldX true 0 v 1 u' (l ++ s))), (1, rowX u' (l ++ s))]) 2 nx'
theorem okWriteX0 : MethOK Tryz.prog 92 sWriteX0 := by
  refine MethOK.mk Tryz.func92 rfl (by decide) Tryz.results92 Tryz.ntmps92 ?_
  rintro args hp top nx K ⟨f, v, u, l, s, rfl, rfl, rfl, hl, hK⟩
  have hΓ : GOK Tryz.prog (gam [(135, sCheckG)]) := (.cons okCheckG .nil)
  refine ⟨Nat.le_of_ble_eq_true rfl, AW.late ?_⟩
  refine AW.of hΓ mixed [1] _ _ _ rfl ?_
  simp only [go_sem, sCheckG]
  refine ⟨f, 0, v, _, rfl, rfl, ?_⟩
  by_cases hl0 : l = []
  · subst hl0
    refine AW.cut ⟨[(0, .pt 0 v 0), (1, .st s)], [(0, .box v 149 2 (bldG true 0 v (.val (.slice none 0 0))))], 19, 2, nx, []⟩ ?_ ?_
    · simp only [go_sem, sCheckG]
      exact RowLe.refl _
    refine AW.fork (AW.regionO hΓ [false, false, false, false, false, false, true] ?_)
    simp only [go_sem, sCheckG, bldG1]
    by_cases hs0 : s = []
    · subst hs0
      refine appN0_wp rfl Tryz.underlying147 Tryz.underlying9 cells5 (by decide) rfl rfl (Nat.lt_of_lt_of_le (by decide : 14 < 19) (Nat.le_refl _)) ?_
      simp only [go_sem, sCheckG, bldG1, cellsAV_nil]
      refine AW.of hΓ mixed [] _ _ _ rfl ?_
      simp only [go_sem, sCheckG]
      refine ⟨_, toFitsV (fun p => p) (l := [(4, .val (.int .i64 0)), (5, .val .nilIface)]) (r := [(0, .box v 149 2 (bldX true 0 v 1 nx [])), (1, rowX nx [])]) (sz := 19) (top := 2) (nx := nx + 1) (df := []) ?_, ?_⟩
      · simp only [go_sem, sCheckG]
        refine ⟨Nat.le_succ _, AVle.refl _, RowLe.box fun j hj => ?_, RowLe.refl _⟩
        match j, hj with
        | 0, _ => exact AVle.refl _
        | 1, _ => exact AVle.refl _
      · exact ⟨rfl, ⟨trivial, trivial⟩, hK nx (nx + 1) (.inr (Nat.le_refl _)) (by omega)⟩
    · refine appN_wp rfl Tryz.underlying147 Tryz.underlying9 rfl rfl hs0 (Nat.lt_of_lt_of_le (by decide : 14 < 19) (Nat.le_refl _)) ⟨cells5, by decide, by rw [bytes5]; decide, by rw [bytes5]; omega, _, zero5, rfl⟩ ?_
      simp only [go_sem, sCheckG, bldG1]
      refine AW.of hΓ mixed [] _ _ _ rfl ?_
      simp only [go_sem, sCheckG]
      refine ⟨_, toFitsV (fun p => if p = 1 then 2 else p) (l := [(4, .val (.int .i64 s.length)), (5, .val .nilIface)]) (r := [(0, .box v 149 2 (bldX true 0 v 1 nx s)), (1, rowX nx s)]) (sz := 19) (top := 2) (nx := nx + 1) (df := []) ?_, ?_⟩
      · rw [bldX_ne hs0, rowX_ne hs0]
        simp only [go_sem, sCheckG]
        refine ⟨AVle.refl _, RowLe.box fun j hj => ?_, RowLe.refl _⟩
        match j, hj with
        | 0, _ => exact AVle.refl _
        | 1, _ => exact AVle.ow
      · exact ⟨rfl, ⟨trivial, trivial⟩, hK nx (nx + 1) (.inr (Nat.le_refl _)) (by omega)⟩
  · have hls : ¬ l ++ s = [] := fun h => hl0 (List.append_eq_nil_iff.1 h).1
    refine AW.cut ⟨[(0, .pt 0 v 0), (1, .st s)], [(0, .box v 149 2 (bldG true 0 v (.ow 1 u l.length))), (1, rowB u l)], 19, 2, nx, []⟩ ?_ ?_
    · rw [rowX_ne hl0]
      simp only [go_sem, sCheckG, hl0]
      exact ⟨RowLe.refl _, RowLe.refl _⟩
    refine AW.fork (AW.regionO hΓ [false, false, false, false, false, false, true] ?_)
    simp only [go_sem, sCheckG, bldG1]
    refine appS_wp rfl Tryz.underlying147 Tryz.underlying9 rfl rfl rfl (Nat.lt_of_lt_of_le (by decide : 14 < 19) (Nat.le_refl _)) ⟨cells5, by decide, by rw [bytes5]; decide, by rw [bytes5]; omega, _, zero5, rfl⟩ ?_
    simp only [go_sem, sCheckG, bldG1]
    refine AW.of hΓ mixed [] _ _ _ rfl ?_
    simp only [go_sem, sCheckG]
    refine ⟨_, toFitsV (fun p => p) (l := [(4, .val (.int .i64 s.length)), (5, .val .nilIface)]) (r := [(0, .box v 149 2 (bldX true 0 v 1 nx (l ++ s))), (1, rowX nx (l ++ s))]) (sz := 19) (top := 2) (nx := nx + 1) (df := []) ?_, ?_⟩
    · rw [bldX_ne hls, rowX_ne hls]
      simp only [go_sem, sCheckG]
      refine ⟨AVle.refl _, RowLe.box fun j hj => ?_, rowB_app rfl rfl⟩
      match j, hj with
      | 0, _ => exact AVle.refl _
      | 1, _ => exact AVle.refl _
    · exact ⟨rfl, ⟨trivial, trivial⟩, hK nx (nx + 1) (.inr (Nat.le_refl _)) (by omega)⟩
def sWriteX : MSpec := framed sWriteX0
theorem okWriteX : MethOK Tryz.prog 92 sWriteX := okWriteX0.frame
theorem writeX_go {f : Bool} {p q v u : Nat} {l s : List UInt8} {hp : Nat → Row} {top nx : Nat} {K : AV → (Nat → Row) → Nat → Nat → Prop} (hpq : p ≠ q)
    (hr : RowLe (hp p) (.box v 149 2 (bldX f p v q u l))) (hr2 : RowLe (hp q) (rowX u l)) (ht : p < top ∧ q < top) (hl : l.length + s.length ≤ 100000000000)
    (hK : ∀ u' nx', ((l ≠ [] ∧ u' = u) ∨ nx ≤ u') → nx ≤ nx' → K (tu2 (.val (.int .i64 s.length)) (.val .nilIface)) (updR (updR hp p (.box v 149 2 (bldX true p v q u' (l ++ s)))) q (rowX u' (l ++ s))) top nx') :
    sWriteX [.pt p v 0, .st s] hp top nx K := by
  have e1 : (hp p).ver = some v := hr.vers.symm
  have e2 : (hp q).ver = (rowX u l).ver := hr2.vers.symm
  refine ⟨[p, q], [.pt 0 v 0, .st s], rws [(0, .box v 149 2 (bldX f 0 v 1 u l)), (1, rowX u l)], by simp [hpq], by simp; omega, .cons AVle.pt (.cons (AVle.refl _) .nil), rows_2 (hr.trans (bldX_le f p q 0 1 v u l)) hr2, fun i hi => rws_top (top := 2) (by simp) i (by simpa using hi), f, v, u, l, s, rfl, rfl, rfl, hl, fun u' nx' h1 h3 => ?_⟩
  refine ⟨_, _, AVle.refl _, fun i o ho => ?_, fun o ho => ?_, fun o ho w hv => ?_, hK u' nx' h1 h3⟩
  · match i with
    | 0 =>
      simp only [List.getElem?_cons_zero, Option.some.injEq] at ho
      subst ho
      rw [updR_ne _ _ hpq, updR_at]
      exact bldX_le true 0 1 p q v u' _
    | 1 =>
      simp only [List.getElem?_cons_succ, List.getElem?_cons_zero, Option.some.injEq] at ho
      subst ho
      rw [updR_at]
      exact RowLe.refl _
    | i + 2 => simp at ho
  · simp only [List.mem_cons, List.not_mem_nil, or_false, not_or] at ho
    rw [updR_ne _ _ ho.2, updR_ne _ _ ho.1]
  · simp only [List.mem_cons, List.not_mem_nil, or_false] at ho
    rcases ho with rfl | rfl
    · rw [updR_ne _ _ hpq, updR_at] at hv
      have : some v = some w := hv
      obtain rfl := Option.some.inj this
      exact .inl e1
    · rw [updR_at] at hv
      by_cases h0 : l ++ s = []
      · rw [h0, rowX_nil] at hv
        cases hv
      · rw [rowX_ne h0] at hv
        have : some u' = some w := hv
        obtain rfl := Option.some.inj this
        rcases h1 with ⟨h1, rfl⟩ | h1
        · rw [e2, rowX_ne h1]
          exact .inl rfl
        · exact .inr h1
def sStrX : MSpec := fun args hp top nx K => ∃ (f : Bool) (p v q u : Nat) (l : List UInt8), args = [.pt p v 0] ∧ hp p = .box v 149 2 (bldX f p v q u l) ∧ hp q = rowX u l ∧ l.length ≤ 100000000000 ∧ K (.st l) (updR hp q .dead) top nx
theorem okStrX : MethOK Tryz.prog 93 sStrX := by
  refine ⟨enters Tryz.func93 rfl (by decide), ?_⟩
  rintro args hp top nx K ⟨f, p, v, q, u, l, rfl, hrow, hrow2, hlen, hK⟩ c η w vs hs hdead hargs
  by_cases h0 : l = []
  · subst h0
    rw [bldX_nil] at hrow
    rw [rowX_nil] at hrow2
    have e : updR hp q .dead = hp := by
      funext k
      unfold updR
      split
      · rename_i h; rw [h, hrow2]
      · rfl
    rw [e] at hK
    cases hargs with
    | cons hx hr => cases hr with
      | nil =>
        obtain ⟨b, cap, hη, rfl⟩ := hx
        have hr := hs.rows p
        rw [hrow] at hr
        obtain ⟨b', cur, hb, hh, hsz, hc⟩ := hr _ _ hη
        obtain rfl : b = b' := by simpa using hb
        obtain ⟨x0, hx0, _, _⟩ := hc 0 (by decide)
        obtain ⟨x1, hx1, _, hr1⟩ := hc 1 (by decide)
        have hr1 : x1 = .slice none 0 0 := hr1
        subst hr1
        have hcur : cur = #[x0, .slice none 0 0] := by
          apply Array.ext
          · simp [hsz]
          · intro i h1 h2
            match i, h2 with
            | 0, _ => rw [Array.getElem?_eq_getElem h1] at hx0; exact Option.some.inj hx0
            | 1, _ => rw [Array.getElem?_eq_getElem h1] at hx1; exact Option.some.inj hx1
        refine (str_none b x0 w (by rw [hh, hcur])).mono ?_
        rintro e w' ⟨rfl, hf⟩
        exact ⟨_, _, _, _, _, η, rfl, hK, hs.world hf, hdead, rfl⟩
  · rw [bldX_ne h0] at hrow
    rw [rowX_ne h0] at hrow2
    exact (okStr.2 [.pt p v 0] hp top nx K (.inl ⟨f, p, v, q, u, l, rfl, hrow, hrow2, h0, hlen, hK⟩) c η w vs hs hdead hargs)
end Go.Proofs.YtjfmigpahglajaaGreatDoor
set_option linter.unusedSimpArgs false
set_option linter.unusedVariables false
set_option maxRecDepth 100000
set_option maxHeartbeats 2000000
namespace Go.Proofs.YtjfmigpahglajaaGreatDoor
open Go
attribute [local irreducible] AW AVle ASle RowLe
def widP (p : Pt) : Nat := p.2.2.2.2.1.length + (p.2.2.2.2.2.1.length + p.2.2.2.2.2.2.1.length + p.2.2.2.2.2.2.2.1.length)
def widD (d : List Pt) : Nat := (d.map widP).sum
theorem wid_drop {d : List Pt} {i : Nat} (h : i < d.length) : widD (d.drop i) = widP (d.getD i ePt.dflt) + widD (d.drop (i + 1)) := by
  rw [List.drop_eq_getElem_cons h, gd_lt d ePt.dflt h]
  unfold widD
  rw [List.map_cons, List.sum_cons]
theorem confl_drop {d : List Pt} {i : Nat} (h : i < d.length) : conflD (d.drop i) = (if hkP (d.getD i ePt.dflt) = true then 1 else 0) + conflD (d.drop (i + 1)) := by
  rw [List.drop_eq_getElem_cons h, gd_lt d ePt.dflt h, confl_cons]
theorem text_drop {d : List Pt} {i : Nat} (h : i < d.length) (ss : List Int) (acc : BS) : textV (d.drop i) ss acc = if hkP (d.getD i ePt.dflt) = true then (if (ofS (d.getD i ePt.dflt) (ss.getD 0 0)).2 ≠ 0 then ([], (ofS (d.getD i ePt.dflt) (ss.getD 0 0)).2) else textV (d.drop (i + 1)) ss.tail (acc ++ (ofS (d.getD i ePt.dflt) (ss.getD 0 0)).1)) else textV (d.drop (i + 1)) ss (acc ++ (d.getD i ePt.dflt).2.2.2.2.1) := by
  rw [List.drop_eq_getElem_cons h, gd_lt d ePt.dflt h, textV]
theorem vw_tail (rs : List Int) : AVle (.sn (rs.length - 1) 1 fun i => eI.enc (rs.getD (1 + i) 0)) (sL eI rs.tail) := by
  have e : (fun i => eI.enc (rs.getD (1 + i) 0)) = fun i => eI.enc (rs.tail.getD i 0) := by
    funext i
    simp [List.getD, Nat.add_comm]
  rw [e]
  exact vw_all (E := eI) rfl rfl (by simp)
def sTextR : Spec := Spec.f2 (kL ePt) (kL eI) (fun d ss => d.length < 100000000 ∧ conflD d ≤ ss.length ∧ ss.length < 1000000000 ∧ widD d ≤ 90000000000) (fun d ss => tu2 (kS.enc (textV d ss []).1) (kI.enc (textV d ss []).2))
theorem okTextR : SpecOK Tryz.prog 70 sTextR := by
  refine SpecOK.f2 Tryz.func70 rfl (by decide) Tryz.results70 Tryz.ntmps70 (by decide) fun d ss ⟨hl, hc, hss, hw⟩ => ?_
  have hΓ : GOK Tryz.prog (gam [(123, sOfS), (92, sWriteX), (93, sStrX)]) := (.cons okOfS (.cons okWriteX (.cons okStrX .nil)))
  refine AW.of hΓ mixed [0] _ _ _ rfl ?_
  simp only [go_sem, sOfS, sWriteX, sStrX]
  refine AW.fork (AW.regionO hΓ [true] ?_)
  simp only [go_sem, sOfS, sWriteX, sStrX]
  refine alloc_wp rfl zero149 (Nat.lt_of_lt_of_le (by decide : 6 < 38) (Nat.le_refl _)) ?_
  simp only [go_sem, sOfS, sWriteX, sStrX]
  refine AW.cut ⟨[(0, sL ePt d), (1, sL eI ss), (6, .pt 0 0 0)], [(0, .box 0 149 2 (bldX false 0 0 1 0 [])), (1, rowX 0 [])], 38, 2, 1, []⟩ ?_ ?_
  · simp only [go_sem, sOfS, sWriteX, sStrX]
    refine ⟨RowLe.box fun j hj => ?_, RowLe.refl _⟩
    match j, hj with
    | 0, _ => exact AVle.refl _
    | 1, _ => exact AVle.refl _
  refine AW.of hΓ mixed [] _ _ _ rfl ?_
  simp only [go_sem, sOfS, sWriteX, sStrX]
  refine AW.round (α := { x : Nat × List Int × BS × Bool × Nat × Nat // x.1 ≤ d.length ∧ textV d ss [] = textV (d.drop x.1) x.2.1 x.2.2.1 ∧ x.2.2.1.length + widD (d.drop x.1) ≤ widD d ∧ conflD (d.drop x.1) ≤ x.2.1.length ∧ x.2.1.length ≤ ss.length })
    (fun x => ⟨[(1, sL eI x.1.2.1), (6, .pt 0 0 0), (11, sL ePt d), (12, .val (.int .i64 d.length)), (13, .val (.int .i64 x.1.1))],
      [(0, .box 0 149 2 (bldX x.1.2.2.2.1 0 0 1 x.1.2.2.2.2.1 x.1.2.2.1)), (1, rowX x.1.2.2.2.2.1 x.1.2.2.1)], 38, 2, x.1.2.2.2.2.2, []⟩) (fun x => d.length - x.1.1) ⟨(0, ss, [], false, 0, 1), Nat.zero_le _, rfl, by simp, hc, Nat.le_refl _⟩ ?_ ?_
  · simp only [go_sem, sOfS, sWriteX, sStrX]
    exact ⟨RowLe.refl _, RowLe.refl _⟩
  · rintro ⟨⟨i, rs, acc, f, u, nx⟩, hi, he, ha, hc1, hc2⟩
    simp only at hi he ha hc1 hc2
    refine AW.of hΓ mixed [4, 99999] _ _ _ rfl ?_
    simp only [go_sem, sOfS, sWriteX, sStrX]
    refine ⟨fun hlt => ⟨by omega, ?_⟩, fun hge => ?_⟩
    · have hlt' : i < d.length := by omega
      rw [text_drop hlt'] at he
      rw [wid_drop hlt'] at ha
      rw [confl_drop hlt'] at hc1
      generalize hpe : d.getD i ePt.dflt = p at *
      refine AW.cut ⟨[(1, sL eI rs), (6, .pt 0 0 0), (8, .pt 2 nx 0), (11, sL ePt d), (12, .val (.int .i64 d.length)), (13, .val (.int .i64 i))],
        [(0, .box 0 149 2 (bldX f 0 0 1 u acc)), (1, rowX u acc), (2, .box nx 112 9 (ePt.enc p))], 38, 3, nx + 1, []⟩ ?_ ?_
      · simp only [go_sem, sOfS, sWriteX, sStrX]
        exact ⟨RowLe.refl _, RowLe.refl _, RowLe.box fun j hj => AVle.of_eq (stC_in (Nat.zero_le _) (by omega))⟩
      refine AW.still 8 2 nx 112 9 _ rfl rfl (fun j hj => match j, hj with | 0, _ => rfl | 1, _ => rfl | 2, _ => rfl | 3, _ => rfl | 4, _ => rfl | 5, _ => rfl | 6, _ => rfl | 7, _ => rfl | 8, _ => rfl) ?_
      have hwp := ofS_len p (rs.getD 0 0)
      unfold widP at ha
      obtain ⟨ll, bl, rl, h, tx, l, b, r, hb⟩ := p
      dsimp only at ha hwp
      cases h with
      | true =>
        rw [if_pos rfl] at he hc1
        generalize ho : ofS (ll, bl, rl, true, tx, l, b, r, hb) (rs.getD 0 0) = o at *
        obtain ⟨t, e⟩ := o
        dsimp only at he hwp
        by_cases hz : e = 0
        · subst hz
          rw [if_neg (by simp)] at he
          refine AW.of hΓ mixed [99999] _ _ _ rfl ?_
          simp only [go_sem, sOfS, sWriteX, sStrX, ho]
          refine ⟨by omega, ⟨by omega, by omega⟩, ?_⟩
          refine writeX_go (by decide) (RowLe.refl _) (RowLe.refl _) (by decide) (by omega) fun u1 n1 g1 h1 => ?_
          simp only [go_sem, sOfS, sWriteX, sStrX]
          exact ⟨by omega, ⟨(i + 1, rs.tail, acc ++ t, true, u1, n1), by dsimp only; omega, he, by dsimp only; rw [List.length_append]; omega, by dsimp only; rw [List.length_tail]; omega, by dsimp only; rw [List.length_tail]; omega⟩, ⟨Nat.le_refl _, ⟨vw_tail rs, by dsimp only; omega⟩, RowLe.refl _, RowLe.refl _⟩, by dsimp only; omega⟩
        · rw [if_pos hz] at he
          refine AW.of hΓ mixed [99999] _ _ _ rfl ?_
          simp only [go_sem, sOfS, sWriteX, sStrX, ho, hz]
          rw [he]
          exact ⟨by omega, rfl, rfl⟩
      | false =>
        rw [if_neg (by simp [hkP])] at he hc1
        refine AW.of hΓ mixed [99999] _ _ _ rfl ?_
        simp only [go_sem, sOfS, sWriteX, sStrX]
        refine writeX_go (by decide) (RowLe.refl _) (RowLe.refl _) (by decide) (by omega) fun u1 n1 g1 h1 => ?_
        simp only [go_sem, sOfS, sWriteX, sStrX]
        exact ⟨by omega, ⟨(i + 1, rs, acc ++ tx, true, u1, n1), by dsimp only; omega, he, by dsimp only; rw [List.length_append]; omega, by dsimp only; omega, hc2⟩, ⟨Nat.le_refl _, ⟨AVle.refl _, by dsimp only; omega⟩, RowLe.refl _, RowLe.refl _⟩, by dsimp only; omega⟩
    · obtain rfl : i = d.length := by omega
      rw [List.drop_length] at he ha
      rw [he]
      exact ⟨f, 0, 0, 1, u, acc, rfl, rfl, rfl, by omega, rfl, rfl⟩
end Go.Proofs.YtjfmigpahglajaaGreatDoor
set_option linter.unusedSimpArgs false
set_option linter.unusedVariables false
set_option maxRecDepth 100000
namespace Go.Proofs.YtjfmigpahglajaaGreatDoor
open Go
def obS (v k n : Nat) : AV := .ob fun η u => ∃ g cap, η v = some (some g, cap) ∧ u = .slice (some ⟨g, k, none⟩) (n - k) (cap - k)
def cpC (cc : Nat → Nat → AV) (k m : Nat) (dd : Nat → Nat → AV) : Nat → Nat → AV := fun i j => if k ≤ i ∧ i < k + m then dd (i - k) j else cc i j
section
variable {P : Program} {st : AS} {o : Oper} {K : AS → Prop}
theorem slice_ob {t e : TypeId} {x y : Operand} {p v n : Nat} {k : Int} (ho : o.op = .slice t x (some y) none none) (ht : P.underlying t = some (.slice e)) (hs : P.cellsOf e = 1) (hx : st.ev x = .ow p v n) (hy : st.ev y = .val (.int .i64 k)) (h0 : 0 ≤ k) (hn : k < n) (hd : dstOK st.sz o.dst)
    (hK : K ⟨updO st.fr o.dst (obS v k.toNat n), st.hp, st.sz, st.top, st.nx, st.df⟩) : OpM P o st K := by
  intro fr' hl
  have ex := hl x (by rw [ho]; simp [Op.operands])
  have ey := hl y (by rw [ho]; simp [Op.operands])
  refine pure_wp (z := obS v k.toNat n) hd (fun c η a w hsr => ?_) ⟨_, rfl, rfl, hK⟩
  have hev : ∀ x, Rep w η (Lset c η st.hp) (evAV fr' x) (a.eval x) := rep_ev hsr.slots
  have hxv := hev x
  have hyv := hev y
  rw [ex, show evAV st.fr x = _ from hx] at hxv
  rw [ey, show evAV st.fr y = _ from hy] at hyv
  obtain ⟨g, cap, hη, hv⟩ := hxv
  have hyv : a.eval y = .int .i64 k := hyv
  cases g with
  | none => obtain ⟨hv, _⟩ := hv; omega
  | some g =>
    obtain ⟨hv, hcap⟩ := hv
    refine ⟨.slice (some ⟨g, k.toNat, none⟩) (n - k.toNat) (cap - k.toNat), ?_, η, fun _ _ h => h, g, cap, hη, rfl⟩
    have hb := run_bounds (P := P) (w := w) (η := η) (L := fun _ => False) (isS := true) (len := n) (cap := cap) (lo := some (.val (.int .i64 k))) (hi := none) (vlo := some (.int .i64 k)) (vhi := none) (a := k) (b := n) rfl rfl h0 (by omega) (by omega) (.some rfl) .none
    unfold execOp
    rw [ho]
    simp [Instr.sliceAt, run_underlying ht, Instr.slice, hb, run_sizeOf' (P := P) (w := w) hs Nat.one_pos, hv, hyv]
    rw [if_neg (by omega)]
    simp [add_off]
theorem copy_wp {t t' e : TypeId} {x y : Operand} {p v n k m : Nat} {cc dd : Nat → Nat → AV} (ho : o.op = .call ⟨.builtin .copy, ⟨[x, y]⟩, ⟨[t, t']⟩⟩) (ht : P.underlying t = some (.slice e)) (hs : (P.info? e).map (·.size) = some 1) (hrow : st.hp p = .sl v e 1 n cc) (hd : dstOK st.sz o.dst)
    (h : ∀ (c : Ctx) (η : Env) (a : Act) (w : World), SR c st η a w → ∃ g cap dl dc, η v = some (some g, cap) ∧ a.eval x = .slice (some ⟨g, k, none⟩) dl dc ∧ k + dl ≤ n ∧ ∃ ad sl sc, a.eval y = .slice (some ad) sl sc ∧ m = Nat.min sl dl ∧
      ∀ i, i < m → ∃ u, w.cell? (ad.add i) = some u ∧ u.oneCell' = true ∧ Rep w η (Lset c η st.hp) (dd i 0) u)
    (hK : K ⟨updO st.fr o.dst (.val (.int .i64 m)), updR st.hp p (.sl v e 1 n (cpC cc k m dd)), st.sz, st.top, st.nx, st.df⟩) : OpW P o st K := by
  intro c η a w next Q hsr hnext
  obtain ⟨g, cap, dl, dc, hη, hxv, hkd, ad, sl, sc, hyv, hm, hcell⟩ := h c η a w hsr
  have hr := hsr.hs.rows p
  rw [hrow] at hr
  obtain ⟨cur, hh, hsz, hnc, hcm, hc⟩ := hr _ _ hη
  have hmd : m ≤ dl := by rw [hm]; exact Nat.min_le_right _ _
  obtain ⟨cs, hcl, hcs⟩ : ∃ cs : List Value, cs.length = m ∧ ∀ i, i < m → w.cell? (ad.add i) = cs[i]? ∧ ∃ u, cs[i]? = some u ∧ u.oneCell' = true ∧ Rep w η (Lset c η st.hp) (dd i 0) u := by
    refine ⟨(List.range m).map fun i => (w.cell? (ad.add i)).getD undef, by simp, fun i hi => ?_⟩
    obtain ⟨u, hu, h1, h2⟩ := hcell i hi
    have : ((List.range m).map fun i => (w.cell? (ad.add i)).getD undef)[i]? = some u := by simp [hi, hu]
    rw [this, hu]
    exact ⟨rfl, u, rfl, h1, h2⟩
  have hblk : (st.hp p).blk η = some g := by rw [hrow]; simp [Row.blk, Row.ver, hη]
  have hf := fr_setRow w g (cur.toList.take k ++ cs ++ cur.toList.drop (k + cs.length)).toArray
  have hO : ∀ k, k < w.heap.size → k = g → Lset c η st.hp k := fun k _ e => .inr ⟨p, by rw [e]; exact hblk⟩
  have hcur : cur.size = cap := by rw [hsz, Nat.mul_one]
  have hrun := run_copy_row P w t t' o.type e g k dl dc ad sl sc cur e cs ht hs hh (by rw [hcl, hm]) (fun j u hj => by
      have hj' : j < m := by rw [← hcl]; exact (List.getElem?_eq_some_iff.1 hj).1
      rw [(hcs j hj').1, hj]) (by rw [hcl]; omega) (fun u hu => by
      obtain ⟨j, hj, rfl⟩ := List.getElem_of_mem hu
      obtain ⟨_, u, h1, h2, _⟩ := hcs j (by omega)
      rw [List.getElem?_eq_getElem hj] at h1
      rw [Option.some.inj h1]
      exact h2)
  rw [hcl] at hrun
  have hwr := hsr.hs.write (row := .sl v e 1 n (cpC cc k m dd)) hblk (by rw [hrow]; rfl) hf (by
    intro g' cap' he
    rw [hη] at he
    simp only [Option.some.injEq, Prod.mk.injEq] at he
    obtain ⟨rfl, rfl⟩ := he
    refine ⟨_, setRow_heap w g cur _ e (0, 0) hh, by simp [hcl]; omega, hnc, hcm, fun i hi j hj => ?_⟩
    obtain rfl : j = 0 := by omega
    rw [splice_at cur cs k _ (by omega)]
    unfold cpC
    by_cases hki : k ≤ i ∧ i < k + m
    · rw [if_pos (by omega), if_pos hki]
      obtain ⟨_, u, h1, h2, h3⟩ := hcs (i - k) (by omega)
      exact ⟨u, by rw [show i * 1 + 0 - k = i - k by omega]; exact h1, h2, Rep.keep hf hO (fun _ _ h => h) _ _ _ _ (Env.le_refl _) h3⟩
    · rw [if_neg (by omega), if_neg hki]
      obtain ⟨u, hu, h1, hrep⟩ := hc i hi 0 hj
      exact ⟨u, hu, h1, Rep.keep hf hO (fun _ _ h => h) _ _ _ _ (Env.le_refl _) hrep⟩)
  unfold Oper.wp
  have : (execOp a.eval o).run P w = .ok (.value (.int .i64 m)) (w.setRow g (cur.toList.take k ++ cs ++ cur.toList.drop (k + cs.length)).toArray) := by
    unfold execOp
    rw [ho]
    simp only [resolve, invoke, builtin, hxv, hyv, List.map_cons, List.map_nil]
    simp [hxv, hyv, hrun, goInt, hcl]
  rw [this]
  refine hnext _ η _ _ (hsr.put (z := .val (.int .i64 m)) hd hwr.1 (fun q hq => ?_) hwr.2 rfl) hK
  by_cases e : q = p
  · subst e; rw [hsr.dead q hq] at hrow; cases hrow
  · rw [updR_ne _ _ e]; exact hsr.dead q hq
theorem copy_ob {t t' e : TypeId} {x y : Operand} {p q v n k l : Nat} {cc : Nat → Nat → AV} (ho : o.op = .call ⟨.builtin .copy, ⟨[x, y]⟩, ⟨[t, t']⟩⟩) (ht : P.underlying t = some (.slice e)) (hs : (P.info? e).map (·.size) = some 1) (hx : st.ev x = obS v k n) (hy : st.ev y = .ow q v l) (hl : l ≤ n) (hk : k ≤ n)
    (hrow : st.hp p = .sl v e 1 n cc) (hd : dstOK st.sz o.dst)
    (hK : K ⟨updO st.fr o.dst (.val (.int .i64 (Nat.min l (n - k) : Nat))), updR st.hp p (.sl v e 1 n (cpC cc k (Nat.min l (n - k)) cc)), st.sz, st.top, st.nx, st.df⟩) : OpM P o st K := by
  intro fr' hlk
  have ex := hlk x (by rw [ho]; simp [Op.operands, Call.operands])
  have ey := hlk y (by rw [ho]; simp [Op.operands, Call.operands])
  refine copy_wp (st := ⟨fr', st.hp, st.sz, st.top, st.nx, st.df⟩) ho ht hs hrow hd (k := k) (m := Nat.min l (n - k)) (dd := cc) (fun c η a w hsr => ?_) ⟨_, rfl, rfl, hK⟩
  have hev : ∀ x, Rep w η (Lset c η st.hp) (evAV fr' x) (a.eval x) := rep_ev hsr.slots
  have hxv := hev x
  have hyv := hev y
  rw [ex, show evAV st.fr x = _ from hx] at hxv
  rw [ey, show evAV st.fr y = _ from hy] at hyv
  obtain ⟨η0, hle, g, cap, hη, hxv⟩ := hxv
  have hη := hle _ _ hη
  obtain ⟨g', cap', hη', hyv⟩ := hyv
  rw [hη] at hη'
  simp only [Option.some.injEq, Prod.mk.injEq] at hη'
  obtain ⟨rfl, rfl⟩ := hη'
  obtain ⟨hyv, hlc⟩ := hyv
  have hr := hsr.hs.rows p
  rw [show (⟨fr', st.hp, st.sz, st.top, st.nx, st.df⟩ : AS).hp p = _ from hrow] at hr
  obtain ⟨cur, hh, hsz, hnc, hcm, hc⟩ := hr _ _ hη
  have hmin : Nat.min l (n - k) ≤ n := Nat.le_trans (Nat.min_le_left _ _) hl
  refine ⟨g, cap, n - k, cap - k, hη, hxv, by omega, ⟨g, 0, none⟩, l, cap, hyv, rfl, fun i hi => ?_⟩
  obtain ⟨u, hu, h1, h2⟩ := hc i (by omega) 0 Nat.one_pos
  exact ⟨u, by rw [add_off, cell_heap hh, ← hu]; congr 1, h1, h2⟩
theorem copy_sn {t t' e : TypeId} {x y : Operand} {p v n l : Nat} {cc dd : Nat → Nat → AV} (ho : o.op = .call ⟨.builtin .copy, ⟨[x, y]⟩, ⟨[t, t']⟩⟩) (ht : P.underlying t = some (.slice e)) (hs : (P.info? e).map (·.size) = some 1) (hx : st.ev x = .ow p v n) (hy : st.ev y = .sn l 1 dd) (hn : 0 < n) (hl : 0 < l)
    (hrow : st.hp p = .sl v e 1 n cc) (hd : dstOK st.sz o.dst)
    (hK : K ⟨updO st.fr o.dst (.val (.int .i64 (Nat.min l n : Nat))), updR st.hp p (.sl v e 1 n (cpC cc 0 (Nat.min l n) dd)), st.sz, st.top, st.nx, st.df⟩) : OpW P o st K := by
  refine copy_wp ho ht hs hrow hd (k := 0) (m := Nat.min l n) (dd := dd) (fun c η a w hsr => ?_) hK
  have hxv := rep_ev hsr.slots x
  have hyv := rep_ev hsr.slots y
  rw [show evAV st.fr x = _ from hx] at hxv
  rw [show evAV st.fr y = _ from hy] at hyv
  obtain ⟨g, cap, hη, hxv⟩ := hxv
  obtain ⟨ad, cap', hyv, _, hc⟩ := hyv
  obtain ⟨b, off, rfl, _, hc⟩ := hc hl Nat.one_pos
  cases g with
  | none => obtain ⟨h, _⟩ := hxv; omega
  | some g =>
    obtain ⟨hxv, hcap⟩ := hxv
    refine ⟨g, cap, n, cap, hη, hxv, by omega, _, l, cap', hyv, rfl, fun i hi => ?_⟩
    have : Nat.min l n ≤ l := Nat.min_le_left _ _
    obtain ⟨u, hu, h1, h2⟩ := hc i (by omega) 0 Nat.one_pos
    exact ⟨u, by rw [add_off, ← hu]; congr 2; omega, h1, h2.up⟩
theorem copyN_wp {t t' e : TypeId} {x y : Operand} (ho : o.op = .call ⟨.builtin .copy, ⟨[x, y]⟩, ⟨[t, t']⟩⟩) (ht : P.underlying t = some (.slice e)) (hs : (P.info? e).map (·.size) = some 1) (hd : dstOK st.sz o.dst)
    (h : ∀ (c : Ctx) (η : Env) (a : Act) (w : World), SR c st η a w → ∃ d dl dc s sl sc, a.eval x = .slice d dl dc ∧ a.eval y = .slice s sl sc ∧ Nat.min sl dl = 0)
    (hK : K ⟨updO st.fr o.dst (.val (.int .i64 0)), st.hp, st.sz, st.top, st.nx, st.df⟩) : OpW P o st K := by
  refine pure_wp hd (fun c η a w hsr => ?_) hK
  obtain ⟨d, dl, dc, s, sl, sc, hxv, hyv, h0⟩ := h c η a w hsr
  refine ⟨.int .i64 0, ?_, rfl⟩
  have hrun := run_copy_none (P := P) w t t' o.type e d s dl dc sl sc ht hs h0
  unfold execOp
  rw [ho]
  simp [resolve, invoke, builtin, hxv, hyv, hrun, goInt]
theorem copy_zero {t t' e : TypeId} {x y : Operand} {p v l : Nat} {dd : Nat → Nat → AV} (ho : o.op = .call ⟨.builtin .copy, ⟨[x, y]⟩, ⟨[t, t']⟩⟩) (ht : P.underlying t = some (.slice e)) (hs : (P.info? e).map (·.size) = some 1) (hx : st.ev x = .ow p v 0) (hy : st.ev y = .sn l 1 dd)
    (hd : dstOK st.sz o.dst) (hK : K ⟨updO st.fr o.dst (.val (.int .i64 0)), st.hp, st.sz, st.top, st.nx, st.df⟩) : OpW P o st K := by
  refine copyN_wp ho ht hs hd (fun c η a w hsr => ?_) hK
  have hxv := rep_ev hsr.slots x
  have hyv := rep_ev hsr.slots y
  rw [show evAV st.fr x = _ from hx] at hxv
  rw [show evAV st.fr y = _ from hy] at hyv
  obtain ⟨g, cap, hη, hxv⟩ := hxv
  obtain ⟨ad, cap', hyv, _, hc⟩ := hyv
  cases g with
  | none =>
    obtain ⟨_, d, hxv⟩ := hxv
    exact ⟨_, _, _, _, _, _, hxv, hyv, Nat.min_zero _⟩
  | some g =>
    obtain ⟨hxv, hcap⟩ := hxv
    exact ⟨_, _, _, _, _, _, hxv, hyv, Nat.min_zero _⟩
end
end Go.Proofs.YtjfmigpahglajaaGreatDoor
set_option linter.unusedSimpArgs false
set_option linter.unusedVariables false
set_option maxRecDepth 100000
set_option maxHeartbeats 2000000
namespace Go.Proofs.YtjfmigpahglajaaGreatDoor
open Go
attribute [local irreducible] AW AVle ASle RowLe
def kU6 : Kd Int := ⟨fun n => .val (.int .u64 n), AV.int, fun _ => rfl⟩
@[go_sem] theorem kU6_ok (n : Int) : kU6.ok (.val (.int .u64 n)) = True := eq_true (kU6.ok_enc n)
@[go_sem] theorem kU6_dec (n : Int) : kU6.dec (.val (.int .u64 n)) = n := rfl
@[go_sem] theorem kU6_enc (n : Int) : kU6.enc n = .val (.int .u64 n) := rfl
def sMul : Spec := Spec.f2 kU6 kU6 (fun a b => a = 1 ∧ 0 ≤ b ∧ b ≤ 100000000) (fun _ b => tu2 (kU6.enc 0) (kU6.enc b))
theorem okMul : SpecOK Tryz.prog 124 sMul := by
  refine SpecOK.raw Tryz.func124 rfl (by decide) ?_
  intro args hp w L vs hL ha
  match args, hp with
  | [x, y], hp =>
    obtain ⟨h1, h2, h3, h4, h5⟩ := hp
    cases ha with
    | cons hx hr => cases hr with
      | cons hy hr => cases hr with
        | nil =>
          have ex := okGet h1 hx
          have ey := okGet h2 hy
          obtain rfl := ex
          obtain rfl := ey
          obtain ⟨b, hb⟩ : ∃ b : Nat, kU6.dec y = (b : Int) := ⟨(kU6.dec y).toNat, by omega⟩
          rw [h3, hb]
          refine (Calls.mono (Tryz.bits_Mul 1 b (by omega) (by omega) w) ?_)
          rintro e w' ⟨rfl, rfl⟩
          refine ⟨_, rfl, Fr.refl _ _, ?_⟩
          show Rep w' noEnv L (tu2 (kU6.enc 0) (kU6.enc (kU6.dec y))) _
          rw [hb, show 1 * b / 18446744073709551616 = 0 by omega, show 1 * b % 18446744073709551616 = b by omega]
          refine ⟨_, rfl, rfl, fun j hj => ?_⟩
          match j, hj with
          | 0, _ => exact ⟨_, rfl, rfl⟩
          | 1, _ => exact ⟨_, rfl, rfl⟩
def fillR (n k : Nat) (a : Int) : List Int := List.replicate k a ++ List.replicate (n - k) 0
theorem fill_at {n k i : Nat} (a : Int) (hk : k ≤ n) (hi : i < n) : (fillR n k a).getD i 0 = if i < k then a else 0 := by
  unfold fillR
  by_cases h : i < k
  · rw [if_pos h]
    simp [List.getD, List.getElem?_append, h]
  · rw [if_neg h]
    simp [List.getD, List.getElem?_append, h, show i - k < n - k by omega]
def rowF (n k : Nat) (a : Int) : Row := .sl 0 3 1 n fun i => eI.enc ((fillR n k a).getD i 0)
theorem fill_cp {n k m : Nat} {a : Int} {cc dd : Nat → Nat → AV} (hk : k + m ≤ n) (hc : ∀ i, i < n → cc i 0 = .val (.int .i64 (if i < k then a else 0))) (hd : ∀ i, i < m → dd i 0 = .val (.int .i64 a)) : RowLe (.sl 0 3 1 n (cpC cc k m dd)) (rowF n (k + m) a) := by
  refine RowLe.sl rfl fun i hi j hj => AVle.of_eq ?_
  obtain rfl : j = 0 := by omega
  show _ = AV.val (.int .i64 ((fillR n (k + m) a).getD i 0))
  rw [fill_at a hk hi]
  unfold cpC
  by_cases h : k ≤ i ∧ i < k + m
  · rw [if_pos h, if_pos h.2, hd _ (by omega)]
  · rw [if_neg h, hc i hi]
    by_cases h2 : i < k
    · rw [if_pos h2, if_pos (by omega)]
    · rw [if_neg h2, if_neg (by omega)]
theorem info_int : (Tryz.prog.info? 3).map (·.size) = some 1 := by kernel_rfl
def sRepI : Spec := Spec.f2 (kL eI) kI (fun x n => x.length = 1 ∧ 0 ≤ n ∧ n ≤ 100000000) (fun x n => sL eI (List.replicate n.toNat (x.getD 0 0)))
theorem okRepI : SpecOK Tryz.prog 71 sRepI := by
  refine SpecOK.f2 Tryz.func71 rfl (by decide) Tryz.results71 Tryz.ntmps71 (by decide) fun x n ⟨hx, hn0, hn1⟩ => ?_
  have hΓ : GOK Tryz.prog (gam [(124, sMul)]) := (.cons okMul .nil)
  obtain ⟨n, rfl⟩ : ∃ k : Nat, n = k := ⟨n.toNat, by omega⟩
  have hw1 : IntKind.u64.wrap (n : Int) = n := by rw [IntKind.wrap_u64]; omega
  have hw2 : IntKind.u64.wrap 1 = 1 := by decide
  refine AW.of hΓ mixed [6, 99999, 200009] _ _ _ rfl ?_
  simp only [go_sem, sMul, hx, hw1, hw2]
  refine ⟨fun h => absurd h (by omega), fun _ => ⟨⟨hn0, hn1⟩, fun h => ?_, fun h => ?_⟩⟩
  · exact absurd h (by omega)
  refine ⟨by omega, by omega, ?_⟩
  obtain ⟨a, rfl⟩ : ∃ a, x = [a] := List.length_eq_one_iff.1 hx
  refine AW.cut ⟨[(0, sL eI [a]), (7, .ow 0 0 n)], [(0, rowF n 0 a)], 48, 1, 1, []⟩ ?_ ?_
  · simp only [go_sem, sMul]
    refine RowLe.sl rfl fun i hi j hj => AVle.of_eq ?_
    obtain rfl : j = 0 := by omega
    show _ = AV.val (.int .i64 ((fillR n 0 a).getD i 0))
    rw [fill_at a (Nat.zero_le _) hi]
    rfl
  refine AW.seqTo (fun _ : Unit => Sh.st ⟨[(7, .ow 0 0 n), (8, .val (.int .i64 (min 1 n : Nat)))], [(0, rowF n (min 1 n) a)], 48, 1, 1, []⟩) ?_ fun _ => ?_
  · refine AW.regionO hΓ [false, false, true] ?_
    simp only [go_sem, sMul]
    rcases Nat.eq_zero_or_pos n with rfl | hn
    · refine copy_zero rfl Tryz.underlying75 info_int rfl rfl (by decide : 33 < 48) ?_
      simp only [go_sem, sMul]
      exact ⟨(), toFits (by
        simp only [go_sem, sMul]
        exact ⟨rfl, RowLe.refl _⟩)⟩
    · refine copy_sn rfl Tryz.underlying75 info_int rfl rfl hn (by simp) rfl (by decide : 33 < 48) ?_
      have e : Nat.min [a].length n = 1 := Nat.min_eq_left hn
      have e2 : min 1 n = 1 := Nat.min_eq_left hn
      rw [e, e2]
      simp only [go_sem, sMul]
      exact ⟨(), toFits (by
        simp only [go_sem, sMul]
        exact fill_cp (k := 0) (m := 1) (by omega) (fun i hi => by rw [fill_at a (Nat.zero_le _) hi]; rfl) (fun i hi => by
          obtain rfl : i = 0 := by omega
          rfl))⟩
  refine AW.of hΓ mixed [200009] _ _ _ rfl ?_
  simp only [go_sem, sMul]
  refine AW.round (α := { k : Nat // k ≤ n ∧ (0 < n → 0 < k) }) (fun k => ⟨[(7, .ow 0 0 n), (8, .val (.int .i64 k.1))], [(0, rowF n k.1 a)], 48, 1, 1, []⟩) (fun k => n - k.1) ⟨min 1 n, by omega, by omega⟩ ?_ ?_
  · simp only [go_sem, sMul]
    exact RowLe.refl _
  · rintro ⟨k, hk, hk0⟩
    refine AW.of hΓ mixed [99999, 200009] _ _ _ rfl ?_
    simp only [go_sem, sMul]
    refine ⟨fun hlt => ?_, fun hge => ?_⟩
    · refine AW.drawZ hΓ mixed 3 [4, 5, 6] [6] [] (by kernel_rfl) ?_
      simp only [go_sem, sMul]
      refine ⟨by omega, slice_ob (n := n) (k := k) (by rfl) Tryz.underlying75 cells3 (by rfl) (by rfl) (by omega) (by omega) (by exact (by decide : 41 < 48)) ?_⟩
      simp only [go_sem, sMul]
      refine copy_ob (k := k) (l := k) (n := n) (p := 0) (v := 0) (q := 0) (by rfl) Tryz.underlying75 info_int (by rfl) (by rfl) hk hk (by rfl) (by exact (by decide : 45 < 48)) ?_
      simp only [go_sem, sMul]
      have hm : k.min (n - k) ≤ k := Nat.min_le_left _ _
      have hm2 : k.min (n - k) ≤ n - k := Nat.min_le_right _ _
      have hm3 : 0 < k.min (n - k) := by
        rcases Nat.le_total k (n - k) with h | h
        · rw [show k.min (n - k) = k from Nat.min_eq_left h]; omega
        · rw [show k.min (n - k) = n - k from Nat.min_eq_right h]; omega
      refine ⟨by omega, ⟨k + k.min (n - k), by omega, by omega⟩, ⟨by dsimp only; omega, fill_cp (by omega) (fun i hi => ?_) (fun i hi => ?_)⟩, by dsimp only; omega⟩
      · show AV.val (.int .i64 ((fillR n k a).getD i 0)) = _
        rw [fill_at a hk hi]
      · show AV.val (.int .i64 ((fillR n k a).getD i 0)) = _
        rw [fill_at a hk (by omega), if_pos (by omega)]
    · obtain rfl : k = n := by omega
      have e : fillR k k a = List.replicate k a := by simp [fillR]
      simp only [rowF, e]
      exact ⟨⟨trivial, Nat.le_refl _, fun i _ j _ => rfl⟩, vw_all (E := eI) rfl rfl (by simp)⟩
def sAllR : Spec := Spec.f2 (kL ePt) kI (fun d _ => d.length < 100000000 ∧ (∀ p ∈ d, okPt p) ∧ widD d ≤ 90000000000) (fun d n => tu2 (kS.enc (allR d n).1) (kI.enc (allR d n).2))
theorem okAllR : SpecOK Tryz.prog 30 sAllR := by
  refine SpecOK.f2 Tryz.func30 rfl (by decide) Tryz.results30 Tryz.ntmps30 (by decide) fun d n ⟨hd, hp, hw⟩ => ?_
  have hΓ : GOK Tryz.prog (gam [(68, sRightD), (69, sIsSide), (47, sConflD), (71, sRepI), (70, sTextR)]) := (.cons okRightD (.cons okIsSide (.cons okConflD (.cons okRepI (.cons okTextR .nil)))))
  have hcl := confl_le d
  unfold allR
  by_cases hr : rightD d = false
  · rw [if_pos hr]
    refine AW.of hΓ mixed [] _ _ _ rfl ?_
    simp only [go_sem, sRightD, sIsSide, sConflD, sRepI, sTextR, hr]
    exact ⟨hd, hp⟩
  have hr' : rightD d = true := by simpa using hr
  rw [if_neg hr]
  by_cases hs : sideOK n = false
  · rw [if_pos hs]
    refine AW.of hΓ mixed [] _ _ _ rfl ?_
    simp only [go_sem, sRightD, sIsSide, sConflD, sRepI, sTextR, hr', hs]
    exact ⟨hd, hp⟩
  · rw [if_neg hs]
    have hs' : sideOK n = true := by simpa using hs
    refine AW.of hΓ mixed [] _ _ _ rfl ?_
    simp only [go_sem, sRightD, sIsSide, sConflD, sRepI, sTextR, hr', hs']
    exact ⟨⟨hd, hp⟩, hd, ⟨by omega, by omega⟩, hd, by omega, hw⟩
end Go.Proofs.YtjfmigpahglajaaGreatDoor
set_option linter.unusedSimpArgs false
set_option linter.unusedVariables false
set_option maxRecDepth 100000
set_option maxHeartbeats 8000000
namespace Go.Proofs.YtjfmigpahglajaaGreatDoor
open Go
attribute [local irreducible] AW AVle ASle RowLe
theorem wrg_swap {m1 m2 m3 : BS} {s u v : Int} (h : wrgM ((m1, m2, m3), s, u, v) = 0) : wrgM ((m3, m2, m1), s, u, v) = 0 := by
  obtain ⟨h1, h2, h3⟩ := wrg_0 h
  dsimp only at h1 h2 h3
  have h1' : plainLb (m3, m2, m1) = true := by
    unfold plainLb at h1 ⊢
    simp only [Bool.and_eq_true] at h1 ⊢
    exact ⟨h1.2.2, h1.2.1, h1.1⟩
  unfold wrgM
  dsimp only
  rw [if_neg (by rw [h1']; simp), if_neg (by omega), if_neg (by rw [h3]; simp)]
theorem swap_O (a b c : BS) {m1 m2 m3 : BS} {s u v : Int} (he : wrgM ((m1, m2, m3), s, u, v) = 0) : ∃ D l r K T W n D' l' r' T' W', mrgO a b c ((m1, m2, m3), s, u, v) = (D, l, r, K, T, W, n) ∧ mrgO a c b ((m3, m2, m1), s, u, v) = (D', l', r', K.map turnC, T', W', n) ∧ (n = 0 → T' = T) ∧ K = mrgK (filesF a b c) := by
  rw [O_eq he, O_eq (wrg_swap he)]
  obtain ⟨h1, h2, h3⟩ := mrg_swap a b c
  unfold mrgT
  dsimp only
  rw [h2, h1]
  exact ⟨_, _, _, _, _, _, _, _, _, _, _, _, rfl, rfl, fun h0 => h3 (by simpa using h0) s (m1, m2, m3) v (mrgW u a b c) s (m3, m2, m1) v (mrgW u a c b), rfl⟩
def sMergeTurns : Spec := Spec.f2 (kA eLb) (kA eHw) (fun _ h => rchH h) (fun _ _ => kB.enc true)
theorem okMergeTurns : SpecOK Tryz.prog 5 sMergeTurns := by
  refine SpecOK.f2 Tryz.func5 rfl (by decide) Tryz.results5 Tryz.ntmps5 (by decide) fun t h hh => ?_
  have hΓ : GOK Tryz.prog (gam [(13, sFewM), (14, sToldMg), (15, sShortM), (27, sOPTM), (16, sTexts), (28, sTurnedK)]) := (.cons okFewM (.cons okToldMg (.cons okShortM (.cons okOPTM (.cons okTexts (.cons okTurnedK .nil))))))
  obtain ⟨ta, tb, tc⟩ := t
  obtain ⟨st, w, v, l1, l2, l3⟩ := h
  have la : (ta.take 250).length ≤ 250 := by simp; omega
  have lb : (tb.take 250).length ≤ 250 := by simp; omega
  have lc : (tc.take 250).length ≤ 250 := by simp; omega
  refine AW.of hΓ mixed [0, 200006] _ _ _ rfl ?_
  simp only [go_sem, sFewM, sToldMg, sShortM, sOPTM, sTexts, sTurnedK]
  refine AW.still 2 0 0 22 3 _ rfl rfl (fun j hj => match j, hj with | 0, _ => rfl | 1, _ => rfl | 2, _ => rfl) ?_
  refine AW.still 3 1 1 24 6 _ rfl rfl (fun j hj => match j, hj with | 0, _ => rfl | 1, _ => rfl | 2, _ => rfl | 3, _ => rfl | 4, _ => rfl | 5, _ => rfl) ?_
  refine AW.of hΓ mixed [3, 200006] _ _ _ rfl ?_
  simp only [go_sem, sFewM, sToldMg, sShortM, sOPTM, sTexts, sTurnedK]
  refine ⟨hh, fun hfew => ?_⟩
  have hfew : fewH (st, w, v, l1, l2, l3) = true := by simpa using hfew
  obtain ⟨m1, m2, m3, s, u, ho, hw, hl, hl2⟩ := few_opt hfew
  refine AW.cut ⟨[(3, .ps 6 (eHw.enc (st, w, v, l1, l2, l3))), (5, .st (ta.take 250)), (6, .st (tb.take 250)), (7, .st (tc.take 250))], [], 114, 2, 2, []⟩ ?_ ?_
  · simp only [go_sem, sFewM, sToldMg, sShortM, sOPTM, sTexts, sTurnedK]
  generalize ta.take 250 = a at *
  generalize tb.take 250 = b at *
  generalize tc.take 250 = c at *
  refine AW.of hΓ mixed [4, 200006] _ _ _ rfl ?_
  simp only [go_sem, sFewM, sToldMg, sShortM, sOPTM, sTexts, sTurnedK, ho]
  refine ⟨hl2, ?_⟩
  refine AW.cut ⟨[(5, .st a), (6, .st b), (7, .st c), (8, .pt 2 2 0)], [(2, .box 2 40 6 (eOp.enc ((m1, m2, m3), s, u, 0)))], 114, 3, 3, []⟩ ?_ ?_
  · simp only [go_sem, sFewM, sToldMg, sShortM, sOPTM, sTexts, sTurnedK]
    exact box_st
  refine AW.still 8 2 2 40 6 _ rfl rfl (fun j hj => match j, hj with | 0, _ => rfl | 1, _ => rfl | 2, _ => rfl | 3, _ => rfl | 4, _ => rfl | 5, _ => rfl) ?_
  refine AW.of hΓ mixed [5, 200006] _ _ _ rfl ?_
  simp only [go_sem, sFewM, sToldMg, sShortM, sOPTM, sTexts, sTurnedK]
  refine AW.fork ?_
  refine AW.drawZ hΓ mixed 6 [6, 7, 9, 10] [3, 4, 5, 6, 7, 9, 10] [] (by decide +kernel) ?_
  simp only [go_sem, sFewM, sToldMg, sShortM, sOPTM, sTexts, sTurnedK, keeps_sL]
  refine AW.cut ⟨[(5, .st a), (6, .st b), (7, .st c), (8, .ps 6 (eOp.enc ((m1, m2, m3), s, u, 0))), (9, .pt 3 3 0)], [(3, .box 3 40 6 (eOp.enc ((m3, m2, m1), s, u, 0)))], 114, 4, 4, []⟩ ?_ ?_
  · simp only [go_sem, sFewM, sToldMg, sShortM, sOPTM, sTexts, sTurnedK]
    exact RowLe.box fun j hj => AVle.of_eq (match j, hj with | 0, _ => rfl | 1, _ => rfl | 2, _ => rfl | 3, _ => rfl | 4, _ => rfl | 5, _ => rfl)
  refine AW.still 9 3 3 40 6 _ rfl rfl (fun j hj => match j, hj with | 0, _ => rfl | 1, _ => rfl | 2, _ => rfl | 3, _ => rfl | 4, _ => rfl | 5, _ => rfl) ?_
  have hw' := wrg_swap hw
  obtain ⟨D, lp, rp, K, T, W, n, D', lp', rp', T', W', e1, e2, hT, hKe⟩ := swap_O a b c hw
  have hKl : K.length ≤ 501 := by
    have := (mrgK_len (filesF a b c)).1
    have e : (filesF a b c).1.length = (splitL a).length := rfl
    have := splitL_len a
    rw [hKe]
    omega
  have hsw : lbN (m3, m2, m1) ≤ 500 := by
    unfold lbN at hl ⊢
    dsimp only at hl ⊢
    omega
  have hcm : (K.map turnC).length = K.length := List.length_map ..
  refine AW.of hΓ mixed [8] _ _ _ rfl ?_
  simp only [go_sem, sFewM, sToldMg, sShortM, sOPTM, sTexts, sTurnedK, e1, e2, hw, hw']
  refine ⟨⟨short_M la lb lc, by omega⟩, ⟨short_M la lc lb, by omega⟩, ?_⟩
  refine AW.cut ⟨[(10, .pt 4 4 0), (11, .val (.int .i64 0)), (12, .pt 5 5 0), (13, .val (.int .i64 0))], [(4, .box 4 33 7 (eRt.enc (D, lp, rp, K, T, W, n))), (5, .box 5 33 7 (eRt.enc (D', lp', rp', K.map turnC, T', W', n)))], 114, 6, 6, []⟩ ?_ ?_
  · simp only [go_sem, sFewM, sToldMg, sShortM, sOPTM, sTexts, sTurnedK]
    exact ⟨box_st, box_st⟩
  refine AW.still 10 4 4 33 7 _ rfl rfl (fun j hj => match j, hj with | 0, _ => rfl | 1, _ => rfl | 2, _ => rfl | 3, _ => rfl | 4, _ => rfl | 5, _ => rfl | 6, _ => rfl) ?_
  refine AW.still 12 5 5 33 7 _ rfl rfl (fun j hj => match j, hj with | 0, _ => rfl | 1, _ => rfl | 2, _ => rfl | 3, _ => rfl | 4, _ => rfl | 5, _ => rfl | 6, _ => rfl) ?_
  generalize hK2 : K.map turnC = K' at *
  refine AW.of hΓ mixed [] _ _ _ rfl ?_
  simp only [go_sem, sFewM, sToldMg, sShortM, sOPTM, sTexts, sTurnedK, hcm]
  refine ⟨fun ⟨h0, h1⟩ => h1 (hT h0).symm, fun _ => ?_⟩
  refine AW.round (α := { i : Nat // i ≤ K.length }) (fun x => ⟨[(10, .ps 7 (eRt.enc (D, lp, rp, K, T, W, n))), (12, .ps 7 (eRt.enc (D', lp', rp', K', T', W', n))), (14, .val (.int .i64 x.1))], [], 114, 6, 6, []⟩) (fun x => K.length - x.1) ⟨0, Nat.zero_le _⟩ ?_ ?_
  · simp only [go_sem, sFewM, sToldMg, sShortM, sOPTM, sTexts, sTurnedK]
  · rintro ⟨i, hi⟩
    rcases Nat.lt_or_ge i K.length with hlt | hge
    · have hlI : ((i : Int) < (K.length : Nat)) = True := eq_true (by omega)
      have hg : K'.getD i eCk.dflt = turnC (K.getD i eCk.dflt) := by
        rw [← hK2, gd_lt _ _ (by rw [List.length_map]; exact hlt), gd_lt _ _ hlt, List.getElem_map]
      have hl2 : i < K'.length := by omega
      generalize hce : K.getD i eCk.dflt = k at *
      obtain ⟨cs, ⟨cb1, cb2⟩, ⟨cl1, cl2⟩, cr1, cr2⟩ := k
      have hg : K'.getD i eCk.dflt = (cs, (cb1, cb2), (cr1, cr2), (cl1, cl2)) := hg
      have ht : turnC (cs, (cb1, cb2), (cl1, cl2), cr1, cr2) = (cs, (cb1, cb2), (cr1, cr2), (cl1, cl2)) := rfl
      refine AW.of hΓ mixed [99999] _ _ _ rfl ?_
      simp only [go_sem, sFewM, sToldMg, sShortM, sOPTM, sTexts, sTurnedK, hlI, hce, hg, ht, hcm]
      exact ⟨by omega, by omega, ⟨by omega, by omega⟩, ⟨i + 1, by omega⟩, by dsimp only; omega, by dsimp only; omega⟩
    · obtain rfl : i = K.length := by omega
      refine AW.of hΓ mixed [99999] _ _ _ rfl ?_
      simp only [go_sem, sFewM, sToldMg, sShortM, sOPTM, sTexts, sTurnedK]
theorem widM (d : List Pt) : widD d ≤ sumP d := by
  induction d with
  | nil => exact Nat.le_refl _
  | cons p d ih =>
    have e1 : widD (p :: d) = widP p + widD d := by unfold widD; rw [List.map_cons, List.sum_cons]
    have e2 : sumP (p :: d) = lenP p + sumP d := by unfold sumP; rw [List.map_cons, List.sum_cons]
    have e3 : widP p ≤ lenP p := by unfold widP lenP; omega
    omega
theorem catB_len : ∀ d : List Pt, (catB d).length ≤ sumP d
  | [] => by simp [catB]
  | p :: d => by
    have h := catB_len d
    have e2 : sumP (p :: d) = lenP p + sumP d := by unfold sumP; rw [List.map_cons, List.sum_cons]
    have e3 : (txP p).length + (baP p).length ≤ lenP p := by unfold txP baP lenP; omega
    rw [show p :: d = [p] ++ d from rfl, catB_app, catB_one, List.length_append, List.length_append]
    rw [show [p] ++ d = p :: d from rfl, e2]
    omega
theorem catB_take (d : List Pt) (i : Nat) : (catB (d.take i)).length ≤ sumP d := by
  have h := catB_len d
  have e : (catB (d.take i ++ d.drop i)).length = (catB d).length := by rw [List.take_append_drop]
  rw [catB_app, List.length_append] at e
  omega
def sMergeBases : Spec := Spec.f2 (kA eLb) (kA eHw) (fun _ h => rchH h) (fun _ _ => kB.enc true)
theorem okMergeBases : SpecOK Tryz.prog 6 sMergeBases := by
  refine SpecOK.f2 Tryz.func6 rfl (by decide) Tryz.results6 Tryz.ntmps6 (by decide) fun t h hh => ?_
  have hΓ : GOK Tryz.prog (gam [(13, sFewM), (14, sToldMg), (15, sShortM), (27, sOPTM), (16, sTexts), (29, sTextP), (30, sAllR), (21, sLcsFrom), (20, sRefOfM)]) := (.cons okFewM (.cons okToldMg (.cons okShortM (.cons okOPTM (.cons okTexts (.cons okTextP (.cons okAllR (.cons okLcsFrom (.cons okRefOfM .nil)))))))))
  obtain ⟨ta, tb, tc⟩ := t
  obtain ⟨st, w, v, l1, l2, l3⟩ := h
  have la : (ta.take 250).length ≤ 250 := by simp; omega
  have lb : (tb.take 250).length ≤ 250 := by simp; omega
  have lc : (tc.take 250).length ≤ 250 := by simp; omega
  refine AW.of hΓ mixed [0, 200009] _ _ _ rfl ?_
  simp only [go_sem, sFewM, sToldMg, sShortM, sOPTM, sTexts, sTextP, sAllR, sLcsFrom, sRefOfM]
  refine AW.still 2 0 0 22 3 _ rfl rfl (fun j hj => match j, hj with | 0, _ => rfl | 1, _ => rfl | 2, _ => rfl) ?_
  refine AW.still 3 1 1 24 6 _ rfl rfl (fun j hj => match j, hj with | 0, _ => rfl | 1, _ => rfl | 2, _ => rfl | 3, _ => rfl | 4, _ => rfl | 5, _ => rfl) ?_
  refine AW.of hΓ mixed [3, 200009] _ _ _ rfl ?_
  simp only [go_sem, sFewM, sToldMg, sShortM, sOPTM, sTexts, sTextP, sAllR, sLcsFrom, sRefOfM]
  refine ⟨hh, fun hfew => ?_⟩
  have hfew : fewH (st, w, v, l1, l2, l3) = true := by simpa using hfew
  obtain ⟨m1, m2, m3, s, u, ho, hw0, hl, hl2⟩ := few_opt hfew
  refine AW.cut ⟨[(3, .ps 6 (eHw.enc (st, w, v, l1, l2, l3))), (5, .st (ta.take 250)), (6, .st (tb.take 250)), (7, .st (tc.take 250))], [], 115, 2, 2, []⟩ ?_ ?_
  · simp only [go_sem, sFewM, sToldMg, sShortM, sOPTM, sTexts, sTextP, sAllR, sLcsFrom, sRefOfM]
  generalize ta.take 250 = a at *
  generalize tb.take 250 = b at *
  generalize tc.take 250 = c at *
  refine AW.of hΓ mixed [5, 200009] _ _ _ rfl ?_
  simp only [go_sem, sFewM, sToldMg, sShortM, sOPTM, sTexts, sTextP, sAllR, sLcsFrom, sRefOfM, ho]
  refine ⟨hl2, ?_⟩
  refine AW.cut ⟨[(5, .st a), (6, .st b), (7, .st c), (8, .pt 2 2 0)], [(2, .box 2 40 6 (eOp.enc ((m1, m2, m3), 1, u, 0)))], 115, 3, 3, []⟩ ?_ ?_
  · simp only [go_sem, sFewM, sToldMg, sShortM, sOPTM, sTexts, sTextP, sAllR, sLcsFrom, sRefOfM]
    exact RowLe.box fun j hj => AVle.of_eq (match j, hj with | 0, _ => rfl | 1, _ => rfl | 2, _ => rfl | 3, _ => rfl | 4, _ => rfl | 5, _ => rfl)
  refine AW.still 8 2 2 40 6 _ rfl rfl (fun j hj => match j, hj with | 0, _ => rfl | 1, _ => rfl | 2, _ => rfl | 3, _ => rfl | 4, _ => rfl | 5, _ => rfl) ?_
  have hw : wrgM ((m1, m2, m3), 1, u, 0) = 0 := by
    obtain ⟨h1, h2, h3⟩ := wrg_0 hw0
    dsimp only at h1 h2 h3
    unfold wrgM
    dsimp only
    rw [if_neg (by rw [h1]; simp), if_neg (by omega), if_neg (by decide)]
  obtain ⟨p1, p2, p3⟩ := wrg_0 hw
  dsimp only at p1 p2 p3
  have hM := short_M la lb lc
  have hF := mrg_facts hM p2 1 (lb := (m1, m2, m3)) (by omega) p1 0
  have hF0 := mrg_facts hM (w := 7) (by decide) 1 (lb := ([], [], [])) (by unfold lbN; decide) (by decide) 0
  have e0 := O_eq (a := a) (b := b) (c := c) hw
  unfold mrgT at e0
  have hT := mrg_short la lb lc p2 1 (lb := (m1, m2, m3)) hl 0
  have hb := mrg_back hF
  have ha := mrg_base a b c (m1, m2, m3) hF.right
  have hdl := hF.dlen
  have hdp := hF.sump
  have hwd := widM (mrgD a b c 1 (m1, m2, m3) 0)
  have hok := sum_okPt (Nat.le_trans hF.sump (by decide))
  have hdl0 := hF0.dlen
  have hdp0 := hF0.sump
  have hl1 := prsF_len (splitL a) (splitL b)
  have hr1 := prsF_len (splitL a) (splitL c)
  have sa := splitL_len a
  have hq : mrgQ a b c ([], [], [], false, [], [], [], [], false) 1 7 0 = (mrgD a b c 1 ([], [], []) 0, mrgK (filesF a b c), printL (mrgW 7 a b c) (mrgD a b c 1 ([], [], []) 0), mrgW 7 a b c, (cntF (filesF a b c) (mrgK (filesF a b c)) : Int)) := rfl
  dsimp only at e0
  generalize hlp : prsF (splitL a) (splitL b) = lp at *
  generalize hrp : prsF (splitL a) (splitL c) = rp at *
  generalize printL (mrgW 7 a b c) (mrgD a b c 1 ([], [], []) 0) = T0 at *
  generalize mrgW 7 a b c = W0 at *
  generalize mrgD a b c 1 (m1, m2, m3) 0 = D at *
  generalize mrgD a b c 1 ([], [], []) 0 = D0 at *
  generalize mrgK (filesF a b c) = K at *
  generalize mrgW u a b c = W at *
  generalize printL W D = T at *
  generalize ((cntF (filesF a b c) K : Nat) : Int) = n at *
  refine AW.of hΓ mixed [8, 200009] _ _ _ rfl ?_
  simp only [go_sem, sFewM, sToldMg, sShortM, sOPTM, sTexts, sTextP, sAllR, sLcsFrom, sRefOfM, e0, hw, hb, ha]
  refine ⟨⟨hM, by omega⟩, by omega, ⟨by omega, hok, by omega⟩, ?_⟩
  refine AW.cut ⟨[(5, .st a), (6, .st b), (7, .st c), (9, .pt 3 3 0), (10, .val (.int .i64 0)), (12, .val (.int .i64 0)), (14, .st (catB D0)), (15, .val (.int .i64 0))], [(3, .box 3 33 7 (eRt.enc (D, lp, rp, K, T, W, n)))], 115, 4, 4, []⟩ ?_ ?_
  · simp only [go_sem, sFewM, sToldMg, sShortM, sOPTM, sTexts, sTextP, sAllR, sLcsFrom, sRefOfM]
    exact box_st
  refine AW.still 9 3 3 33 7 _ rfl rfl (fun j hj => match j, hj with | 0, _ => rfl | 1, _ => rfl | 2, _ => rfl | 3, _ => rfl | 4, _ => rfl | 5, _ => rfl | 6, _ => rfl) ?_
  refine AW.fork ?_
  refine AW.drawZ hΓ mixed 15 [16] [13, 16] [] (by decide +kernel) ?_
  simp only [go_sem, sFewM, sToldMg, sShortM, sOPTM, sTexts, sTextP, sAllR, sLcsFrom, sRefOfM, keeps_sL, hq]
  refine ⟨by omega, by omega, ⟨⟨la, lb, lc⟩, hlp.symm, hrp.symm, by unfold lbN lbP; decide, by decide⟩, ?_⟩
  refine AW.cut ⟨[(10, .val (.int .i64 0)), (12, .val (.int .i64 0)), (14, .st (catB D0)), (15, .val (.int .i64 0)), (16, .pt 4 4 0), (17, .val (.bool true))], [(4, .box 4 49 5 (eRd12.enc (D0, K, T0, W0, n)))], 115, 5, 5, []⟩ ?_ ?_
  · simp only [go_sem, sFewM, sToldMg, sShortM, sOPTM, sTexts, sTextP, sAllR, sLcsFrom, sRefOfM]
    exact box_st
  refine AW.still 16 4 4 49 5 _ rfl rfl (fun j hj => match j, hj with | 0, _ => rfl | 1, _ => rfl | 2, _ => rfl | 3, _ => rfl | 4, _ => rfl) ?_
  refine AW.of hΓ mixed [] _ _ _ rfl ?_
  simp only [go_sem, sFewM, sToldMg, sShortM, sOPTM, sTexts, sTextP, sAllR, sLcsFrom, sRefOfM]
  refine AW.round (α := { i : Nat // i ≤ D0.length }) (fun x => ⟨[(14, .st (catB D0)), (16, .ps 5 (eRd12.enc (D0, K, T0, W0, n))), (18, .st (catB (D0.take x.1))), (19, .val (.int .i64 x.1))], [], 115, 5, 5, []⟩) (fun x => D0.length - x.1) ⟨0, Nat.zero_le _⟩ ?_ ?_
  · simp only [go_sem, sFewM, sToldMg, sShortM, sOPTM, sTexts, sTextP, sAllR, sLcsFrom, sRefOfM]
    rfl
  · rintro ⟨i, hi⟩
    rcases Nat.lt_or_ge i D0.length with hlt | hge
    · have hlI : ((i : Int) < (D0.length : Nat)) = True := eq_true (by omega)
      have hsn := catB_snoc (D0.take i) (D0.getD i ePt.dflt)
      rw [← take_snoc D0 ePt.dflt hlt] at hsn
      generalize hce : D0.getD i ePt.dflt = p at *
      obtain ⟨q1, q2, q3, q4, q5, q6, q7, q8, q9⟩ := p
      have hbd := catB_take D0 (i + 1)
      have hsn' : catB (D0.take (i + 1)) = catB (D0.take i) ++ q5 ++ q7 := hsn
      rw [hsn', List.length_append, List.length_append] at hbd
      refine AW.of hΓ mixed [99999] _ _ _ rfl ?_
      simp only [go_sem, sFewM, sToldMg, sShortM, sOPTM, sTexts, sTextP, sAllR, sLcsFrom, sRefOfM, hlI, hce]
      exact ⟨by omega, by omega, by omega, by omega, ⟨by omega, by omega⟩, ⟨i + 1, by omega⟩, ⟨hsn'.symm, by dsimp only; omega⟩, by dsimp only; omega⟩
    · obtain rfl : i = D0.length := by omega
      rw [List.take_length]
      refine AW.of hΓ mixed [99999] _ _ _ rfl ?_
      simp only [go_sem, sFewM, sToldMg, sShortM, sOPTM, sTexts, sTextP, sAllR, sLcsFrom, sRefOfM]
end Go.Proofs.YtjfmigpahglajaaGreatDoor
