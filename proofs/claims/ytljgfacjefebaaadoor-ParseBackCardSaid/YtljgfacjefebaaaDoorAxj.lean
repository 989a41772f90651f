/-
  Rows that hold a list; what is stored, what is appended.
-/
import Derived.Test.YtljgfacjefebaaaDoorAxi
set_option linter.unusedSimpArgs false
set_option linter.unusedVariables false
namespace Go.Proofs.YtljgfacjefebaaaDoor
open Go

/-- A row of a list's items. -/
def rowL {α : Type} (ver ety : Nat) (E : El α) (l : List α) : Row := .sl ver ety E.sz l.length fun i => E.enc (l.getD i E.dflt)
attribute [go_sem] rowL
section
variable {α : Type} {E : El α} {l l' : List α} {v e s n m k : Nat} {x d : α} {c : Nat → AV}
theorem row_eq {f : Nat → α} (hl : l'.length = n) (h : ∀ i, i < n → f i = l'.getD i d) : RowLe (.sl v e s n fun i => E.enc (f i)) (.sl v e s l'.length fun i => E.enc (l'.getD i d)) := by
  refine RowLe.sl hl fun i hi j _ => AVle.of_eq ?_
  rw [h i hi]
theorem row_set (hd : d = E.dflt) (hl : l' = l.set k x) (hn : n = l.length) (hm : m = l'.length) (hc : ∀ j, j < s → AVle (c j) (E.enc x j)) :
    RowLe (.sl v e s n (stE (fun i => E.enc (l.getD i d)) k 0 s c)) (.sl v e s m fun i => E.enc (l'.getD i d)) := by
  subst hl hn hm hd
  refine RowLe.sl (by simp) fun i hi j hj => ?_
  simp only [stE]
  by_cases h : i = k
  · subst h
    rw [if_pos ⟨rfl, by omega, by omega⟩]
    have e : (l.set i x).getD i E.dflt = x := by simp [List.getD, hi]
    rw [e]
    exact hc j hj
  · rw [if_neg (fun hh => h hh.1)]
    have e : (l.set k x).getD i E.dflt = l.getD i E.dflt := by simp [List.getD, List.getElem?_set_ne (Ne.symm h)]
    rw [e]
    exact AVle.refl _
theorem row_app {dd : Nat → Nat → AV} {ys : List α} {n' : Nat} (hd : d = E.dflt) (hl : l' = l ++ ys) (hn : n = l.length) (hm : n' = n + ys.length) (hk : m = l'.length) (hc : ∀ i, i < ys.length → ∀ j, j < s → AVle (dd i j) (E.enc (ys.getD i d) j)) :
    RowLe (.sl v e s n' (apC n (fun i => E.enc (l.getD i d)) dd)) (.sl v e s m fun i => E.enc (l'.getD i d)) := by
  subst hl hn hm hd hk
  refine RowLe.sl (by simp) fun i hi j hj => ?_
  simp only [apC]
  split
  · rename_i h
    have e : (l ++ ys).getD i E.dflt = l.getD i E.dflt := by simp [List.getD, List.getElem?_append_left h]
    rw [e]
    exact AVle.refl _
  · rename_i h
    have e : (l ++ ys).getD i E.dflt = ys.getD (i - l.length) E.dflt := by simp [List.getD, List.getElem?_append_right (by omega : l.length ≤ i)]
    rw [e]
    exact hc _ (by omega) j hj
theorem row_app1 {dd : Nat → Nat → AV} {n' : Nat} (hd : d = E.dflt) (hl : l' = l ++ [x]) (hn : n = l.length) (hm : n' = n + 1) (hk : m = l'.length) (hc : ∀ j, j < s → AVle (dd 0 j) (E.enc x j)) :
    RowLe (.sl v e s n' (apC n (fun i => E.enc (l.getD i d)) dd)) (.sl v e s m fun i => E.enc (l'.getD i d)) := by
  refine row_app (ys := [x]) hd hl hn hm hk fun i hi j hj => ?_
  have : i = 0 := by simp at hi; omega
  subst this
  exact hc j hj
theorem row_make {z : Nat → AV} (hd : d = E.dflt) (hl : l' = List.replicate n x) (hm : m = l'.length) (hc : ∀ j, j < s → AVle (z j) (E.enc x j)) : RowLe (.sl v e s n fun _ => z) (.sl v e s m fun i => E.enc (l'.getD i d)) := by
  subst hl hm hd
  refine RowLe.sl (by simp) fun i hi j hj => ?_
  have e : (List.replicate n x).getD i E.dflt = x := by simp [List.getD, hi]
  rw [e]
  exact hc j hj
theorem row_nil {cc : Nat → Nat → AV} (hl : l' = []) : RowLe (.sl v e s 0 cc) (.sl v e s l'.length fun i => E.enc (l'.getD i d)) := by
  subst hl
  exact RowLe.sl rfl fun i hi => absurd hi (Nat.not_lt_zero _)
/-- A row of which less is known: its first items. -/
theorem row_take {f g : Nat → Nat → AV} (h : n ≤ m) (hc : ∀ i, i < n → ∀ j, j < s → AVle (f i j) (g i j)) : RowLe (.sl v e s m f) (.sl v e s n g) := by
  refine ⟨rfl, fun w η L hr => ?_⟩
  intro g' cap he
  have := hr g' cap he
  cases g' with
  | none => omega
  | some b =>
    obtain ⟨cur, h1, h2, h3, h4, h5⟩ := this
    refine ⟨cur, h1, h2, by omega, h4, fun i hi j hj => ?_⟩
    obtain ⟨u, hu, ho, hrep⟩ := h5 i (by omega) j hj
    exact ⟨u, hu, ho, hc i hi j hj _ _ _ _ hrep⟩
theorem vw_row (hs : s = E.sz) (hd : d = E.dflt) (h : l' = l.take n) (hn : n ≤ l.length) : AVle (.sn n s fun i => E.enc (l.getD i d)) (sL E l') := by
  subst h
  exact take_le E l hd hs (by omega)
theorem vw_all (hs : s = E.sz) (hd : d = E.dflt) (hn : n = l.length) : AVle (.sn n s fun i => E.enc (l.getD i d)) (sL E l) := by
  subst hn hs hd
  exact AVle.refl _
end
theorem zC_S (j : Nat) (h : j < 1) : AVle (zC [.string ⟨#[]⟩] j) (eS.enc [] j) := by
  have : j = 0 := by omega
  subst this
  exact AVle.refl _
theorem zC_I (j : Nat) (h : j < 1) : AVle (zC [.int .i64 0] j) (eI.enc 0 j) := by
  have : j = 0 := by omega
  subst this
  exact AVle.refl _
theorem zC_B (j : Nat) (h : j < 1) : AVle (zC [.bool false] j) (eB.enc false j) := by
  have : j = 0 := by omega
  subst this
  exact AVle.refl _
/-! ### maps -/
/-- A map from texts to where they are met first. -/
def mapS (ks : List (List UInt8)) : Key → Option Value
  | .s b => if b ∈ ks then some (.int .i64 (ks.idxOf b)) else none
  | .i _ => none
@[go_sem] theorem mapS_s (ks : List (List UInt8)) (b : List UInt8) : mapS ks (.s b) = if b ∈ ks then some (.int .i64 (ks.idxOf b)) else none := rfl
theorem RowLe.of_eq {r r' : Row} (h : r = r') : RowLe r r' := h ▸ RowLe.refl r
theorem mapS_push (ks : List (List UInt8)) (b : List UInt8) (h : b ∉ ks) : setKey (mapS ks) (.s b) (.int .i64 ks.length) = mapS (ks ++ [b]) := by
  funext k
  cases k with
  | i n => simp [setKey, mapS]
  | s x =>
    simp only [setKey, mapS]
    by_cases hx : x = b
    · subst hx
      simp [List.idxOf_append, h]
    · have h1 : ¬ (Key.s x = Key.s b) := fun e => hx (by injection e)
      rw [if_neg h1]
      by_cases hm : x ∈ ks
      · simp [hm, List.idxOf_append]
      · simp [hm, hx]
@[go_sem] theorem keyAV_st (l : List UInt8) : keyAV (.st l) = some (.s l) := rfl
@[go_sem] theorem keyAV_int (n : Int) : keyAV (.val (.int .i64 n)) = some (.i n) := rfl
@[go_sem] theorem isStr_s (l : List UInt8) : (Key.s l).isStr = true := rfl
@[go_sem] theorem isStr_i (n : Int) : (Key.i n).isStr = false := rfl
@[go_sem] theorem kind_t : kindOf true = .string := rfl
@[go_sem] theorem kind_f : kindOf false = .int .i64 := rfl
@[go_sem] theorem valAV_val (v : Value) : valAV (.val v) = some v := rfl
attribute [go_sem low] aMake.eq_def aMakeMap.eq_def hintOK.eq_def
attribute [go_sem] appOK Option.some.injEq exists_eq_left' List.length_cons List.length_nil
section
variable (hp : Nat → Row)
@[go_sem] theorem vwP_ow (p v n : Nat) : vwP hp (.ow p v n) = match hp p with
    | .sl v' _ sz n' c => v' = v ∧ n ≤ n' ∧ ∀ i, i < n → ∀ j, j < sz → (c i j).flat = true
    | _ => False := rfl
@[go_sem] theorem vw_ow (p v n : Nat) : vw hp (.ow p v n) = match hp p with
    | .sl _ _ sz _ c => .sn n sz c
    | _ => .any := rfl
@[go_sem] theorem vwQ_ow (p v n : Nat) : vwQ hp (.ow p v n) = match hp p with
    | .sl v' _ sz n' c => v' = v ∧ n ≤ n' ∧ ∀ i, i < n → ∀ j, j < sz → (c i j).flat = true
    | _ => False := propext ⟨fun h => h.1, fun h => ⟨h, .inr rfl⟩⟩
@[go_sem] theorem vw0_ow (p v n : Nat) : vw0 hp (.ow p v n) = match hp p with
    | .sl _ _ sz _ c => .sn n sz c
    | _ => .any := rfl
@[go_sem] theorem vwP_pt (p v j : Nat) : vwP hp (.pt p v j) = match hp p with
    | .box v' _ m c => v' = v ∧ j ≤ m ∧ ∀ i, i < m → (c i).flat = true
    | _ => False := rfl
@[go_sem] theorem vw_pt (p v j : Nat) : vw hp (.pt p v j) = match hp p with
    | .box _ _ m c => .ps (m - j) fun i => c (j + i)
    | _ => .any := rfl
@[go_sem] theorem vwO_ow (p v n : Nat) : vwO (.ow p v n) = true := rfl
@[go_sem] theorem vwO_pt (p v n : Nat) : vwO (.pt p v n) = true := rfl
@[go_sem] theorem AVle_ow (p p' v v' n n' : Nat) : AVle (.ow p v n) (.ow p' v' n') = (v = v' ∧ n = n') := by
  refine propext ⟨fun h => ?_, fun h => ?_⟩
  · have := h default (fun k => if k = v then some (some 0, n) else none) (fun _ => False) (.slice (some ⟨0, 0, none⟩) n n) ⟨some 0, n, by simp, rfl, Nat.le_refl _⟩
    obtain ⟨g, cap, h1, h2⟩ := this
    simp only at h1
    split at h1
    · rename_i e
      simp only [Option.some.injEq, Prod.mk.injEq] at h1
      obtain ⟨rfl, rfl⟩ := h1
      obtain ⟨h2, _⟩ := h2
      injection h2 with _ h2 _
      exact ⟨e.symm, h2⟩
    · cases h1
  · obtain ⟨rfl, rfl⟩ := h
    exact fun w η L u hr => hr
@[go_sem] theorem AVle_pt (p p' v v' j j' : Nat) : AVle (.pt p v j) (.pt p' v' j') = (v = v' ∧ j = j') := by
  refine propext ⟨fun h => ?_, fun h => ?_⟩
  · have := h default (fun k => if k = v then some (some 0, 0) else none) (fun _ => False) (.pointer (some ⟨0, j, none⟩)) ⟨0, 0, by simp, rfl⟩
    obtain ⟨g, cap, h1, h2⟩ := this
    simp only at h1
    split at h1
    · rename_i e
      simp only [Option.some.injEq, Prod.mk.injEq] at h1
      obtain ⟨rfl, rfl⟩ := h1
      injection h2 with h2
      simp only [Option.some.injEq, Addr.mk.injEq] at h2
      exact ⟨e.symm, h2.2.1⟩
    · cases h1
  · obtain ⟨rfl, rfl⟩ := h
    exact fun w η L u hr => hr
@[go_sem] theorem AVle_mp (p p' v : Nat) : AVle (.mp p v) (.mp p' v) = True := eq_true fun w η L u hr => hr
end
attribute [go_sem] List.length_append List.length_replicate List.length_map List.length_set List.length_take List.length_drop List.take_length List.drop_zero List.nil_append
@[go_sem] theorem toNat_add1 (n : Nat) : ((n : Int) + 1).toNat = n + 1 := by omega
@[go_sem] theorem cast_one : ((1 : Nat) : Int) = 1 := rfl
@[go_sem] theorem cast_zero : ((0 : Nat) : Int) = 0 := rfl
@[go_sem] theorem add_sub1 (n : Int) : n + 1 - 1 = n := by omega
@[go_sem] theorem eS_flat (x : List UInt8) (j : Nat) : (eS.enc x j).flat = true := rfl
@[go_sem] theorem eI_flat (x : Int) (j : Nat) : (eI.enc x j).flat = true := rfl
@[go_sem] theorem eB_flat (x : Bool) (j : Nat) : (eB.enc x j).flat = true := rfl
@[go_sem] theorem eL_flat {α : Type} (E : El α) (x : List α) (j : Nat) : ((eL E).enc x j).flat = true := rfl
theorem stE_flat {c : Nat → Nat → AV} {k o m : Nat} {d : Nat → AV} (h : ∀ a b, (c a b).flat = true) (hd : ∀ b, (d b).flat = true) (a b : Nat) : (stE c k o m d a b).flat = true := by
  unfold stE
  split
  · exact hd _
  · exact h _ _
theorem apC_flat {c d : Nat → Nat → AV} {n : Nat} (h : ∀ a b, (c a b).flat = true) (hd : ∀ a b, (d a b).flat = true) (a b : Nat) : (apC n c d a b).flat = true := by
  unfold apC
  split
  · exact h _ _
  · exact hd _ _
section
variable {α : Type} {E : El α} {l l' : List α} {s n k m : Nat} {x d : α} {c : Nat → AV}
theorem sn_set (hs : s = E.sz) (hd : d = E.dflt) (hl : l' = (l.set k x).take n) (hn : n ≤ l.length) (hc : ∀ j, j < s → AVle (c j) (E.enc x j)) :
    AVle (.sn n s (stE (fun i => E.enc (l.getD i d)) k 0 s c)) (sL E l') := by
  subst hl hd hs
  unfold sL
  rw [List.length_take, List.length_set, Nat.min_eq_left hn]
  refine AVle.sn fun i hi j hj => ?_
  simp only [stE]
  by_cases h : i = k
  · subst h
    rw [if_pos ⟨rfl, by omega, by omega⟩]
    have e : ((l.set i x).take n).getD i E.dflt = x := by simp [List.getD, List.getElem?_take, hi, show i < l.length by omega]
    rw [e]
    exact hc j hj
  · rw [if_neg (fun hh => h hh.1)]
    have e : ((l.set k x).take n).getD i E.dflt = l.getD i E.dflt := by simp [List.getD, List.getElem?_take, hi, List.getElem?_set_ne (Ne.symm h)]
    rw [e]
    exact AVle.refl _
theorem sn_app1 {dd : Nat → Nat → AV} (hs : s = E.sz) (hd : d = E.dflt) (hl : l' = l ++ [x]) (hn : n = l.length) (hm : m = n + 1) (hc : ∀ j, j < s → AVle (dd 0 j) (E.enc x j)) :
    AVle (.sn m s (apC n (fun i => E.enc (l.getD i d)) dd)) (sL E l') := by
  subst hl hd hs hn hm
  unfold sL
  rw [List.length_append]
  refine AVle.sn fun i hi j hj => ?_
  simp only [apC]
  split
  · rename_i h
    have e : (l ++ [x]).getD i E.dflt = l.getD i E.dflt := by simp [List.getD, List.getElem?_append_left h]
    rw [e]
    exact AVle.refl _
  · rename_i h
    have e1 : i = l.length := by omega
    subst e1
    have e : (l ++ [x]).getD l.length E.dflt = x := by simp [List.getD]
    rw [e, Nat.sub_self]
    exact hc j hj
end
theorem okGet {α : Type} {K : Kd α} {x : AV} {w : World} {η : Env} {L : Nat → Prop} {v : Value} (h : K.ok x) (hr : Rep w η L x v) : Rep w η L (K.enc (K.dec x)) v := h _ _ _ _ hr
@[go_sem] theorem put_row_mp (st : AS) (d : Option Tmp) (z : AV) (v n : Nat) (s : Bool) (f : Key → Option Value) : st.put d z (.mp v s n f) = ⟨updO st.fr d z, updR st.hp st.top (.mp v s n f), st.sz, st.top + 1, st.nx + 1, st.df⟩ := rfl
/-! ### a loop is left in a state of which less is known -/
def exitTo {α : Type} (id : Nat) (s : α → AS) (Q : Exit → AS → Prop) : Exit → AS → Prop
  | .exit id', st => if id' = id then ∃ i, ASle st (s i) else Q (.exit id') st
  | e, st => Q e st
section
variable {P : Program} {x : Code} {Q : Exit → AS → Prop} {st : AS} {α : Type} {id id' : Nat} {s : α → AS}
@[go_sem] theorem exitTo_exit : exitTo id s Q (.exit id') st = if id' = id then ∃ i, ASle st (s i) else Q (.exit id') st := rfl
@[go_sem] theorem exitTo_normal : exitTo id s Q .normal st = Q .normal st := rfl
@[go_sem] theorem exitTo_ret : exitTo id s Q .ret st = Q .ret st := rfl
theorem AW.leave (id : Nat) (s : α → AS) (h : AW P x (exitTo id s Q) st) (k : ∀ i, Q (.exit id) (s i)) : AW P x Q st := by
  intro c η a w hsr
  refine wp_mono (h c η a w hsr) ?_
  rintro e a' w' ⟨st', η', hq, hs'⟩
  cases e with
  | exit id' =>
    simp only [exitTo] at hq
    split at hq
    · rename_i e
      subst e
      obtain ⟨i, hi⟩ := hq
      obtain ⟨η'', h''⟩ := hi c η' a' w' hs'
      exact ⟨s i, η'', k i, h''⟩
    · exact ⟨st', η', hq, hs'⟩
  | _ => exact ⟨st', η', hq, hs'⟩
theorem Sh.le {s : Sh} {st : AS} (h : s.fits st) : ASle st s.st := h.le
end
/-- Code is left in a state of which less is known. -/
def normTo {α : Type} (s : α → AS) (Q : Exit → AS → Prop) : Exit → AS → Prop
  | .normal, st => ∃ i, ASle st (s i)
  | e, st => Q e st
section
variable {P : Program} {x : Code} {Q : Exit → AS → Prop} {st : AS} {α : Type} {id : Nat} {s : α → AS}
@[go_sem] theorem normTo_exit : normTo s Q (.exit id) st = Q (.exit id) st := rfl
@[go_sem] theorem normTo_normal : normTo s Q .normal st = ∃ i, ASle st (s i) := rfl
@[go_sem] theorem normTo_ret : normTo s Q .ret st = Q .ret st := rfl
theorem AW.to (s : α → AS) (h : AW P x (normTo s Q) st) (k : ∀ i, Q .normal (s i)) : AW P x Q st := by
  intro c η a w hsr
  refine wp_mono (h c η a w hsr) ?_
  rintro e a' w' ⟨st', η', hq, hs'⟩
  cases e with
  | normal =>
    obtain ⟨i, hi⟩ := hq
    obtain ⟨η'', h''⟩ := hi c η' a' w' hs'
    exact ⟨s i, η'', k i, h''⟩
  | _ => exact ⟨st', η', hq, hs'⟩
end
attribute [go_sem] Int.lt_irrefl Nat.lt_irrefl Option.getD_some Option.getD_none Option.isSome_some Option.isSome_none
theorem toFits {st : AS} {l : List (Nat × AV)} {r : List (Nat × Row)} {sz top nx : Nat} {df : List Deferred} (h : (Sh.mk l r sz top nx df).fits st) : ASle st ⟨frm l, rws r, sz, top, nx, df⟩ := h.le
def kU : Kd Int := ⟨fun n => .val (.int .u8 n), AV.int, fun _ => rfl⟩
@[go_sem] theorem kU_ok (n : Int) : kU.ok (.val (.int .u8 n)) = True := eq_true (kU.ok_enc n)
@[go_sem] theorem kU_dec (n : Int) : kU.dec (.val (.int .u8 n)) = n := rfl
@[go_sem] theorem kU_enc (n : Int) : kU.enc n = .val (.int .u8 n) := rfl
@[go_sem] theorem byte_eq (x y : UInt8) : ((x.toNat : Int) = (y.toNat : Int)) = (x = y) := by
  refine propext ⟨fun h => UInt8.toNat_inj.1 (by omega), fun h => by rw [h]⟩
@[go_sem] theorem byte_10 (x : UInt8) : ((x.toNat : Int) = 10) = (x = 10) := by
  refine propext ⟨fun h => UInt8.toNat_inj.1 (by have h2 := h; simp; omega), fun h => by rw [h]; rfl⟩
@[go_sem] theorem byte_32 (x : UInt8) : ((x.toNat : Int) = 32) = (x = 32) := by
  refine propext ⟨fun h => UInt8.toNat_inj.1 (by have h2 := h; simp; omega), fun h => by rw [h]; rfl⟩
@[go_sem] theorem byte_33 (x : UInt8) : ((x.toNat : Int) = 33) = (x = 33) := by
  refine propext ⟨fun h => UInt8.toNat_inj.1 (by have h2 := h; simp; omega), fun h => by rw [h]; rfl⟩
@[go_sem] theorem byte_37 (x : UInt8) : ((x.toNat : Int) = 37) = (x = 37) := by
  refine propext ⟨fun h => UInt8.toNat_inj.1 (by have h2 := h; simp; omega), fun h => by rw [h]; rfl⟩
@[go_sem] theorem byte_43 (x : UInt8) : ((x.toNat : Int) = 43) = (x = 43) := by
  refine propext ⟨fun h => UInt8.toNat_inj.1 (by have h2 := h; simp; omega), fun h => by rw [h]; rfl⟩
@[go_sem] theorem byte_45 (x : UInt8) : ((x.toNat : Int) = 45) = (x = 45) := by
  refine propext ⟨fun h => UInt8.toNat_inj.1 (by have h2 := h; simp; omega), fun h => by rw [h]; rfl⟩
@[go_sem] theorem byte_48 (x : UInt8) : ((x.toNat : Int) = 48) = (x = 48) := by
  refine propext ⟨fun h => UInt8.toNat_inj.1 (by have h2 := h; simp; omega), fun h => by rw [h]; rfl⟩
@[go_sem] theorem byte_60 (x : UInt8) : ((x.toNat : Int) = 60) = (x = 60) := by
  refine propext ⟨fun h => UInt8.toNat_inj.1 (by have h2 := h; simp; omega), fun h => by rw [h]; rfl⟩
@[go_sem] theorem byte_61 (x : UInt8) : ((x.toNat : Int) = 61) = (x = 61) := by
  refine propext ⟨fun h => UInt8.toNat_inj.1 (by have h2 := h; simp; omega), fun h => by rw [h]; rfl⟩
@[go_sem] theorem byte_62 (x : UInt8) : ((x.toNat : Int) = 62) = (x = 62) := by
  refine propext ⟨fun h => UInt8.toNat_inj.1 (by have h2 := h; simp; omega), fun h => by rw [h]; rfl⟩
@[go_sem] theorem byte_92 (x : UInt8) : ((x.toNat : Int) = 92) = (x = 92) := by
  refine propext ⟨fun h => UInt8.toNat_inj.1 (by have h2 := h; simp; omega), fun h => by rw [h]; rfl⟩
@[go_sem] theorem byte_124 (x : UInt8) : ((x.toNat : Int) = 124) = (x = 124) := by
  refine propext ⟨fun h => UInt8.toNat_inj.1 (by have h2 := h; simp; omega), fun h => by rw [h]; rfl⟩
@[go_sem low] theorem dec_L_any {α : Type} (E : El α) (x : AV) : (eL E).dec (fun _ => x) = (kL E).dec x := rfl
@[go_sem low] theorem okc_L_any {α : Type} (E : El α) (x : AV) : (eL E).okc (fun _ => x) = (kL E).ok x :=
  propext ⟨fun h => h 0 Nat.one_pos, fun h _ _ => h⟩
@[go_sem] theorem cast_lit (n : Nat) : ((no_index (OfNat.ofNat n) : Nat) : Int) = OfNat.ofNat n := rfl
theorem AW.seqTo {P : Program} {x y : Code} {Q : Exit → AS → Prop} {st : AS} {α : Type} (s : α → AS) (h : AW P x (normTo s Q) st) (k : ∀ i, AW P y Q (s i)) : AW P (.seq x y) Q st := by
  refine AW.seq fun K hK c η a w hsr => ?_
  refine wp_mono (h c η a w hsr) ?_
  rintro e a' w' ⟨st', η', hq, hs'⟩
  cases e with
  | normal =>
    obtain ⟨i, hi⟩ := hq
    obtain ⟨η'', h''⟩ := hi c η' a' w' hs'
    exact ⟨s i, η'', hK _ (k i), h''⟩
  | _ => exact ⟨st', η', hq, hs'⟩
end Go.Proofs.YtljgfacjefebaaaDoor
