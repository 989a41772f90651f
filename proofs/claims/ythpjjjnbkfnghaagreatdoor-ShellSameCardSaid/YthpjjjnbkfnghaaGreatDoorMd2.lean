/-
  Part 2 of what the proof rests on: values that are told, code that is walked, what comes out.
-/
import Derived.Test.YthpjjjnbkfnghaaGreatDoorMd1
import Derived.Recover
import Derived.Test.YthpjjjnbkfnghaaGreatDoorChecked
import Derived.KernelRfl
set_option linter.all false
namespace Go.Proofs.YthpjjjnbkfnghaaGreatDoor
open Go
section
variable {P:Program} {Γ:Gam} {ops:Array Oper}
def Ext (hp hp':Nat->Row):Prop:=∀ p,hp p=.dead\/hp' p=hp p
theorem Ext.refl (hp:Nat->Row):Ext hp hp:=fun _=>.inr rfl
theorem Ext.trans {a b d:Nat->Row} (h:Ext a b) (k:Ext b d):Ext a d:=fun p=>by
 rcases h p with e|e
 ·exact .inl e
 ·rcases k p with e'|e'
  ·exact .inl (e▸e')
  ·exact .inr (e'.trans e)
theorem c3G {hp hp':Nat->Row} (hx:Ext hp hp') {t:TypeId} {x:AV} {r:Prop×AV} (h:a9m P hp t x=some r):a9m P hp' t x=some r:=by
 unfold a9m at h ⊢
 split at h
 ·exact h
 ·exact h
 ·rename_i p _ _ _
  rcases hx p with e|e
  ·rw [e] at h;cases h
  ·simp only [e];exact h
 ·rename_i p _ _ _
  rcases hx p with e|e
  ·rw [e] at h;cases h
  ·simp only [e];exact h
 ·rename_i p _ _ _ _ _
  rcases hx p with e|e
  ·rw [e] at h;cases h
  ·simp only [e];exact h
 ·rename_i p _ _ _ _ _
  rcases hx p with e|e
  ·rw [e] at h;cases h
  ·simp only [e];exact h
 ·cases h
theorem b09 {hp hp':Nat->Row} (hx:Ext hp hp') {t:TypeId} {x i:AV} {r:Prop×AV} (h:a23 P hp t x i=some r):a23 P hp' t x i=some r:=by
 unfold a23 at h ⊢
 split at h
 ·exact h
 ·rename_i p _ _ _ _
  rcases hx p with e|e
  ·rw [e] at h;cases h
  ·simp only [e];exact h
 ·exact h
 ·exact h
 ·exact h
 ·cases h
theorem b5Y {hp hp':Nat->Row} (hx:Ext hp hp') {t:TypeId} {m k:AV} {ok:Bool} {r:Prop×AV} (h:a7q P hp t m k ok=some r):a7q P hp' t m k ok=some r:=by
 unfold a7q at h ⊢
 split at h
 ·rename_i p _ _
  rcases hx p with e|e
  ·rw [e] at h;cases h
  ·simp only [e];exact h
 ·cases h
theorem b9H {hp hp':Nat->Row} (hx:Ext hp hp') {t:TypeId} {x:AV} {r:Prop×AV} (h:a9l P hp t x=some r):a9l P hp' t x=some r:=by
 cases x with
 | mp p ver=>
   unfold a9l at h ⊢
   simp only at h ⊢
   rcases hx p with e|e
   ·rw [e] at h
    split at h
    ·rename_i h1;cases h1
    ·cases h
   ·simp only [e];exact h
 | _=>exact h
theorem b8r {hp hp':Nat->Row} (hx:Ext hp hp') {s d:TypeId} {x:AV} {r:Prop×AV} (h:a9S P hp s d x=some r):a9S P hp' s d x=some r:=by
 cases x with
 | ow p ver n=>
   unfold a9S at h ⊢
   simp only at h ⊢
   rcases hx p with e|e
   ·rw [e] at h
    split at h
    ·rename_i h1;cases h1
    ·cases h
   ·simp only [e];exact h
 | _=>exact h
theorem b5o {hp hp':Nat->Row} (hx:Ext hp hp') {x:AV} (h:b2y hp x):vw0 hp' x=vw0 hp x/\b2y hp' x:=by
 cases x with
 | ow p ver n=>
   simp only [b2y] at h ⊢
   rcases hx p with e|e
   ·rw [e] at h;exact h.elim
   ·simp only [vw0,e];exact⟨trivial,h⟩
 | pt p ver j=>
   simp only [b2y] at h ⊢
   rcases hx p with e|e
   ·rw [e] at h;exact h.elim
   ·simp only [vw0,e];exact⟨trivial,h⟩
 | pe p ver sz i j=>
   simp only [b2y] at h ⊢
   rcases hx p with e|e
   ·rw [e] at h;exact h.elim
   ·simp only [vw0,e];exact⟨trivial,h⟩
 | _=>exact⟨rfl,h⟩
theorem c7Z {hp hp':Nat->Row} (hx:Ext hp hp') {x:AV} (h:vwP hp x):vw hp' x=vw hp x/\vwP hp' x:=by
 rcases a9N x with⟨m,c,rfl⟩|⟨e,_⟩
 ·refine⟨?_,fun j hj=>⟨(b5o hx (h j hj).1).2,(h j hj).2⟩⟩
  simp only [vw]
  congr 1
  funext j
  split
  ·rename_i hj;exact (b5o hx (h j hj).1).1
  ·rfl
 ·rw [(e hp).2] at h
  rw [(e hp).1,(e hp').1,(e hp').2]
  exact b5o hx h
theorem c0A {α:Type} {ev ev':Operand->AV} (f:α->Operand) (g:α->AV->Nat×AV):∀ (l:List α),(∀ x∈l,ev' (f x)=ev (f x))->(l.map fun a=>g a (ev' (f a)))=l.map fun a=>g a (ev (f a))
 | [],_=>rfl
 | a::l,h=>by
   simp only [List.map_cons]
   rw [h a (List.mem_cons_self ..),c0A f g l fun x hx=>h x (List.mem_cons_of_mem _ hx)]
theorem b49 {ev ev':Operand->AV} (l:List Operand) (h:∀ x∈l,ev' x=ev x):l.map ev'=l.map ev:=List.map_congr_left h
theorem b0M {ev ev':Operand->AV} (o:Option Operand) (h:∀ x∈o.toArray,ev' x=ev x):o.map ev'=o.map ev:=by
 cases o with
 | none=>rfl
 | some x=>simp only [Option.map_some,h x (by simp)]
theorem c1z {hp hp':Nat->Row} (hx:Ext hp hp') {ev ev':Operand->AV} {op:Op} (he:∀ x∈op.operands,ev' x=ev x) {r:Prop×AV} (h:a3s P hp ev op=some r):a3s P hp' ev' op=some r:=by
 unfold a3s at h
 split at h<;>simp only [Op.operands,Call.operands] at he
 ·rename_i x;simp only [a3s,he x (by simp)];exact h
 ·rename_i x;simp only [a3s,he x (by simp)];exact h
 ·rename_i c x y;simp only [a3s,he c (by simp),he x (by simp),he y (by simp)];exact h
 ·rename_i t parts
  have e:=c0A (ev:=ev) (ev':=ev') (fun a:Nat×Operand=>a.2) (fun a z=>(a.1,z)) parts.toList (fun x hx=>he x.2 (by simp;exact⟨x.1,by simpa using hx⟩))
  simp only [a3s,e];exact h
 ·rename_i x;simp only [a3s,he x (by simp)];exact c3G hx h
 ·rename_i x;simp only [a3s,he x (by simp)];exact h
 ·rename_i op t x y _
  simp only [a3s]
  have e:a8x P ev' op t x y=a8x P ev op t x y:=by
   unfold a8x
   split
   ·rw [he x (by simp)]
   ·rw [he x (by simp)]
   ·rw [he x (by simp)]
   ·rw [he x (by simp)]
   ·rw [he x (by simp),he y (by simp)]
  rw [e];exact h
 ·rename_i x;simp only [a3s,he x (by simp)];exact h
 ·rename_i x;simp only [a3s,he x (by simp)];exact b8r hx h
 ·rename_i t x lo hi
  simp only [a3s,he x (by simp),b0M lo (fun y hy=>he y (by simp at hy ⊢;exact .inr (.inl hy))),b0M hi (fun y hy=>he y (by simp at hy ⊢;exact .inr (.inr hy)))]
  exact h
 ·rename_i t x lo hi m
  simp only [a3s,he x (by simp),he m (by simp),b0M lo (fun y hy=>he y (by simp at hy ⊢;exact .inr (.inl hy))),b0M hi (fun y hy=>he y (by simp at hy ⊢;exact .inr (.inr (.inl hy))))]
  exact h
 ·rename_i t m k ok;simp only [a3s,he m (by simp),he k (by simp)];exact b5Y hx h
 ·rename_i x f;simp only [a3s,he x (by simp)];exact h
 ·rename_i x f;simp only [a3s,he x (by simp)];exact h
 ·rename_i t x i;simp only [a3s,he x (by simp),he i (by simp)];exact b09 hx h
 ·rename_i t x i;simp only [a3s,he x (by simp),he i (by simp)];exact h
 ·rename_i x i;simp only [a3s,he x (by simp)];exact h
 ·exact h
 ·rename_i x t;simp only [a3s,he x (by simp)];exact b9H hx h
 ·rename_i xs ts
  simp only [a3s,b49 xs (fun x hx=>he x (by simp;exact hx))];exact h
 ·rename_i xs ts
  simp only [a3s,b49 xs (fun x hx=>he x (by simp;exact hx))];exact h
 ·cases h
theorem a8Q {hp hp':Nat->Row} (hx:Ext hp hp') {p ver:Nat} {ev ev':Operand->AV} {op:Op} (he:∀ x∈op.operands,ev' x=ev x) {pre:Prop} {z:AV} {row:Row}
  (h:aop P Γ hp p ver ev op=some (pre,z,row)) (hpre:pre):∃ pre',aop P Γ hp' p ver ev' op=some (pre',z,row)/\pre':=by
 unfold aop at h
 split at h
 ·exact⟨pre,by simp only [aop];exact h,hpre⟩
 ·rename_i e x
  refine⟨pre,?_,hpre⟩
  simp only [Op.operands] at he
  simp only [aop,he x (by simp)];exact h
 ·rename_i t n parts
  refine⟨pre,?_,hpre⟩
  simp only [Op.operands] at he
  have e:=c0A (ev:=ev) (ev':=ev') (fun a:Nat×Operand=>a.2) (fun a z=>(a.1,z)) parts.toList (fun x hx=>he x.2 (by simp;exact⟨x.1,by simpa using hx⟩))
  simp only [aop,e];exact h
 ·rename_i t l c
  refine⟨pre,?_,hpre⟩
  simp only [Op.operands] at he
  simp only [aop,he l (by simp),he c (by simp)];exact h
 ·rename_i t r
  refine⟨pre,?_,hpre⟩
  simp only [Op.operands] at he
  simp only [aop,b0M r he];exact h
 ·rename_i f xs ts
  simp only [Op.operands,Call.operands] at he
  have e:=b49 xs (fun x hx=>he x (by simp;exact .inr hx))
  obtain⟨s,hs,rfl,rfl,rfl⟩:=a5f h
  obtain⟨h1,h2,h3⟩:=hpre
  have hvw:(xs.map ev).map (vw hp')=(xs.map ev).map (vw hp):=List.map_congr_left fun x hx'=>(c7Z hx (h1 x hx')).1
  refine⟨(∀ x∈xs.map ev,vwP hp' x)/\s.pre ((xs.map ev).map (vw hp))/\((xs.map ev).any vwO=true->c7u (s.res ((xs.map ev).map (vw hp)))),by simp only [aop,b42,hs,e,hvw],fun x hx'=>(c7Z hx (h1 x hx')).2,h2,h3⟩
 ·rename_i op _ _ _ _ _ _
  split at h
  ·rename_i pre' z' hp1
   have:=c1z hx he hp1
   refine⟨pre,?_,hpre⟩
   unfold aop
   split
   ·rename_i heq _ _ _ _ _;exact absurd rfl (heq _)
   ·rename_i heq _ _ _ _;exact absurd rfl (heq _ _)
   ·rename_i heq _ _ _;exact absurd rfl (heq _ _ _)
   ·rename_i heq _ _;exact absurd rfl (heq _ _ _)
   ·rename_i heq _;exact absurd rfl (heq _ _)
   ·rename_i heq;exact absurd rfl (heq _ _ _)
   ·rw [this];exact h
  ·cases h
def b8H (P:Program) (Γ:Gam) (ops:Array Oper) (fr:Nat->AV) (hp:Nat->Row) (p ver:Nat) (o:Oper):b3x:=
 match o.guard with
 | none=>aop P Γ hp p ver (a9b fr) o.op
 | some (j,want)=>match (ops[j]?).bind (·.dst) with
   | some d=>match a1v (fr d) want with
     | some g=>match aop P Γ hp p ver (evG g o.op (a9b fr)) o.op with
       | some (pre,z,row)=>some (g=true->pre,.gd g z,row)
       | none=>some (g=false,.gd g .any,.dead)
     | none=>none
   | none=>none
theorem c9j (st:AS) (o:Oper):gop P Γ ops st o=b8H P Γ ops st.fr st.hp st.top st.nx o:=rfl
def a5C (ops:Array Oper) (o:Oper):List Tmp:=
 (match o.guard with|some (j,_)=>((ops[j]?).bind (·.dst)).toList|none=>[])++o.op.operands.toList.filterMap fun|.tmp t=>some t|_=>none
theorem b2X {fr fr':Nat->AV} {o:Oper} (h:∀ t∈a5C ops o,fr' t=fr t):∀ x∈o.op.operands,a9b fr' x=a9b fr x:=by
 intro x hx
 cases x with
 | tmp t=>
   refine h t (List.mem_append.2 (.inr (List.mem_filterMap.2 ⟨.tmp t,by simpa using hx,rfl⟩)))
 | _=>rfl
theorem b0z {c:Ctx} {hp:Nat->Row} {η:Env} {w:World} {fr:Nat->AV} {a:Act} {j:Nat} {d:Tmp} {want g:Bool} (hj:(ops[j]?).bind (·.dst)=some d) (hs:Rep w η (a0Y c η hp) (fr d) (a.tmps.getD d undef)) (hg:a1v (fr d) want=some g) :
  (yielded ops a.tmps j==some want)=g:=by
 have key:∀ v,a.tmps.getD d undef=v->(yielded ops a.tmps j=match v with|.bool b=>some b|_=>none):=fun v hb=>by
  unfold yielded
  rw [hj]
  simp only [Option.bind_some]
  rw [Array.getD_eq_getD_getElem?] at hb
  cases hd:a.tmps[d]? with
  | none=>rw [hd] at hb;simp only [Option.getD_none] at hb;subst hb;rfl
  | some u=>rw [hd] at hb;simp only [Option.getD_some] at hb;subst hb;cases u<;>rfl
 unfold a1v at hg
 split at hg
 ·rename_i b heq
  rw [heq] at hs
  simp only [Option.some.injEq] at hg
  rw [key _ hs,<-hg]
  cases b<;>cases want<;>rfl
 ·rename_i gg b heq
  rw [heq] at hs
  simp only [Option.some.injEq] at hg
  cases gg with
  | false=>rw [key _ (hs.2 rfl),<-hg];rfl
  | true=>
    rw [key _ (hs.1 rfl),<-hg]
    cases b<;>cases want<;>rfl
 ·cases hg
theorem c29 (hΓ:GOK P Γ) {c:Ctx} {hp hp':Nat->Row} {nx:Nat} {η:Env} {w:World} (hx:Ext hp hp') (hs:HS c hp' nx η w) {fr fr':Nat->AV} {a:Act} (hsl:∀ t,Rep w η (a0Y c η hp') (fr' t) (a.tmps.getD t undef))
  {p ver:Nat} {o:Oper} (h:∀ t∈a5C ops o,fr' t=fr t) {pre:Prop} {z:AV} {row:Row} (ho:b8H P Γ ops fr hp p ver o=some (pre,z,row)) (hpre:pre) (hrow:row=.dead\/(hp' p=row/\η ver=none/\c.n0<=ver))
  {K:Act->World->Prop} {Q:Exit->Act->World->Prop}
  (hK:∀ v η' w',HS c hp' nx η' w'->Stp c hp' η w η' w'->(∀ k,k≠ver\/row=.dead->η' k=η k)->Rep w' η' (a0Y c η' hp') z v->K (a.put o.dst v) w') :
  if Region.wanted o (yielded ops a.tmps) then o.wp P a w K Q else K (a.put o.dst undef) w:=by
 have hev:=b2X h
 unfold b8H at ho
 split at ho
 ·rename_i hg
  rw [if_pos (by simp [Region.wanted,hg])]
  obtain⟨pre',h1,h2⟩:=a8Q hx hev ho hpre
  exact b7t hΓ hs (a1X hsl) h1 h2 hrow hK
 ·rename_i j want hg
  split at ho
  ·rename_i d hj
   have hfd:fr' d=fr d:=h d (List.mem_append.2 (.inl (by simp [hg,hj])))
   split at ho
   ·rename_i g hgv
    split at ho
    ·rename_i pre1 z1 row1 ha
     simp only [Option.some.injEq,Prod.mk.injEq] at ho
     obtain⟨rfl,rfl,rfl⟩:=ho
     have hy:=b0z (c:=c) (hp:=hp') (η:=η) (w:=w) (fr:=fr') hj (hsl d) (by rw [hfd];exact hgv)
     have hw:Region.wanted o (yielded ops a.tmps)=g:=by simp only [Region.wanted,hg];exact hy
     rw [hw]
     cases g with
     | true=>
       simp only [if_true]
       obtain⟨pre2,h2,hp2⟩:=a8Q (Γ:=Γ) hx (ev:=evG true o.op (a9b fr)) (ev':=evG true o.op (a9b fr')) (fun x hx'=>b9K (hev x hx')) ha (hpre rfl)
       exact b7t hΓ hs (fun x=>b96 rfl (a1X hsl x)) h2 hp2 hrow fun v η' w' h1 h2 h3 h4=>hK v η' w' h1 h2 h3 ⟨fun _=>h4,fun h=>(by cases h)⟩
     | false=>
       simp only [Bool.false_eq_true,if_false]
       exact hK undef η w hs (Stp.refl _ _ _ _) (fun _ _=>rfl) ⟨fun h=>(by cases h),fun _=>rfl⟩
    ·simp only [Option.some.injEq,Prod.mk.injEq] at ho
     obtain⟨rfl,rfl,rfl⟩:=ho
     subst hpre
     have hy:=b0z (c:=c) (hp:=hp') (η:=η) (w:=w) (fr:=fr') hj (hsl d) (by rw [hfd];exact hgv)
     have hw:Region.wanted o (yielded ops a.tmps)=false:=by simp only [Region.wanted,hg];exact hy
     rw [hw]
     simp only [Bool.false_eq_true,if_false]
     exact hK undef η w hs (Stp.refl _ _ _ _) (fun _ _=>rfl) ⟨fun h=>(by cases h),fun _=>rfl⟩
   ·cases ho
  ·cases ho
def frS (S:Nat->Bool):Nat->List (Option Tmp×AV)->(Nat->AV)->(Nat->AV)
 | _,[],f=>f
 | i,(d,z)::r,f=>frS S (i+1) r (if S i then a2b f d z else f)
theorem a2f {S S':Nat->Bool} {t:Nat}:∀ (l:List (Option Tmp×AV)) (i:Nat) (f f':Nat->AV),f t=f' t->(∀ k d z,l[k]?=some (d,z)->d=some t->S (i+k)=S' (i+k))->frS S i l f t=frS S' i l f' t
 | [],_,_,_,h,_=>h
 | (d,z)::r,i,f,f',h,hS=>by
   unfold frS
   refine a2f r (i+1) _ _ ?_ (fun k d' z' hk hd=>by have:=hS (k+1) d' z' (by simpa using hk) hd;rwa [show i+(k+1)=i+1+k by omega] at this)
   by_cases e:d=some t
   ·have:=hS 0 d z rfl e
    simp only [Nat.add_zero] at this
    rw [this]
    cases S' i<;>simp [a24,e,h]
   ·cases S i<;>cases S' i<;>simp [a24,e,h]
theorem b40 {S:Nat->Bool}:∀ (l:List (Option Tmp×AV)) (i:Nat) (f:Nat->AV) (j:Nat) (d:Option Tmp) (z:AV),l[j]?=some (d,z)->S (i+j)=false->
  (∀ k d' z',l[k]?=some (d',z')->j<k->S (i+k)=true->∀ t,d=some t->d'≠some t)->
  frS (fun k=>if k=i+j then true else S k) i l f=a2b (frS S i l f) d z
 | [],_,_,j,_,_,h,_,_=>by simp at h
 | (d0,z0)::r,i,f,j,d,z,h,hS,hlast=>by
   funext t
   unfold frS
   cases j with
   | zero=>
     simp only [List.getElem?_cons_zero,Option.some.injEq,Prod.mk.injEq] at h
     obtain⟨rfl,rfl⟩:=h
     simp only [Nat.add_zero] at hS
     simp only [Nat.add_zero,if_true,hS,Bool.false_eq_true,if_false]
     have e1:frS (fun k=>if k=i then true else S k) (i+1) r (a2b f d0 z0) t=frS S (i+1) r (a2b f d0 z0) t:=
      a2f r (i+1) _ _ rfl (fun k d' z' _ _=>by rw [if_neg (by omega)])
     rw [e1,a24]
     by_cases e:d0=some t
     ·rw [if_pos e]
      have:frS S (i+1) r (a2b f d0 z0) t=frS (fun _=>false) (i+1) r (a2b f d0 z0) t:=a2f r (i+1) _ _ rfl fun k d' z' hk hd=>by
       cases hs:S (i+1+k) with
       | false=>rfl
       | true=>exact absurd hd (hlast (k+1) d' z' (by simpa using hk) (by omega) (by rw [show i+(k+1)=i+1+k by omega];exact hs) t e)
      rw [this]
      have none_:∀ (r:List (Option Tmp×AV)) (i:Nat) (f:Nat->AV),frS (fun _=>false) i r f=f:=by
       intro r
       induction r with
       | nil=>intro _ _;rfl
       | cons x r ih=>
         intro i f
         obtain⟨d1,z1⟩:=x
         unfold frS
         simp only [Bool.false_eq_true,if_false]
         exact ih (i+1) f
      rw [none_,a24,if_pos e]
     ·rw [if_neg e]
      exact a2f r (i+1) _ _ (by rw [a24,if_neg e]) fun _ _ _ _ _=>rfl
   | succ j=>
     have h':r[j]?=some (d,z):=by simpa using h
     have hne:¬i=i+(j+1):=by omega
     simp only [if_neg hne]
     have:=b40 (S:=S) r (i+1) (if S i=true then a2b f d0 z0 else f) j d z h' (by rw [show i+1+j=i+(j+1) by omega];exact hS)
      (fun k d' z' hk hlt hs=>hlast (k+1) d' z' (by simpa using hk) (by omega) (by rw [show i+(k+1)=i+1+k by omega];exact hs))
     rw [show i+1+j=i+(j+1) by omega] at this
     rw [this]
inductive TR (P:Program) (Γ:Gam) (ops:Array Oper):List Oper->AS->List (AV×Row)->AS->Prop where
 | nil (st:AS):TR P Γ ops [] st [] st
 | cons {o:Oper} {r:List Oper} {st st':AS} {pre:Prop} {z:AV} {row:Row} {vs:List (AV×Row)}:gop P Γ ops st o=some (pre,z,row)->a0N st.sz o.dst->pre->
   TR P Γ ops r (st.put o.dst z row) vs st'->TR P Γ ops (o::r) st ((z,row)::vs) st'
theorem b3I (st:AS) (d:Option Tmp) (z:AV) (row:Row):(st.put d z row).sz=st.sz/\(st.put d z row).df=st.df/\(st.put d z row).fr=a2b st.fr d z:=by cases row<;>exact⟨rfl,rfl,rfl⟩
theorem a33 (st:AS) (d:Option Tmp) (z:AV) {row:Row} (h:row≠.dead):(st.put d z row).hp=a0S st.hp st.top row/\(st.put d z row).top=st.top+1/\(st.put d z row).nx=st.nx+1:=by
 cases row with
 | dead=>exact absurd rfl h
 | _=>exact⟨rfl,rfl,rfl⟩
theorem c4J (st:AS) (d:Option Tmp) (z:AV):(st.put d z .dead).hp=st.hp/\(st.put d z .dead).top=st.top/\(st.put d z .dead).nx=st.nx:=⟨rfl,rfl,rfl⟩
theorem c88 {st:AS} {o:Oper} {pre:Prop} {z:AV} {row:Row} (h:gop P Γ ops st o=some (pre,z,row)):row=.dead\/row.ver=some st.nx:=by
 unfold gop at h
 split at h
 ·exact b2v h
 ·split at h
  ·split at h
   ·split at h
    ·rename_i ha
     simp only [Option.some.injEq,Prod.mk.injEq] at h
     obtain⟨_,_,rfl⟩:=h
     exact b2v ha
    ·simp only [Option.some.injEq,Prod.mk.injEq] at h
     obtain⟨_,_,rfl⟩:=h
     exact .inl rfl
   ·cases h
  ·cases h
structure At (P:Program) (Γ:Gam) (ops:Array Oper) (st0 st':AS) (o:Oper) (z:AV) (row:Row) (stj:AS):Prop where
 pre:∃ pre,gop P Γ ops stj o=some (pre,z,row)/\pre
 dst:a0N st0.sz o.dst
 ext:Ext stj.hp st'.hp
 rowAt:row≠.dead->st'.hp stj.top=row
 nxAt:row≠.dead->st0.nx<=stj.nx/\stj.nx<st'.nx
theorem TR.ext {l:List Oper} {st st':AS} {vs:List (AV×Row)} (h:TR P Γ ops l st vs st'):(∀ p,st.top<=p->st.hp p=.dead)->
  Ext st.hp st'.hp/\(∀ p,st'.top<=p->st'.hp p=.dead)/\st.top<=st'.top/\st.nx<=st'.nx/\st'.sz=st.sz/\st'.df=st.df/\(∀ p,p<st.top->st'.hp p=st.hp p)/\vs.length=l.length:=by
 induction h with
 | nil st=>exact fun hd=>⟨Ext.refl _,hd,Nat.le_refl _,Nat.le_refl _,rfl,rfl,fun _ _=>rfl,rfl⟩
 | @cons o r st st' pre z row vs hg hd hp _ ih=>
   intro hdead
   obtain⟨e1,e2,_⟩:=b3I st o.dst z row
   by_cases hr:row=.dead
   ·subst hr
    obtain⟨a1,a2,a3⟩:=c4J st o.dst z
    rw [a1,a2,a3,e1,e2] at ih
    obtain⟨i1,i2,i3,i4,i5,i6,i7,i8⟩:=ih hdead
    exact⟨i1,i2,i3,i4,i5,i6,i7,by simp [i8]⟩
   ·obtain⟨a1,a2,a3⟩:=a33 st o.dst z hr
    rw [a1,a2,a3,e1,e2] at ih
    obtain⟨i1,i2,i3,i4,i5,i6,i7,i8⟩:=ih fun p hp=>by rw [a0f _ _ (by omega)];exact hdead p (by omega)
    refine⟨Ext.trans (fun p=>?_) i1,i2,by omega,by omega,i5,i6,fun p hp=>by rw [i7 p (by omega),a0f _ _ (by omega)],by simp [i8]⟩
    by_cases e:p=st.top
    ·exact .inl (e▸hdead _ (Nat.le_refl _))
    ·exact .inr (a0f _ _ e)
def a4b:List Oper->List (AV×Row)->List (Option Tmp×AV)
 | o::r,(z,_)::vs=>(o.dst,z)::a4b r vs
 | _,_=>[]
theorem TR.at {l:List Oper} {st st':AS} {vs:List (AV×Row)} (h:TR P Γ ops l st vs st'):(∀ p,st.top<=p->st.hp p=.dead)->∀ (i:Nat) (f:Nat->AV),f=st.fr->
  ∃ sts:Nat->AS,(∀ j o,l[j]?=some o->∃ z row,vs[j]?=some (z,row)/\(a4b l vs)[j]?=some (o.dst,z)/\At P Γ ops st st' o z row (sts j)/\(sts j).fr=frS (fun k=>decide (k<i+j)) i (a4b l vs) f)/\
   (∀ j k z row z' row',j<k->vs[j]?=some (z,row)->vs[k]?=some (z',row')->row≠.dead->row'≠.dead->(sts j).nx<(sts k).nx)/\
   st'.fr=frS (fun _=>true) i (a4b l vs) f:=by
 induction h with
 | nil st=>exact fun _ i f hf=>⟨fun _=>st,fun j o hj=>by simp at hj,fun j k z row z' row' _ hj=>by simp at hj,by simp [a4b,frS,hf]⟩
 | @cons o r st st' pre z row vs hg hd hp htr ih=>
   intro hdead i f hf
   obtain⟨e1,e2,e3⟩:=b3I st o.dst z row
   have hdead':∀ p,(st.put o.dst z row).top<=p->(st.put o.dst z row).hp p=.dead:=by
    by_cases hr:row=.dead
    ·subst hr;exact hdead
    ·obtain⟨a1,a2,_⟩:=a33 st o.dst z hr
     rw [a1,a2]
     exact fun p hp=>by rw [a0f _ _ (by omega)];exact hdead p (by omega)
   obtain⟨x1,x2,x3,x4,x5,x6,x7,x8⟩:=htr.ext hdead'
   have hE:Ext st.hp st'.hp:=((TR.cons hg hd hp htr).ext hdead).1
   obtain⟨sts,h1,h2,h3⟩:=ih hdead' (i+1) (a2b f o.dst z) (by rw [e3,hf])
   have tail:∀ (S:Nat->Bool),S i=true->frS S i (a4b (o::r) ((z,row)::vs)) f=frS S (i+1) (a4b r vs) (a2b f o.dst z):=fun S hS=>by simp [a4b,frS,hS]
   refine⟨fun j=>match j with|0=>st|j+1=>sts j,fun j o' hj=>?_,fun j k zj rj zk rk hlt hj hk hrj hrk=>?_,?_⟩
   ·cases j with
    | zero=>
      simp only [List.getElem?_cons_zero,Option.some.injEq] at hj
      subst hj
      refine⟨z,row,rfl,rfl,⟨⟨pre,hg,hp⟩,hd,hE,fun hr=>?_,fun hr=>?_⟩,?_⟩
      ·obtain⟨a1,a2,_⟩:=a33 st o.dst z hr
       rw [x7 st.top (by rw [a2];omega),a1,a0k]
      ·obtain⟨_,_,a3⟩:=a33 st o.dst z hr
       exact⟨Nat.le_refl _,by show st.nx<st'.nx;omega⟩
      ·have:∀ (l:List (Option Tmp×AV)) (i':Nat) (f:Nat->AV),i<=i'->frS (fun k=>decide (k<i+0)) i' l f=f:=by
        intro l
        induction l with
        | nil=>intro _ _ _;rfl
        | cons x l ih=>intro i' f hle;unfold frS;rw [if_neg (by simp;omega)];exact ih (i'+1) f (by omega)
       simp only
       rw [this _ i f (Nat.le_refl _),hf]
    | succ j=>
      obtain⟨z',row',hv,hpu,hat,hfr⟩:=h1 j o' (by simpa using hj)
      refine⟨z',row',by simpa using hv,by simpa [a4b] using hpu,⟨hat.pre,by rw [<-e1];exact hat.dst,hat.ext,hat.rowAt,fun hr=>?_⟩,?_⟩
      ·have:=hat.nxAt hr
       have hle:st.nx<=(st.put o.dst z row).nx:=by
        by_cases hr:row=.dead
        ·subst hr;exact Nat.le_refl _
        ·rw [(a33 st o.dst z hr).2.2];omega
       exact⟨by show st.nx<=(sts j).nx;omega,this.2⟩
      ·simp only
       rw [hfr,tail _ (by simp),show i+1+j=i+(j+1) by omega]
   ·cases k with
    | zero=>omega
    | succ k=>
      cases j with
      | zero=>
        simp only [List.getElem?_cons_zero,Option.some.injEq,Prod.mk.injEq] at hj
        obtain⟨rfl,rfl⟩:=hj
        have hlen:k<r.length:=by
         have:k<vs.length:=(List.getElem?_eq_some_iff.1 (by simpa using hk)).1
         omega
        obtain⟨z',row',hv,_,hat,_⟩:=h1 k r[k] (List.getElem?_eq_getElem hlen)
        have hk':vs[k]?=some (zk,rk):=by simpa using hk
        rw [hk'] at hv
        simp only [Option.some.injEq,Prod.mk.injEq] at hv
        obtain⟨rfl,rfl⟩:=hv
        have:=(hat.nxAt hrk).1
        rw [(a33 st o.dst z hrj).2.2] at this
        simp only
        omega
      | succ j=>exact h2 j k zj rj zk rk (by omega) (by simpa using hj) (by simpa using hk) hrj hrk
   ·rw [h3,tail _ rfl]
theorem TR.declare {c:Ctx} {η:Env} {w:World} {l:List Oper} {st st':AS} {vs:List (AV×Row)} (h:TR P Γ ops l st vs st'):HS c st.hp st.nx η w->
  HS c st'.hp st'.nx η w/\∀ b,a0Y c η st'.hp b->a0Y c η st.hp b:=by
 induction h with
 | nil st=>exact fun hs=>⟨hs,fun _ h=>h⟩
 | @cons o r st st' pre z row vs hg hd hp _ ih=>
   intro hs
   by_cases hr:row=.dead
   ·subst hr;exact ih hs
   ·obtain⟨a1,_,a3⟩:=a33 st o.dst z hr
    rw [a1,a3] at ih
    obtain⟨h1,h2⟩:=hs.declare (p:=st.top) ((c88 hg).resolve_left hr)
    obtain⟨h3,h4⟩:=ih h1
    exact⟨h3,fun b hb=>h2 b (h4 b hb)⟩
theorem a8g {l:List Oper} {vs:List (AV×Row)} {k:Nat} {x:Option Tmp×AV} (h:(a4b l vs)[k]?=some x):k<l.length:=by
 have:∀ (l:List Oper) (vs:List (AV×Row)),(a4b l vs).length<=l.length:=by
  intro l
  induction l with
  | nil=>intro vs;simp [a4b]
  | cons o l ih=>
    intro vs
    cases vs with
    | nil=>simp [a4b]
    | cons v vs=>obtain⟨z,row⟩:=v;simp only [a4b,List.length_cons];have:=ih vs;omega
 have h1:=(List.getElem?_eq_some_iff.1 h).1
 have:=this l vs
 omega
theorem b2Z:∀ (r:List (Option Tmp×AV)) (i:Nat) (f:Nat->AV) (t:Nat),frS (fun _=>false) i r f t=f t
 | [],_,_,_=>rfl
 | (d,z)::r,i,f,t=>by
   unfold frS
   simp only [Bool.false_eq_true,if_false]
   exact b2Z r (i+1) f t
end
end Go.Proofs.YthpjjjnbkfnghaaGreatDoor
namespace Go.Proofs.YthpjjjnbkfnghaaGreatDoor
open Go
def a66 (M:List Nat):List Edge->Nat
 | []=>0
 | e::es=>if Region.binds .any e then a66 M es ||| (2 ^ e.on ||| M.getD e.on 0) else a66 M es
def a30:List Nat->List Oper->List Nat
 | acc,[]=>acc
 | acc,o::r=>a30 (acc++[a66 acc o.after.toList]) r
def a5c (ops:Array Oper) (a b:Oper):Bool:=
 (match a.dst with|some t=>b.dst==some t||(a5C ops b).contains t|none=>false)||(match b.dst with|some t=>(a5C ops a).contains t|none=>false)
def chk (ops:Array Oper) (all:List Nat) (m:Nat):Nat->List Nat->List (Nat×Oper)->List Oper->Bool
 | _,_,_,[]=>true
 | _,[],_,_::_=>false
 | j,mj::M,prev,o::r=>mj==a66 all o.after.toList&&o.after.toList.all (fun e=>!Region.binds .any e||decide (e.on<j)) &&
   prev.all (fun p=>(decide (j<m)&&!a5c ops p.2 o)||mj.testBit p.1)&&chk ops all m (j+1) M ((j,o)::prev) r
def c2O (l:List Oper) (m:Nat):Bool:=chk l.toArray (a30 [] l) m 0 (a30 [] l) [] l
theorem a9K {M:List Nat} {i:Nat}:∀ {es:List Edge},(a66 M es).testBit i=true->∃ e∈es,Region.binds .any e=true/\(e.on=i\/(M.getD e.on 0).testBit i=true)
 | [],h=>by simp [a66] at h
 | e::es,h=>by
   unfold a66 at h
   split at h
   ·rename_i hb
    rw [Nat.testBit_or,Nat.testBit_or,Bool.or_eq_true,Bool.or_eq_true] at h
    rcases h with h|h|h
    ·obtain⟨e',he,r⟩:=a9K h
     exact⟨e',List.mem_cons_of_mem _ he,r⟩
    ·rw [Nat.testBit_two_pow] at h
     exact⟨e,List.mem_cons_self ..,hb,.inl (by simpa using h)⟩
    ·exact⟨e,List.mem_cons_self ..,hb,.inr h⟩
   ·obtain⟨e',he,r⟩:=a9K h
    exact⟨e',List.mem_cons_of_mem _ he,r⟩
theorem a9Q {ops:Array Oper} {all:List Nat} {m:Nat}:∀ (l:List Oper) (j0:Nat) (M:List Nat) (prev:List (Nat×Oper)),chk ops all m j0 M prev l=true->
  ∀ (j:Nat) (o:Oper),l[j]?=some o->M.getD j 0=a66 all o.after.toList/\(∀ e∈o.after.toList,Region.binds .any e=true->e.on<j0+j)/\
   (∀ p∈prev,(j0+j<m->a5c ops p.2 o=true)->(M.getD j 0).testBit p.1=true)/\
   (∀ (i:Nat) (oi:Oper),i<j->l[i]?=some oi->(j0+j<m->a5c ops oi o=true)->(M.getD j 0).testBit (j0+i)=true)
 | [],_,_,_,_,j,_,h=>by simp at h
 | _::_,_,[],_,h,_,_,_=>by simp [chk] at h
 | o::r,j0,mj::M,prev,h,j,o',hj=>by
   simp only [chk,Bool.and_eq_true] at h
   obtain⟨⟨⟨h1,h2⟩,h3⟩,h4⟩:=h
   cases j with
   | zero=>
     simp only [List.getElem?_cons_zero,Option.some.injEq] at hj
     subst hj
     refine⟨by simpa using h1,fun e he hb=>?_,fun p hp ht=>?_,fun i _ hi=>absurd hi (by omega)⟩
     ·have:=List.all_eq_true.1 h2 e he
      simpa [hb] using this
     ·have:=List.all_eq_true.1 h3 p hp
      simp only [Bool.or_eq_true,Bool.and_eq_true,decide_eq_true_eq,Bool.not_eq_true'] at this
      rcases this with⟨hlt,hn⟩|hb
      ·rw [ht (by omega)] at hn;cases hn
      ·simpa using hb
   | succ j=>
     have:=a9Q r (j0+1) M ((j0,o)::prev) h4 j o' (by simpa using hj)
     obtain⟨g1,g2,g3,g4⟩:=this
     simp only [List.getD_cons_succ]
     refine⟨g1,fun e he hb=>by have:=g2 e he hb;omega,fun p hp ht=>g3 p (List.mem_cons_of_mem _ hp) (fun hlt=>ht (by omega)),fun i oi hi hoi ht=>?_⟩
     cases i with
     | zero=>
       simp only [List.getElem?_cons_zero,Option.some.injEq] at hoi
       subst hoi
       exact g3 (j0,o) (List.mem_cons_self ..) (fun hlt=>ht (by omega))
     | succ i=>
       have:=g4 i oi (by omega) (by simpa using hoi) (fun hlt=>ht (by omega))
       rwa [show j0+1+i=j0+(i+1) by omega] at this
structure b4U (l:List Oper) (m:Nat):Prop where
 edge:∀ (j:Nat) (o:Oper),l[j]?=some o->∀ e∈o.after,Region.binds .any e=true->e.on<j
 bit:∀ (j:Nat) (o:Oper),l[j]?=some o->∀ i,((a30 [] l).getD j 0).testBit i=true->∃ e∈o.after,Region.binds .any e=true/\(e.on=i\/((a30 [] l).getD e.on 0).testBit i=true)
 tch:∀ (i j:Nat) (oi oj:Oper),i<j->l[i]?=some oi->l[j]?=some oj->(j<m->a5c l.toArray oi oj=true)->((a30 [] l).getD j 0).testBit i=true
theorem b4U.of {l:List Oper} {m:Nat} (h:c2O l m=true):b4U l m where
 edge:=fun j o hj e he hb=>by have:=(a9Q l 0 _ [] h j o hj).2.1 e (by simpa using he) hb;omega
 bit:=fun j o hj i hi=>by
  have h1:=(a9Q l 0 _ [] h j o hj).1
  rw [h1] at hi
  obtain⟨e,he,r⟩:=a9K hi
  exact⟨e,by simpa using he,r⟩
 tch:=fun i j oi oj hij hi hj ht=>by
  have:=(a9Q l 0 _ [] h j oj hj).2.2.2 i oi hij hi (fun hlt=>ht (by omega))
  rwa [Nat.zero_add] at this
def b14 (l:List Oper) (S:Nat->Bool):Prop:=∀ (j:Nat) (o:Oper),l[j]?=some o->S j=true->∀ e∈o.after,Region.binds .any e=true->S e.on=true
theorem b4U.anc {l:List Oper} {m:Nat} (h:b4U l m) {S:Nat->Bool} (hc:b14 l S):∀ (n j:Nat) (o:Oper),j<=n->l[j]?=some o->(∀ e∈o.after,Region.binds .any e=true->S e.on=true)->
  ∀ i,((a30 [] l).getD j 0).testBit i=true->S i=true:=by
 intro n
 induction n with
 | zero=>
   intro j o hjn hj hS i hi
   obtain⟨e,he,hb,r⟩:=h.bit j o hj i hi
   have:=h.edge j o hj e he hb
   omega
 | succ n ih=>
   intro j o hjn hj hS i hi
   obtain⟨e,he,hb,r⟩:=h.bit j o hj i hi
   have hlt:=h.edge j o hj e he hb
   rcases r with r|r
   ·rw [<-r];exact hS e he hb
   ·have hlen:e.on<l.length:=by
     have:=(List.getElem?_eq_some_iff.1 hj).1
     omega
    exact ih e.on l[e.on] (by omega) (List.getElem?_eq_getElem hlen) (fun e' he' hb'=>hc e.on _ (List.getElem?_eq_getElem hlen) (hS e he hb) e' he' hb') i r
section
variable {P:Program} {Γ:Gam}
def a9k (P:Program) (Γ:Gam) (ops:Array Oper):Nat->List Oper->AS->(AS->Prop)->Prop
 | 0,l,st,K=>a9G P Γ ops l st K
 | _+1,[],st,K=>K st
 | m+1,o::r,st,K=>match gop P Γ ops st o with
   | some (pre,z,row)=>(a0N st.sz o.dst/\pre)/\a9k P Γ ops m r (st.put o.dst z row) K
   | none=>False
theorem b7E {ops:Array Oper} {K:AS->Prop}:∀ (m:Nat) (l:List Oper) (st:AS),a9k P Γ ops m l st K->∃ vs st',TR P Γ ops (l.take m) st vs st'/\a9G P Γ ops (l.drop m) st' K
 | 0,l,st,h=>⟨[],st,by simpa using TR.nil st,by unfold a9k at h;simpa using h⟩
 | m+1,[],st,h=>⟨[],st,by simpa using TR.nil st,by unfold a9k at h;simpa [a9G] using h⟩
 | m+1,o::r,st,h=>by
   unfold a9k at h
   split at h
   ·rename_i pre z row hg
    obtain⟨⟨hd,hp⟩,hx⟩:=h
    obtain⟨vs,st',h1,h2⟩:=b7E m r _ hx
    exact⟨(z,row)::vs,st',by simpa using TR.cons hg hd hp h1,by simpa using h2⟩
   ·exact h.elim
def left (listed:Array Bool) (n:Nat):Nat:=(List.range n).countP fun i=>!listed.getD i false
theorem a6A (listed:Array Bool) {j:Nat} (hj:listed.getD j true=false):∀ n,(List.range n).countP (fun i=>!(listed.setIfInBounds j true).getD i false)+(if j<n then 1 else 0)=(List.range n).countP fun i=>!listed.getD i false
 | 0=>by simp
 | n+1=>by
   have hjs:j<listed.size:=by
    rcases Nat.lt_or_ge j listed.size with h|h
    ·exact h
    ·simp [h] at hj
   have ih:=a6A listed hj n
   rw [List.range_succ,List.countP_append,List.countP_append,List.countP_singleton,List.countP_singleton]
   by_cases e:j=n
   ·subst e
    have h1:(listed.setIfInBounds j true).getD j false=true:=by simp [hjs]
    have h2:listed.getD j false=false:=by simpa [hjs] using hj
    rw [h1,h2]
    rw [if_neg (by omega)] at ih
    simp
    simpa using ih
   ·have h1:(listed.setIfInBounds j true).getD n false=listed.getD n false:=by
     simp only [Array.getD_eq_getD_getElem?,Array.getElem?_setIfInBounds_ne e]
    rw [h1]
    by_cases hlt:j<n
    ·have e2:(if j<n+1 then 1 else 0)=1:=if_pos (by omega)
     rw [e2];rw [if_pos hlt] at ih;omega
    ·have e2:(if j<n+1 then 1 else 0)=0:=if_neg (by omega)
     rw [e2];rw [if_neg hlt] at ih;omega
theorem a68 {listed:Array Bool} {n j:Nat} (hs:listed.size=n) (hj:j<n) (d:Bool):listed.getD j d=listed.getD j false:=by
 subst hs
 simp [hj]
theorem b1z {l:List Oper} {m:Nat} (hD:b4U l m) {listed:Array Bool} (hs:listed.size=l.length) (h:left listed l.length≠0):∃ j,j∈Region.ready .any l.toArray listed:=by
 have hex:∃ j,j<l.length/\listed.getD j false=false:=by
  have:0<(List.range l.length).countP fun i=>!listed.getD i false:=Nat.pos_of_ne_zero h
  obtain⟨j,hj,hn⟩:=List.countP_pos_iff.1 this
  exact⟨j,by simpa using hj,by simpa using hn⟩
 have hmin:∀ n,(∃ j,j<=n/\j<l.length/\listed.getD j false=false)->∃ j,j<l.length/\listed.getD j false=false/\∀ k,k<j->listed.getD k false=true:=by
  intro n
  induction n with
  | zero=>
    rintro⟨j,hj,h1,h2⟩
    exact⟨j,h1,h2,fun k hk=>by omega⟩
  | succ n ih=>
    rintro⟨j,hj,h1,h2⟩
    by_cases hall:∀ k,k<j->listed.getD k false=true
    ·exact⟨j,h1,h2,hall⟩
    ·have:∃ k,k<j/\listed.getD k false=false:=by
      apply Classical.byContradiction
      intro hno
      apply hall
      intro k hk
      cases hv:listed.getD k false with
      | true=>rfl
      | false=>exact absurd ⟨k,hk,hv⟩ hno
     obtain⟨k,hk,hv⟩:=this
     exact ih ⟨k,by omega,by omega,hv⟩
 obtain⟨j0,h1,h2⟩:=hex
 obtain⟨j,hj,hn,hall⟩:=hmin j0 ⟨j0,Nat.le_refl _,h1,h2⟩
 refine⟨j,mem_ready.2 ⟨by rw [a68 hs hj];exact hn,l[j],by simp [hj],fun e he hb=>hall _ (hD.edge j l[j] (List.getElem?_eq_getElem hj) e he hb)⟩⟩
theorem a35 {l:List Oper} {listed:Array Bool} (hs:listed.size=l.length) {j:Nat} (h:j∈Region.ready .any l.toArray listed) :
  j<l.length/\listed.getD j true=false/\listed.getD j false=false/\∃ o,l[j]?=some o/\∀ e∈o.after,Region.binds .any e=true->listed.getD e.on false=true:=by
 obtain⟨h0,o,ho,hall⟩:=mem_ready.1 h
 have ho':l[j]?=some o:=by simpa using ho
 have hj:=(List.getElem?_eq_some_iff.1 ho').1
 exact⟨hj,h0,by rw [<-a68 hs hj true];exact h0,o,ho',hall⟩
theorem a2C {listed:Array Bool} {n j:Nat} (hs:listed.size=n) (hj:j<n) (k:Nat):(listed.setIfInBounds j true).getD k false=if k=j then true else listed.getD k false:=by
 subst hs
 by_cases e:k=j
 ·subst e;simp [hj]
 ·rw [if_neg e,Array.getD_eq_getD_getElem?,Array.getElem?_setIfInBounds_ne (Ne.symm e),<-Array.getD_eq_getD_getElem?]
theorem b95 (hΓ:GOK P Γ) {l:List Oper} {m:Nat} (hD:b4U l m) {c:Ctx} {K:AS->Prop} {Q:Exit->Act->World->Prop} (hQ:∀ st' η' a' w',SR c st' η' a' w'->K st'->Q .normal a' w') :
  ∀ (fuel k:Nat) (listed:Array Bool) (st:AS) (η:Env) (a:Act) (w:World),m<=k->listed.size=l.length->(∀ j,j<l.length->listed.getD j false=decide (j<k))->left listed l.length=fuel->SR c st η a w->
   a9G P Γ l.toArray (l.drop k) st K->wpAny P .any l.toArray Q fuel listed a w:=by
 intro fuel
 induction fuel with
 | zero=>
   intro k listed st η a w hk hs hl hleft hsr hx
   have hall:∀ j,j<l.length->listed.getD j false=true:=fun j hj=>by
    cases hv:listed.getD j false with
    | true=>rfl
    | false=>
      have:0<(List.range l.length).countP fun i=>!listed.getD i false:=List.countP_pos_iff.2 ⟨j,by simpa using hj,by simpa using hv⟩
      unfold left at hleft
      omega
   have hkl:l.length<=k:=by
    rcases Nat.lt_or_ge k l.length with h|h
    ·have:=hall k h
     rw [hl k h] at this
     simp at this
    ·exact h
   refine⟨?_,?_⟩
   ·rw [List.eq_nil_iff_forall_not_mem]
    intro j hj
    obtain⟨h1,_,h2,_⟩:=a35 hs hj
    rw [hall j h1] at h2
    cases h2
   ·rw [List.drop_eq_nil_of_le hkl] at hx
    exact hQ _ _ _ _ hsr hx
 | succ fuel ih=>
   intro k listed st η a w hk hs hl hleft hsr hx
   refine⟨fun h0=>?_,fun i hi=>?_⟩
   ·obtain⟨j,hj⟩:=b1z hD hs (by omega)
    rw [h0] at hj
    cases hj
   ·obtain⟨hil,hit,hif,o,ho,hedges⟩:=a35 hs hi
    have hik:k<=i:=by
     rw [hl i hil] at hif
     simpa using hif
    have hcl:b14 l (fun j=>listed.getD j false):=fun j oj hj hSj e he hb=>by
     have hjl:=(List.getElem?_eq_some_iff.1 hj).1
     have h1:=hD.edge j oj hj e he hb
     simp only at hSj ⊢
     rw [hl j hjl] at hSj
     rw [hl e.on (by omega)]
     simp only [decide_eq_true_eq] at hSj ⊢
     omega
    have hei:i=k:=by
     rcases Nat.lt_or_ge k i with hlt|hge
     ·have hkl:k<l.length:=by omega
      have hb:=hD.tch k i l[k] o hlt (List.getElem?_eq_getElem hkl) ho (fun h=>absurd h (by omega))
      have:=hD.anc hcl i i o (Nat.le_refl _) ho hedges k hb
      rw [hl k hkl] at this
      simp at this
     ·omega
    subst hei
    have hdrop:l.drop i=o::l.drop (i+1):=by
     rw [List.drop_eq_getElem_cons hil]
     congr 1
     rw [List.getElem?_eq_getElem hil] at ho
     exact Option.some.inj ho
    rw [hdrop] at hx
    have hnext:∀ st' η' a' w',SR c st' η' a' w'->a9G P Γ l.toArray (l.drop (i+1)) st' K->wpAny P .any l.toArray Q fuel (listed.setIfInBounds i true) a' w':=fun st' η' a' w' hsr' hx'=>by
     refine ih (i+1) _ st' η' a' w' (by omega) (by simpa using hs) (fun j hj=>?_) ?_ hsr' hx'
     ·rw [a2C hs hil,hl j hj]
      by_cases e:j=i
      ·subst e;simp
      ·rw [if_neg e]
       by_cases h1:j<i
       ·simp [h1];omega
       ·have:¬j<i+1:=by omega
        simp [h1,this]
     ·have:=a6A listed hit l.length
      rw [if_pos hil] at this
      unfold left at hleft ⊢
      omega
    unfold wpOp
    have hoo:l.toArray[i]?=some o:=by simpa using ho
    rw [hoo]
    simp only
    unfold a9G at hx
    split at hx
    ·rename_i pre z row hg
     have:=b1G hΓ hsr hg hx.1.2 hx.1.1 (K:=wpAny P .any l.toArray Q fuel (listed.setIfInBounds i true)) (Q:=Q) (fun η' a' w' hsr'=>hnext _ η' a' w' hsr' hx.2)
     split
     ·rename_i hw;rw [if_pos hw] at this;exact .inl this
     ·rename_i hw;rw [if_neg hw] at this;exact this
    ·rw [if_pos (by simp [Region.wanted,hx.1])]
     exact .inl (b4v hΓ hx.2 c η a w _ Q hsr fun st' η' a' w' hsr' hx'=>hnext st' η' a' w' hsr' hx')
theorem AW.draw (hΓ:GOK P Γ) (hm:P.follows .mixedOrders=true) {Q:Exit->AS->Prop} {st:AS} {id:Nat} {l:List Oper} (m:Nat) (hchk:c2O l m=true) (h:a9k P Γ l.toArray m l st (Q .normal)) :
  AW P (.region id l.toArray true) Q st:=by
 intro c η0 a0 w0 hsr0
 have hD:=b4U.of hchk
 obtain⟨vs,stm,htr,hrest⟩:=b7E m l st h
 obtain⟨x1,x2,x3,x4,x5,x6,x7,x8⟩:=htr.ext hsr0.dead
 obtain⟨sts,hat,hnx,hfr⟩:=htr.at hsr0.dead 0 st.fr rfl
 have hdrew:HS c st.hp st.nx η0 w0.drew:=hsr0.hs.world (Fr.refl _ _).drew
 obtain⟨hsm,hLm⟩:=htr.declare hdrew
 refine wp_region_any hm ?_
 have htake:∀ j,j<m->(l.take m)[j]?=l[j]?:=fun j hj=>by rw [List.getElem?_take,if_pos hj]
 have main:∀ (fuel:Nat) (listed:Array Bool) (η:Env) (a:Act) (w:World),listed.size=l.length->left listed l.length=fuel->HS c stm.hp stm.nx η w->a.tmps.size=st.sz->a.defers=st.df->
   (∀ t,Rep w η (a0Y c η stm.hp) (frS (fun i=>listed.getD i false) 0 (a4b (l.take m) vs) st.fr t) (a.tmps.getD t undef))->
   (∀ j z row,vs[j]?=some (z,row)->listed.getD j false=false->row≠.dead->η (sts j).nx=none)->
   b14 l (fun i=>listed.getD i false)->(∀ j,m<=j->j<l.length->listed.getD j false=false)->
   wpAny P .any l.toArray (fun e a' w'=>∃ st' η',Q e st'/\SR c st' η' a' w') fuel listed a w:=by
  intro fuel
  induction fuel with
  | zero=>
    intro listed η a w hs hleft hhs hsz hdf hsl hpend hcl hB
    have hall:∀ j,j<l.length->listed.getD j false=true:=fun j hj=>by
     cases hv:listed.getD j false with
     | true=>rfl
     | false=>
       have:0<(List.range l.length).countP fun i=>!listed.getD i false:=List.countP_pos_iff.2 ⟨j,by simpa using hj,by simpa using hv⟩
       unfold left at hleft
       omega
    have hml:l.length<=m:=by
     rcases Nat.lt_or_ge m l.length with h|h
     ·have:=hall m h
      rw [hB m (Nat.le_refl _) h] at this
      cases this
     ·exact h
    refine⟨?_,?_⟩
    ·rw [List.eq_nil_iff_forall_not_mem]
     intro j hj
     obtain⟨h1,_,h2,_⟩:=a35 hs hj
     rw [hall j h1] at h2
     cases h2
    ·rw [List.drop_eq_nil_of_le hml] at hrest
     refine⟨stm,η,hrest,hhs,x2,by rw [hsz,x5],fun t=>?_,by rw [hdf,x6]⟩
     have e:frS (fun i=>listed.getD i false) 0 (a4b (l.take m) vs) st.fr t=frS (fun _=>true) 0 (a4b (l.take m) vs) st.fr t:=a2f _ 0 _ _ rfl fun k d z hk _=>by
      have hkl:k<(l.take m).length:=a8g hk
      simp only [Nat.zero_add]
      exact hall k (by rw [List.length_take] at hkl;omega)
     rw [hfr,<-e]
     exact hsl t
  | succ fuel ih=>
    intro listed η a w hs hleft hhs hsz hdf hsl hpend hcl hB
    by_cases hfull:∀ j,j<m->j<l.length->listed.getD j false=true
    ·
     have hl:∀ j,j<l.length->listed.getD j false=decide (j<m):=fun j hj=>by
      by_cases h1:j<m
      ·rw [hfull j h1 hj];simp [h1]
      ·rw [hB j (by omega) hj];simp [h1]
     have hsr:SR c stm η a w:=by
      refine⟨hhs,x2,by rw [hsz,x5],fun t=>?_,by rw [hdf,x6]⟩
      have e:frS (fun i=>listed.getD i false) 0 (a4b (l.take m) vs) st.fr t=frS (fun _=>true) 0 (a4b (l.take m) vs) st.fr t:=a2f _ 0 _ _ rfl fun k d z hk _=>by
       have hkl:k<(l.take m).length:=a8g hk
       simp only [Nat.zero_add]
       rw [List.length_take] at hkl
       exact hfull k (by omega) (by omega)
      rw [hfr,<-e]
      exact hsl t
     exact b95 hΓ hD (fun st' η' a' w' hsr' hq=>⟨st',η',hq,hsr'⟩) (fuel+1) m listed stm η a w (Nat.le_refl _) hs hl hleft hsr hrest
    ·refine⟨fun h0=>?_,fun i hi=>?_⟩
     ·obtain⟨j,hj⟩:=b1z hD hs (by omega)
      rw [h0] at hj
      cases hj
     ·obtain⟨hil,hit,hif,o,ho,hedges⟩:=a35 hs hi
      have him:i<m:=by
       rcases Nat.lt_or_ge i m with h1|h1
       ·exact h1
       ·exfalso
        apply hfull
        intro j hj hjl
        have hb:=hD.tch j i l[j] o (by omega) (List.getElem?_eq_getElem hjl) ho (fun h=>absurd h (by omega))
        exact hD.anc hcl i i o (Nat.le_refl _) ho hedges j hb
      obtain⟨z,row,hv,hpu,hAt,hfrj⟩:=hat i o (by rw [htake i him];exact ho)
      obtain⟨pre,hg,hp⟩:=hAt.pre
      have hord:∀ k ok,k<m->l[k]?=some ok->k≠i->a5c l.toArray (if k<i then ok else o) (if k<i then o else ok)=true->listed.getD k false=decide (k<i):=by
       intro k ok hkm hk hne ht
       by_cases hlt:k<i
       ·simp only [hlt,if_true] at ht
        have hb:=hD.tch k i ok o hlt hk ho (fun _=>ht)
        have:=hD.anc hcl i i o (Nat.le_refl _) ho hedges k hb
        rw [this];simp [hlt]
       ·simp only [hlt,if_false] at ht
        have hb:=hD.tch i k o ok (by omega) ho hk (fun _=>ht)
        cases hv:listed.getD k false with
        | false=>simp [hlt]
        | true=>
          have:=hD.anc hcl k k ok (Nat.le_refl _) hk (fun e he hbb=>hcl k ok hk hv e he hbb) i hb
          rw [this] at hif
          cases hif
      have hput:∀ k d z',(a4b (l.take m) vs)[k]?=some (d,z')->∃ ok,k<m/\l[k]?=some ok/\d=ok.dst:=fun k d z' hk=>by
       have hkl:k<(l.take m).length:=a8g hk
       rw [List.length_take] at hkl
       have hkm:k<m:=by omega
       obtain⟨z1,row1,_,hpu1,_⟩:=hat k l[k] (by rw [htake k hkm,List.getElem?_eq_getElem (by omega)])
       rw [hk] at hpu1
       simp only [Option.some.injEq,Prod.mk.injEq] at hpu1
       exact⟨l[k],hkm,List.getElem?_eq_getElem (by omega),hpu1.1⟩
      have hlook:∀ t∈a5C l.toArray o,frS (fun k=>listed.getD k false) 0 (a4b (l.take m) vs) st.fr t=(sts i).fr t:=fun t ht=>by
       rw [hfrj]
       refine a2f _ 0 _ _ rfl fun k d z' hk hd=>?_
       obtain⟨ok,hkm,hlk,hdo⟩:=hput k d z' hk
       simp only [Nat.zero_add]
       by_cases e:k=i
       ·subst e;rw [hif];simp
       ·refine hord k ok hkm hlk e ?_
        rw [hdo] at hd
        by_cases hlt:k<i
        ·simp only [hlt,if_true,a5c,hd,Bool.or_eq_true]
         exact .inl (.inr (by simpa using ht))
        ·simp only [hlt,if_false,a5c,hd,Bool.or_eq_true]
         exact .inr (by simpa using ht)
      unfold wpOp
      have hoo:l.toArray[i]?=some o:=by simpa using ho
      rw [hoo]
      simp only
      have:=c29 hΓ (Q:=fun e a' w'=>∃ st' η',Q e st'/\SR c st' η' a' w') hAt.ext hhs hsl (fr:=(sts i).fr) hlook hg hp (by
        by_cases hr:row=.dead
        ·exact .inl hr
        ·exact .inr ⟨hAt.rowAt hr,hpend i z row hv hif hr,Nat.le_trans hsr0.hs.env.2.1 (hAt.nxAt hr).1⟩)
       (K:=wpAny P .any l.toArray (fun e a' w'=>∃ st' η',Q e st'/\SR c st' η' a' w') fuel (listed.setIfInBounds i true)) (fun v η' w' hhs' hst hon hrep=>by
        refine ih _ η' _ w' (by simpa using hs) ?_ hhs' (by rw [a9y];exact hsz) (by rw [a6M];exact hdf) (fun t=>?_) (fun j z1 row1 hv1 hl1 hr1=>?_) (fun j oj hj hSj e he hb=>?_) (fun j hj hjl=>?_)
        ·have:=a6A listed hit l.length
         rw [if_pos hil] at this
         unfold left at hleft ⊢
         omega
        ·have e:frS (fun k=>(listed.setIfInBounds i true).getD k false) 0 (a4b (l.take m) vs) st.fr=a2b (frS (fun k=>listed.getD k false) 0 (a4b (l.take m) vs) st.fr) o.dst z:=by
          have:=b40 (S:=fun k=>listed.getD k false) (a4b (l.take m) vs) 0 st.fr i o.dst z hpu (by simpa using hif) (fun k d' z' hk hlt hSk t hd hd'=>by
           obtain⟨ok,hkm,hlk,hdo⟩:=hput k d' z' hk
           simp only [Nat.zero_add] at hSk
           have:=hord k ok hkm hlk (by omega) (by
            simp only [show ¬k<i by omega,if_false,a5c,hd,Bool.or_eq_true]
            exact .inl (.inl (by rw [<-hdo,hd'];simp)))
           rw [hSk] at this
           simp at this
           omega)
          rw [<-this]
          congr 1
          funext k
          rw [a2C hs hil,Nat.zero_add]
         rw [e,b16 a o.dst v t (by rw [hsz];exact hAt.dst),a24]
         by_cases ed:o.dst=some t
         ·rw [if_pos ed,if_pos ed];exact hrep
         ·rw [if_neg ed,if_neg ed];exact hst.rep (hsl t)
        ·rw [a2C hs hil] at hl1
         have hji:j≠i:=fun e=>by subst e;simp at hl1
         rw [if_neg hji] at hl1
         rw [hon (sts j).nx ?_]
         ·exact hpend j z1 row1 hv1 hl1 hr1
         ·by_cases hr:row=.dead
          ·exact .inr hr
          ·refine .inl fun e=>?_
           rcases Nat.lt_or_gt_of_ne hji with hlt|hlt
           ·have:=hnx j i z1 row1 z row hlt hv1 hv hr1 hr;omega
           ·have:=hnx i j z row z1 row1 hlt hv hv1 hr hr1;omega
        ·simp only at hSj ⊢
         rw [a2C hs hil] at hSj ⊢
         by_cases e1:e.on=i
         ·rw [if_pos e1]
         ·rw [if_neg e1]
          by_cases e2:j=i
          ·subst e2
           rw [hj] at ho
           obtain rfl:=Option.some.inj ho
           exact hedges e he hb
          ·rw [if_neg e2] at hSj
           exact hcl j oj hj hSj e he hb
        ·rw [a2C hs hil,if_neg (by omega)]
         exact hB j hj hjl)
      split
      ·rename_i hw;rw [if_pos hw] at this;exact .inl this
      ·rename_i hw;rw [if_neg hw] at this;exact this
 have hsz:l.toArray.size=l.length:=by simp
 rw [hsz]
 have hfalse:∀ j,(Array.replicate l.length false).getD j false=false:=fun j=>by
  simp only [Array.getD_eq_getD_getElem?,Array.getElem?_replicate]
  split<;>rfl
 refine main l.length (Array.replicate l.length false) η0 a0 w0.drew (by simp) ?_ hsm hsr0.size hsr0.defs (fun t=>?_) (fun j z row hv _ hr=>?_) (fun j o _ hS=>?_) (fun j _ _=>hfalse j)
 ·unfold left
  rw [List.countP_eq_length.2 (fun x _=>by rw [hfalse];rfl),List.length_range]
 ·have e:frS (fun i=>(Array.replicate l.length false).getD i false) 0 (a4b (l.take m) vs) st.fr t=st.fr t:=by
   have hc:=a2f (S:=fun i=>(Array.replicate l.length false).getD i false) (S':=fun _=>false) (t:=t) (a4b (l.take m) vs) 0 st.fr st.fr rfl (fun k d z _ _=>hfalse _)
   rw [hc]
   exact b2Z _ _ _ t
  rw [e]
  exact Rep.keep (Fr.refl (fun _=>False) w0).drew (fun _ _ h=>h.elim) (fun b _ hb=>hLm b hb) _ _ _ _ (Env.le_refl _) (hsr0.slots t)
 ·have hjl:j<(l.take m).length:=by
   have:=(List.getElem?_eq_some_iff.1 hv).1
   omega
  obtain⟨z',row',hv',_,hA,_⟩:=hat j (l.take m)[j] (List.getElem?_eq_getElem hjl)
  rw [hv] at hv'
  simp only [Option.some.injEq,Prod.mk.injEq] at hv'
  obtain⟨rfl,rfl⟩:=hv'
  exact hsr0.hs.fresh _ (hA.nxAt hr).1
 ·simp only [hfalse] at hS
  cases hS
end
end Go.Proofs.YthpjjjnbkfnghaaGreatDoor
namespace Go.Proofs.YthpjjjnbkfnghaaGreatDoor
open Go
structure Kd (α:Type) where
 enc:α->AV
 dec:AV->α
 law:∀ a,dec (enc a)=a
structure El (α:Type) where
 sz:Nat
 enc:α->Nat->AV
 dec:(Nat->AV)->α
 dflt:α
 law:∀ a,dec (enc a)=a
 loc:∀ c c':Nat->AV,(∀ j,j<sz->c j=c' j)->dec c=dec c'
def AV.int:AV->Int
 | .val (.int _ n)=>n
 | _=>0
def AV.bool:AV->Bool
 | .val (.bool b)=>b
 | _=>false
def AV.str:AV->List UInt8
 | .st l=>l
 | _=>[]
def kI:Kd Int:=⟨fun n=>.val (.int .i64 n),AV.int,fun _=>rfl⟩
def kB:Kd Bool:=⟨fun b=>.val (.bool b),AV.bool,fun _=>rfl⟩
def kS:Kd (List UInt8):=⟨.st,AV.str,fun _=>rfl⟩
def eI:El Int:=⟨1,fun n _=>.val (.int .i64 n),fun c=>(c 0).int,0,fun _=>rfl,fun _ _ h=>by rw [h 0 Nat.one_pos]⟩
def eB:El Bool:=⟨1,fun n _=>.val (.bool n),fun c=>(c 0).bool,false,fun _=>rfl,fun _ _ h=>by rw [h 0 Nat.one_pos]⟩
def eS:El (List UInt8):=⟨1,fun n _=>.st n,fun c=>(c 0).str,[],fun _=>rfl,fun _ _ h=>by rw [h 0 Nat.one_pos]⟩
section
variable {α:Type} (E:El α)
def sL (l:List α):AV:=.sn l.length E.sz fun i=>E.enc (l.getD i E.dflt)
def gL:AV->List α
 | .sn n _ c=>(List.range n).map fun i=>E.dec (c i)
 | _=>[]
theorem a5M (l:List α):gL E (sL E l)=l:=by
 unfold sL gL
 simp only [E.law]
 apply List.ext_getElem
 ·simp
 ·intro i h1 h2
  simp [List.getD,List.getElem?_eq_getElem h2]
def kL:Kd (List α):=⟨sL E,gL E,a5M E⟩
def eL:El (List α):=⟨1,fun l _=>sL E l,fun c=>gL E (c 0),[],a5M E,fun _ _ h=>by rw [h 0 Nat.one_pos]⟩
theorem a3Q:a0e .em (sL E []):=a0e.em_sn
def eP {β:Type} (A:El α) (B:El β):El (α×β) where
 sz:=A.sz+B.sz
 enc p j:=if j<A.sz then A.enc p.1 j else B.enc p.2 (j-A.sz)
 dec c:=(A.dec c,B.dec fun j=>c (A.sz+j))
 dflt:=(A.dflt,B.dflt)
 law:=fun p=>by
  have h1:A.dec (fun j=>if j<A.sz then A.enc p.1 j else B.enc p.2 (j-A.sz))=p.1:=(A.loc _ _ fun j hj=>if_pos hj).trans (A.law _)
  have h2:B.dec (fun j=>if A.sz+j<A.sz then A.enc p.1 (A.sz+j) else B.enc p.2 (A.sz+j-A.sz))=p.2:=
   (B.loc _ (B.enc p.2) fun j _=>by rw [if_neg (by omega),Nat.add_sub_cancel_left]).trans (B.law _)
  rw [h1,h2]
 loc:=fun c c' h=>by
  rw [A.loc c c' fun j hj=>h j (by omega),B.loc (fun j=>c (A.sz+j)) (fun j=>c' (A.sz+j)) fun j hj=>h _ (by omega)]
def kA (A:El α):Kd α where
 enc a:=.ag A.sz (A.enc a)
 dec|.ag _ c=>A.dec c
     | _=>A.dflt
 law:=A.law
def sLd (l:List α) (a n:Nat):AV:=.sn n E.sz fun i=>E.enc (l.getD (a+i) E.dflt)
theorem b6z (l:List α) {a n:Nat} (h:a+n<=l.length):a0e (sLd E l a n) (sL E ((l.drop a).take n)):=by
 unfold sLd sL
 have e:((l.drop a).take n).length=n:=by simp;omega
 rw [e]
 refine a0e.sn fun i hi j _=>a0e.of_eq ?_
 have e1:a+i<l.length:=by omega
 simp [List.getD,List.getElem?_take,hi,List.getElem?_drop]
end
instance:Coe a0s Con:=⟨.spec⟩
instance:Coe a0L Con:=⟨.meth⟩
def gam:List (Nat×Con)->Gam
 | [],_=>none
 | (g,s)::r,f=>if f=g then some s else gam r f
theorem GOK.nil {P:Program}:GOK P (gam []):=fun _ _ h=>by cases h
theorem GOK.cons {P:Program} {f:Nat} {s:Con} {r:List (Nat×Con)} (h:d16 P f s) (k:GOK P (gam r)):GOK P (gam ((f,s)::r)):=by
 intro g t hg
 unfold gam at hg
 split at hg
 ·rename_i e;subst e;cases hg;exact h
 ·exact k g t hg
def Kd.ok {α:Type} (K:Kd α) (x:AV):Prop:=a0e x (K.enc (K.dec x))
theorem Kd.ok_enc {α:Type} (K:Kd α) (a:α):K.ok (K.enc a):=by unfold Kd.ok;rw [K.law];exact a0e.refl _
theorem b0u {n:Nat} {args args':List AV} (h:a4C a0e args args'):a1g (st0 n args) (st0 n args'):=by
 refine a1g.mk rfl rfl (fun t=>?_) (fun _=>.inl rfl) (fun _ _=>rfl) (Nat.le_refl _)
 show a0e (args.getD t .any) (args'.getD t .any)
 induction h generalizing t with
 | nil=>exact a0e.refl _
 | cons h _ ih=>
   cases t with
   | zero=>simpa using h
   | succ t=>simpa using ih t
section
variable {α β γ δ:Type}
def a0s.f0 (out:AV):a0s:=⟨fun a=>a=[],fun _=>out⟩
def a0s.f1 (A:Kd α) (dom:α->Prop) (out:α->AV):a0s where
 pre|[x]=>A.ok x/\dom (A.dec x)
     | _=>False
 res|[x]=>out (A.dec x)
     | _=>.any
def a0s.f2 (A:Kd α) (B:Kd β) (dom:α->β->Prop) (out:α->β->AV):a0s where
 pre|[x,y]=>A.ok x/\B.ok y/\dom (A.dec x) (B.dec y)
     | _=>False
 res|[x,y]=>out (A.dec x) (B.dec y)
     | _=>.any
def a0s.f3 (A:Kd α) (B:Kd β) (C:Kd γ) (dom:α->β->γ->Prop) (out:α->β->γ->AV):a0s where
 pre|[x,y,z]=>A.ok x/\B.ok y/\C.ok z/\dom (A.dec x) (B.dec y) (C.dec z)
     | _=>False
 res|[x,y,z]=>out (A.dec x) (B.dec y) (C.dec z)
     | _=>.any
def a0s.f4 (A:Kd α) (B:Kd β) (C:Kd γ) (D:Kd δ) (dom:α->β->γ->δ->Prop) (out:α->β->γ->δ->AV):a0s where
 pre|[x,y,z,u]=>A.ok x/\B.ok y/\C.ok z/\D.ok u/\dom (A.dec x) (B.dec y) (C.dec z) (D.dec u)
     | _=>False
 res|[x,y,z,u]=>out (A.dec x) (B.dec y) (C.dec z) (D.dec u)
     | _=>.any
variable {P:Program} {f:FuncId} {fn:Func} {code:Code} {l:List ResultVar}
theorem a0d.f0 {out:AV} (hf:P.funcs[f]?=some fn) (hb:fn.body=some code) (hn:(fn.name == "runtime.NumGoroutine")=false) (hl:fn.results=l.toArray) {n:Nat} (ht:fn.ntmps=n)
  (h:AW P code (c3O P l out) (st0 n [])):a0d P f (a0s.f0 out):=by
 subst ht
 refine a0d.mk hf hb hn hl fun args hp=>?_
 obtain rfl:args=[]:=hp
 exact⟨Nat.zero_le _,h⟩
theorem a0d.f1 {A:Kd α} {dom:α->Prop} {out:α->AV} (hf:P.funcs[f]?=some fn) (hb:fn.body=some code) (hn:(fn.name == "runtime.NumGoroutine")=false) (hl:fn.results=l.toArray) {n:Nat} (ht:fn.ntmps=n) (hm:1<=n)
  (h:∀ a,dom a->AW P code (c3O P l (out a)) (st0 n [A.enc a])):a0d P f (a0s.f1 A dom out):=by
 subst ht
 refine a0d.mk hf hb hn hl fun args hp=>?_
 match args,hp with
 | [x],hp=>exact⟨hm,AW.le (b0u (.cons hp.1 .nil)) (h _ hp.2)⟩
theorem a0d.f2 {A:Kd α} {B:Kd β} {dom:α->β->Prop} {out:α->β->AV} (hf:P.funcs[f]?=some fn) (hb:fn.body=some code) (hn:(fn.name == "runtime.NumGoroutine")=false) (hl:fn.results=l.toArray) {n:Nat} (ht:fn.ntmps=n) (hm:2<=n)
  (h:∀ a b,dom a b->AW P code (c3O P l (out a b)) (st0 n [A.enc a,B.enc b])):a0d P f (a0s.f2 A B dom out):=by
 subst ht
 refine a0d.mk hf hb hn hl fun args hp=>?_
 match args,hp with
 | [x,y],hp=>exact⟨hm,AW.le (b0u (.cons hp.1 (.cons hp.2.1 .nil))) (h _ _ hp.2.2)⟩
theorem a0d.f3 {A:Kd α} {B:Kd β} {C:Kd γ} {dom:α->β->γ->Prop} {out:α->β->γ->AV} (hf:P.funcs[f]?=some fn) (hb:fn.body=some code) (hn:(fn.name == "runtime.NumGoroutine")=false) (hl:fn.results=l.toArray) {n:Nat} (ht:fn.ntmps=n) (hm:3<=n)
  (h:∀ a b c,dom a b c->AW P code (c3O P l (out a b c)) (st0 n [A.enc a,B.enc b,C.enc c])):a0d P f (a0s.f3 A B C dom out):=by
 subst ht
 refine a0d.mk hf hb hn hl fun args hp=>?_
 match args,hp with
 | [x,y,z],hp=>exact⟨hm,AW.le (b0u (.cons hp.1 (.cons hp.2.1 (.cons hp.2.2.1 .nil)))) (h _ _ _ hp.2.2.2)⟩
theorem a0d.f4 {A:Kd α} {B:Kd β} {C:Kd γ} {D:Kd δ} {dom:α->β->γ->δ->Prop} {out:α->β->γ->δ->AV} (hf:P.funcs[f]?=some fn) (hb:fn.body=some code) (hn:(fn.name == "runtime.NumGoroutine")=false) (hl:fn.results=l.toArray) {n:Nat} (ht:fn.ntmps=n) (hm:4<=n)
  (h:∀ a b c d,dom a b c d->AW P code (c3O P l (out a b c d)) (st0 n [A.enc a,B.enc b,C.enc c,D.enc d])):a0d P f (a0s.f4 A B C D dom out):=by
 subst ht
 refine a0d.mk hf hb hn hl fun args hp=>?_
 match args,hp with
 | [x,y,z,u],hp=>exact⟨hm,AW.le (b0u (.cons hp.1 (.cons hp.2.1 (.cons hp.2.2.1 (.cons hp.2.2.2.1 .nil))))) (h _ _ _ _ hp.2.2.2.2)⟩
end
def isG (Γ:Gam) (o:Oper):Bool:=
 match o.op with
 | .store _ _ _=>false
 | .mapUpdate _ _ _ _=>false
 | .defer _=>false
 | .call ⟨.builtin .append,_,_⟩=>false
 | .call ⟨.builtin .copy,_,_⟩=>false
 | .call ⟨.value (.func f),_,_⟩=>match Γ f with
   | some (.meth _)=>false
   | _=>true
 | _=>true
def b8n (Γ:Gam):List Oper->Nat
 | []=>0
 | o::r=>if isG Γ o then b8n Γ r+1 else 0
def b2z (id:Nat):Code->Nat
 | .seq x y=>b2z id x+b2z id y
 | .cond _ x y=>b2z id x+b2z id y
 | .block _ x=>b2z id x
 | .loop x=>b2z id x
 | .scope x=>b2z id x
 | .exit i=>if i=id then 1 else 0
 | _=>0
def a61:Code->Nat
 | .region ..=>1
 | .skip=>1
 | .seq x y=>if a61 x=0 then 0 else a61 y
 | .cond _ x y=>a61 x+a61 y
 | .block id x=>a61 x+b2z id x
 | .loop _=>0
 | .scope x=>a61 x
 | _=>0
def b0N (Γ:Gam) (S:List Nat):Code->Bool
 | .region id ⟨l⟩ true=>S.contains (200000+id)||c2O l (b8n Γ l)
 | .seq x y=>b0N Γ S x&&b0N Γ S y
 | .cond _ x y=>b0N Γ S x&&b0N Γ S y
 | .block _ x=>b0N Γ S x
 | .loop x=>b0N Γ S x
 | .scope x=>b0N Γ S x
 | _=>true
section
variable (P:Program) (Γ:Gam)
def rest (y:Code) (Q:Exit->AS->Prop):Exit->AS->Prop
 | .normal,st=>AW P y Q st
 | e,st=>Q e st
def a6y (Q:Exit->AS->Prop):Exit->AS->Prop
 | .goto _,_=>False
 | e,st=>Q e st
structure Sh where
 fr:List (Nat×AV)
 hp:List (Nat×Row)
 sz:Nat
 top:Nat
 nx:Nat
 df:List Deferred
def Sh.st (s:Sh):AS:=⟨frm s.fr,rws s.hp,s.sz,s.top,s.nx,s.df⟩
def Sh.fits (s:Sh) (st:AS):Prop:=
 ((s.sz=st.sz/\s.df=st.df)/\st.nx<=s.nx)/\(∀ p∈s.fr,a0e (st.fr p.1) p.2)/\(∀ p∈s.hp,a0a (st.hp p.1) p.2)/\∀ p∈s.hp,p.1<s.top
theorem Sh.fits.le {s:Sh} {st:AS} (h:s.fits st):a1g st s.st:=a1g.of h.1.1.1 h.1.1.2 h.2.1 h.2.2.1 h.2.2.2 h.1.2
def b5k {α:Type} (I:α->Sh) (μ:α->Nat) (i:α) (Q:Exit->AS->Prop):Exit->AS->Prop
 | .normal,st=>∃ j,(I j).fits st/\μ j<μ i
 | e,st=>Q e st
def c0U (X:(Exit->AS->Prop)->AS->Prop) (Q:Exit->AS->Prop):Exit->AS->Prop
 | .normal,st=>X Q st
 | e,st=>Q e st
def a4Y:Code->Option Nat
 | .region id _ _=>some id
 | .seq _ y=>a4Y y
 | _=>none
def c10 (S:List Nat) (x:Code):Bool:=match a4Y x with
 | some id=>S.contains id
 | none=>false
def a19 (S:List Nat):Code->(Exit->AS->Prop)->AS->Prop
 | .region _ ⟨l⟩ false,Q,st=>a9G P Γ l.toArray l st (Q .normal)
 | .region id ⟨l⟩ true,Q,st=>if S.contains (200000+id)=true then AW P (.region id ⟨l⟩ true) Q st else a9k P Γ l.toArray (b8n Γ l) l st (Q .normal)
 | .seq x y,Q,st=>if a61 x<=1 then (if c10 S x=true then a19 S x (rest P y Q) st else a19 S x (c0U (a19 S y) Q) st) else if S.contains 99999=true then a19 S x (c0U (a19 S y) Q) st else AW P (.seq x y) Q st
 | .cond o x y,Q,st=>match st.ev o with
   | .val (.bool b)=>(b=true->a19 S x Q st)/\(b=false->a19 S y Q st)
   | .mb q=>(q->a19 S x Q st)/\a19 S y Q st
   | _=>False
 | .block id x,Q,st=>a19 S x (inA id Q) st
 | .scope x,Q,st=>a19 S x (a6y Q) st
 | .skip,Q,st=>Q .normal st
 | .exit id,Q,st=>Q (.exit id) st
 | .ret,Q,st=>Q .ret st
 | code,Q,st=>AW P code Q st
end
section
variable {P:Program} {Γ:Gam}
theorem AW.of (hΓ:GOK P Γ) (hm:P.follows .mixedOrders=true) (S:List Nat):∀ (code:Code) (Q:Exit->AS->Prop) (st:AS),b0N Γ S code=true->a19 P Γ S code Q st->AW P code Q st:=by
 intro code
 induction code with
 | region id ops dr=>
   intro Q st hd h
   cases ops with
   | mk l=>
   cases dr with
   | false=>exact AW.region hΓ h
   | true=>
     simp only [a19] at h
     simp only [b0N,Bool.or_eq_true] at hd
     split at h
     ·exact h
     ·rename_i hn
      exact AW.draw hΓ hm (b8n Γ l) (hd.resolve_left hn) h
 | seq x y ihx ihy=>
   intro Q st hd h
   simp only [b0N,Bool.and_eq_true] at hd
   simp only [a19] at h
   split at h
   ·refine AW.seq fun K hK=>?_
    split at h
    ·have:=ihx (rest P y Q) st hd.1 h
     intro c η a w hsr
     refine wp_mono (this c η a w hsr) ?_
     rintro e a' w' ⟨st',η',hq,hs'⟩
     refine⟨st',η',?_,hs'⟩
     cases e with
     | normal=>exact hK _ hq
     | _=>exact hq
    ·have:=ihx (c0U (a19 P Γ S y) Q) st hd.1 h
     intro c η a w hsr
     refine wp_mono (this c η a w hsr) ?_
     rintro e a' w' ⟨st',η',hq,hs'⟩
     refine⟨st',η',?_,hs'⟩
     cases e with
     | normal=>exact hK _ (ihy _ _ hd.2 hq)
     | _=>exact hq
   ·split at h
    ·refine AW.seq fun K hK=>?_
     have:=ihx (c0U (a19 P Γ S y) Q) st hd.1 h
     intro c η a w hsr
     refine wp_mono (this c η a w hsr) ?_
     rintro e a' w' ⟨st',η',hq,hs'⟩
     refine⟨st',η',?_,hs'⟩
     cases e with
     | normal=>exact hK _ (ihy _ _ hd.2 hq)
     | _=>exact hq
    ·exact h
 | cond o x y ihx ihy=>
   intro Q st hd h
   simp only [b0N,Bool.and_eq_true] at hd
   simp only [a19] at h
   split at h
   ·rename_i b he
    exact AW.cond he (fun hb=>ihx Q st hd.1 (h.1 hb)) fun hb=>ihy Q st hd.2 (h.2 hb)
   ·rename_i q he
    exact AW.condM he (fun hb=>ihx Q st hd.1 (h.1 hb)) (ihy Q st hd.2 h.2)
   ·exact h.elim
 | block id x ih=>exact fun Q st hd h=>AW.block (ih _ st hd h)
 | scope x ih=>
   intro Q st hd h
   refine AW.scope ?_
   have:=ih (a6y Q) st hd h
   intro c η a w hsr
   refine wp_mono (this c η a w hsr) ?_
   rintro e a' w' ⟨st',η',hq,hs'⟩
   exact⟨st',η',by cases e<;>exact hq,hs'⟩
 | skip=>exact fun Q st _ h=>AW.skip h
 | exit id=>exact fun Q st _ h=>AW.exit h
 | ret=>exact fun Q st _ h=>AW.ret h
 | _=>exact fun Q st _ h=>h
theorem AW.round {Q:Exit->AS->Prop} {st:AS} {x:Code} {α:Type} (I:α->Sh) (μ:α->Nat) (i₀:α) (h₀:(I i₀).fits st)
  (h:∀ i,AW P x (b5k I μ i Q) (I i).st):AW P (.loop x) Q st:=by
 refine AW.loop (fun i=>(I i).st) μ i₀ h₀.le fun i c η a w hsr=>?_
 refine wp_mono (h i c η a w hsr) ?_
 rintro e a' w' ⟨st',η',hq,hs'⟩
 refine⟨st',η',?_,hs'⟩
 cases e with
 | normal=>
   obtain⟨j,hf,hm⟩:=hq
   exact⟨j,hf.le,hm⟩
 | _=>exact hq
def d5L (s:Sh) (Q:Exit->AS->Prop):Exit->AS->Prop
 | .normal,st=>s.fits st
 | e,st=>Q e st
theorem AW.join {x y:Code} {Q:Exit->AS->Prop} {st:AS} (s:Sh) (h:AW P x (d5L s Q) st) (k:AW P y Q s.st):AW P (.seq x y) Q st:=by
 refine AW.seq fun K hK c η a w hsr=>?_
 refine wp_mono (h c η a w hsr) ?_
 rintro e a' w' ⟨st',η',hq,hs'⟩
 cases e with
 | normal=>
   obtain⟨η₂,h₂⟩:=hq.le c η' a' w' hs'
   exact⟨s.st,η₂,hK _ k,h₂⟩
 | _=>exact⟨st',η',hq,hs'⟩
theorem AW.cut {x:Code} {Q:Exit->AS->Prop} {st:AS} (s:Sh) (h:s.fits st) (k:AW P x Q s.st):AW P x Q st:=AW.le h.le k
end
end Go.Proofs.YthpjjjnbkfnghaaGreatDoor
namespace Go.Proofs.YthpjjjnbkfnghaaGreatDoor
open Go
theorem a2J {α:Sort _} {a b:α} (h:a=b):a=b:=h
section
variable {P:Program} {Γ:Gam} {ops:Array Oper} {st:AS} {o:Oper} {r:List Oper} {K:AS->Prop}
def d0b (P:Program) (Γ:Gam) (ops:Array Oper) (r:List Oper) (K:AS->Prop):AS->Prop:=fun st=>a9G P Γ ops r st K
theorem a6e:d0b P Γ ops r K st=a9G P Γ ops r st K:=a2J rfl
def c9r (st:AS) (d:Option Tmp) (K:AS->Prop):AV->(Nat->Row)->Nat->Nat->Prop:=fun r hp' top' nx'=>K ⟨a2b st.fr d r,hp',st.sz,top',nx',st.df⟩
theorem a59 {d:Option Tmp} {x:AV} {hp:Nat->Row} {top nx:Nat}:c9r st d K x hp top nx=K ⟨a2b st.fr d x,hp,st.sz,top,nx,st.df⟩:=a2J rfl
def goK (P:Program) (Γ:Gam) (ops:Array Oper) (o:Oper) (r:List Oper) (K:AS->Prop) (st:AS):b3x->Prop
 | some (pre,z,row)=>(a0N st.sz o.dst/\pre)/\a9G P Γ ops r (st.put o.dst z row) K
 | none=>o.guard=none/\bop P Γ st o (d0b P Γ ops r K)
theorem c56 {pre:Prop} {z:AV} {row:Row}:goK P Γ ops o r K st (some (pre,z,row))=((a0N st.sz o.dst/\pre)/\a9G P Γ ops r (st.put o.dst z row) K):=a2J rfl
theorem c5j:goK P Γ ops o r K st none=(o.guard=none/\bop P Γ st o (d0b P Γ ops r K)):=a2J rfl
theorem a8h:a9G P Γ ops [] st K=K st:=a2J rfl
theorem c0M:a9G P Γ ops (o::r) st K=goK P Γ ops o r K st (gop P Γ ops st o):=a2J rfl
def goA (P:Program) (Γ:Gam) (ops:Array Oper) (m:Nat) (o:Oper) (r:List Oper) (K:AS->Prop) (st:AS):b3x->Prop
 | some (pre,z,row)=>(a0N st.sz o.dst/\pre)/\a9k P Γ ops m r (st.put o.dst z row) K
 | none=>False
theorem c5x {m:Nat} {pre:Prop} {z:AV} {row:Row}:goA P Γ ops m o r K st (some (pre,z,row))=((a0N st.sz o.dst/\pre)/\a9k P Γ ops m r (st.put o.dst z row) K):=a2J rfl
theorem c5Y {m:Nat}:goA P Γ ops m o r K st none=False:=a2J rfl
theorem b9c {m:Nat}:a9k P Γ ops (m+1) (o::r) st K=goA P Γ ops m o r K st (gop P Γ ops st o):=a2J rfl
theorem b8x {l:List Oper}:a9k P Γ ops 0 l st K=a9G P Γ ops l st K:=by cases l<;>rfl
def gdR (g:Bool):b3x->b3x
 | some (pre,z,row)=>some (g=true->pre,.gd g z,row)
 | none=>some (g=false,.gd g .any,.dead)
def gdK (P:Program) (Γ:Gam) (st:AS) (o:Oper):Option Bool->b3x
 | some g=>gdR g (aop P Γ st.hp st.top st.nx (evG g o.op st.ev) o.op)
 | none=>none
theorem c44 {g:Bool} {pre:Prop} {z:AV} {row:Row}:gdR g (some (pre,z,row))=some (g=true->pre,.gd g z,row):=a2J rfl
theorem c5c {g:Bool}:gdR g none=some (g=false,.gd g .any,.dead):=a2J rfl
theorem c6C {g:Bool}:gdK P Γ st o (some g)=gdR g (aop P Γ st.hp st.top st.nx (evG g o.op st.ev) o.op):=a2J rfl
theorem c5k:gdK P Γ st o none=none:=a2J rfl
theorem c9Q:gop P Γ ops st o=match o.guard with
  | none=>aop P Γ st.hp st.top st.nx st.ev o.op
  | some (j,want)=>match (ops[j]?).bind (·.dst) with
    | some d=>gdK P Γ st o (a1v (st.fr d) want)
    | none=>none:=by
 unfold gop gdK gdR
 cases o.guard with
 | none=>rfl
 | some w=>
   obtain⟨j,want⟩:=w
   simp only
   cases (ops[j]?).bind (·.dst) with
   | none=>rfl
   | some d=>
     simp only
     cases a1v (st.fr d) want with
     | none=>rfl
     | some g=>
       simp only
       cases aop P Γ st.hp st.top st.nx (evG g o.op st.ev) o.op with
       | none=>rfl
       | some t=>obtain⟨pre,z,row⟩:=t;rfl
theorem d0k:bop P Γ st o K=match o.op with
 | .mapUpdate t m k x=>a5x P st t (st.ev m) (st.ev k) (st.ev x) o.dst K
 | .call ⟨.value (.func f),⟨xs⟩,_⟩=>match Γ f with
   | some (.meth S)=>a0N st.sz o.dst/\S (xs.map st.ev) st.hp st.top st.nx (c9r st o.dst K)
   | _=>OpW P o st K
 | .store t x y=>a6k P st t (st.ev x) (st.ev y) o.dst K
 | .call ⟨.builtin .append,⟨[x,y]⟩,⟨[t,t']⟩⟩=>t'=t/\c0p P st t (st.ev x) (st.ev y) o.dst K
 | .buildSlice t n parts=>a7X P st t n (parts.toList.map fun a=>(a.1,st.ev a.2)) o.dst K
 | .defer ⟨.value (.func f),⟨[]⟩,_⟩=>o.dst=none/\K ⟨st.fr,st.hp,st.sz,st.top,st.nx,⟨.fn (.func f) #[],#[]⟩::st.df⟩
 | _=>OpW P o st K:=a2J rfl
variable {t:TypeId} {x y:AV} {d:Option Tmp}
def d8u (P:Program) (st:AS) (t:TypeId) (d:Option Tmp) (K:AS->Prop) (p ver j:Nat):Row->Option (Nat×(Nat->AV))->Prop
 | .box v ety m cc,some (k,e)=>(v=ver/\P.cellsOf t=k/\0<k/\j+k<=m/\a0N st.sz d)/\K ⟨a2b st.fr d .any,a0S st.hp p (.box v ety m (stC cc j k e)),st.sz,st.top,st.nx,st.df⟩
 | _,_=>False
theorem c33 {p ver j v m k:Nat} {ety:TypeId} {cc e:Nat->AV}:d8u P st t d K p ver j (.box v ety m cc) (some (k,e)) =
  ((v=ver/\P.cellsOf t=k/\0<k/\j+k<=m/\a0N st.sz d)/\K ⟨a2b st.fr d .any,a0S st.hp p (.box v ety m (stC cc j k e)),st.sz,st.top,st.nx,st.df⟩):=a2J rfl
theorem b9X {p ver j:Nat}:a6k P st t (.pt p ver j) y d K=d8u P st t d K p ver j (st.hp p) (a1u y):=by
 unfold a6k
 cases a1u y with
 | none=>cases st.hp p<;>rfl
 | some w=>obtain⟨k,e⟩:=w;cases h:st.hp p<;>simp only [h,d8u]
def d7l (P:Program) (st:AS) (t:TypeId) (d:Option Tmp) (K:AS->Prop) (p ver sz i j:Nat):Row->Option (Nat×(Nat->AV))->Prop
 | .sl v ety sz' n cc,some (k,e)=>(v=ver/\sz'=sz/\i<n/\P.cellsOf t=k/\0<k/\j+k<=sz/\a0N st.sz d)/\K ⟨a2b st.fr d .any,a0S st.hp p (.sl v ety sz n (stE cc i j k e)),st.sz,st.top,st.nx,st.df⟩
 | _,_=>False
theorem c86 {p ver sz i j v n k sz':Nat} {ety:TypeId} {cc:Nat->Nat->AV} {e:Nat->AV}:d7l P st t d K p ver sz i j (.sl v ety sz' n cc) (some (k,e)) =
  ((v=ver/\sz'=sz/\i<n/\P.cellsOf t=k/\0<k/\j+k<=sz/\a0N st.sz d)/\K ⟨a2b st.fr d .any,a0S st.hp p (.sl v ety sz n (stE cc i j k e)),st.sz,st.top,st.nx,st.df⟩):=a2J rfl
theorem c08 {p ver sz i j:Nat}:a6k P st t (.pe p ver sz i j) y d K=d7l P st t d K p ver sz i j (st.hp p) (a1u y):=by
 unfold a6k
 cases a1u y with
 | none=>cases st.hp p<;>rfl
 | some w=>obtain⟨k,e⟩:=w;cases h:st.hp p<;>simp only [h,d7l]
def apR (P:Program) (st:AS) (e:TypeId) (y:AV) (d:Option Tmp) (K:AS->Prop) (p ver n k sz':Nat) (dd:Nat->Nat->AV):Row->Prop
 | .sl v ety sz n' cc=>(vwA st.hp y/\v=ver/\n'=n/\ety=e/\sz'=sz/\a0N st.sz d/\a8M P e sz (n+k))/\K ⟨a2b st.fr d (.ow p st.nx (n+k)),a0S st.hp p (.sl st.nx e sz (n+k) (apC n cc dd)),st.sz,st.top,st.nx+1,st.df⟩
 | _=>False
theorem d2f {e ety:TypeId} {p ver n k sz' v sz n':Nat} {dd cc:Nat->Nat->AV}:apR P st e y d K p ver n k sz' dd (.sl v ety sz n' cc) =
  ((vwA st.hp y/\v=ver/\n'=n/\ety=e/\sz'=sz/\a0N st.sz d/\a8M P e sz (n+k))/\K ⟨a2b st.fr d (.ow p st.nx (n+k)),a0S st.hp p (.sl st.nx e sz (n+k) (apC n cc dd)),st.sz,st.top,st.nx+1,st.df⟩):=a2J rfl
def apK (P:Program) (st:AS) (t:TypeId) (y:AV) (d:Option Tmp) (K:AS->Prop):Option TypeDesc->AV->AV->Prop
 | some (.slice e),.ow p ver n,.sn k sz' dd=>apR P st e y d K p ver n k sz' dd (st.hp p)
 | some (.slice e),.em,.sn k sz dd=>(vwA st.hp y/\a0N st.sz d/\a8M P e sz k)/\K ⟨a2b st.fr d (.ow st.top st.nx k),a0S st.hp st.top (.sl st.nx e sz k dd),st.sz,st.top+1,st.nx+1,st.df⟩
 | some (.slice e),x,.em=>a0N st.sz d/\(∃ b,b73 P t x=some b)/\0<P.cellsOf e/\(∀ w η L v,Rep w η L x v->∃ a n cap,v=.slice a n cap/\n<=cap)/\K ⟨a2b st.fr d x,st.hp,st.sz,st.top,st.nx,st.df⟩
 | _,_,_=>False
theorem d3C {e:TypeId} {p ver n k sz':Nat} {dd:Nat->Nat->AV}:apK P st t y d K (some (.slice e)) (.ow p ver n) (.sn k sz' dd)=apR P st e y d K p ver n k sz' dd (st.hp p):=a2J rfl
theorem d3a {e:TypeId} {k sz:Nat} {dd:Nat->Nat->AV}:apK P st t y d K (some (.slice e)) .em (.sn k sz dd) =
  ((vwA st.hp y/\a0N st.sz d/\a8M P e sz k)/\K ⟨a2b st.fr d (.ow st.top st.nx k),a0S st.hp st.top (.sl st.nx e sz k dd),st.sz,st.top+1,st.nx+1,st.df⟩):=a2J rfl
theorem c7v {e:TypeId}:apK P st t y d K (some (.slice e)) x .em =
  (a0N st.sz d/\(∃ b,b73 P t x=some b)/\0<P.cellsOf e/\(∀ w η L v,Rep w η L x v->∃ a n cap,v=.slice a n cap/\n<=cap)/\K ⟨a2b st.fr d x,st.hp,st.sz,st.top,st.nx,st.df⟩):=by cases x<;>rfl
theorem c5p:c0p P st t x y d K=apK P st t y d K (P.underlying t) x (vw st.hp y):=by
 unfold c0p
 split
 ·rename_i h1 h2;rw [h1,h2];rfl
 ·rename_i h1 h2;rw [h1,h2];rfl
 ·rename_i h1 h2;rw [h1,h2,c7v]
 ·rename_i h3 h1 h2
  unfold apK
  split
  ·rename_i g1 g2;exact (h1 _ _ _ _ _ _ _ g1 rfl g2).elim
  ·rename_i g1 g2;exact (h2 _ _ _ _ g1 rfl g2).elim
  ·rename_i g1 g2;exact (h3 _ g1 g2).elim
  ·rfl
def sbR (P:Program) (st:AS) (n:Nat) (d:Option Tmp) (K:AS->Prop) (e:TypeId):Option (List Value)->Option (List (Nat->AV))->Prop
 | some z,some l=>(l.length=n/\0<n/\z.length=P.cellsOf e/\0<P.cellsOf e/\n*P.cellsOf e<=16777216/\a0N st.sz d)/\
    K ⟨a2b st.fr d (.ow st.top st.nx n),a0S st.hp st.top (.sl st.nx e (P.cellsOf e) n fun i=>l.getD i fun _=>.any),st.sz,st.top+1,st.nx+1,st.df⟩
 | _,_=>False
theorem c6G {n:Nat} {e:TypeId} {z:List Value} {l:List (Nat->AV)}:sbR P st n d K e (some z) (some l)=((l.length=n/\0<n/\z.length=P.cellsOf e/\0<P.cellsOf e/\n*P.cellsOf e<=16777216/\a0N st.sz d)/\
        K ⟨a2b st.fr d (.ow st.top st.nx n),a0S st.hp st.top (.sl st.nx e (P.cellsOf e) n fun i=>l.getD i fun _=>.any),st.sz,st.top+1,st.nx+1,st.df⟩):=a2J rfl
def sbK (P:Program) (st:AS) (n:Nat) (parts:List (Nat×AV)) (d:Option Tmp) (K:AS->Prop):Option TypeDesc->Prop
 | some (.slice e)=>sbR P st n d K e (a2g P e) (a2I (P.cellsOf e) 0 parts)
 | _=>False
theorem b94 {n:Nat} {e:TypeId} {parts:List (Nat×AV)}:sbK P st n parts d K (some (.slice e))=sbR P st n d K e (a2g P e) (a2I (P.cellsOf e) 0 parts):=a2J rfl
theorem b8P {n:Nat} {parts:List (Nat×AV)}:a7X P st t n parts d K=sbK P st n parts d K (P.underlying t):=by
 unfold a7X sbK
 generalize P.underlying t=u
 cases u with
 | none=>rfl
 | some w=>cases w<;>rfl
variable {m k:AV}
def mpR (P:Program) (st:AS) (d:Option Tmp) (K:AS->Prop) (p ver:Nat) (kt:TypeId) (key:Key) (u:Value):Row->Prop
 | .mp v str n f=>(v=ver/\key.isStr=str/\P.underlying kt=some (a4A str)/\a0N st.sz d)/\
       K ⟨a2b st.fr d .any,a0S st.hp p (.mp v str (if (f key).isSome then n else n+1) (a5S f key u)),st.sz,st.top,st.nx,st.df⟩
 | _=>False
theorem d3T {p ver v n:Nat} {kt:TypeId} {key:Key} {u:Value} {str:Bool} {f:Key->Option Value}:mpR P st d K p ver kt key u (.mp v str n f) =
  ((v=ver/\key.isStr=str/\P.underlying kt=some (a4A str)/\a0N st.sz d)/\
      K ⟨a2b st.fr d .any,a0S st.hp p (.mp v str (if (f key).isSome then n else n+1) (a5S f key u)),st.sz,st.top,st.nx,st.df⟩):=a2J rfl
def mpK (P:Program) (st:AS) (d:Option Tmp) (K:AS->Prop):Option TypeDesc->AV->Option Key->Option Value->Prop
 | some (.map kt _),.mp p ver,some key,some u=>mpR P st d K p ver kt key u (st.hp p)
 | _,_,_,_=>False
theorem d3j {kt vt:TypeId} {p ver:Nat} {key:Key} {u:Value}:mpK P st d K (some (.map kt vt)) (.mp p ver) (some key) (some u)=mpR P st d K p ver kt key u (st.hp p):=a2J rfl
theorem b5m:a5x P st t m k x d K=mpK P st d K (P.underlying t) m (b5Q k) (b9T x):=by
 unfold a5x
 split
 ·rename_i h1 h2 h3;rw [h1,h2,h3];rfl
 ·rename_i h1
  unfold mpK
  split
  ·rename_i g1 g2 g3;exact (h1 _ _ _ _ _ _ g1 rfl g2 g3).elim
  ·rfl
variable {S:List Nat} {a b:Code} {Q:Exit->AS->Prop}
def c9k (P:Program) (Γ:Gam) (S:List Nat) (a b:Code) (Q:Exit->AS->Prop) (st:AS):AV->Prop
 | .val (.bool c)=>(c=true->a19 P Γ S a Q st)/\(c=false->a19 P Γ S b Q st)
 | .mb q=>(q->a19 P Γ S a Q st)/\a19 P Γ S b Q st
 | _=>False
theorem c2y {c:Bool}:c9k P Γ S a b Q st (.val (.bool c))=((c=true->a19 P Γ S a Q st)/\(c=false->a19 P Γ S b Q st)):=a2J rfl
theorem c5d {q:Prop}:c9k P Γ S a b Q st (.mb q)=((q->a19 P Γ S a Q st)/\a19 P Γ S b Q st):=a2J rfl
theorem b1d (o:Operand):a19 P Γ S (.cond o a b) Q st=c9k P Γ S a b Q st (st.ev o):=a2J rfl
end
attribute [go_sem high] c0M b9c b8x c9Q d0k b1d
attribute [go_sem] a8h a6e a59 c56 c5j c5x c5Y c44 c5c c6C c5k c2y c5d
attribute [go_sem] b8P b94 c6G b9X c08 c5p b5m c33 c86 d2f d3C d3a c7v d3T d3j
section
variable {P:Program} {Γ:Gam} {K:AS->Prop} {Q:Exit->AS->Prop} {st:AS} {y:Code} {id:Nat}
@[go_sem] theorem a91:rest P y Q .normal st=AW P y Q st:=rfl
@[go_sem] theorem d3d:rest P y Q (.exit id) st=Q (.exit id) st:=rfl
@[go_sem] theorem d5h:rest P y Q .ret st=Q .ret st:=rfl
def later (P:Program) (Γ:Gam) (S:List Nat) (y:Code) (Q:Exit->AS->Prop):Exit->AS->Prop:=c0U (a19 P Γ S y) Q
variable {S:List Nat}
@[go_sem] theorem c66:later P Γ S y Q .normal st=a19 P Γ S y Q st:=rfl
@[go_sem] theorem d1m:later P Γ S y Q (.exit id) st=Q (.exit id) st:=rfl
@[go_sem] theorem d3x:later P Γ S y Q .ret st=Q .ret st:=rfl
@[go_sem] theorem d1N (x:Code):a19 P Γ S (.seq x y) Q st=if a61 x<=1 then (if c10 S x=true then a19 P Γ S x (rest P y Q) st else a19 P Γ S x (later P Γ S y Q) st) else if S.contains 99999=true then a19 P Γ S x (later P Γ S y Q) st else AW P (.seq x y) Q st:=rfl
@[go_sem] theorem c63 (l:List Oper):a19 P Γ S (.region id ⟨l⟩ false) Q st=a9G P Γ l.toArray l st (Q .normal):=rfl
@[go_sem] theorem d0Z (l:List Oper):a19 P Γ S (.region id ⟨l⟩ true) Q st=if S.contains (200000+id)=true then AW P (.region id ⟨l⟩ true) Q st else a9k P Γ l.toArray (b8n Γ l) l st (Q .normal):=rfl
@[go_sem] theorem c9u:a19 P Γ S (.block id y) Q st=a19 P Γ S y (inA id Q) st:=rfl
@[go_sem] theorem c94:a19 P Γ S (.scope y) Q st=a19 P Γ S y (a6y Q) st:=rfl
@[go_sem] theorem d0Y:a19 P Γ S .skip Q st=Q .normal st:=rfl
@[go_sem] theorem d06:a19 P Γ S (.exit id) Q st=Q (.exit id) st:=rfl
@[go_sem] theorem d1A:a19 P Γ S .ret Q st=Q .ret st:=rfl
@[go_sem] theorem d1q:a19 P Γ S (.loop y) Q st=AW P (.loop y) Q st:=rfl
@[go_sem] theorem c4T (l:Array Oper) (b:Bool):a4Y (.region id l b)=some id:=rfl
@[go_sem] theorem d1r (x:Code):a4Y (.seq x y)=a4Y y:=rfl
@[go_sem] theorem c7l:a4Y (.block id y)=none:=rfl
@[go_sem] theorem d0g (o:Operand) (x:Code):a4Y (.cond o x y)=none:=rfl
@[go_sem] theorem d0m:a4Y (.loop y)=none:=rfl
@[go_sem] theorem d1j:a4Y .ret=none:=rfl
@[go_sem] theorem c9g:a4Y .skip=none:=rfl
@[go_sem] theorem c9J:a4Y (.exit id)=none:=rfl
@[go_sem] theorem c7s:a4Y (.scope y)=none:=rfl
@[go_sem] theorem d1J:c10 [] y=false:=by unfold c10;split<;>rfl
theorem c0B:c10 S y=match a4Y y with
 | some id=>S.contains id
 | none=>false:=rfl
@[go_sem] theorem c1x:a6y Q .normal st=Q .normal st:=rfl
@[go_sem] theorem c6a:a6y Q (.exit id) st=Q (.exit id) st:=rfl
@[go_sem] theorem c7A:a6y Q .ret st=Q .ret st:=rfl
@[go_sem] theorem d1g:inA id Q .normal st=Q .normal st:=rfl
@[go_sem] theorem d4C {id':Nat}:inA id Q (.exit id') st=if id'=id then Q .normal st else Q (.exit id') st:=rfl
@[go_sem] theorem d7N:inA id Q .ret st=Q .ret st:=rfl
@[go_sem] theorem c74:c2K K Q .normal st=K st:=rfl
@[go_sem] theorem d1x:c2K K Q (.exit id) st=Q (.exit id) st:=rfl
@[go_sem] theorem d2M:c2K K Q .ret st=Q .ret st:=rfl
@[go_sem] theorem d0X {α:Type} {I:α->Sh} {μ:α->Nat} {i:α}:b5k I μ i Q (.exit id) st=Q (.exit id) st:=rfl
@[go_sem] theorem c7X {α:Type} {I:α->Sh} {μ:α->Nat} {i:α}:b5k I μ i Q .normal st=∃ j,(I j).fits st/\μ j<μ i:=rfl
@[go_sem] theorem d3H {α:Type} {I:α->Sh} {μ:α->Nat} {i:α}:b5k I μ i Q .ret st=Q .ret st:=rfl
@[go_sem] theorem c9D {l:List ResultVar} {r:AV}:c3O P l r .normal st=b3p P l r st:=rfl
@[go_sem] theorem d31 {l:List ResultVar} {r:AV}:c3O P l r .ret st=b3p P l r st:=rfl
@[go_sem] theorem d7c (f:Nat):gam [] f=none:=rfl
@[go_sem] theorem d32 (f g:Nat) (s:Con) (r:List (Nat×Con)):gam ((g,s)::r) f=if f=g then some s else gam r f:=rfl
@[go_sem] theorem d2p {s:Sh}:d5L s Q (.exit id) st=Q (.exit id) st:=rfl
@[go_sem] theorem d5N {s:Sh}:d5L s Q .ret st=Q .ret st:=rfl
@[go_sem] theorem d0x {s:Sh}:d5L s Q .normal st=s.fits st:=rfl
@[go_sem] theorem d8m (t:Nat):frm [] t=.any:=rfl
@[go_sem] theorem d4E (d:Nat) (x:AV) (r:List (Nat×AV)) (t:Nat):frm ((d,x)::r) t=if t=d then x else frm r t:=rfl
@[go_sem] theorem d7h (t:Nat):rws [] t=.dead:=rfl
@[go_sem] theorem d4Y (d:Nat) (x:Row) (r:List (Nat×Row)) (t:Nat):rws ((d,x)::r) t=if t=d then x else rws r t:=rfl
end
section
variable {P:Program} {st:AS} (x y z:AV) (r s t:ResultVar)
@[go_sem] theorem d2x:b3p P [r] x st=(st.df=[]/\rOK P st r x):=rfl
@[go_sem] theorem d3A:b3p P [r,s] (tu2 x y) st=(st.df=[]/\rOK P st r x/\rOK P st s y):=by
 refine propext ⟨?_,fun h=>⟨h.1,_,rfl,h.2.1,h.2.2⟩⟩
 rintro⟨h,c,hc,h1,h2⟩
 unfold tu2 at hc
 injection hc with _ hc
 subst hc
 exact⟨h,h1,h2⟩
@[go_sem] theorem c8L:b3p P [r,s,t] (tu3 x y z) st=(st.df=[]/\rOK P st r x/\rOK P st s y/\rOK P st t z):=by
 refine propext ⟨?_,fun h=>⟨h.1,_,rfl,h.2.1,h.2.2.1,h.2.2.2⟩⟩
 rintro⟨h,c,hc,h1,h2,h3⟩
 unfold tu3 at hc
 injection hc with _ hc
 subst hc
 exact⟨h,h1,h2,h3⟩
@[go_sem high] theorem c60 (i:Nat):a6U (tu2 x y) i=some (i<2,if i=0 then x else y):=rfl
@[go_sem high] theorem c7V (i:Nat):a6U (tu3 x y z) i=some (i<3,if i=0 then x else if i=1 then y else z):=rfl
@[go_sem] theorem d4c:c7u (tu2 x y)=(sc x=true/\sc y=true):=by
 refine propext ⟨fun h=>⟨h 0 (by decide),h 1 (by decide)⟩,fun h j hj=>?_⟩
 match j,hj with
 | 0,_=>exact h.1
 | 1,_=>exact h.2
@[go_sem] theorem d3Z:c7u (tu3 x y z)=(sc x=true/\sc y=true/\sc z=true):=by
 refine propext ⟨fun h=>⟨h 0 (by decide),h 1 (by decide),h 2 (by decide)⟩,fun h j hj=>?_⟩
 match j,hj with
 | 0,_=>exact h.1
 | 1,_=>exact h.2.1
 | 2,_=>exact h.2.2
@[go_sem] theorem d5v (v:Value):c7u (.val v)=True:=eq_true rfl
@[go_sem] theorem d6w (v:List UInt8):c7u (.st v)=True:=eq_true rfl
@[go_sem] theorem d9z (v:Value):sc (.val v)=true:=rfl
@[go_sem] theorem e1E (v:List UInt8):sc (.st v)=true:=rfl
@[go_sem] theorem e0O:sc .em=true:=rfl
end
section
variable {g:Bool} {ev:Operand->AV} {c x y:Operand}
@[go_sem] theorem d4W (t u:Nat):evG g (.pick (.tmp t) x y) ev (.tmp u)=if u=t then a3l g (ev (.tmp u)) else d28 g (ev (.tmp u)):=rfl
@[go_sem] theorem c3N (t:Nat) (v:Value):evG g (.pick (.tmp t) x y) ev (.const v)=a3l g (ev (.const v)):=rfl
@[go_sem low] theorem d2A (op:Op) (o:Operand) (h:∀ t x y,op≠.pick (.tmp t) x y):evG g op ev o=a3l g (ev o):=by
 unfold evG
 split
 ·exact absurd rfl (h _ _ _)
 ·rfl
@[go_sem] theorem d6D (b:Bool) (z:AV):d28 g (.gd b z)=.gd (!g||b) z:=rfl
@[go_sem] theorem d30 (v:Value):d28 g (.val v)=.val v:=rfl
end
attribute [go_sem] Bool.not_or_self ne_eq
section
variable (g:Bool) (x:AV)
@[go_sem] theorem d0H:a3l g (.gd g x)=x:=by cases g<;>rfl
@[go_sem] theorem d1u:a3l g .any=.any:=rfl
@[go_sem] theorem d1d (v:Value):a3l g (.val v)=.val v:=rfl
@[go_sem] theorem d2a (l:List UInt8):a3l g (.st l)=.st l:=rfl
@[go_sem] theorem d2T:a3l g .em=.em:=rfl
@[go_sem] theorem d20 (n sz:Nat) (c:Nat->Nat->AV):a3l g (.sn n sz c)=.sn n sz c:=rfl
@[go_sem] theorem d2t (m:Nat) (c:Nat->AV):a3l g (.ps m c)=.ps m c:=rfl
@[go_sem] theorem d3M (p v n:Nat):a3l g (.ow p v n)=.ow p v n:=rfl
@[go_sem] theorem d3n (p v j:Nat):a3l g (.pt p v j)=.pt p v j:=rfl
@[go_sem] theorem d1Y (p v s i j:Nat):a3l g (.pe p v s i j)=.pe p v s i j:=rfl
@[go_sem] theorem d1V (m:Nat) (c:Nat->AV):a3l g (.ag m c)=.ag m c:=rfl
@[go_sem] theorem d2N (m:Nat) (c:Nat->AV):a3l g (.tu m c)=.tu m c:=rfl
@[go_sem] theorem d10 {α:Type} (E:El α) (l:List α):a3l g (sL E l)=sL E l:=rfl
@[go_sem] theorem d4B (b:Bool):a1v (.val (.bool b)) true=some b:=rfl
@[go_sem] theorem d4w (b:Bool):a1v (.val (.bool b)) false=some (!b):=rfl
@[go_sem] theorem d46 (h b:Bool):a1v (.gd h (.val (.bool b))) true=some (h&&b):=rfl
@[go_sem] theorem d4e (h b:Bool):a1v (.gd h (.val (.bool b))) false=some (h&&!b):=rfl
@[go_sem] theorem d15 (f:Nat->AV) (d:Nat) (v:AV):a2b f (some d) v=c30 f d v:=rfl
@[go_sem] theorem d3m (f:Nat->AV) (v:AV):a2b f none v=f:=rfl
@[go_sem] theorem d78 (f:Nat->AV) (d:Nat) (v:AV) (t:Nat):c30 f d v t=if t=d then v else f t:=rfl
@[go_sem] theorem d7u (f:Nat->Row) (d:Nat) (v:Row) (t:Nat):a0S f d v t=if t=d then v else f t:=rfl
@[go_sem] theorem d5U (n d:Nat):a0N n (some d)=(d<n):=rfl
@[go_sem] theorem d4K (n:Nat):a0N n none=True:=rfl
@[go_sem] theorem c62 (st:AS) (d:Option Tmp) (z:AV):st.put d z .dead=⟨a2b st.fr d z,st.hp,st.sz,st.top,st.nx,st.df⟩:=rfl
@[go_sem] theorem c8D (st:AS) (d:Option Tmp) (z:AV) (v e m:Nat) (c:Nat->AV):st.put d z (.box v e m c)=⟨a2b st.fr d z,a0S st.hp st.top (.box v e m c),st.sz,st.top+1,st.nx+1,st.df⟩:=rfl
@[go_sem] theorem d1s (st:AS) (d:Option Tmp) (z:AV) (v e s n:Nat) (c:Nat->Nat->AV):st.put d z (.sl v e s n c)=⟨a2b st.fr d z,a0S st.hp st.top (.sl v e s n c),st.sz,st.top+1,st.nx+1,st.df⟩:=rfl
@[go_sem] theorem d9Y (st:AS) (t:Nat):st.ev (.tmp t)=st.fr t:=rfl
@[go_sem] theorem d5a (st:AS) (v:Value):st.ev (.const v)=kAV v:=rfl
@[go_sem] theorem d8a (st:AS) (f:Nat):st.ev (.func f)=.val (.func (.func f) #[] #[]):=rfl
@[go_sem] theorem d2I (st:AS) (f:Nat):st.ev (.global f)=.val (.pointer (some ⟨f,0,none⟩)):=rfl
@[go_sem] theorem d69 (k:IntKind) (n:Int):kAV (.int k n)=.val (.int k n):=rfl
@[go_sem] theorem d5b (b:Bool):kAV (.bool b)=.val (.bool b):=rfl
@[go_sem] theorem d1e (s:ByteArray):kAV (.string s)=.st s.data.toList:=rfl
@[go_sem] theorem d7D:kAV (.slice none 0 0)=.em:=rfl
end
section
variable {P:Program} {ev:Operand->AV} {op:BinOp} {t:TypeId} {x:Operand}
@[go_sem] theorem d1T (y:Nat):a8x P ev op t x (.tmp y)=c3R P op t (ev x) (ev (.tmp y)):=by cases op<;>rfl
@[go_sem] theorem d3t (k:IntKind) (n:Int):a8x P ev op t x (.const (.int k n))=c3R P op t (ev x) (ev (.const (.int k n))):=by cases op<;>rfl
@[go_sem] theorem c7H (n:ByteArray):a8x P ev op t x (.const (.string n))=c3R P op t (ev x) (ev (.const (.string n))):=by cases op<;>rfl
@[go_sem] theorem d1E:a8x P ev .eql t x (.const (.slice none 0 0))=a9g P t (ev x):=rfl
@[go_sem] theorem d3h:a8x P ev .eql t x (.const (.pointer none))=b3K P t (ev x):=rfl
@[go_sem] theorem d2h:a8x P ev .eql t x (.const .nilIface)=b2d P t true (ev x):=rfl
@[go_sem] theorem d2g:a8x P ev .neq t x (.const .nilIface)=b2d P t false (ev x):=rfl
@[go_sem] theorem d5q:b3K P t (.val (.pointer none))=some (c3K P t,.val (.bool true)):=rfl
@[go_sem] theorem d3V (p v j:Nat):b3K P t (.pt p v j)=some (c3K P t,.val (.bool false)):=rfl
@[go_sem] theorem d4A (m:Nat) (c:Nat->AV):b3K P t (.ps m c)=some (c3K P t,.val (.bool false)):=rfl
@[go_sem] theorem d6a (b:Bool):b2d P t b (.val .nilIface)=some (d3O P t,.val (.bool b)):=rfl
end
attribute [go_sem] a61 b2z b8n d53 d1a d59 isG aop a3s bd b42
attribute [go_sem low] a9S.eq_def
attribute [go_sem low] c0B c3R.eq_def c5B.eq_def aUn.eq_def b73.eq_def a7q.eq_def b2K.eq_def a9m.eq_def a6T.eq_def a23.eq_def b6h.eq_def a6U.eq_def b72.eq_def b1H.eq_def c6s.eq_def d5W.eq_def d50.eq_def d4O.eq_def
attribute [go_sem] rOK st0 Sh.st Sh.fits List.contains_cons List.contains_nil
attribute [go_sem] a0s.f0 a0s.f1 a0s.f2 a0s.f3 a0s.f4
@[go_sem] theorem d88 (n:Int):kI.enc n=.val (.int .i64 n):=rfl
@[go_sem] theorem e0l (n:Bool):kB.enc n=.val (.bool n):=rfl
@[go_sem] theorem d8U (n:List UInt8):kS.enc n=.st n:=rfl
@[go_sem] theorem e0y {α:Type} (E:El α) (l:List α):(kL E).enc l=sL E l:=rfl
@[go_sem] theorem d8T (n:Int):kI.dec (.val (.int .i64 n))=n:=rfl
@[go_sem] theorem d9A (n:Bool):kB.dec (.val (.bool n))=n:=rfl
@[go_sem] theorem d9C (n:List UInt8):kS.dec (.st n)=n:=rfl
@[go_sem] theorem e0w {α:Type} (E:El α) (l:List α):(kL E).dec (sL E l)=l:=a5M E l
@[go_sem] theorem e1s (n:Int):kI.ok (.val (.int .i64 n))=True:=eq_true (kI.ok_enc n)
@[go_sem] theorem e1b (n:Bool):kB.ok (.val (.bool n))=True:=eq_true (kB.ok_enc n)
@[go_sem] theorem e00 (n:List UInt8):kS.ok (.st n)=True:=eq_true (kS.ok_enc n)
@[go_sem] theorem e06 {α:Type} (E:El α) (l:List α):(kL E).ok (sL E l)=True:=eq_true ((kL E).ok_enc l)
@[go_sem] theorem d6b {α:Type} (E:El α):(kL E).ok .em=True:=eq_true (a3Q E)
@[go_sem] theorem d2E {α:Type} (E:El α):(kL E).dec .em=[]:=rfl
section
variable {α:Type} (E:El α) (l:List α)
@[go_sem high] theorem d6T {P:Program} {t:TypeId}:b73 P t (sL E l)=match P.underlying t with
  | some (.slice _)=>some (True,.val (.int .i64 l.length))
  | _=>none:=by
 unfold b73 sL
 generalize P.underlying t=u
 cases u with
 | none=>rfl
 | some d=>cases d<;>rfl
@[go_sem] theorem d4L {P:Program} {hp:Nat->Row} {t:TypeId}:a9l P hp t (sL E l)=b73 P t (sL E l):=rfl
@[go_sem high] theorem d3G {P:Program} {t:TypeId} (lo hi:Option AV):b1H P t (sL E l) lo hi=match P.underlying t with
  | some (.slice e)=>match bd 0 lo,bd l.length hi with
    | some a,some b=>some (P.cellsOf e=E.sz/\0<E.sz/\0<=a/\a<=b/\b<=l.length,.sn (b.toNat-a.toNat) E.sz fun i=>E.enc (l.getD (a.toNat+i) E.dflt))
    | _,_=>none
  | _=>none:=by
 unfold b1H sL
 generalize P.underlying t=u
 cases u with
 | none=>rfl
 | some d=>cases d<;>rfl
@[go_sem] theorem c2e (n s:Nat) (f:Nat->α):(kL E).dec (.sn n s fun i=>E.enc (f i))=(List.range n).map f:=by
 simp [kL,gL,E.law]
theorem d0A (n:Nat) (f:Nat->α) (g:List α) (h:g=(List.range n).map f):a0e (.sn n E.sz fun i=>E.enc (f i)) (sL E g):=by
 subst h
 unfold sL
 rw [show ((List.range n).map f).length=n by simp]
 refine a0e.sn fun i hi j _=>a0e.of_eq ?_
 simp [List.getD,hi]
@[go_sem] theorem d45 (n s:Nat) (f:Nat->α) (h:E.sz=s):(kL E).ok (.sn n s fun i=>E.enc (f i))=True:=by
 subst h
 refine eq_true ?_
 show a0e _ _
 rw [c2e]
 exact d0A E n f _ rfl
@[go_sem high] theorem c41 {P:Program} {hp:Nat->Row} {t:TypeId} (k:Int) :
  a23 P hp t (sL E l) (.val (.int .i64 k))=match P.underlying t with
  | some (.slice e)=>some (P.cellsOf e=E.sz/\0<E.sz/\0<=k/\k<l.length,.ps E.sz (E.enc (l.getD k.toNat E.dflt)))
  | _=>none:=by
 unfold a23 sL
 generalize P.underlying t=u
 cases u with
 | none=>rfl
 | some d=>cases d<;>rfl
@[go_sem] theorem e1v (hp:Nat->Row):vw hp (sL E l)=sL E l:=rfl
@[go_sem] theorem d9w (hp:Nat->Row):vwP hp (sL E l)=True:=eq_true rfl
@[go_sem] theorem d9P:vwO (sL E l)=false:=rfl
end
@[go_sem] theorem e0Y:eI.sz=1:=(rfl)
@[go_sem] theorem e02:eB.sz=1:=(rfl)
@[go_sem] theorem d3K:eS.sz=1:=(rfl)
@[go_sem] theorem e1K {α:Type} (E:El α):(eL E).sz=1:=(rfl)
@[go_sem] theorem e0o (n:Int) (j:Nat):eI.enc n j=.val (.int .i64 n):=rfl
@[go_sem] theorem d8N (n:Bool) (j:Nat):eB.enc n j=.val (.bool n):=rfl
@[go_sem] theorem d98 (n:List UInt8) (j:Nat):eS.enc n j=.st n:=rfl
@[go_sem] theorem d9Q {α:Type} (E:El α) (n:List α) (j:Nat):(eL E).enc n j=sL E n:=rfl
@[go_sem] theorem e1X:eI.dflt=0:=rfl
@[go_sem] theorem e1Z:eB.dflt=false:=rfl
@[go_sem] theorem e2h:eS.dflt=[]:=rfl
@[go_sem] theorem e2d {α:Type} (E:El α):(eL E).dflt=[]:=rfl
section
variable {P:Program} {hp:Nat->Row} {t:TypeId}
@[go_sem] theorem d4g (n s:Nat) (c:Nat->Nat->AV):a9l P hp t (.sn n s c)=b73 P t (.sn n s c):=rfl
@[go_sem] theorem d5p (l:List UInt8):a9l P hp t (.st l)=b73 P t (.st l):=rfl
@[go_sem] theorem d3W:a9l P hp t .em=b73 P t .em:=rfl
@[go_sem] theorem d4k (p v n:Nat):a9l P hp t (.ow p v n)=b73 P t (.ow p v n):=rfl
@[go_sem] theorem d6d (p ver:Nat):a9l P hp t (.mp p ver)=match P.underlying t,hp p with
  | some (.map _ _),.mp v _ n _=>some (v=ver,.val (.int .i64 n))
  | _,_=>none:=rfl
end
def b0f (n:Nat) (f:Nat->Bool):Bool:=(List.range n).any f
section
variable (hp:Nat->Row)
@[go_sem] theorem e0r (n s:Nat) (c:Nat->Nat->AV):vwA hp (.sn n s c)=True:=rfl
@[go_sem] theorem e0b {α:Type} {E:El α} {l:List α}:vwA hp (sL E l)=True:=rfl
@[go_sem] theorem e0m:vwA hp .em=True:=rfl
@[go_sem] theorem d9j (p v n:Nat):vwA hp (.ow p v n)=match hp p with
  | .sl v' _ _ n' _=>v'=v/\n<=n'
  | _=>False:=rfl
@[go_sem] theorem d95 (v:Value):vw hp (.val v)=.val v:=rfl
@[go_sem] theorem e1t (l:List UInt8):vw hp (.st l)=.st l:=rfl
@[go_sem] theorem e1g:vw hp .em=.em:=rfl
@[go_sem] theorem e0X (n s:Nat) (c:Nat->Nat->AV):vw hp (.sn n s c)=.sn n s c:=rfl
@[go_sem] theorem e1M (n:Nat) (c:Nat->AV):vw hp (.ps n c)=.ps n c:=rfl
@[go_sem] theorem e09 (n:Nat) (c:Nat->AV):vw hp (.ag n c)=.ag n fun j=>if j<n then vw0 hp (c j) else .any:=rfl
@[go_sem] theorem d6v (v:Value):vw0 hp (.val v)=.val v:=rfl
@[go_sem] theorem d92 (l:List UInt8):vw0 hp (.st l)=.st l:=rfl
@[go_sem] theorem d9J:vw0 hp .em=.em:=rfl
@[go_sem] theorem d8K (n s:Nat) (c:Nat->Nat->AV):vw0 hp (.sn n s c)=.sn n s c:=rfl
@[go_sem] theorem d8W {α:Type} {E:El α} {l:List α}:vw0 hp (sL E l)=sL E l:=rfl
@[go_sem] theorem d6L (v:Value):vwQ hp (.val v)=True:=eq_true ⟨rfl,.inl rfl⟩
@[go_sem] theorem e0v (l:List UInt8):vwQ hp (.st l)=True:=eq_true ⟨rfl,.inl rfl⟩
@[go_sem] theorem e0a:vwQ hp .em=True:=eq_true ⟨rfl,.inl rfl⟩
@[go_sem] theorem d9U {α:Type} {E:El α} {l:List α}:vwQ hp (sL E l)=True:=eq_true ⟨rfl,.inl rfl⟩
@[go_sem] theorem d4n (v:Value):b5n (.val v)=false:=rfl
@[go_sem] theorem d8l (l:List UInt8):b5n (.st l)=false:=rfl
@[go_sem] theorem d7g:b5n .em=false:=rfl
@[go_sem] theorem d7R (n s:Nat) (c:Nat->Nat->AV):b5n (.sn n s c)=false:=rfl
@[go_sem] theorem d6p {α:Type} {E:El α} {l:List α}:b5n (sL E l)=false:=rfl
@[go_sem] theorem d8e (p v n:Nat):b5n (.ow p v n)=true:=rfl
@[go_sem] theorem d7t (v:Value):vwP hp (.val v)=True:=eq_true rfl
@[go_sem] theorem d9c (l:List UInt8):vwP hp (.st l)=True:=eq_true rfl
@[go_sem] theorem d86:vwP hp .em=True:=eq_true rfl
@[go_sem] theorem e0p (n s:Nat) (c:Nat->Nat->AV):vwP hp (.sn n s c)=True:=eq_true rfl
@[go_sem] theorem e0n (n:Nat) (c:Nat->AV):vwP hp (.ag n c)=∀ j,j<n->vwQ hp (c j):=rfl
@[go_sem] theorem d7S (v:Value):vwO (.val v)=false:=rfl
@[go_sem] theorem d9p (l:List UInt8):vwO (.st l)=false:=rfl
@[go_sem] theorem d9Z:vwO .em=false:=rfl
@[go_sem] theorem d99 (n s:Nat) (c:Nat->Nat->AV):vwO (.sn n s c)=false:=rfl
@[go_sem] theorem d9t (n:Nat) (c:Nat->AV):vwO (.ps n c)=false:=rfl
@[go_sem] theorem d9H (n:Nat) (c:Nat->AV):vwO (.ag n c)=b0f n fun j=>b5n (c j):=rfl
@[go_sem] theorem d4f (f:Nat->Prop):(∀ j,j<1->f j)=f 0:=propext ⟨fun h=>h 0 (by omega),fun h j hj=>by
 match j,hj with
 | 0,_=>exact h⟩
@[go_sem] theorem d4b (f:Nat->Prop):(∀ j,j<2->f j)=(f 0/\f 1):=propext ⟨fun h=>⟨h 0 (by omega),h 1 (by omega)⟩,fun h j hj=>by
 match j,hj with
 | 0,_=>exact h.1
 | 1,_=>exact h.2⟩
@[go_sem] theorem d5C (f:Nat->Prop):(∀ j,j<3->f j)=(f 0/\f 1/\f 2):=propext ⟨fun h=>⟨h 0 (by omega),h 1 (by omega),h 2 (by omega)⟩,fun h j hj=>by
 match j,hj with
 | 0,_=>exact h.1
 | 1,_=>exact h.2.1
 | 2,_=>exact h.2.2⟩
@[go_sem] theorem d4l (f:Nat->Prop):(∀ j,j<6->f j)=(f 0/\f 1/\f 2/\f 3/\f 4/\f 5):=propext ⟨fun h=>⟨h 0 (by omega),h 1 (by omega),h 2 (by omega),h 3 (by omega),h 4 (by omega),h 5 (by omega)⟩,fun h j hj=>by
 match j,hj with
 | 0,_=>exact h.1
 | 1,_=>exact h.2.1
 | 2,_=>exact h.2.2.1
 | 3,_=>exact h.2.2.2.1
 | 4,_=>exact h.2.2.2.2.1
 | 5,_=>exact h.2.2.2.2.2⟩
@[go_sem] theorem d48 (f:Nat->Prop):(∀ j,j<7->f j)=(f 0/\f 1/\f 2/\f 3/\f 4/\f 5/\f 6):=propext ⟨fun h=>⟨h 0 (by omega),h 1 (by omega),h 2 (by omega),h 3 (by omega),h 4 (by omega),h 5 (by omega),h 6 (by omega)⟩,fun h j hj=>by
 match j,hj with
 | 0,_=>exact h.1
 | 1,_=>exact h.2.1
 | 2,_=>exact h.2.2.1
 | 3,_=>exact h.2.2.2.1
 | 4,_=>exact h.2.2.2.2.1
 | 5,_=>exact h.2.2.2.2.2.1
 | 6,_=>exact h.2.2.2.2.2.2⟩
@[go_sem] theorem d4u (f:Nat->Prop):(∀ j,j<9->f j)=(f 0/\f 1/\f 2/\f 3/\f 4/\f 5/\f 6/\f 7/\f 8):=propext ⟨fun h=>⟨h 0 (by omega),h 1 (by omega),h 2 (by omega),h 3 (by omega),h 4 (by omega),h 5 (by omega),h 6 (by omega),h 7 (by omega),h 8 (by omega)⟩,fun h j hj=>by
 match j,hj with
 | 0,_=>exact h.1
 | 1,_=>exact h.2.1
 | 2,_=>exact h.2.2.1
 | 3,_=>exact h.2.2.2.1
 | 4,_=>exact h.2.2.2.2.1
 | 5,_=>exact h.2.2.2.2.2.1
 | 6,_=>exact h.2.2.2.2.2.2.1
 | 7,_=>exact h.2.2.2.2.2.2.2.1
 | 8,_=>exact h.2.2.2.2.2.2.2.2⟩
@[go_sem] theorem d49 (f:Nat->Bool):b0f 2 f=(f 0||f 1):=by simp [b0f,List.range,List.range.loop,Bool.or_assoc]
@[go_sem] theorem d4Z (f:Nat->Bool):b0f 3 f=(f 0||f 1||f 2):=by simp [b0f,List.range,List.range.loop,Bool.or_assoc]
@[go_sem] theorem d35 (f:Nat->Bool):b0f 6 f=(f 0||f 1||f 2||f 3||f 4||f 5):=by simp [b0f,List.range,List.range.loop,Bool.or_assoc]
@[go_sem] theorem d6c (f:Nat->Bool):b0f 7 f=(f 0||f 1||f 2||f 3||f 4||f 5||f 6):=by simp [b0f,List.range,List.range.loop,Bool.or_assoc]
@[go_sem] theorem d4q (f:Nat->Bool):b0f 9 f=(f 0||f 1||f 2||f 3||f 4||f 5||f 6||f 7||f 8):=by simp [b0f,List.range,List.range.loop,Bool.or_assoc]
@[go_sem] theorem d5r (v:Value):(AV.val v).flat=true:=rfl
@[go_sem] theorem d7w (l:List UInt8):(AV.st l).flat=true:=rfl
@[go_sem] theorem d7z:AV.em.flat=true:=rfl
@[go_sem] theorem d66 (n s:Nat) (c:Nat->Nat->AV):(AV.sn n s c).flat=true:=rfl
@[go_sem] theorem d6n {α:Type} (E:El α) (l:List α):(sL E l).flat=true:=rfl
@[go_sem] theorem d7o (n:Nat) (c:Nat->AV):(AV.ps n c).flat=true:=rfl
@[go_sem] theorem d3y (x:AV):a0e x x=True:=eq_true (a0e.refl x)
@[go_sem] theorem d4p (u v:Value):a0e (.val u) (.val v)=(u=v):=by
 refine propext ⟨fun h=>?_,fun h=>h▸a0e.refl _⟩
 exact h default a1l (fun _=>False) u rfl
@[go_sem] theorem d72 (u v:List UInt8):a0e (.st u) (.st v)=(u=v):=by
 refine propext ⟨fun h=>?_,fun h=>h▸a0e.refl _⟩
 have:=h default a1l (fun _=>False) _ rfl
 simpa [Rep] using this
end
theorem b4k {sz m:Nat}:∀ (parts:List (Nat×AV)) (k:Nat) (c:Nat->AV) (l:List (Nat->AV)),a2I sz k parts=some l->(k+l.length)*sz<=m->
  ∃ c',a50 (fun i=>some (i*sz,sz)) m c parts=some c'
 | [],_,c,_,_,_=>⟨c,rfl⟩
 | (i,x)::r,k,c,l,ho,hm=>by
   unfold a2I at ho
   cases hx:a1u x with
   | none=>rw [hx] at ho;cases ho
   | some y=>
     obtain⟨k',d⟩:=y
     simp only [hx] at ho
     split at ho
     ·rename_i e
      obtain⟨rfl,rfl⟩:=e
      cases hr:a2I k' (i+1) r with
      | none=>rw [hr] at ho;cases ho
      | some l'=>
        rw [hr] at ho
        simp only [Option.map_some,Option.some.injEq] at ho
        subst ho
        simp only [List.length_cons] at hm
        unfold a50
        simp only [hx]
        have h1:(i+1)*k'<=(i+(l'.length+1))*k':=Nat.mul_le_mul_right _ (by omega)
        rw [Nat.add_mul] at h1
        rw [if_pos ⟨trivial,by omega⟩]
        exact b4k r (i+1) _ l' hr (by rw [show i+1+l'.length=i+(l'.length+1) by omega];exact hm)
     ·cases ho
theorem b07 {P:Program} {t:TypeId} {n:Nat} {parts:List (Nat×AV)}:a2K P t (n+1) parts=if (parts.any fun x=>vwO x.2)=true then none else match P.underlying t with
  | some (.slice e)=>match a2g P e with
    | some z=>match a2I (P.cellsOf e) 0 parts with
      | some l=>if l.length=n+1 then some ((∀ x∈parts,b1m x.2)/\z.length=P.cellsOf e/\0<P.cellsOf e/\(n+1)*P.cellsOf e<=16777216,.sn (n+1) (P.cellsOf e) fun i=>l.getD i fun _=>.any,.dead)
        else (a2F P t (n+1) parts).map fun x=>(x.1,a7o parts x.2.1,x.2.2)
      | none=>(a2F P t (n+1) parts).map fun x=>(x.1,a7o parts x.2.1,x.2.2)
    | none=>none
  | _=>none:=by
 unfold a2K a2F
 split
 ·rfl
 generalize P.underlying t=u
 cases u with
 | none=>rfl
 | some d=>
   cases d with
   | slice e=>
     simp only
     cases hz:a2g P e with
     | none=>rfl
     | some z=>
       simp only
       cases ho:a2I (P.cellsOf e) 0 parts with
       | none=>rfl
       | some l=>
         simp only
         by_cases hl:l.length=n+1
         ·rw [if_pos hl]
          obtain⟨c',hc⟩:=b4k (m:=(n+1)*P.cellsOf e) parts 0 (fun k=>a7i (z.getD (k % z.length) undef)) l ho (by rw [Nat.zero_add,hl];exact Nat.le_refl _)
          rw [hc]
          simp [a7o,ho,hl]
         ·rw [if_neg hl]
   | _=>rfl
@[go_sem] theorem b9s {P:Program} {t:TypeId} {parts:List (Nat×AV)}:a2K P t 0 parts=if (parts.any fun x=>vwO x.2)=true then none else match P.underlying t with
  | some (.slice e)=>match a2g P e with
    | some _=>some (parts=[]/\0<P.cellsOf e,.em,.dead)
    | none=>none
  | _=>none:=by
 unfold a2K a2F
 split
 ·rfl
 generalize P.underlying t=u
 cases u with
 | none=>rfl
 | some d=>
   cases d with
   | slice e=>
     simp only
     cases hz:a2g P e<;>rfl
   | _=>rfl
attribute [go_sem] b07
@[go_sem] theorem d1b (sz k:Nat):a2I sz k []=some []:=rfl
@[go_sem] theorem c8u (sz k i:Nat) (x:AV) (r:List (Nat×AV)):a2I sz k ((i,x)::r)=match a1u x with
  | some (m,c)=>if i=k/\m=sz then (a2I sz (k+1) r).map (c::·) else none
  | none=>none:=rfl
@[go_sem] theorem c8v (k:IntKind) (n:Int):a1u (.val (.int k n))=some (1,fun _=>.val (.int k n)):=rfl
@[go_sem] theorem c7d (n:Bool):a1u (.val (.bool n))=some (1,fun _=>.val (.bool n)):=rfl
@[go_sem] theorem d09 (l:List UInt8):a1u (.st l)=some (1,fun _=>.st l):=rfl
@[go_sem] theorem d1i:a1u .em=some (1,fun _=>.em):=rfl
@[go_sem] theorem d1v (n s:Nat) (c:Nat->Nat->AV):a1u (.sn n s c)=some (1,fun _=>.sn n s c):=rfl
@[go_sem] theorem d1o {α:Type} (E:El α) (l:List α):a1u (sL E l)=some (1,fun _=>sL E l):=rfl
@[go_sem] theorem d08 (n:Nat) (c:Nat->AV):a1u (.ps n c)=some (1,fun _=>.ps n c):=rfl
@[go_sem] theorem d1h (p v n:Nat):a1u (.ow p v n)=some (1,fun _=>.ow p v n):=rfl
@[go_sem] theorem d1y (p v n:Nat):a1u (.pt p v n)=some (1,fun _=>.pt p v n):=rfl
@[go_sem] theorem d1c (n:Nat) (c:Nat->AV):a1u (.ag n c)=some (n,c):=rfl
@[go_sem] theorem d3p (v:Value):b1m (.val v)=True:=eq_true rfl
@[go_sem] theorem d33 (l:List UInt8):b1m (.st l)=True:=eq_true rfl
@[go_sem] theorem d5O {α:Type} (E:El α) (l:List α):b1m (sL E l)=True:=eq_true rfl
@[go_sem] theorem d4V (n:Nat) (c:Nat->AV):b1m (.ag n c)=∀ j,j<n->(c j).flat=true:=rfl
def El.okc {α:Type} (E:El α) (c:Nat->AV):Prop:=∀ j,j<E.sz->a0e (c j) (E.enc (E.dec c) j)
@[go_sem] theorem e1D {α:Type} (E:El α) (l:List α):(eL E).okc (fun _=>sL E l)=True:=eq_true fun _ _=>by
 show a0e (sL E l) (sL E (gL E (sL E l)))
 rw [a5M]
 exact a0e.refl _
@[go_sem] theorem e05 (n:Int):eI.dec (fun _=>.val (.int .i64 n))=n:=rfl
@[go_sem] theorem e1p (n:Bool):eB.dec (fun _=>.val (.bool n))=n:=rfl
@[go_sem] theorem e1J (n:List UInt8):eS.dec (fun _=>.st n)=n:=rfl
@[go_sem] theorem e1y {α:Type} (E:El α) (l:List α):(eL E).dec (fun _=>sL E l)=l:=a5M E l
@[go_sem] theorem d4M {α:Type} (E:El α):(eL E).dec (fun _=>.em)=[]:=rfl
@[go_sem] theorem a9W (α:Type):([]:List α).length=0:=(rfl)
@[go_sem] theorem a79 {α:Type} (x:α) (l:List α):(x::l).length=l.length+1:=(rfl)
section
variable {α:Type} (E:El α) (n s:Nat) (l:List (Nat->AV))
@[go_sem] theorem b6b:(kL E).dec (.sn n s fun i=>l.getD i fun _=>.any)=if l.length=n then l.map E.dec else (List.range n).map fun i=>E.dec (l.getD i fun _=>.any):=by
 split
 ·rename_i h
  subst h
  simp only [kL,gL]
  apply List.ext_getElem
  ·simp
  ·intro i h1 h2
   simp at h1
   simp [List.getD,h1]
 ·rfl
@[go_sem] theorem d1n (h:E.sz=s) (h1:l.length=n) (h2:∀ c∈l,E.okc c):(kL E).ok (.sn n s fun i=>l.getD i fun _=>.any)=True:=by
 refine eq_true ?_
 show a0e _ _
 rw [b6b,if_pos h1]
 show a0e _ (sL E _)
 subst h h1
 unfold sL
 rw [List.length_map]
 refine a0e.sn fun i hi j hj=>?_
 simp only [List.getD,List.getElem?_eq_getElem hi,List.getElem?_map,Option.map_some,Option.getD_some]
 exact h2 _ (List.getElem_mem hi) j hj
end
attribute [go_sem ↓] reduceIte
attribute [go_sem] Value.int.injEq Value.bool.injEq
@[go_sem] theorem c7Y (p:Prop) [Decidable p]:(false=decide p)=¬p:=by simp
@[go_sem] theorem c8G (p:Prop) [Decidable p]:(true=decide p)=p:=by simp
attribute [go_sem] List.getElem?_toArray List.getElem?_cons_zero List.getElem?_cons_succ Option.bind_some List.map_cons List.map_nil List.any_cons List.any_nil List.mem_cons forall_eq_or_imp List.not_mem_nil
attribute [go_sem] if_true if_false true_and and_true not_true_eq_false not_false_eq_true implies_true decide_eq_true_eq decide_eq_false_iff_not Bool.and_eq_true Bool.and_eq_false_imp forall_const Nat.add_zero
attribute [go_sem] imp_self Option.map_some Option.map_none Bool.cond_false_right Bool.cond_true_left Bool.cond_false_left Bool.cond_true_right Int.toNat_natCast Bool.or_false Bool.false_or reduceCtorEq
attribute [go_sem] Bool.false_eq_true Bool.true_eq_false false_implies true_implies ite_true ite_false and_self false_and and_false List.getD_cons_zero List.getD_cons_succ List.getD_nil Nat.reduceEqDiff Nat.reduceBEq beq_self_eq_true Bool.true_or Bool.or_true Nat.reduceLT Nat.reduceLeDiff Nat.reduceAdd Nat.reduceSub Nat.reduceMul Nat.le_refl Nat.zero_add Int.reduceAdd Int.reduceSub Int.reduceMul Int.reduceNeg Int.reduceLT Int.reduceLE Int.reduceEq Int.reduceToNat decide_true decide_false Bool.not_true Bool.not_false Bool.and_true Bool.true_and Bool.false_and Bool.and_false
theorem a8C {α:Type} (l:List α) (d:α) {a n:Nat} (h:a+n<=l.length):(List.range n).map (fun i=>l.getD (a+i) d)=(l.drop a).take n:=by
 apply List.ext_getElem
 ·simp;omega
 ·intro i h1 h2
  simp at h1
  have:a+i<l.length:=by omega
  simp [List.getD,this]
theorem c98 {α:Type} (E:El α) (l:List α) {n s m:Nat} {d:α} (hd:d=E.dflt) (hs:s=E.sz) (h:n=min m l.length):a0e (.sn n s fun i=>E.enc (l.getD i d)) (sL E (l.take m)):=by
 subst hd hs h
 refine d0A E _ _ _ ?_
 apply List.ext_getElem
 ·simp
 ·intro i h1 h2
  simp only [List.length_take] at h1
  have:i<l.length:=by omega
  simp [List.getD,this]
end Go.Proofs.YthpjjjnbkfnghaaGreatDoor
namespace Go.Proofs.YthpjjjnbkfnghaaGreatDoor
open Go
section
variable {P:Program}
def c9o (P:Program) (g:FuncId):Prop:=
 (∀ (args:Array Value) (w:World),(callFunc g args).run P w=.ok (.enter g args) w)/\
 ∀ w:World,CallsD P g #[] .returning w fun e u' w'=>u'=.returning/\(∃ v,e=.returned v)/\w'=w
theorem a4z {g:FuncId} {fn:Func} {id:Nat} {ty:TypeId} {pos:String} (hf:P.funcs[g]?=some fn) (hn:(fn.name == "runtime.NumGoroutine")=false) (hl:fn.results=#[])
  (hb:fn.body=some (.region id #[{ dst:=some 0,op:=.call { callee:=.builtin .recover,args:=#[],argTypes:=#[] },type:=ty,pos:=pos,after:=#[],guard:=none }] false)):c9o P g:=by
 refine⟨a67 hf hb hn,fun w=>callsD_of_wpS hf hb fun c₀ cs hu=>?_⟩
 apply wpS_region
 have e:c₀={ c₀ with mode:=.returning }:=by cases c₀;simp_all
 have:recoverD (c₀::cs)=none:=by simp [recoverD,hu]
 have hx:∀ ρ,(execOp ρ { dst:=some 0,op:=.call { callee:=.builtin .recover,args:=#[],argTypes:=#[] },type:=ty,pos:=pos,after:=#[],guard:=none }).run P w=.ok .recover w:=fun _=>rfl
 simp [wpOpsS,Region.wanted,hx,this,bodyPostS,results,hl]
 exact⟨rfl,e⟩
def d1k (P:Program) (g:FuncId) (l:List ResultVar) (r:AV) (st:AS):Prop:=
 st.df=[⟨.fn (.func g) #[],#[]⟩]/\b3p P l r ⟨st.fr,st.hp,st.sz,st.top,st.nx,[]⟩
def c54 (P:Program) (g:FuncId) (l:List ResultVar) (r:AV):Exit->AS->Prop
 | .normal,st=>d1k P g l r st
 | .ret,st=>d1k P g l r st
 | _,_=>False
@[go_sem] theorem c7e {g:FuncId} {l:List ResultVar} {r:AV} {st:AS}:c54 P g l r .normal st=d1k P g l r st:=rfl
@[go_sem] theorem d3c {g:FuncId} {l:List ResultVar} {r:AV} {st:AS}:c54 P g l r .ret st=d1k P g l r st:=rfl
attribute [go_sem] d1k
theorem SR.undefer {c:Ctx} {st:AS} {η:Env} {a:Act} {w:World} (h:SR c st η a w):SR c ⟨st.fr,st.hp,st.sz,st.top,st.nx,[]⟩ η { a with defers:=[] } w:=
 ⟨h.hs,h.dead,h.size,h.slots,rfl⟩
theorem a0d.mkD {f g:FuncId} {fn:Func} {code:Code} {s:a0s} {l:List ResultVar} (hg:c9o P g) (hf:P.funcs[f]?=some fn) (hb:fn.body=some code) (hn:(fn.name == "runtime.NumGoroutine")=false) (hl:fn.results=l.toArray)
  (h:∀ args,s.pre args->args.length<=fn.ntmps/\AW P code (c54 P g l (s.res args)) (st0 fn.ntmps args)):a0d P f s:=by
 refine⟨a67 hf hb hn,fun args hpre w L vs hT hL hargs=>?_⟩
 obtain⟨hlen,haw⟩:=h args hpre
 refine calls_of_wp_defers hf hb (wp_mono (haw _ _ _ _ (SR.begin hT hL hargs hlen)) ?_)
 rintro e a' w' ⟨st',η',hq,hsr'⟩
 have key:d1k P g l (s.res args) st'->Leaves P fn a'.tmps (fun e w''=>∃ v,e=.returned v/\Fr (fun _=>False) w w''/\Rep w'' a1l L (s.res args) v) a'.defers .returning w':=by
  rintro⟨hd,hr⟩
  obtain⟨_,v,hv,hrep⟩:=a8J hsr'.undefer hl hr
  rw [hsr'.defs,hd]
  refine leaves_cons (by simp) (f:=g) (args:=#[]) ?_ ?_
  ·have:=hg.1 #[] w'
   simp only [invoke] at this ⊢
   simpa using this
  ·refine (hg.2 w').mono ?_
   rintro e u' w'' ⟨rfl,⟨v',rfl⟩,rfl⟩
   exact⟨v,hv,v,rfl,hsr'.hs.fr,hrep⟩
 cases e with
 | normal=>exact key hq
 | ret=>exact key hq
 | exit id=>exact hq.elim
 | goto id=>exact hq.elim
 | panic ch=>exact hq.elim
 | outgrown=>exact hq.elim
theorem a0d.f2D {α β:Type} {f g:FuncId} {fn:Func} {code:Code} {l:List ResultVar} {A:Kd α} {B:Kd β} {dom:α->β->Prop} {out:α->β->AV} (hg:c9o P g) (hf:P.funcs[f]?=some fn) (hb:fn.body=some code) (hn:(fn.name == "runtime.NumGoroutine")=false) (hl:fn.results=l.toArray) {n:Nat} (ht:fn.ntmps=n) (hm:2<=n)
  (h:∀ a b,dom a b->AW P code (c54 P g l (out a b)) (st0 n [A.enc a,B.enc b])):a0d P f (a0s.f2 A B dom out):=by
 subst ht
 refine a0d.mkD hg hf hb hn hl fun args hp=>?_
 match args,hp with
 | [x,y],hp=>exact⟨hm,AW.le (b0u (.cons hp.1 (.cons hp.2.1 .nil))) (h _ _ hp.2.2)⟩
def rM (P:Program) (st:AS):ResultVar->Out
 | .tmp t=>some (True,st.fr t)
 | .cell t ty=>a9m P st.hp ty (st.fr t)
def c5r (P:Program) (l:List ResultVar) (K:AV->(Nat->Row)->Nat->Nat->Prop) (st:AS):Prop:=
 st.df=[]/\match l with
 | []=>K (.val (.tuple #[])) st.hp st.top st.nx
 | [x]=>match rM P st x with
   | some (p,r)=>p/\K r st.hp st.top st.nx
   | none=>False
 | [x,y]=>match rM P st x,rM P st y with
   | some (p,r),some (q,s)=>(p/\q)/\K (tu2 r s) st.hp st.top st.nx
   | _,_=>False
 | [x,y,z]=>match rM P st x,rM P st y,rM P st z with
   | some (p,r),some (q,s),some (p',t)=>(p/\q/\p')/\K (tu3 r s t) st.hp st.top st.nx
   | _,_,_=>False
 | _=>False
def d4r (P:Program) (l:List ResultVar) (K:AV->(Nat->Row)->Nat->Nat->Prop):Exit->AS->Prop
 | .normal,st=>c5r P l K st
 | .ret,st=>c5r P l K st
 | _,_=>False
@[go_sem] theorem b0m {l:List ResultVar} {K:AV->(Nat->Row)->Nat->Nat->Prop} {st:AS}:d4r P l K .normal st=c5r P l K st:=rfl
@[go_sem] theorem d5m {l:List ResultVar} {K:AV->(Nat->Row)->Nat->Nat->Prop} {st:AS}:d4r P l K .ret st=c5r P l K st:=rfl
attribute [go_sem] c5r rM
theorem b1S {c:Ctx} {st:AS} {η:Env} {a:Act} {w:World} (h:SR c st η a w) {x:ResultVar} {p:Prop} {r:AV} (hx:rM P st x=some (p,r)) (hp:p) :
  ∃ v,((match x with|.tmp t=>pure (a.tmps.getD t undef)|.cell t ty=>do loadVar ty (<-asAddr (a.tmps.getD t undef))):Sem Value).run P w=.ok v w/\Rep w η (a0Y c η st.hp) r v:=by
 cases x with
 | tmp t=>
   simp only [rM,Option.some.injEq,Prod.mk.injEq] at hx
   obtain⟨rfl,rfl⟩:=hx
   exact⟨_,rfl,h.slots t⟩
 | cell t ty=>
   obtain⟨v,hv,hr⟩:=b0g h.hs.rows hx hp (h.slots t)
   refine⟨v,?_,hr⟩
   have hx':a9m P st.hp ty (st.fr t)=some (p,r):=hx
   have hpt:∃ ad,a.tmps.getD t undef=.pointer (some ad):=by
    have hs:=h.slots t
    unfold a9m at hx'
    split at hx'<;>first
     | (rename_i heq;rw [heq] at hs;first|(obtain⟨b,o,e,_⟩:=hs;exact⟨_,e⟩)|(obtain⟨g,cap,_,e⟩:=hs;exact⟨_,e⟩))
     | cases hx'
   obtain⟨ad,e⟩:=hpt
   simp only
   rw [e] at hv ⊢
   simpa [Instr.loadAt,Instr.sureAddr,asAddr] using hv
theorem b32 {c:Ctx} {st:AS} {η:Env} {a:Act} {w:World} (h:SR c st η a w) {fn:Func} {l:List ResultVar} (hl:fn.results=l.toArray) {K:AV->(Nat->Row)->Nat->Nat->Prop} (hr:c5r P l K st) :
  a.defers=[]/\∃ v r,(results fn a.tmps).run P w=.ok v w/\K r st.hp st.top st.nx/\Rep w η (a0Y c η st.hp) r v:=by
 obtain⟨hd,hr⟩:=hr
 refine⟨by rw [h.defs,hd],?_⟩
 unfold results
 rw [hl]
 split at hr
 ·exact⟨_,_,by simp,hr,rfl⟩
 ·split at hr
  ·rename_i x _ p r hx
   obtain⟨v,hv,hrep⟩:=b1S h hx hr.1
   refine⟨v,r,?_,hr.2,hrep⟩
   rw [Array.mapM_eq_mapM_toList]
   simp only [List.mapM_cons,List.mapM_nil,Sem.run_bind,Sem.run_map]
   cases x<;>simp only at hv ⊢<;>rw [hv]<;>simp
  ·exact hr.elim
 ·split at hr
  ·rename_i x y _ _ p r q s hx hy
   obtain⟨v1,hv1,hr1⟩:=b1S h hx hr.1.1
   obtain⟨v2,hv2,hr2⟩:=b1S h hy hr.1.2
   refine⟨.tuple #[v1,v2],_,?_,hr.2,#[v1,v2],rfl,rfl,fun j hj=>?_⟩
   ·rw [Array.mapM_eq_mapM_toList]
    simp only [List.mapM_cons,List.mapM_nil,Sem.run_bind,Sem.run_map]
    cases x<;>simp only at hv1 ⊢<;>rw [hv1]<;>cases y<;>simp only [Result.andThen_ok] at hv2 ⊢<;>rw [hv2]<;>simp
   ·match j,hj with
    | 0,_=>exact⟨v1,rfl,hr1⟩
    | 1,_=>exact⟨v2,rfl,hr2⟩
  ·exact hr.elim
 ·split at hr
  ·rename_i x y z _ _ _ p r q s p' t hx hy hz
   obtain⟨v1,hv1,hr1⟩:=b1S h hx hr.1.1
   obtain⟨v2,hv2,hr2⟩:=b1S h hy hr.1.2.1
   obtain⟨v3,hv3,hr3⟩:=b1S h hz hr.1.2.2
   refine⟨.tuple #[v1,v2,v3],_,?_,hr.2,#[v1,v2,v3],rfl,rfl,fun j hj=>?_⟩
   ·rw [Array.mapM_eq_mapM_toList]
    simp only [List.mapM_cons,List.mapM_nil,Sem.run_bind,Sem.run_map]
    cases x<;>simp only at hv1 ⊢<;>rw [hv1]<;>cases y<;>simp only [Result.andThen_ok] at hv2 ⊢<;>rw [hv2]<;>cases z<;>simp only [Result.andThen_ok] at hv3 ⊢<;>rw [hv3]<;>simp
   ·match j,hj with
    | 0,_=>exact⟨v1,rfl,hr1⟩
    | 1,_=>exact⟨v2,rfl,hr2⟩
    | 2,_=>exact⟨v3,rfl,hr3⟩
  ·exact hr.elim
 ·exact hr.elim
def stM (n:Nat) (args:List AV) (hp:Nat->Row) (top nx:Nat):AS:=⟨fun t=>args.getD t .any,hp,n,top,nx,[]⟩
attribute [go_sem] stM
theorem a0i.mk {f:FuncId} {fn:Func} {code:Code} {S:a0L} {l:List ResultVar} (hf:P.funcs[f]?=some fn) (hb:fn.body=some code) (hn:(fn.name == "runtime.NumGoroutine")=false) (hl:fn.results=l.toArray) {n:Nat} (ht:fn.ntmps=n)
  (h:∀ args hp top nx K,S args hp top nx K->args.length<=n/\AW P code (d4r P l K) (stM n args hp top nx)):a0i P f S:=by
 subst ht
 refine⟨a67 hf hb hn,fun args hp top nx K hS c η w vs hs hdead hargs=>?_⟩
 obtain⟨hlen,haw⟩:=h args hp top nx K hS
 obtain⟨hlen',hget⟩:=b2Y hargs
 have hsr:SR c (stM fn.ntmps args hp top nx) η { tmps:=vs.toArray++Array.replicate (fn.ntmps-vs.toArray.size) undef,defers:=[] } w:=by
  refine⟨hs,hdead,?_,fun t=>?_,rfl⟩
  ·simp [stM];omega
  ·simp only [stM,List.getD_eq_getElem?_getD]
   cases ht:args[t]? with
   | none=>exact trivial
   | some x=>
     obtain⟨y,hy,hr⟩:=hget t x ht
     have:(vs.toArray++Array.replicate (fn.ntmps-vs.toArray.size) undef).getD t undef=y:=by
      have hlt:t<vs.length:=by
       rcases Nat.lt_or_ge t vs.length with h|h
       ·exact h
       ·rw [List.getElem?_eq_none h] at hy;cases hy
      rw [Array.getD_eq_getD_getElem?,Array.getElem?_append_left (by simpa using hlt)]
      simp [hy]
     rw [this]
     exact hr
 refine calls_of_wp hf hb (wp_mono (haw c η _ w hsr) ?_)
 rintro e a' w' ⟨st',η',hq,hsr'⟩
 cases e with
 | normal=>
   obtain⟨hd,v,r,hv,hK,hr⟩:=b32 hsr' hl hq
   exact⟨hd,v,hv,v,r,_,_,_,η',rfl,hK,hsr'.hs,hsr'.dead,hr⟩
 | ret=>
   obtain⟨hd,v,r,hv,hK,hr⟩:=b32 hsr' hl hq
   exact⟨hd,v,hv,v,r,_,_,_,η',rfl,hK,hsr'.hs,hsr'.dead,hr⟩
 | exit id=>exact hq.elim
 | goto id=>exact hq.elim
 | panic ch=>exact hq.elim
 | outgrown=>exact hq.elim
end
end Go.Proofs.YthpjjjnbkfnghaaGreatDoor
namespace Go.Proofs.YthpjjjnbkfnghaaGreatDoor
open Go
theorem mixed:Tryz.prog.follows .mixedOrders=true:=by kernel_rfl
attribute [go_sem] Tryz.underlying2
attribute [go_sem] Tryz.underlying3
@[go_sem] theorem e1U:a5P Tryz.prog 3=some false:=by kernel_rfl
@[go_sem] theorem d2X:Tryz.prog.cellsOf 3=1:=by kernel_rfl
@[go_sem] theorem d9D:Tryz.prog.bytesOf 3=8:=by kernel_rfl
@[go_sem] theorem d9e:a2z Tryz.prog 3=none:=by kernel_rfl
@[go_sem] theorem d9F:c1c Tryz.prog 3=some (.int .i64 0):=by kernel_rfl
@[go_sem] theorem e1x:a2g Tryz.prog 3=some [.int .i64 0]:=by kernel_rfl
attribute [go_sem] Tryz.underlying4
@[go_sem] theorem e1Y:a5P Tryz.prog 4=some false:=by kernel_rfl
@[go_sem] theorem d9l:Tryz.prog.cellsOf 4=1:=by kernel_rfl
@[go_sem] theorem d9E:a2z Tryz.prog 4=none:=by kernel_rfl
@[go_sem] theorem d9u:c1c Tryz.prog 4=some (.bool false):=by kernel_rfl
attribute [go_sem] Tryz.underlying5
@[go_sem] theorem e18:a5P Tryz.prog 5=some false:=by kernel_rfl
@[go_sem] theorem a64:Tryz.prog.cellsOf 5=1:=by kernel_rfl
@[go_sem] theorem a3F:Tryz.prog.bytesOf 5=1:=by kernel_rfl
@[go_sem] theorem b2G:a2g Tryz.prog 5=some [.int .u8 0]:=by kernel_rfl
attribute [go_sem] Tryz.underlying6
attribute [go_sem] Tryz.underlying9
@[go_sem] theorem e2k:a5P Tryz.prog 9=some false:=by kernel_rfl
@[go_sem] theorem cells9:Tryz.prog.cellsOf 9=1:=by kernel_rfl
@[go_sem] theorem e0B:Tryz.prog.bytesOf 9=16:=by kernel_rfl
@[go_sem] theorem d9k:a2z Tryz.prog 9=none:=by kernel_rfl
@[go_sem] theorem e0W:a2g Tryz.prog 9=some [.string ⟨#[]⟩]:=by kernel_rfl
attribute [go_sem] Tryz.underlying10
attribute [go_sem] Tryz.underlying11
attribute [go_sem] Tryz.underlying12
attribute [go_sem] Tryz.underlying15
attribute [go_sem] Tryz.underlying16
attribute [go_sem] Tryz.underlying17
attribute [go_sem] Tryz.underlying21
attribute [go_sem] Tryz.underlying23
@[go_sem] theorem cells23:Tryz.prog.cellsOf 23=1:=by kernel_rfl
attribute [go_sem] Tryz.underlying24
attribute [go_sem] Tryz.underlying26
@[go_sem] theorem e1w:a5P Tryz.prog 26=some false:=by kernel_rfl
@[go_sem] theorem d6U:Tryz.prog.cellsOf 26=1:=by kernel_rfl
attribute [go_sem] Tryz.underlying31
attribute [go_sem] Tryz.underlying36
@[go_sem] theorem e1I:a5P Tryz.prog 36=some false:=by kernel_rfl
@[go_sem] theorem cells36:Tryz.prog.cellsOf 36=1:=by kernel_rfl
@[go_sem] theorem d8P:a2g Tryz.prog 36=some [.slice none 0 0]:=by kernel_rfl
attribute [go_sem] Tryz.underlying38
@[go_sem] theorem e0N:c3K Tryz.prog 38=True:=eq_true (by unfold c3K;kernel_rfl)
attribute [go_sem] Tryz.underlying43
@[go_sem] theorem e1L:a5P Tryz.prog 43=some false:=by kernel_rfl
@[go_sem] theorem d6o:Tryz.prog.cellsOf 43=1:=by kernel_rfl
attribute [go_sem] Tryz.underlying44
@[go_sem] theorem e1P:a5P Tryz.prog 44=some false:=by kernel_rfl
@[go_sem] theorem d6q:Tryz.prog.cellsOf 44=1:=by kernel_rfl
attribute [go_sem] Tryz.underlying45
@[go_sem] theorem e1c:a5P Tryz.prog 45=some false:=by kernel_rfl
@[go_sem] theorem d8I:Tryz.prog.cellsOf 45=1:=by kernel_rfl
attribute [go_sem] Tryz.underlying46
@[go_sem] theorem e0R:a5P Tryz.prog 46=some false:=by kernel_rfl
@[go_sem] theorem d6x:Tryz.prog.cellsOf 46=1:=by kernel_rfl
@[go_sem] theorem e1q:a5P Tryz.prog 48=some true:=by kernel_rfl
@[go_sem] theorem d73:Tryz.prog.cellsOf 48=7:=by kernel_rfl
@[go_sem] theorem e0H:a2g Tryz.prog 48=some [.slice none 0 0,.slice none 0 0,.slice none 0 0,.slice none 0 0,.string ⟨#[]⟩,.int .i64 0,.int .i64 0]:=by kernel_rfl
@[go_sem] theorem d7k:fld Tryz.prog 48 0=some (0,44):=by kernel_rfl
@[go_sem] theorem d6G:fld Tryz.prog 48 1=some (1,45):=by kernel_rfl
@[go_sem] theorem d7L:fld Tryz.prog 48 2=some (2,45):=by kernel_rfl
@[go_sem] theorem d8q:fld Tryz.prog 48 3=some (3,46):=by kernel_rfl
@[go_sem] theorem d6E:fld Tryz.prog 48 4=some (4,9):=by kernel_rfl
@[go_sem] theorem d8y:fld Tryz.prog 48 5=some (5,3):=by kernel_rfl
@[go_sem] theorem d75:fld Tryz.prog 48 6=some (6,3):=by kernel_rfl
@[go_sem] theorem e1H:a4V Tryz.prog 48=some [(0,1),(1,1),(2,1),(3,1),(4,1),(5,1),(6,1)]:=by kernel_rfl
@[go_sem] theorem d7x:a5X Tryz.prog 48=true:=by kernel_rfl
attribute [go_sem] Tryz.underlying58
attribute [go_sem] Tryz.underlying63
@[go_sem] theorem e0M:a5P Tryz.prog 63=some false:=by kernel_rfl
@[go_sem] theorem d67:Tryz.prog.cellsOf 63=1:=by kernel_rfl
@[go_sem] theorem d8z:Tryz.prog.bytesOf 63=24:=by kernel_rfl
@[go_sem] theorem d9v:a2g Tryz.prog 63=some [.slice none 0 0]:=by kernel_rfl
@[go_sem] theorem e1T:a5P Tryz.prog 73=some true:=by kernel_rfl
@[go_sem] theorem d8H:Tryz.prog.cellsOf 73=3:=by kernel_rfl
@[go_sem] theorem d6X:a2z Tryz.prog 73=some [(0,9),(1,9),(2,9)]:=by kernel_rfl
@[go_sem] theorem d7r:fld Tryz.prog 73 0=some (0,9):=by kernel_rfl
@[go_sem] theorem d6m:fld Tryz.prog 73 1=some (1,9):=by kernel_rfl
@[go_sem] theorem d6P:fld Tryz.prog 73 2=some (2,9):=by kernel_rfl
@[go_sem] theorem e1r:a5P Tryz.prog 75=some true:=by kernel_rfl
@[go_sem] theorem d8d:Tryz.prog.cellsOf 75=6:=by kernel_rfl
@[go_sem] theorem e0t:a2g Tryz.prog 75=some [.string ⟨#[]⟩,.string ⟨#[]⟩,.string ⟨#[]⟩,.int .i64 0,.int .i64 0,.int .i64 0]:=by kernel_rfl
@[go_sem] theorem d7b:fld Tryz.prog 75 0=some (0,73):=by kernel_rfl
@[go_sem] theorem d7y:fld Tryz.prog 75 1=some (3,3):=by kernel_rfl
@[go_sem] theorem d6u:fld Tryz.prog 75 2=some (4,3):=by kernel_rfl
@[go_sem] theorem d6N:fld Tryz.prog 75 3=some (5,3):=by kernel_rfl
@[go_sem] theorem e0P:a4V Tryz.prog 75=some [(0,3),(3,1),(4,1),(5,1)]:=by kernel_rfl
@[go_sem] theorem d7e:a5X Tryz.prog 75=true:=by kernel_rfl
@[go_sem] theorem e1d:a5P Tryz.prog 84=some true:=by kernel_rfl
@[go_sem] theorem d8F:Tryz.prog.cellsOf 84=3:=by kernel_rfl
@[go_sem] theorem d7T:Tryz.prog.bytesOf 84=40:=by kernel_rfl
@[go_sem] theorem e0C:a2g Tryz.prog 84=some [.int .i64 0,.int .i64 0,.slice none 0 0]:=by kernel_rfl
@[go_sem] theorem d61:fld Tryz.prog 84 0=some (0,3):=by kernel_rfl
@[go_sem] theorem d6J:fld Tryz.prog 84 1=some (1,3):=by kernel_rfl
@[go_sem] theorem d8c:fld Tryz.prog 84 2=some (2,26):=by kernel_rfl
@[go_sem] theorem e1f:a4V Tryz.prog 84=some [(0,1),(1,1),(2,1)]:=by kernel_rfl
@[go_sem] theorem d7j:a5X Tryz.prog 84=true:=by kernel_rfl
@[go_sem] theorem e1N:a5P Tryz.prog 86=some true:=by kernel_rfl
@[go_sem] theorem d60:Tryz.prog.cellsOf 86=2:=by kernel_rfl
@[go_sem] theorem d7U:Tryz.prog.bytesOf 86=32:=by kernel_rfl
@[go_sem] theorem d93:a2g Tryz.prog 86=some [.int .i64 0,.slice none 0 0]:=by kernel_rfl
@[go_sem] theorem d64:fld Tryz.prog 86 0=some (0,3):=by kernel_rfl
@[go_sem] theorem d7W:fld Tryz.prog 86 1=some (1,36):=by kernel_rfl
@[go_sem] theorem e1h:a4V Tryz.prog 86=some [(0,1),(1,1)]:=by kernel_rfl
@[go_sem] theorem d8A:a5X Tryz.prog 86=true:=by kernel_rfl
attribute [go_sem] Tryz.underlying93
attribute [go_sem] Tryz.underlying102
@[go_sem] theorem d8Y:a5P Tryz.prog 102=some false:=by kernel_rfl
@[go_sem] theorem d40:Tryz.prog.cellsOf 102=1:=by kernel_rfl
attribute [go_sem] Tryz.underlying103
@[go_sem] theorem d4v:Tryz.prog.cellsOf 103=3:=by kernel_rfl
attribute [go_sem] Tryz.underlying104
@[go_sem] theorem e0q:c3K Tryz.prog 104=True:=eq_true (by unfold c3K;kernel_rfl)
@[go_sem] theorem e0I:a5P Tryz.prog 104=some false:=by kernel_rfl
@[go_sem] theorem d5w:Tryz.prog.cellsOf 104=1:=by kernel_rfl
@[go_sem] theorem d8D:a2g Tryz.prog 106=some [.slice none 0 0,.slice none 0 0,.slice none 0 0,.string ⟨#[]⟩,.string ⟨#[]⟩,.string ⟨#[]⟩,.int .i64 0,.int .i64 0,.int .i64 0,.pointer none]:=by kernel_rfl
@[go_sem] theorem d58:fld Tryz.prog 106 0=some (0,103):=by kernel_rfl
@[go_sem] theorem d6j:fld Tryz.prog 106 1=some (3,75):=by kernel_rfl
@[go_sem] theorem d5B:fld Tryz.prog 106 2=some (9,104):=by kernel_rfl
@[go_sem] theorem d9x:a4V Tryz.prog 106=some [(0,3),(3,6),(9,1)]:=by kernel_rfl
@[go_sem] theorem d6f:a5X Tryz.prog 106=true:=by kernel_rfl
attribute [go_sem] Tryz.underlying125
@[go_sem] theorem e0A:a5P Tryz.prog 129=some true:=by kernel_rfl
@[go_sem] theorem d4S:Tryz.prog.cellsOf 129=2:=by kernel_rfl
@[go_sem] theorem d5V:Tryz.prog.bytesOf 129=16:=by kernel_rfl
@[go_sem] theorem d6Z:a2g Tryz.prog 129=some [.int .i64 0,.int .i64 0]:=by kernel_rfl
@[go_sem] theorem d6i:fld Tryz.prog 129 0=some (0,3):=by kernel_rfl
@[go_sem] theorem d4t:fld Tryz.prog 129 1=some (1,3):=by kernel_rfl
@[go_sem] theorem d9r:a4V Tryz.prog 129=some [(0,1),(1,1)]:=by kernel_rfl
@[go_sem] theorem d4D:a5X Tryz.prog 129=true:=by kernel_rfl
attribute [go_sem] Tryz.underlying136
@[go_sem] theorem b5g:a2g Tryz.prog 138=some [.pointer none,.slice none 0 0]:=by kernel_rfl
@[go_sem] theorem d4s:fld Tryz.prog 138 1=some (1,102):=by kernel_rfl
@[go_sem] theorem d1z:d3O Tryz.prog 140=True:=eq_true (by unfold d3O;kernel_rfl)
@[go_sem] theorem d83:a5P Tryz.prog 150=some true:=by kernel_rfl
@[go_sem] theorem d5y:Tryz.prog.cellsOf 150=3:=by kernel_rfl
@[go_sem] theorem d7M:a2g Tryz.prog 150=some [.slice none 0 0,.slice none 0 0,.slice none 0 0]:=by kernel_rfl
@[go_sem] theorem d3Y:fld Tryz.prog 150 0=some (0,36):=by kernel_rfl
@[go_sem] theorem d5d:fld Tryz.prog 150 1=some (1,36):=by kernel_rfl
@[go_sem] theorem d3X:fld Tryz.prog 150 2=some (2,36):=by kernel_rfl
@[go_sem] theorem d82:a4V Tryz.prog 150=some [(0,1),(1,1),(2,1)]:=by kernel_rfl
@[go_sem] theorem d5f:a5X Tryz.prog 150=true:=by kernel_rfl
attribute [go_sem] Tryz.underlying167
@[go_sem] theorem d6Q:a2g Tryz.prog 173=some [.slice none 0 0,.string ⟨#[]⟩,.int .i64 0,.slice none 0 0]:=by kernel_rfl
@[go_sem] theorem d4T:fld Tryz.prog 173 0=some (0,44):=by kernel_rfl
@[go_sem] theorem d5i:fld Tryz.prog 173 1=some (1,9):=by kernel_rfl
@[go_sem] theorem d39:fld Tryz.prog 173 2=some (2,3):=by kernel_rfl
@[go_sem] theorem d4F:fld Tryz.prog 173 3=some (3,46):=by kernel_rfl
@[go_sem] theorem d80:a4V Tryz.prog 173=some [(0,1),(1,1),(2,1),(3,1)]:=by kernel_rfl
@[go_sem] theorem d6h:a5X Tryz.prog 173=true:=by kernel_rfl
@[go_sem] theorem e0F:a5P Tryz.prog 179=some true:=by kernel_rfl
@[go_sem] theorem d5c:Tryz.prog.cellsOf 179=9:=by kernel_rfl
@[go_sem] theorem d44:Tryz.prog.bytesOf 179=128:=by kernel_rfl
@[go_sem] theorem d6k:a2z Tryz.prog 179=some [(0,73),(3,4),(4,9),(5,9),(6,9),(7,9),(8,4)]:=by kernel_rfl
@[go_sem] theorem d8R:Tryz.prog.eqGuardType Tryz.prog.depth 179=false:=by kernel_rfl
@[go_sem] theorem d8j:a2g Tryz.prog 179=some [.string ⟨#[]⟩,.string ⟨#[]⟩,.string ⟨#[]⟩,.bool false,.string ⟨#[]⟩,.string ⟨#[]⟩,.string ⟨#[]⟩,.string ⟨#[]⟩,.bool false]:=by kernel_rfl
@[go_sem] theorem d38:fld Tryz.prog 179 0=some (0,73):=by kernel_rfl
@[go_sem] theorem d5F:fld Tryz.prog 179 1=some (3,4):=by kernel_rfl
@[go_sem] theorem d42:fld Tryz.prog 179 2=some (4,9):=by kernel_rfl
@[go_sem] theorem d4U:fld Tryz.prog 179 3=some (5,9):=by kernel_rfl
@[go_sem] theorem d4o:fld Tryz.prog 179 4=some (6,9):=by kernel_rfl
@[go_sem] theorem d56:fld Tryz.prog 179 5=some (7,9):=by kernel_rfl
@[go_sem] theorem d5Z:fld Tryz.prog 179 6=some (8,4):=by kernel_rfl
@[go_sem] theorem d9S:a4V Tryz.prog 179=some [(0,3),(3,1),(4,1),(5,1),(6,1),(7,1),(8,1)]:=by kernel_rfl
@[go_sem] theorem d5S:a5X Tryz.prog 179=true:=by kernel_rfl
@[go_sem] theorem d9L:a5P Tryz.prog 188=some true:=by kernel_rfl
@[go_sem] theorem d4h:Tryz.prog.cellsOf 188=3:=by kernel_rfl
@[go_sem] theorem d6C:a2g Tryz.prog 188=some [.int .u8 0,.bool false,.string ⟨#[]⟩]:=by kernel_rfl
@[go_sem] theorem d5T:fld Tryz.prog 188 0=some (0,5):=by kernel_rfl
@[go_sem] theorem d4I:fld Tryz.prog 188 1=some (1,4):=by kernel_rfl
@[go_sem] theorem d4Q:fld Tryz.prog 188 2=some (2,9):=by kernel_rfl
@[go_sem] theorem d8Z:a4V Tryz.prog 188=some [(0,1),(1,1),(2,1)]:=by kernel_rfl
@[go_sem] theorem d41:a5X Tryz.prog 188=true:=by kernel_rfl
@[go_sem] theorem d4x:Tryz.prog.cellsOf 192=14:=by kernel_rfl
@[go_sem] theorem d63:a2g Tryz.prog 192=some [.string ⟨#[]⟩,.int .i64 0,.int .i64 0,.int .u8 0,.string ⟨#[]⟩,.string ⟨#[]⟩,.string ⟨#[]⟩,.bool false,.string ⟨#[]⟩,.string ⟨#[]⟩,.string ⟨#[]⟩,.string ⟨#[]⟩,.bool false,.slice none 0 0]:=by kernel_rfl
@[go_sem] theorem d5I:fld Tryz.prog 192 0=some (0,9):=by kernel_rfl
@[go_sem] theorem d5X:fld Tryz.prog 192 1=some (1,3):=by kernel_rfl
@[go_sem] theorem d5R:fld Tryz.prog 192 2=some (2,3):=by kernel_rfl
@[go_sem] theorem d4d:fld Tryz.prog 192 3=some (3,5):=by kernel_rfl
@[go_sem] theorem d5l:fld Tryz.prog 192 4=some (4,179):=by kernel_rfl
@[go_sem] theorem d5M:fld Tryz.prog 192 5=some (13,43):=by kernel_rfl
@[go_sem] theorem e0D:a4V Tryz.prog 192=some [(0,1),(1,1),(2,1),(3,1),(4,9),(13,1)]:=by kernel_rfl
@[go_sem] theorem d5H:a5X Tryz.prog 192=true:=by kernel_rfl
attribute [go_sem] Tryz.underlying194
attribute [go_sem] Tryz.underlying195
@[go_sem] theorem d8i:a2g Tryz.prog 198=some [.slice none 0 0,.slice none 0 0,.slice none 0 0,.slice none 0 0,.slice none 0 0,.slice none 0 0,.slice none 0 0]:=by kernel_rfl
@[go_sem] theorem d5Y:fld Tryz.prog 198 0=some (0,63):=by kernel_rfl
@[go_sem] theorem d5g:fld Tryz.prog 198 1=some (1,63):=by kernel_rfl
@[go_sem] theorem d4z:fld Tryz.prog 198 2=some (2,63):=by kernel_rfl
@[go_sem] theorem d5s:fld Tryz.prog 198 3=some (3,63):=by kernel_rfl
@[go_sem] theorem d55:fld Tryz.prog 198 4=some (4,63):=by kernel_rfl
@[go_sem] theorem d5k:fld Tryz.prog 198 5=some (5,63):=by kernel_rfl
@[go_sem] theorem d4P:fld Tryz.prog 198 6=some (6,45):=by kernel_rfl
@[go_sem] theorem d8J:a4V Tryz.prog 198=some [(0,1),(1,1),(2,1),(3,1),(4,1),(5,1),(6,1)]:=by kernel_rfl
@[go_sem] theorem d4a:a5X Tryz.prog 198=true:=by kernel_rfl
attribute [go_sem] Tryz.underlying206
@[go_sem] theorem e0h:a5P Tryz.prog 210=some true:=by kernel_rfl
@[go_sem] theorem d4R:Tryz.prog.cellsOf 210=3:=by kernel_rfl
@[go_sem] theorem d4i:Tryz.prog.bytesOf 210=24:=by kernel_rfl
@[go_sem] theorem d5K:a2z Tryz.prog 210=some [(0,3),(1,3),(2,3)]:=by kernel_rfl
@[go_sem] theorem e0c:Tryz.prog.eqGuardType Tryz.prog.depth 210=false:=by kernel_rfl
@[go_sem] theorem d6O:a2g Tryz.prog 210=some [.int .i64 0,.int .i64 0,.int .i64 0]:=by kernel_rfl
@[go_sem] theorem d5J:fld Tryz.prog 210 0=some (0,3):=by kernel_rfl
@[go_sem] theorem d5n:fld Tryz.prog 210 1=some (1,3):=by kernel_rfl
@[go_sem] theorem d4y:fld Tryz.prog 210 2=some (2,3):=by kernel_rfl
@[go_sem] theorem d91:a4V Tryz.prog 210=some [(0,1),(1,1),(2,1)]:=by kernel_rfl
@[go_sem] theorem d54:a5X Tryz.prog 210=true:=by kernel_rfl
attribute [go_sem] Tryz.underlying211
@[go_sem] theorem b1u:a5P Tryz.prog 214=some true:=by kernel_rfl
@[go_sem] theorem a6F:Tryz.prog.cellsOf 214=2:=by kernel_rfl
@[go_sem] theorem d8s:a2g Tryz.prog 214=some [.int .i64 0,.int .i64 0]:=by kernel_rfl
@[go_sem] theorem d4H:fld Tryz.prog 214 0=some (0,3):=by kernel_rfl
@[go_sem] theorem d5j:fld Tryz.prog 214 1=some (1,3):=by kernel_rfl
@[go_sem] theorem d94:a4V Tryz.prog 214=some [(0,1),(1,1)]:=by kernel_rfl
@[go_sem] theorem d6e:a5X Tryz.prog 214=true:=by kernel_rfl
@[go_sem] theorem d9B:a5P Tryz.prog 216=some true:=by kernel_rfl
@[go_sem] theorem d5Q:Tryz.prog.cellsOf 216=7:=by kernel_rfl
@[go_sem] theorem d57:Tryz.prog.bytesOf 216=56:=by kernel_rfl
@[go_sem] theorem d7E:a2g Tryz.prog 216=some [.bool false,.int .i64 0,.int .i64 0,.int .i64 0,.int .i64 0,.int .i64 0,.int .i64 0]:=by kernel_rfl
@[go_sem] theorem d5u:fld Tryz.prog 216 0=some (0,4):=by kernel_rfl
@[go_sem] theorem d4N:fld Tryz.prog 216 1=some (1,214):=by kernel_rfl
@[go_sem] theorem d5e:fld Tryz.prog 216 2=some (3,214):=by kernel_rfl
@[go_sem] theorem d52:fld Tryz.prog 216 3=some (5,214):=by kernel_rfl
@[go_sem] theorem d90:a4V Tryz.prog 216=some [(0,1),(1,2),(3,2),(5,2)]:=by kernel_rfl
@[go_sem] theorem d5o:a5X Tryz.prog 216=true:=by kernel_rfl
attribute [go_sem] Tryz.underlying228
@[go_sem] theorem d5D:Tryz.prog.cellsOf 228=14:=by kernel_rfl
@[go_sem] theorem d9i:a4V Tryz.prog 228=none:=by kernel_rfl
@[go_sem] theorem d9b:c32 Tryz.prog 228=some 1:=by kernel_rfl
@[go_sem] theorem d7V:a2g Tryz.prog 228=some [.string ⟨#[]⟩,.string ⟨#[]⟩,.string ⟨#[]⟩,.string ⟨#[]⟩,.string ⟨#[]⟩,.string ⟨#[]⟩,.string ⟨#[]⟩,.string ⟨#[]⟩,.string ⟨#[]⟩,.string ⟨#[]⟩,.string ⟨#[]⟩,.string ⟨#[]⟩,.string ⟨#[]⟩,.string ⟨#[]⟩]:=by kernel_rfl
attribute [go_sem] Tryz.underlying230
@[go_sem] theorem e0K:a4V Tryz.prog 230=none:=by kernel_rfl
@[go_sem] theorem e0e:c32 Tryz.prog 230=some 2:=by kernel_rfl
@[go_sem] theorem d7P:a2g Tryz.prog 230=some [.int .i64 0,.int .i64 0,.int .i64 0,.int .i64 0,.int .i64 0,.int .i64 0]:=by kernel_rfl
attribute [go_sem] Tryz.underlying233
attribute [go_sem] Tryz.underlying239
attribute [go_sem] Tryz.underlying247
attribute [go_sem] Tryz.underlying258
@[go_sem] theorem d8O:a5P Tryz.prog 265=some true:=by kernel_rfl
@[go_sem] theorem d5t:Tryz.prog.cellsOf 265=3:=by kernel_rfl
@[go_sem] theorem d7a:a2g Tryz.prog 265=some [.slice none 0 0,.slice none 0 0,.slice none 0 0]:=by kernel_rfl
@[go_sem] theorem d5G:fld Tryz.prog 265 0=some (0,63):=by kernel_rfl
@[go_sem] theorem d37:fld Tryz.prog 265 1=some (1,63):=by kernel_rfl
@[go_sem] theorem d4J:fld Tryz.prog 265 2=some (2,63):=by kernel_rfl
@[go_sem] theorem d87:a4V Tryz.prog 265=some [(0,1),(1,1),(2,1)]:=by kernel_rfl
@[go_sem] theorem d5P:a5X Tryz.prog 265=true:=by kernel_rfl
attribute [go_sem] Tryz.underlying268
attribute [go_sem] Tryz.underlying271
attribute [go_sem] Tryz.underlying277
attribute [go_sem] Tryz.underlying287
attribute [go_sem] Tryz.underlying290
attribute [go_sem] Tryz.underlying292
@[go_sem] theorem cells292:Tryz.prog.cellsOf 292=20:=by kernel_rfl
attribute [go_sem] Tryz.underlying293
attribute [go_sem] Tryz.underlying296
attribute [go_sem] Tryz.underlying300
attribute [go_sem] Tryz.underlying301
attribute [go_sem] Tryz.underlying304
attribute [go_sem] Tryz.underlying307
attribute [go_sem] Tryz.underlying308
attribute [go_sem] Tryz.underlying310
attribute [go_sem] Tryz.underlying311
end Go.Proofs.YthpjjjnbkfnghaaGreatDoor
namespace Go.Proofs.YthpjjjnbkfnghaaGreatDoor
open Go
def fz (q v n sz:Nat) (cc:Nat->Nat->AV):AV->AV
 | .ow p u m=>if p=q/\u=v/\m<=n then .sn m sz cc else .ow p u m
 | x=>x
def fzR (q v n sz:Nat) (cc:Nat->Nat->AV):Row->Row
 | .dead=>.dead
 | .box u e m c=>.box u e m fun j=>fz q v n sz cc (c j)
 | .sl u e s k c=>.sl u e s k fun i j=>fz q v n sz cc (c i j)
 | .mp u s k f=>.mp u s k f
theorem c9K (q v n sz:Nat) (cc:Nat->Nat->AV) (r:Row):(fzR q v n sz cc r).ver=r.ver:=by cases r<;>rfl
def AS.freeze (st:AS) (q v n sz:Nat) (cc:Nat->Nat->AV):AS:=
 ⟨fun t=>fz q v n sz cc (st.fr t),a0S (fun p=>fzR q v n sz cc (st.hp p)) q .dead,st.sz,st.top,st.nx,st.df⟩
theorem a1g.freeze {st:AS} (q v ety sz n:Nat) (cc:Nat->Nat->AV) (hrow:st.hp q=.sl v ety sz n cc) (hfl:∀ i,i<n->∀ j,j<sz->(cc i j).flat=true) :
  a1g st (st.freeze q v n sz cc):=by
 intro c η a w h
 have hver:∀ p u,((st.freeze q v n sz cc).hp p).ver=some u->(st.hp p).ver=some u/\p≠q:=fun p u hv=>by
  simp only [AS.freeze,a0S] at hv
  split at hv
  ·cases hv
  ·rename_i hne
   rw [c9K] at hv
   exact⟨hv,hne⟩
 have hblk:∀ p b,((st.freeze q v n sz cc).hp p).blk η=some b->(st.hp p).blk η=some b/\p≠q:=fun p b hb=>by
  unfold Row.blk at hb
  cases hv:((st.freeze q v n sz cc).hp p).ver with
  | none=>rw [hv] at hb;cases hb
  | some u=>
    rw [hv] at hb
    obtain⟨h1,h2⟩:=hver p u hv
    unfold Row.blk
    rw [h1]
    exact⟨hb,h2⟩
 have hL:∀ b,a0Y c η (st.freeze q v n sz cc).hp b->a0Y c η st.hp b:=by
  rintro b (hl|⟨p,hp⟩)
  ·exact .inl hl
  ·exact .inr ⟨p,(hblk p b hp).1⟩
 have less:∀ {x u},Rep w η (a0Y c η st.hp) x u->Rep w η (a0Y c η (st.freeze q v n sz cc).hp) x u:=fun h=>Rep.less (fun b _ hb=>hL b hb) h
 have lessN:∀ {x u},Rep w a1l (a0Y c η st.hp) x u->Rep w a1l (a0Y c η (st.freeze q v n sz cc).hp) x u:=fun h=>Rep.less (fun b _ hb=>hL b hb) h
 have key:∀ x u,Rep w η (a0Y c η st.hp) x u->Rep w η (a0Y c η (st.freeze q v n sz cc).hp) (fz q v n sz cc x) u:=fun x u hr=>by
  cases x with
  | ow p ver m=>
    simp only [fz]
    split
    ·rename_i hc
     obtain⟨rfl,rfl,hm⟩:=hc
     have hrr:=h.hs.rows p
     rw [hrow] at hrr
     obtain⟨g,cap,hη,hv⟩:=hr
     have hrr:=hrr g cap hη
     cases g with
     | none=>
       obtain⟨rfl,a,rfl⟩:=hv
       exact⟨a,0,rfl,Nat.le_refl _,fun h=>absurd h (by omega)⟩
     | some g=>
       obtain⟨rfl,hcap⟩:=hv
       obtain⟨cur,hh,hsz,hnc,hmx,hc⟩:=hrr
       have hbk:(st.hp p).blk η=some g:=by rw [hrow];simp [Row.blk,Row.ver,hη]
       refine⟨_,cap,rfl,hcap,fun h0 hs=>⟨g,0,rfl,?_,fun i hi j hj=>?_⟩⟩
       ·rintro (hl|⟨p',hp'⟩)
        ·exact (h.hs.own p g hbk).2.1 hl
        ·obtain⟨h1,h2⟩:=hblk p' g hp'
         exact h2 (h.hs.disj p' p g h1 hbk)
       ·obtain⟨u,hu,h1,hrep⟩:=hc i (by omega) j hj
        exact⟨u,by rw [a0Z hh,Nat.zero_add];exact hu,h1,lessN (a3d (hfl i (by omega) j hj) hrep)⟩
    ·exact less hr
  | _=>exact less hr
 refine⟨η,⟨⟨h.hs.fr,h.hs.lx,fun p=>?_,fun p p' u hp hq=>h.hs.vers p p' u (hver p u hp).1 (hver p' u hq).1,fun p u hp=>h.hs.bnd p u (hver p u hp).1,
  fun p p' b hp hq=>h.hs.disj p p' b (hblk p b hp).1 (hblk p' b hq).1,fun p b hp=>h.hs.own p b (hblk p b hp).1,h.hs.fresh,h.hs.env⟩,fun p hp=>?_,h.size,
  fun t=>key _ _ (h.slots t),h.defs⟩⟩
 ·have hr:=h.hs.rows p
  show a13 w η (a0Y c η (st.freeze q v n sz cc).hp) (if p=q then .dead else fzR q v n sz cc (st.hp p))
  split
  ·trivial
  ·cases hrw:st.hp p with
   | dead=>trivial
   | box u e m cells=>
     rw [hrw] at hr
     intro g cap he
     obtain⟨b,cur,h1,h2,h3,h4⟩:=hr g cap he
     refine⟨b,cur,h1,h2,h3,fun j hj=>?_⟩
     obtain⟨x,hx,ho,hrep⟩:=h4 j hj
     exact⟨x,hx,ho,key _ _ hrep⟩
   | sl u e s k cells=>
     rw [hrw] at hr
     intro g cap he
     have hr:=hr g cap he
     cases g with
     | none=>exact hr
     | some g=>
       obtain⟨cur,h1,h2,h3,h4,h5⟩:=hr
       refine⟨cur,h1,h2,h3,h4,fun i hi j hj=>?_⟩
       obtain⟨x,hx,ho,hrep⟩:=h5 i hi j hj
       exact⟨x,hx,ho,key _ _ hrep⟩
   | mp u s k f=>rw [hrw] at hr;exact hr
 ·simp only [AS.freeze,a0S] at hp ⊢
  split
  ·rfl
  ·rw [h.dead p hp];rfl
section
variable {P:Program} {x y:Code} {Q:Exit->AS->Prop} {st:AS}
theorem AW.fork (h:AW P x (rest P y Q) st):AW P (.seq x y) Q st:=by
 refine AW.seq fun K hK c η a w hsr=>?_
 refine wp_mono (h c η a w hsr) ?_
 rintro e a' w' ⟨st',η',hq,hs'⟩
 refine⟨st',η',?_,hs'⟩
 cases e with
 | normal=>exact hK _ hq
 | _=>exact hq
theorem AW.freeze (q v ety sz n:Nat) (cc:Nat->Nat->AV) (hrow:st.hp q=.sl v ety sz n cc) (hfl:∀ i,i<n->∀ j,j<sz->(cc i j).flat=true)
  (h:AW P x Q (st.freeze q v n sz cc)):AW P x Q st:=AW.le (a1g.freeze q v ety sz n cc hrow hfl) h
theorem AW.adopt (s:Nat) (e:TypeId) (sz:Nat) (cc:Nat->Nat->AV) (hs:st.fr s=.em)
  (h:AW P x Q ⟨c30 st.fr s (.ow st.top st.nx 0),a0S st.hp st.top (.sl st.nx e sz 0 cc),st.sz,st.top+1,st.nx+1,st.df⟩):AW P x Q st:=AW.le (a1g.adopt e sz cc hs) h
end
section
variable (q v n sz:Nat) (cc:Nat->Nat->AV)
@[go_sem] theorem e0G:fz q v n sz cc .any=.any:=rfl
@[go_sem] theorem e0z (x:Value):fz q v n sz cc (.val x)=.val x:=rfl
@[go_sem] theorem e07 (x:List UInt8):fz q v n sz cc (.st x)=.st x:=rfl
@[go_sem] theorem e03 (b:Bool) (x:AV):fz q v n sz cc (.gd b x)=.gd b x:=rfl
@[go_sem] theorem e1F:fz q v n sz cc .em=.em:=rfl
@[go_sem] theorem e01 (m s:Nat) (d:Nat->Nat->AV):fz q v n sz cc (.sn m s d)=.sn m s d:=rfl
@[go_sem] theorem e1i {α:Type} (E:El α) (l:List α):fz q v n sz cc (sL E l)=sL E l:=rfl
@[go_sem] theorem e1C (m:Nat) (d:Nat->AV):fz q v n sz cc (.ps m d)=.ps m d:=rfl
@[go_sem] theorem e1S (p u m:Nat):fz q v n sz cc (.ow p u m)=if p=q/\u=v/\m<=n then .sn m sz cc else .ow p u m:=rfl
@[go_sem] theorem e1n (p u m:Nat):fz q v n sz cc (.pt p u m)=.pt p u m:=rfl
@[go_sem] theorem e1o (p u s i m:Nat):fz q v n sz cc (.pe p u s i m)=.pe p u s i m:=rfl
@[go_sem] theorem e0T (m:Nat) (d:Nat->AV):fz q v n sz cc (.ag m d)=.ag m d:=rfl
@[go_sem] theorem e1G (m:Nat) (d:Nat->AV):fz q v n sz cc (.tu m d)=.tu m d:=rfl
@[go_sem] theorem e0S (p u:Nat):fz q v n sz cc (.mp p u)=.mp p u:=rfl
@[go_sem] theorem d6g:fzR q v n sz cc .dead=.dead:=rfl
@[go_sem] theorem d8h (u e m:Nat) (c:Nat->AV):fzR q v n sz cc (.box u e m c)=.box u e m fun j=>fz q v n sz cc (c j):=rfl
@[go_sem] theorem d9f (u e s k:Nat) (c:Nat->Nat->AV):fzR q v n sz cc (.sl u e s k c)=.sl u e s k fun i j=>fz q v n sz cc (c i j):=rfl
@[go_sem] theorem d9y (u:Nat) (s:Bool) (k:Nat) (f:Key->Option Value):fzR q v n sz cc (.mp u s k f)=.mp u s k f:=rfl
attribute [go_sem] AS.freeze
end
section
variable {P:Program} {f:FuncId} {fn:Func} {code:Code}
theorem a0d.raw {s:a0s} (hf:P.funcs[f]?=some fn) (hb:fn.body=some code) (hn:(fn.name == "runtime.NumGoroutine")=false)
  (h:∀ args,s.pre args->∀ (w:World) (L:Nat->Prop) (vs:List Value),(∀ b,L b->b<w.heap.size)->a4C (Rep w a1l L) args vs->
   Calls P f vs.toArray w fun e w'=>∃ v,e=.returned v/\Fr (fun _=>False) w w'/\Rep w' a1l L (s.res args) v):a0d P f s:=⟨a67 hf hb hn,fun args hp w L vs _=>h args hp w L vs⟩
theorem a0d.rawT {s:a0s} (hf:P.funcs[f]?=some fn) (hb:fn.body=some code) (hn:(fn.name == "runtime.NumGoroutine")=false)
  (h:∀ args,s.pre args->∀ (w:World) (L:Nat->Prop) (vs:List Value),Tz w->(∀ b,L b->b<w.heap.size)->a4C (Rep w a1l L) args vs->
   Calls P f vs.toArray w fun e w'=>∃ v,e=.returned v/\Fr (fun _=>False) w w'/\Rep w' a1l L (s.res args) v):a0d P f s:=⟨a67 hf hb hn,h⟩
theorem a0d.ss {dom:List UInt8->List UInt8->Prop} {out:List UInt8->List UInt8->AV} (hf:P.funcs[f]?=some fn) (hb:fn.body=some code) (hn:(fn.name == "runtime.NumGoroutine")=false)
  (h:∀ a b,dom a b->∀ w,Calls P f #[.string ⟨a.toArray⟩,.string ⟨b.toArray⟩] w fun e w'=>∃ v,e=.returned v/\Fr (fun _=>False) w w'/\∀ L,Rep w' a1l L (out a b) v):a0d P f (a0s.f2 kS kS dom out):=by
 refine a0d.raw hf hb hn fun args hp w L vs hL ha=>?_
 match args,hp with
 | [x,y],hp=>
   obtain⟨h1,h2,h3⟩:=hp
   cases ha with
   | cons hx hr=>cases hr with
     | cons hy hr=>cases hr with
       | nil=>
         have ex:=h1 _ _ _ _ hx
         have ey:=h2 _ _ _ _ hy
         simp only [kS,Rep] at ex ey
         subst ex ey
         exact (h _ _ h3 w).mono fun e w' ⟨v,he,hf,hr⟩=>⟨v,he,hf,hr L⟩
end
end Go.Proofs.YthpjjjnbkfnghaaGreatDoor
namespace Go.Proofs.YthpjjjnbkfnghaaGreatDoor
open Go
def a05 {α:Type} (ver ety:Nat) (E:El α) (l:List α):Row:=.sl ver ety E.sz l.length fun i=>E.enc (l.getD i E.dflt)
attribute [go_sem] a05
section
variable {α:Type} {E:El α} {l l':List α} {v e s n m k:Nat} {x d:α} {c:Nat->AV}
theorem b2L (hd:d=E.dflt) (hl:l'=l.set k x) (hn:n=l.length) (hm:m=l'.length) (hc:∀ j,j<s->a0e (c j) (E.enc x j)) :
  a0a (.sl v e s n (stE (fun i=>E.enc (l.getD i d)) k 0 s c)) (.sl v e s m fun i=>E.enc (l'.getD i d)):=by
 subst hl hn hm hd
 refine a0a.sl (by simp) fun i hi j hj=>?_
 simp only [stE]
 by_cases h:i=k
 ·subst h
  rw [if_pos ⟨rfl,by omega,by omega⟩]
  have e:(l.set i x).getD i E.dflt=x:=by simp [List.getD,hi]
  rw [e]
  exact hc j hj
 ·rw [if_neg (fun hh=>h hh.1)]
  have e:(l.set k x).getD i E.dflt=l.getD i E.dflt:=by simp [List.getD,List.getElem?_set_ne (Ne.symm h)]
  rw [e]
  exact a0e.refl _
theorem b3c {dd:Nat->Nat->AV} {ys:List α} {n':Nat} (hd:d=E.dflt) (hl:l'=l++ys) (hn:n=l.length) (hm:n'=n+ys.length) (hk:m=l'.length) (hc:∀ i,i<ys.length->∀ j,j<s->a0e (dd i j) (E.enc (ys.getD i d) j)) :
  a0a (.sl v e s n' (apC n (fun i=>E.enc (l.getD i d)) dd)) (.sl v e s m fun i=>E.enc (l'.getD i d)):=by
 subst hl hn hm hd hk
 refine a0a.sl (by simp) fun i hi j hj=>?_
 simp only [apC]
 split
 ·rename_i h
  have e:(l++ys).getD i E.dflt=l.getD i E.dflt:=by simp [List.getD,List.getElem?_append_left h]
  rw [e]
  exact a0e.refl _
 ·rename_i h
  have e:(l++ys).getD i E.dflt=ys.getD (i-l.length) E.dflt:=by simp [List.getD,List.getElem?_append_right (by omega:l.length<=i)]
  rw [e]
  exact hc _ (by omega) j hj
theorem a1B {dd:Nat->Nat->AV} {n':Nat} (hd:d=E.dflt) (hl:l'=l++[x]) (hn:n=l.length) (hm:n'=n+1) (hk:m=l'.length) (hc:∀ j,j<s->a0e (dd 0 j) (E.enc x j)) :
  a0a (.sl v e s n' (apC n (fun i=>E.enc (l.getD i d)) dd)) (.sl v e s m fun i=>E.enc (l'.getD i d)):=by
 refine b3c (ys:=[x]) hd hl hn hm hk fun i hi j hj=>?_
 have:i=0:=by simp at hi;omega
 subst this
 exact hc j hj
theorem c5M {z:Nat->AV} (hd:d=E.dflt) (hl:l'=List.replicate n x) (hm:m=l'.length) (hc:∀ j,j<s->a0e (z j) (E.enc x j)):a0a (.sl v e s n fun _=>z) (.sl v e s m fun i=>E.enc (l'.getD i d)):=by
 subst hl hm hd
 refine a0a.sl (by simp) fun i hi j hj=>?_
 have e:(List.replicate n x).getD i E.dflt=x:=by simp [List.getD,hi]
 rw [e]
 exact hc j hj
theorem a8V {cc:Nat->Nat->AV} (hl:l'=[]):a0a (.sl v e s 0 cc) (.sl v e s l'.length fun i=>E.enc (l'.getD i d)):=by
 subst hl
 exact a0a.sl rfl fun i hi=>absurd hi (Nat.not_lt_zero _)
theorem c7g (hs:s=E.sz) (hd:d=E.dflt) (h:l'=l.take n) (hn:n<=l.length):a0e (.sn n s fun i=>E.enc (l.getD i d)) (sL E l'):=by
 subst h
 exact c98 E l hd hs (by omega)
theorem a4H (hs:s=E.sz) (hd:d=E.dflt) (hn:n=l.length):a0e (.sn n s fun i=>E.enc (l.getD i d)) (sL E l):=by
 subst hn hs hd
 exact a0e.refl _
end
theorem e1m (j:Nat) (h:j<1):a0e (zC [.string ⟨#[]⟩] j) (eS.enc [] j):=by
 have:j=0:=by omega
 subst this
 exact a0e.refl _
def c3H (ks:List (List UInt8)):Key->Option Value
 | .s b=>if b∈ks then some (.int .i64 (ks.idxOf b)) else none
 | .i _=>none
@[go_sem] theorem d9a (ks:List (List UInt8)) (b:List UInt8):c3H ks (.s b)=if b∈ks then some (.int .i64 (ks.idxOf b)) else none:=rfl
theorem a0a.of_eq {r r':Row} (h:r=r'):a0a r r':=h▸a0a.refl r
theorem b9G (ks:List (List UInt8)) (b:List UInt8) (h:b∉ks):a5S (c3H ks) (.s b) (.int .i64 ks.length)=c3H (ks++[b]):=by
 funext k
 cases k with
 | i n=>simp [a5S,c3H]
 | s x=>
   simp only [a5S,c3H]
   by_cases hx:x=b
   ·subst hx
    simp [List.idxOf_append,h]
   ·have h1:¬(Key.s x=Key.s b):=fun e=>hx (by injection e)
    rw [if_neg h1]
    by_cases hm:x∈ks
    ·simp [hm,List.idxOf_append]
    ·simp [hm,hx]
@[go_sem] theorem d4G (l:List UInt8):b5Q (.st l)=some (.s l):=rfl
@[go_sem] theorem d2Q (n:Int):b5Q (.val (.int .i64 n))=some (.i n):=rfl
@[go_sem] theorem d7I (l:List UInt8):(Key.s l).isStr=true:=rfl
@[go_sem] theorem d7A (n:Int):(Key.i n).isStr=false:=rfl
@[go_sem] theorem e0g:a4A true=.string:=rfl
@[go_sem] theorem e0k:a4A false=.int .i64:=rfl
@[go_sem] theorem d1Z (v:Value):b9T (.val v)=some v:=rfl
attribute [go_sem low] c6r.eq_def a9I.eq_def c0e.eq_def
attribute [go_sem] a8M Option.some.injEq exists_eq_left' List.length_cons List.length_nil
section
variable (hp:Nat->Row)
@[go_sem] theorem e0u (p v n:Nat):vwP hp (.ow p v n)=match hp p with
  | .sl v' _ sz n' c=>v'=v/\n<=n'/\∀ i,i<n->∀ j,j<sz->(c i j).flat=true
  | _=>False:=rfl
@[go_sem] theorem e1z (p v n:Nat):vw hp (.ow p v n)=match hp p with
  | .sl _ _ sz _ c=>.sn n sz c
  | _=>.any:=rfl
@[go_sem] theorem d9G (p v n:Nat):vwQ hp (.ow p v n)=match hp p with
  | .sl v' _ sz n' c=>v'=v/\n<=n'/\∀ i,i<n->∀ j,j<sz->(c i j).flat=true
  | _=>False:=propext ⟨fun h=>h.1,fun h=>⟨h,.inr rfl⟩⟩
@[go_sem] theorem d96 (p v n:Nat):vw0 hp (.ow p v n)=match hp p with
  | .sl _ _ sz _ c=>.sn n sz c
  | _=>.any:=rfl
@[go_sem] theorem d9M (p v j:Nat):vwP hp (.pt p v j)=match hp p with
  | .box v' _ m c=>v'=v/\j<=m/\∀ i,i<m->(c i).flat=true
  | _=>False:=rfl
@[go_sem] theorem e1O (p v j:Nat):vw hp (.pt p v j)=match hp p with
  | .box _ _ m c=>.ps (m-j) fun i=>c (j+i)
  | _=>.any:=rfl
@[go_sem] theorem d97 (p v n:Nat):vwO (.ow p v n)=true:=rfl
@[go_sem] theorem d9n (p v n:Nat):vwO (.pt p v n)=true:=rfl
@[go_sem] theorem d65 (p p' v v' n n':Nat):a0e (.ow p v n) (.ow p' v' n')=(v=v'/\n=n'):=by
 refine propext ⟨fun h=>?_,fun h=>?_⟩
 ·have:=h default (fun k=>if k=v then some (some 0,n) else none) (fun _=>False) (.slice (some ⟨0,0,none⟩) n n) ⟨some 0,n,by simp,rfl,Nat.le_refl _⟩
  obtain⟨g,cap,h1,h2⟩:=this
  simp only at h1
  split at h1
  ·rename_i e
   simp only [Option.some.injEq,Prod.mk.injEq] at h1
   obtain⟨rfl,rfl⟩:=h1
   obtain⟨h2,_⟩:=h2
   injection h2 with _ h2 _
   exact⟨e.symm,h2⟩
  ·cases h1
 ·obtain⟨rfl,rfl⟩:=h
  exact fun w η L u hr=>hr
@[go_sem] theorem d8w (p p' v v' j j':Nat):a0e (.pt p v j) (.pt p' v' j')=(v=v'/\j=j'):=by
 refine propext ⟨fun h=>?_,fun h=>?_⟩
 ·have:=h default (fun k=>if k=v then some (some 0,0) else none) (fun _=>False) (.pointer (some ⟨0,j,none⟩)) ⟨0,0,by simp,rfl⟩
  obtain⟨g,cap,h1,h2⟩:=this
  simp only at h1
  split at h1
  ·rename_i e
   simp only [Option.some.injEq,Prod.mk.injEq] at h1
   obtain⟨rfl,rfl⟩:=h1
   injection h2 with h2
   simp only [Option.some.injEq,Addr.mk.injEq] at h2
   exact⟨e.symm,h2.2.1⟩
  ·cases h1
 ·obtain⟨rfl,rfl⟩:=h
  exact fun w η L u hr=>hr
end
attribute [go_sem] List.length_append List.length_replicate List.length_map List.length_set List.length_take List.length_drop List.take_length List.drop_zero List.nil_append
@[go_sem] theorem b8R (n:Nat):((n:Int)+1).toNat=n+1:=by omega
@[go_sem] theorem d5A:((1:Nat):Int)=1:=rfl
@[go_sem] theorem d2Y:((0:Nat):Int)=0:=rfl
@[go_sem] theorem d43 (n:Int):n+1-1=n:=by omega
@[go_sem] theorem d76 (x:List UInt8) (j:Nat):(eS.enc x j).flat=true:=rfl
@[go_sem] theorem d7p (x:Int) (j:Nat):(eI.enc x j).flat=true:=rfl
@[go_sem] theorem d7Q (x:Bool) (j:Nat):(eB.enc x j).flat=true:=rfl
@[go_sem] theorem d8n {α:Type} (E:El α) (x:List α) (j:Nat):((eL E).enc x j).flat=true:=rfl
theorem c6Q {c:Nat->Nat->AV} {k o m:Nat} {d:Nat->AV} (h:∀ a b,(c a b).flat=true) (hd:∀ b,(d b).flat=true) (a b:Nat):(stE c k o m d a b).flat=true:=by
 unfold stE
 split
 ·exact hd _
 ·exact h _ _
section
variable {α:Type} {E:El α} {l l':List α} {s n k m:Nat} {x d:α} {c:Nat->AV}
theorem d3B (hs:s=E.sz) (hd:d=E.dflt) (hl:l'=(l.set k x).take n) (hn:n<=l.length) (hc:∀ j,j<s->a0e (c j) (E.enc x j)) :
  a0e (.sn n s (stE (fun i=>E.enc (l.getD i d)) k 0 s c)) (sL E l'):=by
 subst hl hd hs
 unfold sL
 rw [List.length_take,List.length_set,Nat.min_eq_left hn]
 refine a0e.sn fun i hi j hj=>?_
 simp only [stE]
 by_cases h:i=k
 ·subst h
  rw [if_pos ⟨rfl,by omega,by omega⟩]
  have e:((l.set i x).take n).getD i E.dflt=x:=by simp [List.getD,List.getElem?_take,hi,show i<l.length by omega]
  rw [e]
  exact hc j hj
 ·rw [if_neg (fun hh=>h hh.1)]
  have e:((l.set k x).take n).getD i E.dflt=l.getD i E.dflt:=by simp [List.getD,List.getElem?_take,hi,List.getElem?_set_ne (Ne.symm h)]
  rw [e]
  exact a0e.refl _
end
theorem b1j {α:Type} {K:Kd α} {x:AV} {w:World} {η:Env} {L:Nat->Prop} {v:Value} (h:K.ok x) (hr:Rep w η L x v):Rep w η L (K.enc (K.dec x)) v:=h _ _ _ _ hr
@[go_sem] theorem d1l (st:AS) (d:Option Tmp) (z:AV) (v n:Nat) (s:Bool) (f:Key->Option Value):st.put d z (.mp v s n f)=⟨a2b st.fr d z,a0S st.hp st.top (.mp v s n f),st.sz,st.top+1,st.nx+1,st.df⟩:=rfl
section
variable {P:Program} {x:Code} {Q:Exit->AS->Prop} {st:AS} {α:Type} {id id':Nat} {s:α->AS}
theorem Sh.le {s:Sh} {st:AS} (h:s.fits st):a1g st s.st:=h.le
end
def b3O {α:Type} (s:α->AS) (Q:Exit->AS->Prop):Exit->AS->Prop
 | .normal,st=>∃ i,a1g st (s i)
 | e,st=>Q e st
section
variable {P:Program} {x:Code} {Q:Exit->AS->Prop} {st:AS} {α:Type} {id:Nat} {s:α->AS}
@[go_sem] theorem c8l:b3O s Q (.exit id) st=Q (.exit id) st:=rfl
@[go_sem] theorem c49:b3O s Q .normal st=∃ i,a1g st (s i):=rfl
@[go_sem] theorem d1p:b3O s Q .ret st=Q .ret st:=rfl
theorem AW.to (s:α->AS) (h:AW P x (b3O s Q) st) (k:∀ i,Q .normal (s i)):AW P x Q st:=by
 intro c η a w hsr
 refine wp_mono (h c η a w hsr) ?_
 rintro e a' w' ⟨st',η',hq,hs'⟩
 cases e with
 | normal=>
   obtain⟨i,hi⟩:=hq
   obtain⟨η'',h''⟩:=hi c η' a' w' hs'
   exact⟨s i,η'',k i,h''⟩
 | _=>exact⟨st',η',hq,hs'⟩
end
attribute [go_sem] Int.lt_irrefl Nat.lt_irrefl Option.getD_some Option.getD_none Option.isSome_some Option.isSome_none
theorem a2D {st:AS} {l:List (Nat×AV)} {r:List (Nat×Row)} {sz top nx:Nat} {df:List Deferred} (h:(Sh.mk l r sz top nx df).fits st):a1g st ⟨frm l,rws r,sz,top,nx,df⟩:=h.le
def kU:Kd Int:=⟨fun n=>.val (.int .u8 n),AV.int,fun _=>rfl⟩
@[go_sem] theorem e1B (n:Int):kU.ok (.val (.int .u8 n))=True:=eq_true (kU.ok_enc n)
@[go_sem] theorem e0i (n:Int):kU.dec (.val (.int .u8 n))=n:=rfl
@[go_sem] theorem e0E (n:Int):kU.enc n=.val (.int .u8 n):=rfl
@[go_sem] theorem d8b (x y:UInt8):((x.toNat:Int)=(y.toNat:Int))=(x=y):=by
 refine propext ⟨fun h=>UInt8.toNat_inj.1 (by omega),fun h=>by rw [h]⟩
@[go_sem low] theorem d2b {α:Type} (E:El α) (x:AV):(eL E).dec (fun _=>x)=(kL E).dec x:=rfl
@[go_sem] theorem d47 (n:Nat):((no_index (OfNat.ofNat n):Nat):Int)=OfNat.ofNat n:=rfl
theorem AW.seqTo {P:Program} {x y:Code} {Q:Exit->AS->Prop} {st:AS} {α:Type} (s:α->AS) (h:AW P x (b3O s Q) st) (k:∀ i,AW P y Q (s i)):AW P (.seq x y) Q st:=by
 refine AW.seq fun K hK c η a w hsr=>?_
 refine wp_mono (h c η a w hsr) ?_
 rintro e a' w' ⟨st',η',hq,hs'⟩
 cases e with
 | normal=>
   obtain⟨i,hi⟩:=hq
   obtain⟨η'',h''⟩:=hi c η' a' w' hs'
   exact⟨s i,η'',hK _ (k i),h''⟩
 | _=>exact⟨st',η',hq,hs'⟩
end Go.Proofs.YthpjjjnbkfnghaaGreatDoor
namespace Go.Proofs.YthpjjjnbkfnghaaGreatDoor
open Go
def d0l (o:Oper):Bool:=match o.op with|.move _=>o.guard.isNone|_=>false
def c0R (o:Oper):Bool:=match o.op with|.move _=>o.guard.isNone|.alloc _=>o.guard.isNone|_=>false
def eb (m:Nat) (F:List Nat) (j:Nat):Bool:=decide (j<m)||F.contains j
def gb (G:List Nat) (j:Nat):Bool:=G.contains j
def b8o (ops:Array Oper) (E G:Nat->Bool) (i j:Nat) (p o:Oper) (mj:Nat):Bool:=
 match E i,E j with
 | true,true=>mj.testBit i||!a5c ops p o
 | true,false=>mj.testBit i||((d0l p||G i)&&!a5c ops p o)
 | false,true=>!a5c ops p o
 | false,false=>mj.testBit i
def okG (l:List Oper) (m:Nat) (F G:List Nat):Bool:=
 (List.range l.length).all fun j=>match l[j]? with
  | none=>true
  | some o=>((a30 [] l).getD j 0==a66 (a30 [] l) o.after.toList)&&o.after.toList.all (fun e=>!Region.binds .any e||decide (e.on<j))&&(decide (j<m)||!F.contains j||c0R o||gb G j) &&
    (List.range j).all fun i=>match l[i]? with
     | none=>true
     | some p=>b8o l.toArray (eb m F) (gb G) i j p o ((a30 [] l).getD j 0)
structure b1V (l:List Oper) (m:Nat) (E G:Nat->Bool):Prop where
 edge:∀ (j:Nat) (o:Oper),l[j]?=some o->∀ e∈o.after,Region.binds .any e=true->e.on<j
 bit:∀ (j:Nat) (o:Oper),l[j]?=some o->∀ i,((a30 [] l).getD j 0).testBit i=true->∃ e∈o.after,Region.binds .any e=true/\(e.on=i\/((a30 [] l).getD e.on 0).testBit i=true)
 early:∀ j,j<m->E j=true
 still:∀ (j:Nat) (o:Oper),l[j]?=some o->E j=true->m<=j->c0R o=true\/G j=true
 ee:∀ (i j:Nat) (oi oj:Oper),i<j->l[i]?=some oi->l[j]?=some oj->E i=true->E j=true->a5c l.toArray oi oj=true->((a30 [] l).getD j 0).testBit i=true
 et:∀ (i j:Nat) (oi oj:Oper),i<j->l[i]?=some oi->l[j]?=some oj->E i=true->E j=false->((a30 [] l).getD j 0).testBit i=false->(d0l oi=true\/G i=true)/\a5c l.toArray oi oj=false
 te:∀ (i j:Nat) (oi oj:Oper),i<j->l[i]?=some oi->l[j]?=some oj->E i=false->E j=true->a5c l.toArray oi oj=false
 tt:∀ (i j:Nat) (oi oj:Oper),i<j->l[i]?=some oi->l[j]?=some oj->E i=false->E j=false->((a30 [] l).getD j 0).testBit i=true
theorem b1V.of {l:List Oper} {m:Nat} {F G:List Nat} (h:okG l m F G=true):b1V l m (eb m F) (gb G):=by
 have key:∀ (j:Nat) (o:Oper),l[j]?=some o->(a30 [] l).getD j 0=a66 (a30 [] l) o.after.toList/\(∀ e∈o.after.toList,Region.binds .any e=true->e.on<j)/\(j<m\/F.contains j=false\/c0R o=true\/gb G j=true)/\
   ∀ (i:Nat) (p:Oper),i<j->l[i]?=some p->b8o l.toArray (eb m F) (gb G) i j p o ((a30 [] l).getD j 0)=true:=by
  intro j o hj
  have hjl:=(List.getElem?_eq_some_iff.1 hj).1
  have h1:=List.all_eq_true.1 h j (List.mem_range.2 hjl)
  rw [hj] at h1
  simp only [Bool.and_eq_true] at h1
  obtain⟨⟨⟨a1,a2⟩,a3⟩,a4⟩:=h1
  refine⟨by simpa using a1,fun e he hb=>?_,?_,fun i p hi hp=>?_⟩
  ·have:=List.all_eq_true.1 a2 e he
   simpa [hb] using this
  ·simp only [Bool.or_eq_true,decide_eq_true_eq,Bool.not_eq_true'] at a3
   rcases a3 with ((a3|a3)|a3)|a3
   ·exact .inl a3
   ·exact .inr (.inl a3)
   ·exact .inr (.inr (.inl a3))
   ·exact .inr (.inr (.inr a3))
  ·have:=List.all_eq_true.1 a4 i (List.mem_range.2 hi)
   rw [hp] at this
   exact this
 refine⟨fun j o hj e he hb=>(key j o hj).2.1 e (by simpa using he) hb,fun j o hj i hi=>?_,fun j hj=>by simp [eb,hj],fun j o hj hE hm=>?_,fun i j oi oj hij hi hj h1 h2 ht=>?_,fun i j oi oj hij hi hj h1 h2 hb=>?_,fun i j oi oj hij hi hj h1 h2=>?_,fun i j oi oj hij hi hj h1 h2=>?_⟩
 ·rw [(key j o hj).1] at hi
  obtain⟨e,he,hb,r⟩:=a9K hi
  exact⟨e,by simpa using he,hb,r⟩
 ·rcases (key j o hj).2.2.1 with h1|h1|h1
  ·omega
  ·simp only [eb,h1,Bool.or_false,decide_eq_true_eq] at hE;omega
  ·exact h1
 ·have:=(key j oj hj).2.2.2 i oi hij hi
  simp only [b8o,h1,h2,ht,Bool.not_true,Bool.or_false] at this
  exact this
 ·have:=(key j oj hj).2.2.2 i oi hij hi
  simp only [b8o,h1,h2,hb,Bool.false_or,Bool.and_eq_true,Bool.or_eq_true,Bool.not_eq_true'] at this
  exact this
 ·have:=(key j oj hj).2.2.2 i oi hij hi
  simp only [b8o,h1,h2,Bool.not_eq_true'] at this
  exact this
 ·have:=(key j oj hj).2.2.2 i oi hij hi
  simp only [b8o,h1,h2] at this
  exact this
theorem b1V.anc {l:List Oper} {m:Nat} {E G:Nat->Bool} (h:b1V l m E G) {S:Nat->Bool} (hc:b14 l S):∀ (n j:Nat) (o:Oper),j<=n->l[j]?=some o->(∀ e∈o.after,Region.binds .any e=true->S e.on=true)->
  ∀ i,((a30 [] l).getD j 0).testBit i=true->S i=true:=by
 intro n
 induction n with
 | zero=>
   intro j o hjn hj hS i hi
   obtain⟨e,he,hb,r⟩:=h.bit j o hj i hi
   have:=h.edge j o hj e he hb
   omega
 | succ n ih=>
   intro j o hjn hj hS i hi
   obtain⟨e,he,hb,r⟩:=h.bit j o hj i hi
   have hlt:=h.edge j o hj e he hb
   rcases r with r|r
   ·rw [<-r];exact hS e he hb
   ·have hlen:e.on<l.length:=by
     have:=(List.getElem?_eq_some_iff.1 hj).1
     omega
    exact ih e.on l[e.on] (by omega) (List.getElem?_eq_getElem hlen) (fun e' he' hb'=>hc e.on _ (List.getElem?_eq_getElem hlen) (hS e he hb) e' he' hb') i r
theorem b4W {l:List Oper} {m:Nat} {E G:Nat->Bool} (hD:b1V l m E G) {listed:Array Bool} (hs:listed.size=l.length) (h:left listed l.length≠0):∃ j,j∈Region.ready .any l.toArray listed:=by
 have hex:∃ j,j<l.length/\listed.getD j false=false:=by
  have:0<(List.range l.length).countP fun i=>!listed.getD i false:=Nat.pos_of_ne_zero h
  obtain⟨j,hj,hn⟩:=List.countP_pos_iff.1 this
  exact⟨j,by simpa using hj,by simpa using hn⟩
 have hmin:∀ n,(∃ j,j<=n/\j<l.length/\listed.getD j false=false)->∃ j,j<l.length/\listed.getD j false=false/\∀ k,k<j->listed.getD k false=true:=by
  intro n
  induction n with
  | zero=>
    rintro⟨j,hj,h1,h2⟩
    exact⟨j,h1,h2,fun k hk=>by omega⟩
  | succ n ih=>
    rintro⟨j,hj,h1,h2⟩
    by_cases hall:∀ k,k<j->listed.getD k false=true
    ·exact⟨j,h1,h2,hall⟩
    ·have:∃ k,k<j/\listed.getD k false=false:=by
      apply Classical.byContradiction
      intro hno
      apply hall
      intro k hk
      cases hv:listed.getD k false with
      | true=>rfl
      | false=>exact absurd ⟨k,hk,hv⟩ hno
     obtain⟨k,hk,hv⟩:=this
     exact ih ⟨k,by omega,by omega,hv⟩
 obtain⟨j0,h1,h2⟩:=hex
 obtain⟨j,hj,hn,hall⟩:=hmin j0 ⟨j0,Nat.le_refl _,h1,h2⟩
 exact⟨j,mem_ready.2 ⟨by rw [a68 hs hj];exact hn,l[j],by simp [hj],fun e he hb=>hall _ (hD.edge j l[j] (List.getElem?_eq_getElem hj) e he hb)⟩⟩
theorem c0Q {ops:Array Oper} {a b:Oper} (h:a5c ops a b=false):(∀ t,a.dst=some t->b.dst≠some t/\¬t∈a5C ops b)/\∀ t,b.dst=some t->a.dst≠some t/\¬t∈a5C ops a:=by
 simp only [a5c,Bool.or_eq_false_iff] at h
 obtain⟨h1,h2⟩:=h
 refine⟨fun t ht=>?_,fun t ht=>?_⟩
 ·rw [ht] at h1
  simp only [Bool.or_eq_false_iff] at h1
  exact⟨by simpa using h1.1,by simpa using h1.2⟩
 ·rw [ht] at h2 h1
  refine⟨fun e=>?_,by simpa using h2⟩
  rw [e] at h1
  simp at h1
def d1f (o:Oper):Oper:=⟨none,.move (.const undef),o.type,o.pos,o.after,none⟩
def a2y (E:Nat->Bool):Nat->List Oper->List Oper
 | _,[]=>[]
 | j,o::r=>(if E j then o else d1f o)::a2y E (j+1) r
theorem b6w (E:Nat->Bool):∀ (l:List Oper) (i j:Nat),(a2y E i l)[j]?=(l[j]?).map fun o=>if E (i+j) then o else d1f o
 | [],i,j=>by simp [a2y]
 | o::r,i,0=>by simp [a2y]
 | o::r,i,j+1=>by
   simp only [a2y,List.getElem?_cons_succ]
   rw [b6w E r (i+1) j,show i+1+j=i+(j+1) by omega]
theorem a6p (E:Nat->Bool):∀ (l:List Oper) (i:Nat),(a2y E i l).length=l.length
 | [],_=>rfl
 | o::r,i=>by simp [a2y,a6p E r (i+1)]
section
variable {P:Program} {Γ:Gam}
def OpM (P:Program) (o:Oper) (st:AS) (K:AS->Prop):Prop:=
 ∀ fr':Nat->AV,(∀ x∈o.op.operands,a9b fr' x=a9b st.fr x)->OpW P o ⟨fr',st.hp,st.sz,st.top,st.nx,st.df⟩ fun st'=>∃ v,st'.fr=a2b fr' o.dst v/\st'.sz=st.sz/\K ⟨a2b st.fr o.dst v,st'.hp,st'.sz,st'.top,st'.nx,st'.df⟩
def c3M (P:Program) (Γ:Gam) (z:Bool) (st:AS) (o:Oper) (K:AS->Prop):Prop:=
 match o.op with
 | .mapUpdate t m k x=>a5x P st t (st.ev m) (st.ev k) (st.ev x) o.dst K
 | .call ⟨.value (.func f),⟨xs⟩,_⟩=>match Γ f with
   | some (.meth S)=>a0N st.sz o.dst/\S (xs.map st.ev) st.hp st.top st.nx fun r hp' top' nx'=>K ⟨a2b st.fr o.dst r,hp',st.sz,top',nx',st.df⟩
   | _=>False
 | .store t x y=>a6k P st t (st.ev x) (st.ev y) o.dst K
 | .call ⟨.builtin .append,⟨[x,y]⟩,⟨[t,t']⟩⟩=>t'=t/\(if z=true then b8K P st t (st.ev x) (st.ev y) o.dst K else c0p P st t (st.ev x) (st.ev y) o.dst K)
 | .buildSlice t n parts=>a7X P st t n (parts.toList.map fun a=>(a.1,st.ev a.2)) o.dst K
 | _=>OpM P o st K
theorem c1S (hΓ:GOK P Γ) {z:Bool} {st:AS} {o:Oper} {K:AS->Prop} {fr':Nat->AV} (hl:∀ x∈o.op.operands,a9b fr' x=a9b st.fr x) (h:c3M P Γ z st o K) :
  OpW P o ⟨fr',st.hp,st.sz,st.top,st.nx,st.df⟩ fun st'=>∃ v,st'.fr=a2b fr' o.dst v/\st'.sz=st.sz/\K ⟨a2b st.fr o.dst v,st'.hp,st'.sz,st'.top,st'.nx,st'.df⟩:=by
 unfold c3M at h
 split at h<;>rename_i ho
 ·rename_i t m k x
  have e:∀ y,y=m\/y=k\/y=x->(⟨fr',st.hp,st.sz,st.top,st.nx,st.df⟩:AS).ev y=st.ev y:=fun y hy=>hl y (by rw [ho];simp [Op.operands];rcases hy with h|h|h<;>simp [h])
  refine b38 ho ?_
  rw [e m (.inl rfl),e k (.inr (.inl rfl)),e x (.inr (.inr rfl))]
  unfold a5x at h ⊢
  split at h
  ·split at h
   ·rename_i heq
    revert h
    simp only [*]
    intro h
    exact⟨h.1,_,rfl,trivial,h.2⟩
   ·exact h.elim
  ·exact h.elim
 ·rename_i f xs ts
  split at h
  ·rename_i S hS
   have e:xs.map (⟨fr',st.hp,st.sz,st.top,st.nx,st.df⟩:AS).ev=xs.map st.ev:=List.map_congr_left fun y hy=>hl y (by rw [ho];simp [Op.operands,Call.operands];simp [hy])
   refine b75 hΓ ho hS h.1 (by rw [e];exact h.2) fun r hp' top' nx' hk=>⟨_,rfl,rfl,hk⟩
  ·exact h.elim
 ·rename_i t x y
  have e:∀ z,z=x\/z=y->(⟨fr',st.hp,st.sz,st.top,st.nx,st.df⟩:AS).ev z=st.ev z:=fun z hz=>hl z (by rw [ho];simp [Op.operands];rcases hz with h|h<;>simp [h])
  refine b7b ho ?_
  rw [e x (.inl rfl),e y (.inr rfl)]
  unfold a6k at h ⊢
  split at h
  ·split at h
   ·rename_i heq
    revert h
    simp only [*]
    intro h
    exact⟨h.1,_,rfl,trivial,h.2⟩
   ·exact h.elim
  ·split at h
   ·rename_i heq
    revert h
    simp only [*]
    intro h
    exact⟨h.1,_,rfl,trivial,h.2⟩
   ·exact h.elim
  ·exact h.elim
 ·rename_i x y t t'
  have e:∀ z,z=x\/z=y->(⟨fr',st.hp,st.sz,st.top,st.nx,st.df⟩:AS).ev z=st.ev z:=fun z hz=>hl z (by rw [ho];simp [Op.operands,Call.operands];rcases hz with h|h<;>simp [h])
  obtain⟨ht,h⟩:=h
  split at h
  ·refine c9y ho ht ?_
   rw [e x (.inl rfl),e y (.inr rfl)]
   unfold b8K at h ⊢
   split at h
   ·revert h
    simp only [*]
    intro h
    exact⟨h.1,_,rfl,trivial,h.2⟩
   ·revert h
    simp only [*]
    intro h
    exact⟨h.1,_,rfl,trivial,h.2⟩
   ·exact h.elim
  refine c7r ho ht ?_
  rw [e x (.inl rfl),e y (.inr rfl)]
  unfold c0p at h ⊢
  split at h
  ·split at h
   ·rename_i heq
    revert h
    simp only [*]
    intro h
    exact⟨h.1,_,rfl,trivial,h.2⟩
   ·exact h.elim
  ·revert h
   simp only [*]
   intro h
   exact⟨h.1,_,rfl,trivial,h.2⟩
  ·revert h
   simp only [*]
   intro h
   exact⟨h.1,h.2.1,h.2.2.1,h.2.2.2.1,_,rfl,trivial,h.2.2.2.2⟩
  ·exact h.elim
 ·rename_i t n parts
  have e:(parts.toList.map fun a=>(a.1,(⟨fr',st.hp,st.sz,st.top,st.nx,st.df⟩:AS).ev a.2))=parts.toList.map fun a=>(a.1,st.ev a.2):=List.map_congr_left fun a ha=>by
   rw [show (⟨fr',st.hp,st.sz,st.top,st.nx,st.df⟩:AS).ev a.2=st.ev a.2 from hl a.2 (by rw [ho];simp [Op.operands];exact⟨a.1,by simpa using ha⟩)]
  refine a9r ho ?_
  rw [e]
  unfold a7X at h ⊢
  split at h
  ·split at h
   ·rename_i h1 _ _ h2 h3
    simp only [h2,h3]
    exact⟨h.1,_,rfl,trivial,h.2⟩
   ·exact h.elim
  ·exact h.elim
 ·exact h fr' hl
end
end Go.Proofs.YthpjjjnbkfnghaaGreatDoor
namespace Go.Proofs.YthpjjjnbkfnghaaGreatDoor
open Go
section
variable {P:Program} {Γ:Gam}
def c2j (hk:Nat->Row) (st:AS):AS:=⟨st.fr,hk,st.sz,st.top,st.nx,st.df⟩
def dkS (hk:Nat->Row) (g:Bool) (st:AS):AS:=if g=true then c2j hk st else st
def hkS (Pk:List Nat) (hp:Nat->Row):Nat->Row:=fun p=>if Pk.contains p=true then hp p else .dead
def b0L (hk hp:Nat->Row):List Nat->Prop
 | []=>True
 | p::r=>hp p=hk p/\b0L hk hp r
theorem c0C {Pk:List Nat} {hp hp':Nat->Row} (h:b0L (hkS Pk hp) hp' Pk):Ext (hkS Pk hp) hp':=by
 have key:∀ (l:List Nat),b0L (hkS Pk hp) hp' l->∀ p∈l,hp' p=hkS Pk hp p:=by
  intro l
  induction l with
  | nil=>intro _ p hp;cases hp
  | cons q l ih=>
    intro h p hp
    rcases List.mem_cons.1 hp with rfl|hp
    ·exact h.1
    ·exact ih h.2 p hp
 intro p
 by_cases hc:Pk.contains p=true
 ·exact .inr (key Pk h p (by simpa using hc))
 ·exact .inl (by unfold hkS;rw [if_neg hc])
theorem c1Q (Pk:List Nat) (hp:Nat->Row):Ext (hkS Pk hp) hp:=fun p=>by
 unfold hkS
 split
 ·exact .inr rfl
 ·exact .inl rfl
theorem Ext.put {hk:Nat->Row} {st:AS} (hx:Ext hk st.hp) (hdead:∀ p,st.top<=p->st.hp p=.dead) (d:Option Tmp) (z:AV) (row:Row):Ext hk (st.put d z row).hp/\∀ p,(st.put d z row).top<=p->(st.put d z row).hp p=.dead:=by
 by_cases hr:row=.dead
 ·subst hr;exact⟨hx,hdead⟩
 ·obtain⟨e1,e2,_⟩:=a33 st d z hr
  rw [e1,e2]
  refine⟨fun p=>?_,fun p hp=>?_⟩
  ·by_cases e:p=st.top
   ·subst e
    rcases hx st.top with h|h
    ·exact .inl h
    ·exact .inl (by rw [<-h];exact hdead _ (Nat.le_refl _))
   ·rw [a0f _ _ e];exact hx p
  ·rw [a0f _ _ (by omega)];exact hdead p (by omega)
def d71 (fr:Nat->AV) (want:Bool):Option Tmp->Prop
 | some d=>a1v (fr d) want=some true
 | none=>False
def gOK (ops:Array Oper) (fr:Nat->AV):Option (Nat×Bool)->Prop
 | none=>True
 | some w=>d71 fr w.2 ((ops[w.1]?).bind (·.dst))
theorem b7p {ops:Array Oper} {fr:Nat->AV}:gOK ops fr none=True:=rfl
theorem a5o {ops:Array Oper} {fr:Nat->AV} {j:Nat} {want:Bool}:gOK ops fr (some (j,want))=d71 fr want ((ops[j]?).bind (·.dst)):=rfl
theorem a4h {fr:Nat->AV} {d:Tmp} {want:Bool}:d71 fr want (some d)=(a1v (fr d) want=some true):=rfl
def xE (hk:Nat->Row) (P:Program) (Γ:Gam) (ops:Array Oper) (E G:Nat->Bool) (m:Nat):Nat->List Oper->AS->List (Nat×AV×Row)->(AS->List (Nat×AV×Row)->Prop)->Prop
 | _,[],st,kp,K=>K st kp
 | j,o::r,st,kp,K=>if E j=true then (match gop P Γ ops (dkS hk (G j) st) o with
   | some (pre,z,row)=>((G j=true->gOK ops st.fr o.guard/\row=.dead)/\a0N st.sz o.dst/\pre)/\xE hk P Γ ops E G m (j+1) r (st.put o.dst z row) (if m<=j then (j,z,row)::kp else kp) K
   | none=>False) else xE hk P Γ ops E G m (j+1) r st kp K
def c9s (j:Nat) (st:AS) (i p:Nat):Row->Prop
 | .dead=>True
 | .box v t m c=>j<i->st.hp p=.box v t m c
 | .sl v t k n c=>j<i->st.hp p=.sl v t k n c
 | .mp v b n f=>j<i->st.hp p=.mp v b n f
theorem c6A {j:Nat} {st:AS} {i p:Nat} {row:Row} (h:c9s j st i p row) (hr:row≠.dead) (hlt:j<i):st.hp p=row:=by
 cases row with
 | dead=>exact absurd rfl hr
 | _=>exact h hlt
def a98 (j:Nat):List (Nat×AV×Row)->AS->Prop
 | [],_=>True
 | (i,.pt p _ _,row)::r,st=>c9s j st i p row/\a98 j r st
 | _::r,st=>a98 j r st
def d7J (fr:Nat->AV) (want:Bool):Option Tmp->Prop
 | some d=>a1v (fr d) want=some false
 | none=>False
def gNO (ops:Array Oper) (fr:Nat->AV):Option (Nat×Bool)->Prop
 | none=>False
 | some w=>d7J fr w.2 ((ops[w.1]?).bind (·.dst))
theorem a8u {ops:Array Oper} {fr:Nat->AV} {j:Nat} {want:Bool}:gNO ops fr (some (j,want))=d7J fr want ((ops[j]?).bind (·.dst)):=rfl
theorem a7E {fr:Nat->AV} {d:Tmp} {want:Bool}:d7J fr want (some d)=(a1v (fr d) want=some false):=rfl
def c1U (v:Nat) (z:AV):Prop:=(v=3->a1v z true=some true)/\(v=4->a1v z false=some true)
def b4P (o:Oper):Oper:=⟨o.dst,o.op,o.type,o.pos,o.after,none⟩
def c7h (o:Oper):Oper:=⟨o.dst,.move (.const undef),o.type,o.pos,o.after,none⟩
def unG (U:Nat->Nat):Nat->List Oper->List Oper
 | _,[]=>[]
 | j,o::r=>(if U j=0 then o else if U j=1 then b4P o else c7h o)::unG U (j+1) r
def okU (l0 l:List Oper) (E:Nat->Bool) (V U:Nat->Nat):Bool:=
 (List.range l.length).all fun j=>(U j==0||match (l0[j]?).bind (·.guard) with
  | some (g,want)=>!E g&&((a30 [] l).getD j 0).testBit g&&(if V g=3 then (U j==1)==want else if V g=4 then (U j==1)==!want else false)
  | none=>false)&&(E j||(V j != 3&&V j != 4)||match (l[j]?).bind (·.dst) with
  | some d=>(List.range l.length).all fun k=>k==j||(match l[k]? with|some q=>q.dst != some d|none=>true)
  | none=>false)
def xT (hk:Nat->Row) (Pk:List Nat) (P:Program) (Γ:Gam) (ops:Array Oper) (E Z:Nat->Bool) (V:Nat->Nat):Nat->List Oper->AS->List (Nat×AV×Row)->(AS->Prop)->Prop
 | _,[],st,_,K=>K st
 | j,o::r,st,kp,K=>if E j=true then xT hk Pk P Γ ops E Z V (j+1) r st kp K else (match V j with
   | 1=>gOK ops st.fr o.guard/\c3M P Γ (Z j) st o fun st'=>(b0L hk st'.hp Pk/\a98 j kp st')/\xT hk Pk P Γ ops E Z V (j+1) r st' kp K
   | 2=>(gNO ops st.fr o.guard/\a0N st.sz o.dst)/\xT hk Pk P Γ ops E Z V (j+1) r (st.put o.dst (.gd false .any) .dead) kp K
   | v=>(match gop P Γ ops st o with
     | some (pre,z,row)=>(gOK ops st.fr o.guard/\a0N st.sz o.dst/\pre/\c1U v z)/\xT hk Pk P Γ ops E Z V (j+1) r (st.put o.dst z row) kp K
     | none=>v=0/\o.guard=none/\c3M P Γ (Z j) st o fun st'=>(b0L hk st'.hp Pk/\a98 j kp st')/\xT hk Pk P Γ ops E Z V (j+1) r st' kp K))
theorem b7X {j:Nat} {st:AS} {i p ver k:Nat} {row:Row}:∀ {kp:List (Nat×AV×Row)},a98 j kp st->(i,AV.pt p ver k,row)∈kp->row≠.dead->j<i->st.hp p=row
 | [],_,h,_,_=>nomatch h
 | e::r,hk,h,hr,hlt=>by
   rcases List.mem_cons.1 h with h|h
   ·subst h;exact c6A hk.1 hr hlt
   ·refine b7X (kp:=r) ?_ h hr hlt
    obtain⟨i',z',row'⟩:=e
    cases z'<;>first|exact hk.2|exact hk
theorem b5d {hk:Nat->Row} {Pk:List Nat} {ops:Array Oper} {E Z:Nat->Bool} {V:Nat->Nat} {K:AS->Prop} {kp:List (Nat×AV×Row)} {st:AS} {l:List Oper}:∀ (n k:Nat),k+n<=l.length->(∀ i,k<=i->i<k+n->E i=true)->xT hk Pk P Γ ops E Z V k (l.drop k) st kp K->xT hk Pk P Γ ops E Z V (k+n) (l.drop (k+n)) st kp K
 | 0,k,_,_,h=>h
 | n+1,k,hk,hE,h=>by
   have hd:l.drop k=l[k]::l.drop (k+1):=List.drop_eq_getElem_cons (by omega)
   rw [hd,xT,if_pos (hE k (Nat.le_refl _) (by omega))] at h
   rw [show k+(n+1)=k+1+n by omega]
   exact b5d n (k+1) (by omega) (fun i h1 h2=>hE i (by omega) (by omega)) h
theorem d0u {ops:Array Oper} {st:AS} {o:Oper}:gop P Γ ops st (d1f o)=some (True,.val undef,.dead):=rfl
theorem c7N (i:Nat):∀ (l:List (Option Tmp×AV)) (i':Nat) (f:Nat->AV),i<=i'->frS (fun k=>decide (k<i)) i' l f=f
 | [],_,_,_=>rfl
 | (d,z)::l,i',f,h=>by
   unfold frS
   rw [if_neg (by simp;omega)]
   exact c7N i l (i'+1) f (by omega)
theorem c5G {hk:Nat->Row} {ops:Array Oper} {st:AS} {o:Oper} {pre:Prop} {z:AV} {row:Row} (hx:Ext hk st.hp) (hgd:gOK ops st.fr o.guard) (hg:gop P Γ ops (c2j hk st) o=some (pre,z,row)) (hp:pre):∃ pre',gop P Γ ops st o=some (pre',z,row)/\pre':=by
 rw [c9j] at hg ⊢
 unfold b8H at hg ⊢
 revert hg hgd
 cases o.guard with
 | none=>
   intro hgd hg
   exact a8Q hx (fun _ _=>rfl) hg hp
 | some w=>
   obtain⟨jj,want⟩:=w
   intro hgd hg
   rw [a5o] at hgd
   simp only at hg ⊢
   cases hd:(ops[jj]?).bind (·.dst) with
   | none=>rw [hd] at hgd;exact hgd.elim
   | some d=>
     rw [hd] at hgd hg
     rw [a4h] at hgd
     have hg2:a1v ((c2j hk st).fr d) want=some true:=hgd
     simp only [hgd,hg2] at hg ⊢
     split at hg
     ·rename_i pre0 z0 row0 hq
      simp only [Option.some.injEq,Prod.mk.injEq] at hg
      obtain⟨rfl,rfl,rfl⟩:=hg
      obtain⟨pre',h1,h2⟩:=a8Q (hp':=st.hp) (ev':=evG true o.op (a9b st.fr)) hx (fun _ _=>rfl) hq (hp trivial)
      have h1:aop P Γ st.hp st.top st.nx (evG true o.op (a9b st.fr)) o.op=some (pre',z0,row0):=h1
      rw [h1]
      exact⟨_,rfl,fun _=>h2⟩
     ·simp only [Option.some.injEq,Prod.mk.injEq] at hg
      obtain⟨rfl,_,_⟩:=hg
      cases hp
def d3L (hk:Nat->Row) (P:Program) (Γ:Gam) (ops:Array Oper) (fr:Nat->AV) (o:Oper) (z:AV):Prop:=gOK ops fr o.guard/\∃ pre p ver,b8H P Γ ops fr hk p ver o=some (pre,z,.dead)/\pre
theorem c9m {hk:Nat->Row} {ops:Array Oper} {E G:Nat->Bool} {m:Nat} {K:AS->List (Nat×AV×Row)->Prop}:∀ (l:List Oper) (j:Nat) (st:AS) (kp:List (Nat×AV×Row)),Ext hk st.hp->(∀ p,st.top<=p->st.hp p=.dead)->xE hk P Γ ops E G m j l st kp K->
  ∃ vs st' kp',TR P Γ ops (a2y E j l) st vs st'/\K st' kp'/\(∀ e∈kp,e∈kp')/\(∀ i z row,vs[i]?=some (z,row)->E (j+i)=true->m<=j+i->(j+i,z,row)∈kp')/\
   ∀ i o,l[i]?=some o->E (j+i)=true->G (j+i)=true->∃ z,vs[i]?=some (z,.dead)/\d3L hk P Γ ops (frS (fun k=>decide (k<j+i)) j (a4b (a2y E j l) vs) st.fr) o z
 | [],j,st,kp,_,_,h=>⟨[],st,kp,.nil st,h,fun _ h=>h,fun i z row hv=>by simp at hv,fun i o hi=>by simp at hi⟩
 | o::r,j,st,kp,hxt,hdd,h=>by
   unfold xE at h
   split at h
   ·rename_i hE
    split at h
    ·rename_i pre z row hg
     obtain⟨⟨hG,hd,hp⟩,hx⟩:=h
     have hgl:∃ pre',gop P Γ ops st o=some (pre',z,row)/\pre':=by
      cases hGj:G j with
      | false=>rw [hGj] at hg;exact⟨pre,hg,hp⟩
      | true=>rw [hGj] at hg;exact c5G hxt (hG hGj).1 hg hp
     obtain⟨pre',hgl,hpl⟩:=hgl
     obtain⟨vs,st',kp',h1,h2,h3,h4,h5⟩:=c9m r (j+1) _ _ (hxt.put hdd _ _ _).1 (hxt.put hdd _ _ _).2 hx
     have hs:a2y E j (o::r)=o::a2y E (j+1) r:=by rw [a2y,if_pos hE]
     refine⟨(z,row)::vs,st',kp',by rw [hs];exact TR.cons hgl hd hpl h1,h2,fun e he=>h3 e (by split<;>simp [he]),fun i z' row' hv hEi hm=>?_,fun i oi hi hEi hGi=>?_⟩
     ·cases i with
      | zero=>
        simp only [List.getElem?_cons_zero,Option.some.injEq,Prod.mk.injEq] at hv
        obtain⟨rfl,rfl⟩:=hv
        rw [Nat.add_zero] at hm ⊢
        exact h3 _ (by rw [if_pos hm];exact List.mem_cons_self ..)
      | succ i=>
        have:=h4 i z' row' (by simpa using hv) (by rw [show j+1+i=j+(i+1) by omega];exact hEi) (by omega)
        rwa [show j+1+i=j+(i+1) by omega] at this
     ·cases i with
      | zero=>
        simp only [List.getElem?_cons_zero,Option.some.injEq] at hi
        subst hi
        rw [Nat.add_zero] at hGi ⊢
        obtain⟨hgd,rfl⟩:=hG hGi
        rw [hGi] at hg
        refine⟨z,rfl,?_⟩
        rw [c7N j _ _ _ (Nat.le_refl _)]
        exact⟨hgd,pre,st.top,st.nx,hg,hp⟩
      | succ i=>
        obtain⟨z',h6,h7⟩:=h5 i oi (by simpa using hi) (by rw [show j+1+i=j+(i+1) by omega];exact hEi) (by rw [show j+1+i=j+(i+1) by omega];exact hGi)
        refine⟨z',by simpa using h6,?_⟩
        rw [hs,a4b,frS,if_pos (by simp),<-(b3I st o.dst z row).2.2,show j+(i+1)=j+1+i by omega]
        exact h7
    ·exact h.elim
   ·rename_i hE
    obtain⟨vs,st',kp',h1,h2,h3,h4,h5⟩:=c9m r (j+1) st kp hxt hdd h
    have hs:a2y E j (o::r)=d1f o::a2y E (j+1) r:=by rw [a2y,if_neg hE]
    refine⟨(.val undef,.dead)::vs,st',kp',?_,h2,h3,fun i z' row' hv hEi hm=>?_,fun i oi hi hEi hGi=>?_⟩
    ·rw [hs]
     exact TR.cons d0u trivial trivial (by exact h1)
    ·cases i with
     | zero=>rw [Nat.add_zero] at hEi;exact absurd hEi hE
     | succ i=>
       have:=h4 i z' row' (by simpa using hv) (by rw [show j+1+i=j+(i+1) by omega];exact hEi) (by omega)
       rwa [show j+1+i=j+(i+1) by omega] at this
    ·cases i with
     | zero=>rw [Nat.add_zero] at hEi;exact absurd hEi hE
     | succ i=>
       obtain⟨z',h6,h7⟩:=h5 i oi (by simpa using hi) (by rw [show j+1+i=j+(i+1) by omega];exact hEi) (by rw [show j+1+i=j+(i+1) by omega];exact hGi)
       refine⟨z',by simpa using h6,?_⟩
       rw [hs,a4b,frS,if_pos (by simp),show j+(i+1)=j+1+i by omega]
       exact h7
def Ctx.here (c:Ctx) (hp:Nat->Row) (nx:Nat) (η:Env) (w:World):Ctx:=⟨w,η,fun b=>∃ p,(hp p).blk η=some b,c.Lx,nx⟩
theorem SR.here {c:Ctx} {st:AS} {η:Env} {a:Act} {w:World} (h:SR c st η a w):SR (c.here st.hp st.nx η w) st η a w where
 hs:=⟨Fr.refl _ _,⟨fun b hb=>Nat.lt_of_lt_of_le (h.hs.lx.lt b hb) h.hs.fr.size,h.hs.tab⟩,h.hs.rows,h.hs.vers,h.hs.bnd,h.hs.disj,
  fun p b hb=>⟨.inl ⟨p,hb⟩,(h.hs.own p b hb).2.1,(h.hs.own p b hb).2.2⟩,h.hs.fresh,Env.le_refl _,Nat.le_refl _,fun _ _ h=>h⟩
 dead:=h.dead
 size:=h.size
 slots:=h.slots
 defs:=h.defs
theorem SR.back {c:Ctx} {st st':AS} {η η':Env} {a a':Act} {w w':World} (h:SR c st η a w) (h':SR (c.here st.hp st.nx η w) st' η' a' w') :
  SR c st' η' a' w'/\st.nx<=st'.nx/\∀ k,k<st.nx->η k=none->η' k=none:=by
 have hs':=h'.hs
 refine⟨⟨⟨h.hs.fr.trans' hs'.fr ?_,h.hs.lx,hs'.rows,hs'.vers,hs'.bnd,hs'.disj,fun p b hb=>⟨?_,(hs'.own p b hb).2.1,(hs'.own p b hb).2.2⟩,hs'.fresh,Env.le_trans h.hs.env.1 hs'.env.1,Nat.le_trans h.hs.env.2.1 hs'.env.2.1,fun k hk h0=>hs'.env.2.2 k (Nat.lt_of_lt_of_le hk h.hs.env.2.1) (h.hs.env.2.2 k hk h0)⟩,h'.dead,h'.size,h'.slots,h'.defs⟩,hs'.env.2.1,hs'.env.2.2⟩
 ·rintro k hk ⟨p,hp⟩
  exact (h.hs.own p k hp).1.resolve_right (by omega)
 ·rcases (hs'.own p b hb).1 with⟨q,hq⟩|hge
  ·exact (h.hs.own q b hq).1
  ·exact .inr (Nat.le_trans h.hs.fr.size hge)
theorem d0P {ops:Array Oper} {fr:Nat->AV} {hp hp':Nat->Row} {p ver:Nat} {o:Oper} (h:c0R o=true):b8H P Γ ops fr hp p ver o=b8H P Γ ops fr hp' p ver o:=by
 unfold c0R at h
 split at h
 ·rename_i x ho
  have hg:o.guard=none:=by simpa using h
  unfold b8H
  rw [hg,ho]
  rfl
 ·rename_i x ho
  have hg:o.guard=none:=by simpa using h
  unfold b8H
  rw [hg,ho]
  rfl
 ·cases h
theorem d1B {ops:Array Oper} {st:AS} {o:Oper} {pre:Prop} {z:AV} {row:Row} (h:c0R o=true) (hg:gop P Γ ops st o=some (pre,z,row)) (hr:row≠.dead):d0l o=false/\z=.pt st.top st.nx 0:=by
 unfold c0R at h
 split at h
 ·rename_i x ho
  have hgd:o.guard=none:=by simpa using h
  unfold gop at hg
  rw [hgd,ho] at hg
  simp only [aop,a3s,Option.some.injEq,Prod.mk.injEq] at hg
  exact absurd hg.2.2.symm hr
 ·rename_i x ho
  have hgd:o.guard=none:=by simpa using h
  unfold gop at hg
  rw [hgd,ho] at hg
  simp only [aop] at hg
  split at hg
  ·simp only [Option.some.injEq,Prod.mk.injEq] at hg
   exact⟨by simp [d0l,ho],hg.2.1.symm⟩
  ·cases hg
 ·cases h
theorem d2y {ops:Array Oper} {st:AS} {o:Oper} {pre:Prop} {z:AV} {row:Row} (h:d0l o=true) (hg:gop P Γ ops st o=some (pre,z,row)):row=.dead/\c0R o=true:=by
 unfold d0l at h
 split at h
 ·rename_i x ho
  have hgd:o.guard=none:=by simpa using h
  unfold gop at hg
  rw [hgd,ho] at hg
  simp only [aop,a3s,Option.some.injEq,Prod.mk.injEq] at hg
  exact⟨hg.2.2.symm,by simp [c0R,ho,hgd]⟩
 ·cases h
theorem b8C {ops:Array Oper} {fr fr':Nat->AV} {hp:Nat->Row} {p ver:Nat} {o:Oper} (hgd:gOK ops fr o.guard) (h:∀ t∈a5C ops o,fr' t=fr t) {pre:Prop} {z:AV} {row:Row} (hg:b8H P Γ ops fr hp p ver o=some (pre,z,row)) (hp':pre) :
  ∃ pre',b8H P Γ ops fr' hp p ver o=some (pre',z,row)/\pre':=by
 have hev:=b2X h
 have hlk:∀ jj want d,o.guard=some (jj,want)->(ops[jj]?).bind (·.dst)=some d->d∈a5C ops o:=fun jj want d h1 h2=>by
  unfold a5C
  rw [h1]
  simp only
  rw [h2]
  simp
 unfold b8H at hg ⊢
 revert hg hgd hlk
 cases o.guard with
 | none=>
   intro hgd hg hlk
   exact a8Q (Ext.refl _) hev hg hp'
 | some w=>
   obtain⟨jj,want⟩:=w
   intro hgd hg hlk
   rw [a5o] at hgd
   simp only at hg ⊢
   cases hd:(ops[jj]?).bind (·.dst) with
   | none=>rw [hd] at hgd;exact hgd.elim
   | some d=>
     rw [hd] at hgd hg
     rw [a4h] at hgd
     have e:=h d (hlk jj want d rfl hd)
     simp only [e,hgd] at hg ⊢
     split at hg
     ·rename_i pre0 z0 row0 hq
      simp only [Option.some.injEq,Prod.mk.injEq] at hg
      obtain⟨rfl,rfl,rfl⟩:=hg
      obtain⟨pre',h1,h2⟩:=a8Q (ev':=evG true o.op (a9b fr')) (Ext.refl hp) (fun x hx=>by
       have e2:=hev x hx
       unfold evG
       split<;>rw [e2]) hq (hp' trivial)
      rw [h1]
      exact⟨_,rfl,fun _=>h2⟩
     ·simp only [Option.some.injEq,Prod.mk.injEq] at hg
      obtain⟨rfl,_,_⟩:=hg
      cases hp'
def b9q (l:List Oper) (E:Nat->Bool) (k:Nat) (t:Nat):Prop:=∃ j o,j<k/\E j=false/\l[j]?=some o/\o.dst=some t
open Classical in
noncomputable def frG (l:List Oper) (E:Nat->Bool) (k:Nat) (f g:Nat->AV):Nat->AV:=fun t=>if b9q l E k t then f t else g t
open Classical in
theorem a83 {l:List Oper} {E:Nat->Bool} {k:Nat} {f g:Nat->AV} {t:Nat} (h:b9q l E k t):frG l E k f g t=f t:=if_pos h
open Classical in
theorem a6v {l:List Oper} {E:Nat->Bool} {k:Nat} {f g:Nat->AV} {t:Nat} (h:¬b9q l E k t):frG l E k f g t=g t:=if_neg h
theorem b4m {ops:Array Oper} {st:AS} {c:Ctx} {η:Env} {a:Act} {w:World} (hsr:SR c st η a w) {o:Oper} (h:gOK ops st.fr o.guard):Region.wanted o (yielded ops a.tmps)=true:=by
 unfold Region.wanted
 cases hg:o.guard with
 | none=>rfl
 | some g=>
   obtain⟨j,want⟩:=g
   rw [hg] at h
   cases hj:(ops[j]?).bind (·.dst) with
   | none=>rw [a5o,hj] at h;exact h.elim
   | some d=>
     rw [a5o,hj,a4h] at h
     exact a9E hj hsr h
theorem b6N (U:Nat->Nat):∀ (l:List Oper) (j i:Nat),(unG U j l)[i]?=(l[i]?).map fun o=>if U (j+i)=0 then o else if U (j+i)=1 then b4P o else c7h o
 | [],_,_=>by simp [unG]
 | _::_,_,0=>by simp [unG]
 | _::l,j,i+1=>by
   rw [unG,List.getElem?_cons_succ,b6N U l (j+1) i,List.getElem?_cons_succ,show j+1+i=j+(i+1) by omega]
theorem c2U (U:Nat->Nat):∀ (l:List Oper) (j:Nat),(unG U j l).length=l.length
 | [],_=>rfl
 | _::l,j=>congrArg (·+1) (c2U U l (j+1))
theorem b6r:∀ (l:List Oper) (j:Nat),unG (fun _=>0) j l=l
 | [],_=>rfl
 | o::l,j=>by rw [unG,b6r l (j+1)];rfl
theorem b5q (o:Oper) (u:Nat):(if u=0 then o else if u=1 then b4P o else c7h o).dst=o.dst/\(if u=0 then o else if u=1 then b4P o else c7h o).after=o.after:=by
 split
 ·exact⟨rfl,rfl⟩
 ·split<;>exact⟨rfl,rfl⟩
theorem b7O {U:Nat->Nat} {l:List Oper} (tm:Array Value) (j:Nat):yielded (unG U 0 l).toArray tm j=yielded l.toArray tm j:=by
 have e:((unG U 0 l).toArray[j]?).bind (·.dst)=(l.toArray[j]?).bind (·.dst):=by
  rw [List.getElem?_toArray,List.getElem?_toArray,b6N]
  cases l[j]? with
  | none=>rfl
  | some o=>exact (b5q o _).1
 unfold yielded
 rw [e]
theorem b2t {U:Nat->Nat} {l:List Oper} {listed:Array Bool} {i:Nat}:i∈Region.ready .any (unG U 0 l).toArray listed↔i∈Region.ready .any l.toArray listed:=by
 rw [mem_ready,mem_ready]
 simp only [List.getElem?_toArray,b6N]
 refine and_congr Iff.rfl ⟨?_,?_⟩
 ·rintro⟨o,ho,h⟩
  cases hl:l[i]? with
  | none=>rw [hl] at ho;cases ho
  | some q=>
    rw [hl] at ho
    obtain rfl:=Option.some.inj ho
    rw [(b5q q _).2] at h
    exact⟨q,rfl,h⟩
 ·rintro⟨o,ho,h⟩
  exact⟨_,by rw [ho];rfl,by rw [(b5q o _).2];exact h⟩
def a88 (P:Program) (U:Nat->Nat) (l0 l:List Oper) (Q:Exit->Act->World->Prop):Nat->Array Bool->Act->World->Prop
 | 0,listed,a,w=>Region.ready .any l.toArray listed=[]/\Q .normal a w
 | fuel+1,listed,a,w=>(Region.ready .any l.toArray listed=[]->Q .normal a w)/\
   ∀ i∈Region.ready .any l.toArray listed,(U i≠0->∀ o,l0[i]?=some o->Region.wanted o (yielded l.toArray a.tmps)=(U i==1))/\wpOp P l.toArray Q i (a88 P U l0 l Q fuel (listed.setIfInBounds i true)) a w
theorem c4m {o:Oper} {a:Act} {w:World}:¬(c7h o).asks P a w:=fun h=>absurd (show noRoomEvent∈(#[]:Array _) from h.1) (by simp)
theorem c6D {U:Nat->Nat} {l:List Oper} {Q:Exit->Act->World->Prop}:∀ (fuel:Nat) (listed:Array Bool) (a:Act) (w:World),a88 P U l (unG U 0 l) Q fuel listed a w->wpAny P .any l.toArray Q fuel listed a w:=by
 have hn:∀ {listed:Array Bool},(Region.ready .any l.toArray listed=[]->Region.ready .any (unG U 0 l).toArray listed=[])/\(Region.ready .any (unG U 0 l).toArray listed=[]->Region.ready .any l.toArray listed=[]):=
  ⟨(fun h=>List.eq_nil_iff_forall_not_mem.2 fun i hi=>by have:=b2t.1 hi;rw [h] at this;cases this),(fun h=>List.eq_nil_iff_forall_not_mem.2 fun i hi=>by have:=(b2t (U:=U)).2 hi;rw [h] at this;cases this)⟩
 intro fuel
 induction fuel with
 | zero=>intro listed a w h;exact⟨hn.2 h.1,h.2⟩
 | succ fuel ih=>
   intro listed a w h
   refine⟨fun h0=>h.1 (hn.1 h0),fun i hi=>?_⟩
   obtain⟨h1,h2⟩:=h.2 i (b2t.2 hi)
   have hk:∀ a' w',a88 P U l (unG U 0 l) Q fuel (listed.setIfInBounds i true) a' w'->wpAny P .any l.toArray Q fuel (listed.setIfInBounds i true) a' w':=fun a' w' hh=>ih _ a' w' hh
   unfold wpOp at h2 ⊢
   simp only [List.getElem?_toArray,b6N,Nat.zero_add] at h2 ⊢
   cases hl:l[i]? with
   | none=>rw [hl] at h2;exact hk _ _ h2
   | some o=>
     rw [hl] at h2
     simp only [Option.map_some] at h2 ⊢
     by_cases u0:U i=0
     ·rw [if_pos u0] at h2
      have e:yielded (unG U 0 l).toArray a.tmps=yielded l.toArray a.tmps:=funext fun j=>b7O a.tmps j
      rw [e] at h2
      split at h2
      ·rename_i hw;rw [if_pos hw];exact h2.imp (Oper.wp_mono hk) id
      ·rename_i hw;rw [if_neg hw];exact hk _ _ h2
     ·rw [if_neg u0] at h2
      have hw:=h1 u0 o hl
      have e:yielded (unG U 0 l).toArray a.tmps=yielded l.toArray a.tmps:=funext fun j=>b7O a.tmps j
      rw [e] at hw
      by_cases u1:U i=1
      ·rw [if_pos u1,if_pos (show Region.wanted (b4P o) _=true from rfl)] at h2
       rw [if_pos (by rw [hw,u1];rfl)]
       exact h2.imp (Oper.wp_mono (o:=o) hk) id
      ·rw [if_neg u1,if_pos (show Region.wanted (c7h o) _=true from rfl)] at h2
       rw [if_neg (by rw [hw];simp [u1])]
       exact hk _ _ (h2.resolve_right fun h=>c4m h.1)
theorem b36 {ops:Array Oper} {st:AS} {c:Ctx} {η:Env} {a:Act} {w:World} (hsr:SR c st η a w) {o:Oper} (h:gNO ops st.fr o.guard):Region.wanted o (yielded ops a.tmps)=false:=by
 unfold Region.wanted
 cases hg:o.guard with
 | none=>rw [hg] at h;exact h.elim
 | some g=>
   obtain⟨j,want⟩:=g
   rw [hg] at h
   cases hj:(ops[j]?).bind (·.dst) with
   | none=>rw [a8u,hj] at h;exact h.elim
   | some d=>
     rw [a8u,hj,a7E] at h
     exact a9E hj hsr h
theorem b6Q {ops:Array Oper} {o:Oper} {jj:Nat} {want:Bool} {d:Tmp} (h1:o.guard=some (jj,want)) (h2:(ops[jj]?).bind (·.dst)=some d):d∈a5C ops o:=by
 unfold a5C
 rw [h1]
 simp only
 rw [h2]
 simp
theorem d2L {l0 l:List Oper} {E:Nat->Bool} {V U:Nat->Nat} (h:okU l0 l E V U=true) :
  (∀ i,i<l.length->U i≠0->∃ g want,(l0[i]?).bind (·.guard)=some (g,want)/\E g=false/\((a30 [] l).getD i 0).testBit g=true/\((V g=3/\(U i==1)=want)\/(V g=4/\(U i==1)=!want)))/\
  ∀ j,j<l.length->E j=false->(V j=3\/V j=4)->(∃ d,(l[j]?).bind (·.dst)=some d)/\∀ k q,j≠k->l[k]?=some q->∀ d,(l[j]?).bind (·.dst)=some d->q.dst≠some d:=by
 refine⟨fun i hi hu=>?_,fun j hj hE hv=>?_⟩
 ·have h1:=List.all_eq_true.1 h i (List.mem_range.2 hi)
  rw [Bool.and_eq_true] at h1
  have h2:=h1.1
  rw [show (U i==0)=false by simpa using hu,Bool.false_or] at h2
  split at h2
  ·rename_i g want hg
   simp only [Bool.and_eq_true,Bool.not_eq_true'] at h2
   refine⟨g,want,hg,h2.1.1,h2.1.2,?_⟩
   have h3:=h2.2
   split at h3
   ·rename_i c;exact .inl ⟨c,by simpa using h3⟩
   ·split at h3
    ·rename_i c;exact .inr ⟨c,by simpa using h3⟩
    ·cases h3
  ·cases h2
 ·have h1:=List.all_eq_true.1 h j (List.mem_range.2 hj)
  rw [Bool.and_eq_true] at h1
  have h2:=h1.2
  have hb:(E j||(V j != 3&&V j != 4))=false:=by rw [hE];rcases hv with hv|hv<;>simp [hv]
  rw [hb,Bool.false_or] at h2
  split at h2
  ·rename_i d hd
   refine⟨⟨d,hd⟩,fun k q hne hk d' hd'=>?_⟩
   rw [hd] at hd'
   obtain rfl:=Option.some.inj hd'
   have hkl:=(List.getElem?_eq_some_iff.1 hk).1
   have h3:=List.all_eq_true.1 h2 k (List.mem_range.2 hkl)
   rw [hk] at h3
   simp only [Bool.or_eq_true,beq_iff_eq] at h3
   rcases h3 with h3|h3
   ·exact absurd h3.symm hne
   ·simpa using h3
  ·cases h2
theorem AW.drawG (hΓ:GOK P Γ) (hm:P.follows .mixedOrders=true) {Q:Exit->AS->Prop} {st:AS} {id:Nat} {l0 l:List Oper} (m:Nat) (F G Z Pk:List Nat) (V U:Nat->Nat) (hl0:unG U 0 l0=l) (hchk:okG l m F G=true) (hchU:okU l0 l (eb m F) V U=true)
  (h:xE (hkS Pk st.hp) P Γ l.toArray (eb m F) (gb G) m 0 l st [] fun st1 kp=>xT (hkS Pk st.hp) Pk P Γ l.toArray (eb m F) (gb Z) V 0 l st1 kp (Q .normal)):AW P (.region id l0.toArray true) Q st:=by
 intro c η0 a0 w0 hsr0
 have hD:=b1V.of hchk
 have hU:=d2L hchU
 generalize eb m F=E at hD h hU
 generalize gb G=G' at hD h
 generalize gb Z=Z' at h
 obtain⟨vs,stm,kp,htr,hrest,_,hkp,hG⟩:=c9m l 0 st [] (c1Q Pk st.hp) hsr0.dead h
 simp only [Nat.zero_add] at hkp
 obtain⟨x1,x2,x3,x4,x5,x6,x7,x8⟩:=htr.ext hsr0.dead
 obtain⟨sts,hat,hnx,hfr⟩:=htr.at hsr0.dead 0 st.fr rfl
 have hdrew:HS c st.hp st.nx η0 w0.drew:=hsr0.hs.world (Fr.refl _ _).drew
 obtain⟨hsm,hLm⟩:=htr.declare hdrew
 refine wp_region_any hm ?_
 have hlen:l.length=l0.length:=by rw [<-hl0,c2U]
 have hsl:∀ j,(a2y E 0 l)[j]?=(l[j]?).map fun o=>if E j then o else d1f o:=fun j=>by rw [b6w,Nat.zero_add]
 have hput:∀ k d z',(a4b (a2y E 0 l) vs)[k]?=some (d,z')->∃ ok,l[k]?=some ok/\((E k=true/\d=ok.dst)\/(E k=false/\d=none)):=fun k d z' hk=>by
  have hkl:k<(a2y E 0 l).length:=a8g hk
  rw [a6p] at hkl
  have hlk:l[k]?=some l[k]:=List.getElem?_eq_getElem hkl
  obtain⟨z1,row1,_,hpu1,_⟩:=hat k (if E k then l[k] else d1f l[k]) (by rw [hsl,hlk];rfl)
  rw [hk] at hpu1
  simp only [Option.some.injEq,Prod.mk.injEq] at hpu1
  refine⟨l[k],hlk,?_⟩
  cases hE:E k with
  | true=>exact .inl ⟨rfl,by rw [hpu1.1,hE];rfl⟩
  | false=>exact .inr ⟨rfl,by rw [hpu1.1,hE];rfl⟩
 have main:∀ (fuel k:Nat) (listed:Array Bool) (stk:AS) (η:Env) (a:Act) (w:World),listed.size=l.length->left listed l.length=fuel->k<=l.length->
   HS c stk.hp stk.nx η w->(∀ p,stk.top<=p->stk.hp p=.dead)->a.tmps.size=st.sz->stk.sz=st.sz->a.defers=stk.df->
   (∀ t,Rep w η (a0Y c η stk.hp) (frG l E k stk.fr (frS (fun i=>listed.getD i false) 0 (a4b (a2y E 0 l) vs) st.fr) t) (a.tmps.getD t undef))->
   (∀ t,¬b9q l E k t->stk.fr t=stm.fr t)->
   (∀ j z row,vs[j]?=some (z,row)->listed.getD j false=false->E j=true->row≠.dead->η (sts j).nx=none/\(sts j).nx<stk.nx/\stk.hp (sts j).top=row)->
   b14 l (fun i=>listed.getD i false)->(∀ j,j<l.length->E j=false->listed.getD j false=decide (j<k))->
   (∀ i j oi oj,l[i]?=some oi->l[j]?=some oj->E i=true->listed.getD i false=false->E j=false->j<k->(c0R oi=true\/G' i=true)/\(∀ t,oj.dst=some t->oi.dst≠some t/\¬t∈a5C l.toArray oi))->
   ((∃ j oj,l[j]?=some oj/\E j=false/\j<k)\/stk=stm)->
   (∀ j oj d,l[j]?=some oj->oj.dst=some d->E j=false->j<k->c1U (V j) (stk.fr d))->
   Ext (hkS Pk st.hp) stk.hp->xT (hkS Pk st.hp) Pk P Γ l.toArray E Z' V k (l.drop k) stk kp (Q .normal)->
   a88 P U l0 l (fun e a' w'=>∃ st' η',Q e st'/\SR c st' η' a' w') fuel listed a w:=by
  intro fuel
  induction fuel with
  | zero=>
    intro k listed stk η a w hs hleft hkl hhs hdead hsz hksz hdf hslots hkeep hpend hcl hT hfree hext hpm hxk hx
    have hall:∀ j,j<l.length->listed.getD j false=true:=fun j hj=>by
     cases hv:listed.getD j false with
     | true=>rfl
     | false=>
       have:0<(List.range l.length).countP fun i=>!listed.getD i false:=List.countP_pos_iff.2 ⟨j,by simpa using hj,by simpa using hv⟩
       unfold left at hleft
       omega
    refine⟨?_,?_⟩
    ·rw [List.eq_nil_iff_forall_not_mem]
     intro j hj
     obtain⟨h1,_,h2,_⟩:=a35 hs hj
     rw [hall j h1] at h2
     cases h2
    ·have hx2:=b5d (l.length-k) k (by omega) (fun i h1 h2=>by
      cases hE:E i with
      | true=>rfl
      | false=>
        have h3:=hT i (by omega) hE
        rw [hall i (by omega)] at h3
        have:=of_decide_eq_true h3.symm
        omega) hx
     rw [show k+(l.length-k)=l.length by omega,List.drop_length] at hx2
     refine⟨stk,η,hx2,hhs,hdead,by rw [hsz,hksz],fun t=>?_,hdf⟩
     have:=hslots t
     by_cases ht:b9q l E k t
     ·rwa [a83 ht] at this
     ·rw [a6v ht] at this
      have e:frS (fun i=>listed.getD i false) 0 (a4b (a2y E 0 l) vs) st.fr t=frS (fun _=>true) 0 (a4b (a2y E 0 l) vs) st.fr t:=a2f _ 0 _ _ rfl fun k d z hk _=>by
       have hkl:k<(a2y E 0 l).length:=a8g hk
       rw [a6p] at hkl
       simp only [Nat.zero_add]
       exact hall k hkl
      rw [hkeep t ht,hfr,<-e]
      exact this
  | succ fuel ih=>
    intro k listed stk η a w hs hleft hkl hhs hdead hsz hksz hdf hslots hkeep hpend hcl hT hfree hext hpm hxk hx
    refine⟨fun h0=>?_,fun i hi=>?_⟩
    ·obtain⟨j,hj⟩:=b4W hD hs (by omega)
     rw [h0] at hj
     cases hj
    obtain⟨hil,hit,hif,o,ho,hedges⟩:=a35 hs hi
    have hdone:∀ j,((a30 [] l).getD i 0).testBit j=true->listed.getD j false=true:=fun j hb=>hD.anc hcl i i o (Nat.le_refl _) ho hedges j hb
    have hoo:l.toArray[i]?=some o:=by simpa using ho
    have hleft':left (listed.setIfInBounds i true) l.length=fuel:=by
     have:=a6A listed hit l.length
     rw [if_pos hil] at this
     unfold left at hleft ⊢
     omega
    have hcl':b14 l (fun j=>(listed.setIfInBounds i true).getD j false):=fun j oj hj hSj e he hb=>by
     simp only at hSj ⊢
     rw [a2C hs hil] at hSj ⊢
     by_cases e1:e.on=i
     ·rw [if_pos e1]
     ·rw [if_neg e1]
      by_cases e2:j=i
      ·subst e2
       rw [hj] at ho
       obtain rfl:=Option.some.inj ho
       exact hedges e he hb
      ·rw [if_neg e2] at hSj
       exact hcl j oj hj hSj e he hb
    refine⟨fun hUi o0 ho0=>?_,?_⟩
    ·obtain⟨g,want,h1,h2,h3,h4⟩:=hU.1 i hil hUi
     rw [ho0] at h1
     have h1:o0.guard=some (g,want):=h1
     have hgk:g<k:=by
      have h5:=hdone g h3
      have h6:g<l.length:=by
       rcases Nat.lt_or_ge g l.length with h|h
       ·exact h
       ·rw [<-hs] at h;simp [Array.getD,Nat.not_lt.2 h] at h5
      rw [hT g h6 h2] at h5
      exact of_decide_eq_true h5
     have hgl2:g<l.length:=by omega
     obtain⟨dg,hdg⟩:=(hU.2 g hgl2 h2 (h4.imp (·.1) (·.1))).1
     have hog:l[g]?=some l[g]:=List.getElem?_eq_getElem hgl2
     rw [hog] at hdg
     have hdg:l[g].dst=some dg:=hdg
     have hv:=hpm g _ dg hog hdg h2 hgk
     have hgl:∀ want',a1v (stk.fr dg) want'=some true->∀ w',(yielded l.toArray a.tmps g==some w')=(w'==want'):=by
      intro want' h w'
      have hs:=hslots dg
      rw [a83 ⟨g,_,hgk,h2,hog,hdg⟩] at hs
      have hj:(l.toArray[g]?).bind (·.dst)=some dg:=by rw [List.getElem?_toArray,hog];exact hdg
      have:=b0z hj hs h
      rw [beq_iff_eq] at this
      rw [this]
      cases w'<;>cases want'<;>rfl
     unfold Region.wanted
     rw [h1]
     show (yielded l.toArray a.tmps g==some want)=_
     rcases h4 with⟨h5,h6⟩|⟨h5,h6⟩
     ·rw [hgl true (hv.1 h5),<-h6];cases (U i==1)<;>rfl
     ·rw [hgl false (hv.2 h5),h6];cases want<;>rfl
    cases hE:E i with
    | true=>
      obtain⟨z,row,hv,hpu,hAt,hfrj⟩:=hat i o (by rw [hsl,ho];simp [hE])
      obtain⟨pre,hg,hp⟩:=hAt.pre
      have hord:∀ k ok,l[k]?=some ok->E k=true->k≠i->a5c l.toArray (if k<i then ok else o) (if k<i then o else ok)=true->listed.getD k false=decide (k<i):=by
       intro k ok hk hEk hne ht
       by_cases hlt:k<i
       ·simp only [hlt,if_true] at ht
        rw [hdone k (hD.ee k i ok o hlt hk ho hEk hE ht)];simp [hlt]
       ·simp only [hlt,if_false] at ht
        have hb:=hD.ee i k o ok (by omega) ho hk hE hEk ht
        cases hv:listed.getD k false with
        | false=>simp [hlt]
        | true=>
          have:=hD.anc hcl k k ok (Nat.le_refl _) hk (fun e he hbb=>hcl k ok hk hv e he hbb) i hb
          rw [this] at hif
          cases hif
      have hnt:∀ t,b9q l E k t->o.dst≠some t/\¬t∈a5C l.toArray o:=by
       rintro t ⟨j,oj,hjk,hEj,hj,hd⟩
       exact (hfree i j o oj ho hj hE hif hEj hjk).2 t hd
      have hlook:∀ t∈a5C l.toArray o,frG l E k stk.fr (frS (fun k=>listed.getD k false) 0 (a4b (a2y E 0 l) vs) st.fr) t=(sts i).fr t:=fun t ht=>by
       rw [a6v fun h=>(hnt t h).2 ht,hfrj]
       refine a2f _ 0 _ _ rfl fun k d z' hk hd=>?_
       obtain⟨ok,hlk,hdo⟩:=hput k d z' hk
       simp only [Nat.zero_add]
       by_cases e:k=i
       ·subst e;rw [hif];simp
       ·rcases hdo with⟨hEk,hdo⟩|⟨_,hdo⟩
        ·refine hord k ok hlk hEk e ?_
         rw [hdo] at hd
         by_cases hlt:k<i
         ·simp only [hlt,if_true,a5c,hd,Bool.or_eq_true]
          exact .inl (.inr (by simpa using ht))
         ·simp only [hlt,if_false,a5c,hd,Bool.or_eq_true]
          exact .inr (by simpa using ht)
        ·rw [hdo] at hd;cases hd
      unfold wpOp
      rw [hoo]
      simp only
      have hgen:∃ hp0 pre0 p0 v0,Ext hp0 stk.hp/\b8H P Γ l.toArray (sts i).fr hp0 p0 v0 o=some (pre0,z,row)/\pre0/\(row=.dead\/(p0=(sts i).top/\v0=(sts i).nx)):=by
       rcases hext with⟨j,oj,hj,hEj,hjk⟩|rfl
       ·rcases (hfree i j o oj ho hj hE hif hEj hjk).1 with this|this
        ·exact⟨fun _=>.dead,pre,_,_,fun p=>.inl rfl,by rw [d0P this (hp':=(sts i).hp)];exact hg,hp,.inr ⟨rfl,rfl⟩⟩
        ·obtain⟨z',hz',_,pre',p',v',hg',hp'⟩:=hG i o ho (by rw [Nat.zero_add];exact hE) (by rw [Nat.zero_add];exact this)
         rw [hv] at hz'
         simp only [Option.some.injEq,Prod.mk.injEq] at hz'
         obtain⟨rfl,rfl⟩:=hz'
         exact⟨hkS Pk st.hp,pre',p',v',hxk,by rw [hfrj];exact hg',hp',.inl rfl⟩
       ·exact⟨(sts i).hp,pre,_,_,hAt.ext,hg,hp,.inr ⟨rfl,rfl⟩⟩
      obtain⟨hp0,pre0,p0,v0,hx0,hg0,hpre0,hpv⟩:=hgen
      have:=c29 hΓ (Q:=fun e a' w'=>∃ st' η',Q e st'/\SR c st' η' a' w') hx0 hhs hslots (fr:=(sts i).fr) hlook hg0 hpre0 (by
        by_cases hr:row=.dead
        ·exact .inl hr
        ·have:=hpend i z row hv hif hE hr
         obtain⟨rfl,rfl⟩:=hpv.resolve_left hr
         exact .inr ⟨this.2.2,this.1,Nat.le_trans hsr0.hs.env.2.1 (hAt.nxAt hr).1⟩)
       (K:=a88 P U l0 l (fun e a' w'=>∃ st' η',Q e st'/\SR c st' η' a' w') fuel (listed.setIfInBounds i true)) (fun v η' w' hhs' hst hon hrep=>by
        refine ih k _ stk η' _ w' (by simpa using hs) hleft' hkl hhs' hdead (by rw [a9y];exact hsz) hksz (by rw [a6M];exact hdf) (fun t=>?_) hkeep (fun j z1 row1 hv1 hl1 hE1 hr1=>?_) hcl' (fun j hj hEj=>?_) (fun i1 j1 oi oj h1 h2 h3 h4 h5 h6=>?_) hext hpm hxk hx
        ·have hG:frG l E k stk.fr (frS (fun k=>(listed.setIfInBounds i true).getD k false) 0 (a4b (a2y E 0 l) vs) st.fr) t=a2b (frG l E k stk.fr (frS (fun k=>listed.getD k false) 0 (a4b (a2y E 0 l) vs) st.fr)) o.dst z t:=by
          by_cases ht:b9q l E k t
          ·rw [a83 ht,a24,if_neg (hnt t ht).1,a83 ht]
          ·rw [a6v ht]
           have:=b40 (S:=fun k=>listed.getD k false) (a4b (a2y E 0 l) vs) 0 st.fr i o.dst z (by rw [hpu]) (by simpa using hif) (fun k d' z' hk hlt hSk t hd hd'=>by
            obtain⟨ok,hlk,hdo⟩:=hput k d' z' hk
            simp only [Nat.zero_add] at hSk
            rcases hdo with⟨hEk,hdo⟩|⟨_,hdo⟩
            ·have:=hord k ok hlk hEk (by omega) (by
              simp only [show ¬k<i by omega,if_false,a5c,hd,Bool.or_eq_true]
              exact .inl (.inl (by rw [<-hdo,hd'];simp)))
             rw [hSk] at this
             simp at this
             omega
            ·rw [hdo] at hd';cases hd')
           rw [a24,a6v ht,<-a24,<-this]
           congr 1
           funext k
           rw [a2C hs hil,Nat.zero_add]
         rw [hG,b16 a o.dst v t (by rw [hsz];exact hAt.dst),a24]
         by_cases ed:o.dst=some t
         ·rw [if_pos ed,if_pos ed];exact hrep
         ·rw [if_neg ed,if_neg ed];exact hst.rep (hslots t)
        ·rw [a2C hs hil] at hl1
         have hji:j≠i:=fun e=>by subst e;simp at hl1
         rw [if_neg hji] at hl1
         rw [hon (sts j).nx ?_]
         ·exact hpend j z1 row1 hv1 hl1 hE1 hr1
         ·by_cases hr:row=.dead
          ·exact .inr hr
          ·refine .inl fun e=>?_
           obtain⟨rfl,rfl⟩:=hpv.resolve_left hr
           rcases Nat.lt_or_gt_of_ne hji with hlt|hlt
           ·have:=hnx j i z1 row1 z row hlt hv1 hv hr1 hr;omega
           ·have:=hnx i j z row z1 row1 hlt hv hv1 hr hr1;omega
        ·rw [a2C hs hil,if_neg (fun e=>by subst e;rw [hE] at hEj;cases hEj)]
         exact hT j hj hEj
        ·rw [a2C hs hil] at h4
         split at h4
         ·cases h4
         ·exact hfree i1 j1 oi oj h1 h2 h3 h4 h5 h6)
      split
      ·rename_i hw;rw [if_pos hw] at this;exact .inl this
      ·rename_i hw;rw [if_neg hw] at this;exact this
    | false=>
      have hmi:m<=i:=by
       rcases Nat.lt_or_ge i m with h1|h1
       ·rw [hD.early i h1] at hE;cases hE
       ·exact h1
      have hki:k<=i:=by
       have:=hT i hil hE
       rw [hif] at this
       have:=of_decide_eq_false this.symm
       omega
      have hbet:∀ j,k<=j->j<i->E j=true:=fun j h1 h2=>by
       cases hEj:E j with
       | true=>rfl
       | false=>
         have h3:=hdone j (hD.tt j i l[j] o h2 (List.getElem?_eq_getElem (by omega)) ho hEj hE)
         rw [hT j (by omega) hEj] at h3
         have:=of_decide_eq_true h3
         omega
      have hx1:=b5d (i-k) k (by omega) (fun j h1 h2=>hbet j h1 (by omega)) hx
      rw [show k+(i-k)=i by omega] at hx1
      have hdrop:l.drop i=o::l.drop (i+1):=by
       rw [List.drop_eq_getElem_cons hil]
       congr 1
       rw [List.getElem?_eq_getElem hil] at ho
       exact Option.some.inj ho
      rw [hdrop,xT,if_neg (by rw [hE];simp)] at hx1
      have hnew:∀ i1 oi,l[i1]?=some oi->E i1=true->listed.getD i1 false=false->(c0R oi=true\/G' i1=true)/\(i1<i->d0l oi=true\/G' i1=true)/\(∀ t,o.dst=some t->oi.dst≠some t/\¬t∈a5C l.toArray oi)/\(∀ t,oi.dst=some t->¬t∈a5C l.toArray o):=by
       intro i1 oi h1 hE1 hl1
       rcases Nat.lt_trichotomy i1 i with hlt|rfl|hgt
       ·have hb:((a30 [] l).getD i 0).testBit i1=false:=by
         cases hb:((a30 [] l).getD i 0).testBit i1 with
         | false=>rfl
         | true=>rw [hdone i1 hb] at hl1;cases hl1
        obtain⟨g2,g3⟩:=hD.et i1 i oi o hlt h1 ho hE1 hE hb
        obtain⟨u1,u2⟩:=c0Q g3
        obtain⟨z1,row1,_,_,hA1,_⟩:=hat i1 oi (by rw [hsl,h1];simp [hE1])
        obtain⟨_,hg1,_⟩:=hA1.pre
        exact⟨g2.imp (fun g2=>(d2y g2 hg1).2) (fun h=>h),fun _=>g2,u2,fun t ht=>(u1 t ht).2⟩
       ·rw [hE] at hE1;cases hE1
       ·obtain⟨u1,u2⟩:=c0Q (hD.te i i1 o oi hgt ho h1 hE hE1)
        exact⟨hD.still i1 oi h1 hE1 (by omega),fun h=>by omega,u1,fun t ht=>(u2 t ht).2⟩
      have hlook:∀ t∈a5C l.toArray o,frG l E k stk.fr (frS (fun k=>listed.getD k false) 0 (a4b (a2y E 0 l) vs) st.fr) t=stk.fr t:=fun t ht=>by
       by_cases htd:b9q l E k t
       ·rw [a83 htd]
       ·rw [a6v htd,hkeep t htd,hfr]
        refine a2f _ 0 _ _ rfl fun j d z' hj hd=>?_
        obtain⟨ok,hlk,hdo⟩:=hput j d z' hj
        simp only [Nat.zero_add]
        rcases hdo with⟨hEk,hdo⟩|⟨_,hdo⟩
        ·cases hv:listed.getD j false with
         | true=>rfl
         | false=>exact absurd ht ((hnew j ok hlk hEk hv).2.2.2 t (by rw [<-hdo,hd]))
        ·rw [hdo] at hd;cases hd
      have hsrM:SR c ⟨frG l E k stk.fr (frS (fun k=>listed.getD k false) 0 (a4b (a2y E 0 l) vs) st.fr),stk.hp,stk.sz,stk.top,stk.nx,stk.df⟩ η a w:=⟨hhs,hdead,by rw [hsz,hksz],hslots,hdf⟩
      have htd:∀ t,o.dst≠some t->(b9q l E (i+1) t↔b9q l E k t):=fun t ht=>by
       constructor
       ·rintro⟨j,oj,h1,h2,h3,h4⟩
        rcases Nat.lt_or_ge j k with g|g
        ·exact⟨j,oj,g,h2,h3,h4⟩
        ·rcases Nat.lt_or_ge j i with g2|g2
         ·rw [hbet j g g2] at h2;cases h2
         ·obtain rfl:j=i:=by omega
          rw [ho] at h3
          obtain rfl:=Option.some.inj h3
          exact absurd h4 ht
       ·rintro⟨j,oj,h1,h2,h3,h4⟩
        exact⟨j,oj,by omega,h2,h3,h4⟩
      have next:∀ (st':AS) (η':Env) (a':Act) (w':World),SR (c.here stk.hp stk.nx η w) st' η' a' w'->
        (∃ v,st'.fr=a2b (frG l E k stk.fr (frS (fun k=>listed.getD k false) 0 (a4b (a2y E 0 l) vs) st.fr)) o.dst v/\c1U (V i) v/\st'.sz=stk.sz/\
         (∀ j z row,vs[j]?=some (z,row)->listed.getD j false=false->E j=true->row≠.dead->st'.hp (sts j).top=row)/\
         Ext (hkS Pk st.hp) st'.hp/\xT (hkS Pk st.hp) Pk P Γ l.toArray E Z' V (i+1) (l.drop (i+1)) ⟨a2b stk.fr o.dst v,st'.hp,st'.sz,st'.top,st'.nx,st'.df⟩ kp (Q .normal))->
        a88 P U l0 l (fun e a' w'=>∃ st' η',Q e st'/\SR c st' η' a' w') fuel (listed.setIfInBounds i true) a' w':=by
       rintro st' η' a' w' hsr'' ⟨v,hfr',hgv,hsz',hrows,hxk',hx'⟩
       obtain⟨hsr',hnxle,hnone⟩:=hsrM.back hsr''
       refine ih (i+1) _ ⟨a2b stk.fr o.dst v,st'.hp,st'.sz,st'.top,st'.nx,st'.df⟩ η' a' w' (by simpa using hs) hleft' (by omega) hsr'.hs hsr'.dead (by rw [hsr'.size,hsz',hksz]) (by rw [hsz',hksz]) hsr'.defs (fun t=>?_) (fun t ht=>?_) (fun j z1 row1 hv1 hl1 hE1 hr1=>?_) hcl' (fun j hj hEj=>?_) (fun i1 j1 oi oj h1 h2 h3 h4 h5 h6=>?_) (.inl ⟨i,o,ho,hE,by omega⟩) (fun j oj d hj hd hEj hji=>?_) hxk' hx'
       ·have:=hsr'.slots t
        rw [hfr',a24] at this
        by_cases hd:o.dst=some t
        ·rw [if_pos hd] at this
         rw [a83 ⟨i,o,by omega,hE,ho,hd⟩]
         dsimp only
         rw [a24,if_pos hd]
         exact this
        ·rw [if_neg hd] at this
         by_cases h1:b9q l E k t
         ·have e:frG l E (i+1) (a2b stk.fr o.dst v) (frS (fun k=>(listed.setIfInBounds i true).getD k false) 0 (a4b (a2y E 0 l) vs) st.fr) t=stk.fr t:=by
           rw [a83 ((htd t hd).2 h1),a24,if_neg hd]
          rw [a83 h1] at this
          dsimp only
          rw [e]
          exact this
         ·rw [a6v fun h=>h1 ((htd t hd).1 h)]
          rw [a6v h1] at this
          have e:frS (fun k=>(listed.setIfInBounds i true).getD k false) 0 (a4b (a2y E 0 l) vs) st.fr t=frS (fun k=>listed.getD k false) 0 (a4b (a2y E 0 l) vs) st.fr t:=a2f _ 0 _ _ rfl fun j d z' hj hd'=>by
           obtain⟨ok,hlk,hdo⟩:=hput j d z' hj
           simp only [Nat.zero_add]
           rcases hdo with⟨hEk,hdo⟩|⟨_,hdo⟩
           ·rw [a2C hs hil,if_neg fun e=>by subst e;rw [hE] at hEk;cases hEk]
           ·rw [hdo] at hd';cases hd'
          rw [e]
          exact this
       ·have hd:o.dst≠some t:=fun hd=>ht ⟨i,o,by omega,hE,ho,hd⟩
        show a2b stk.fr o.dst v t=stm.fr t
        rw [a24,if_neg hd]
        exact hkeep t fun h=>ht ((htd t hd).2 h)
       ·rw [a2C hs hil] at hl1
        have hji:j≠i:=fun e=>by subst e;simp at hl1
        rw [if_neg hji] at hl1
        obtain⟨p1,p2,p3⟩:=hpend j z1 row1 hv1 hl1 hE1 hr1
        exact⟨hnone _ p2 p1,Nat.lt_of_lt_of_le p2 hnxle,hrows j z1 row1 hv1 hl1 hE1 hr1⟩
       ·rw [a2C hs hil]
        by_cases e:j=i
        ·subst e;simp
        ·rw [if_neg e,hT j hj hEj]
         by_cases h1:j<k
         ·simp [h1];omega
         ·have:¬j<i+1:=fun h2=>by
           have:=hbet j (by omega) (by omega)
           rw [hEj] at this;cases this
          simp [h1,this]
       ·rw [a2C hs hil] at h4
        split at h4
        ·cases h4
        ·rcases Nat.lt_or_ge j1 k with g|g
         ·exact hfree i1 j1 oi oj h1 h2 h3 h4 h5 g
         ·rcases Nat.lt_or_ge j1 i with g2|g2
          ·rw [hbet j1 g g2] at h5;cases h5
          ·obtain rfl:j1=i:=by omega
           rw [ho] at h2
           obtain rfl:=Option.some.inj h2
           have:=hnew i1 oi h1 h3 h4
           exact⟨this.1,this.2.2.1⟩
       ·dsimp only
        rw [a24]
        by_cases e:j=i
        ·subst e
         rw [ho] at hj
         obtain rfl:=Option.some.inj hj
         rw [if_pos hd]
         exact hgv
        ·rcases Classical.em (V j=3\/V j=4) with hv|hv
         ·have hjl:=(List.getElem?_eq_some_iff.1 hj).1
          rw [if_neg ((hU.2 j hjl hEj hv).2 i o e ho d (by rw [hj];exact hd))]
          refine hpm j oj d hj hd hEj ?_
          rcases Nat.lt_or_ge j k with g|g
          ·exact g
          ·have:=hbet j g (by omega);rw [hEj] at this;cases this
         ·exact⟨fun h=>absurd (.inl h) hv,fun h=>absurd (.inr h) hv⟩
      have hgl:∀ {g:Option (Nat×Bool)},o.guard=g->gOK l.toArray stk.fr g->gOK l.toArray (frG l E k stk.fr (frS (fun k=>listed.getD k false) 0 (a4b (a2y E 0 l) vs) st.fr)) g:=fun {g} hg h=>by
       cases g with
       | none=>exact trivial
       | some q=>
         obtain⟨jj,want⟩:=q
         rw [a5o] at h ⊢
         cases hd:(l.toArray[jj]?).bind (·.dst) with
         | none=>rw [hd] at h;exact h.elim
         | some d=>rw [hd,a4h] at h;rw [a4h,hlook d (b6Q hg hd)];exact h
      have hwr:V i=0\/V i=1->c3M P Γ (Z' i) stk o (fun st'=>(b0L (hkS Pk st.hp) st'.hp Pk/\a98 i kp st')/\xT (hkS Pk st.hp) Pk P Γ l.toArray E Z' V (i+1) (l.drop (i+1)) st' kp (Q .normal))->o.wp P a w (a88 P U l0 l (fun e a' w'=>∃ st' η',Q e st'/\SR c st' η' a' w') fuel (listed.setIfInBounds i true)) (fun e a' w'=>∃ st' η',Q e st'/\SR c st' η' a' w'):=by
       intro hv01 hb
       refine (c1S hΓ (b2X hlook) hb (c.here stk.hp stk.nx η w) η a w _ _ hsrM.here fun st' η' a' w' hsr' hk=>next st' η' a' w' hsr' ?_)
       obtain⟨v,h1,h2,⟨h30,h3⟩,h4⟩:=hk
       refine⟨v,h1,⟨fun h=>by omega,fun h=>by omega⟩,h2,fun j z1 row1 hv1 hl1 hE1 hr1=>?_,c0C h30,h4⟩
       have hjl:j<l.length:=by
        have:=(List.getElem?_eq_some_iff.1 hv1).1
        rw [x8,a6p] at this
        exact this
       obtain⟨z2,row2,hv2,_,hA2,_⟩:=hat j l[j] (by rw [hsl,List.getElem?_eq_getElem hjl];simp [hE1])
       rw [hv1] at hv2
       simp only [Option.some.injEq,Prod.mk.injEq] at hv2
       obtain⟨rfl,rfl⟩:=hv2
       obtain⟨_,hg2,_⟩:=hA2.pre
       have hn:=hnew j l[j] (List.getElem?_eq_getElem hjl) hE1 hl1
       have hnG:¬G' j=true:=fun hGj=>by
        obtain⟨z',hz',_⟩:=hG j l[j] (List.getElem?_eq_getElem hjl) (by rw [Nat.zero_add];exact hE1) (by rw [Nat.zero_add];exact hGj)
        rw [hv1] at hz'
        simp only [Option.some.injEq,Prod.mk.injEq] at hz'
        exact hr1 hz'.2
       obtain⟨n1,n2⟩:=d1B (hn.1.resolve_right hnG) hg2 hr1
       rcases Nat.lt_trichotomy j i with hlt|rfl|hgt
       ·rw [(hn.2.1 hlt).resolve_right hnG] at n1;cases n1
       ·rw [hE] at hE1;cases hE1
       ·have hmem:=hkp j z1 row1 hv1 hE1 (by omega)
        rw [n2] at hmem
        have:=b7X h3 hmem hr1 hgt
        exact this
      unfold wpOp
      rw [hoo]
      simp only
      split at hx1
      ·rename_i hv1
       obtain⟨hgd,hb⟩:=hx1
       rw [if_pos (b4m hsrM (hgl rfl hgd))]
       exact .inl (hwr (.inr hv1) hb)
      ·rename_i hv2
       obtain⟨⟨hgd,hd⟩,hxx⟩:=hx1
       have hgn:gNO l.toArray (frG l E k stk.fr (frS (fun k=>listed.getD k false) 0 (a4b (a2y E 0 l) vs) st.fr)) o.guard:=by
        cases hg:o.guard with
        | none=>rw [hg] at hgd;exact hgd.elim
        | some q=>
          obtain⟨jj,want⟩:=q
          rw [hg,a8u] at hgd
          rw [a8u]
          cases hd:(l.toArray[jj]?).bind (·.dst) with
          | none=>rw [hd] at hgd;exact hgd.elim
          | some d=>rw [hd,a7E] at hgd;rw [a7E,hlook d (b6Q hg hd)];exact hgd
       rw [if_neg (by rw [b36 hsrM hgn];simp)]
       exact next _ η _ w (hsrM.here.skip (z:=.any) hd (.inl rfl)) ⟨.gd false .any,rfl,⟨fun h=>by omega,fun h=>by omega⟩,rfl,fun j z1 row1 hv1 hl1 hE1 hr1=>(hpend j z1 row1 hv1 hl1 hE1 hr1).2.2,hxk,hxx⟩
      ·split at hx1
       ·rename_i pre z row hg
        obtain⟨⟨hgd,hd,hp,hgv⟩,hxx⟩:=hx1
        obtain⟨pre',hg',hp'⟩:=b8C hgd hlook hg hp
        have:=b1G hΓ hsrM.here (o:=o) (pre:=pre') (z:=z) (row:=row) hg' hp' hd (K:=a88 P U l0 l (fun e a' w'=>∃ st' η',Q e st'/\SR c st' η' a' w') fuel (listed.setIfInBounds i true)) (Q:=fun e a' w'=>∃ st' η',Q e st'/\SR c st' η' a' w') (fun η' a' w' hsr'=>next _ η' a' w' hsr' ⟨z,(b3I _ _ _ _).2.2,hgv,(b3I _ _ _ _).1,fun j z1 row1 hv1 hl1 hE1 hr1=>by
         have p3:=(hpend j z1 row1 hv1 hl1 hE1 hr1).2.2
         by_cases hr:row=.dead
         ·subst hr;exact p3
         ·rw [(a33 _ _ _ hr).1,a0f _ _ (fun e=>by
           have:=hdead (sts j).top (by rw [e];exact Nat.le_refl _)
           rw [p3] at this
           exact hr1 this)]
          exact p3,(Ext.put (st:=⟨frG l E k stk.fr (frS (fun k=>listed.getD k false) 0 (a4b (a2y E 0 l) vs) st.fr),stk.hp,stk.sz,stk.top,stk.nx,stk.df⟩) hxk hdead o.dst z row).1,by cases row<;>exact hxx⟩)
        split
        ·rename_i hw;rw [if_pos hw] at this;exact .inl this
        ·rename_i hw;rw [if_neg hw] at this;exact this
       ·obtain⟨hv0,hgd,hb⟩:=hx1
        rw [if_pos (by simp [Region.wanted,hgd])]
        exact .inl (hwr (.inl hv0) hb)
 refine c6D (U:=U) _ _ _ _ ?_
 rw [hl0,List.size_toArray,<-hlen]
 have hfalse:∀ j,(Array.replicate l.length false).getD j false=false:=fun j=>by
  simp only [Array.getD_eq_getD_getElem?,Array.getElem?_replicate]
  split<;>rfl
 have htd0:∀ t,¬b9q l E 0 t:=by rintro t ⟨j,_,h,_⟩;omega
 refine main l.length 0 (Array.replicate l.length false) stm η0 a0 w0.drew (by simp) ?_ (Nat.zero_le _) hsm x2 hsr0.size x5 (hsr0.defs.trans x6.symm) (fun t=>?_) (fun t _=>rfl) (fun j z row hv _ hE1 hr=>?_) (fun j o _ hS=>?_) (fun j _ _=>by rw [hfalse];simp) (fun i j _ _ _ _ _ _ _ h=>absurd h (Nat.not_lt_zero _)) (.inr rfl) (fun j oj d _ _ _ h=>absurd h (Nat.not_lt_zero _)) (fun p=>?_) (by simpa using hrest)
 ·unfold left
  rw [List.countP_eq_length.2 (fun x _=>by rw [hfalse];rfl),List.length_range]
 ·rw [a6v (htd0 t)]
  have e:frS (fun i=>(Array.replicate l.length false).getD i false) 0 (a4b (a2y E 0 l) vs) st.fr t=st.fr t:=by
   have hc:=a2f (S:=fun i=>(Array.replicate l.length false).getD i false) (S':=fun _=>false) (t:=t) (a4b (a2y E 0 l) vs) 0 st.fr st.fr rfl (fun k d z _ _=>hfalse _)
   rw [hc]
   exact b2Z _ _ _ t
  rw [e]
  exact Rep.keep (Fr.refl (fun _=>False) w0).drew (fun _ _ h=>h.elim) (fun b _ hb=>hLm b hb) _ _ _ _ (Env.le_refl _) (hsr0.slots t)
 ·have hjl:j<l.length:=by
   have:=(List.getElem?_eq_some_iff.1 hv).1
   rw [x8,a6p] at this
   exact this
  obtain⟨z',row',hv',_,hA,_⟩:=hat j l[j] (by rw [hsl,List.getElem?_eq_getElem hjl];simp [hE1])
  rw [hv] at hv'
  simp only [Option.some.injEq,Prod.mk.injEq] at hv'
  obtain⟨rfl,rfl⟩:=hv'
  exact⟨hsr0.hs.fresh _ (hA.nxAt hr).1,(hA.nxAt hr).2,hA.rowAt hr⟩
 ·simp only [hfalse] at hS
  cases hS
 ·rcases c1Q Pk st.hp p with h|h
  ·exact .inl h
  ·rcases x1 p with g|g
   ·exact .inl (h.symm.trans g)
   ·exact .inr (g.trans h)
end
end Go.Proofs.YthpjjjnbkfnghaaGreatDoor
namespace Go.Proofs.YthpjjjnbkfnghaaGreatDoor
open Go
def a1F (S:a0L):a0L:=fun args hp top nx K=>∃ (π:List Nat) (args':List AV) (hp1:Nat->Row),π.Nodup/\(∀ p∈π,p<top)/\a4C a0e args args'/\(∀ (i p:Nat),π[i]?=some p->a0a (hp p) (hp1 i))/\(∀ i,π.length<=i->hp1 i=.dead)/\
 S args' hp1 π.length nx fun r hp1' _ nx'=>∃ r' hp',a0e r r'/\(∀ (i p:Nat),π[i]?=some p->a0a (hp1' i) (hp' p))/\(∀ p,¬p∈π->hp' p=hp p)/\(∀ p∈π,∀ v,(hp' p).ver=some v->(hp p).ver=some v\/nx<=v)/\K r' hp' top nx'
theorem c1t {r r':Row} {η:Env} (h:r'.ver=r.ver):r'.blk η=r.blk η:=by unfold Row.blk;rw [h]
theorem a4C.le {w:World} {η:Env} {L L':Nat->Prop} (hL:∀ b,L' b->L b):∀ {xs ys:List AV} {vs:List Value},a4C a0e xs ys->a4C (Rep w η L) xs vs->a4C (Rep w η L') ys vs
 | _,_,_,.nil,.nil=>.nil
 | _,_,_,.cons h hs,.cons k ks=>.cons (h _ _ _ _ (Rep.less (fun b _ hb=>hL b hb) k)) (a4C.le hL hs ks)
theorem a0i.frame {P:Program} {f:FuncId} {S:a0L} (h:a0i P f S):a0i P f (a1F S):=by
 refine⟨h.1,fun args hp top nx K hS c η w vs hs hdead hargs=>?_⟩
 obtain⟨π,args',hp1,hnd,hlt,hle,hrow,hd1,hS1⟩:=hS
 have hget:∀ p∈π,∃ i,π[i]?=some p:=fun p hp=>by
  obtain⟨i,hi,e⟩:=List.getElem_of_mem hp
  exact⟨i,by rw [List.getElem?_eq_getElem hi,e]⟩
 have hinj:∀ i j p,π[i]?=some p->π[j]?=some p->i=j:=fun i j p hi hj=>by
  obtain⟨h1,e1⟩:=List.getElem?_eq_some_iff.1 hi
  obtain⟨h2,e2⟩:=List.getElem?_eq_some_iff.1 hj
  rcases Nat.lt_trichotomy i j with g|g|g
  ·exact absurd (e1.trans e2.symm) (List.pairwise_iff_getElem.1 hnd i j h1 h2 g)
  ·exact g
  ·exact absurd (e2.trans e1.symm) (List.pairwise_iff_getElem.1 hnd j i h2 h1 g)
 have hidx:∀ i,(∃ p,π[i]?=some p/\p∈π)\/hp1 i=.dead:=fun i=>by
  rcases Nat.lt_or_ge i π.length with g|g
  ·exact .inl ⟨π[i],List.getElem?_eq_getElem g,List.getElem_mem g⟩
  ·exact .inr (hd1 i g)
 have hb1:∀ i b,(hp1 i).blk η=some b->∃ p,π[i]?=some p/\p∈π/\(hp p).blk η=some b:=fun i b hb=>by
  rcases hidx i with⟨p,h1,h2⟩|e
  ·exact⟨p,h1,h2,by rw [<-c1t (hrow i p h1).1];exact hb⟩
  ·rw [e] at hb;cases hb
 have hv1:∀ i v,(hp1 i).ver=some v->∃ p,π[i]?=some p/\p∈π/\(hp p).ver=some v:=fun i v hv=>by
  rcases hidx i with⟨p,h1,h2⟩|e
  ·exact⟨p,h1,h2,by rw [<-(hrow i p h1).1];exact hv⟩
  ·rw [e] at hv;cases hv
 let c1:Ctx:=⟨w,η,fun b=>∃ p,p∈π/\(hp p).blk η=some b,fun b=>c.Lx b\/∃ p,¬p∈π/\(hp p).blk η=some b,nx⟩
 have hL1:∀ b,a0Y c1 η hp1 b->a0Y c η hp b:=by
  rintro b ((hl|⟨p,_,hp⟩)|⟨i,hi⟩)
  ·exact .inl hl
  ·exact .inr ⟨p,hp⟩
  ·obtain⟨p,_,_,h3⟩:=hb1 i b hi
   exact .inr ⟨p,h3⟩
 have hs1:HS c1 hp1 nx η w:=by
  refine⟨Fr.refl _ _,?_,fun i=>?_,fun i j v hi hj=>?_,fun i v hi=>?_,fun i j b hi hj=>?_,fun i b hi=>?_,hs.fresh,Env.le_refl _,Nat.le_refl _,fun _ _ h=>h⟩
  ·refine⟨?_,fun b o ho=>⟨(hs.tab b o ho).1,fun⟨p,_,hp⟩=>(hs.tab b o ho).2 ⟨p,hp⟩⟩⟩
   rintro b (hl|⟨p,_,hp⟩)
   ·exact Nat.lt_of_lt_of_le (hs.lx.lt b hl) hs.fr.size
   ·exact (hs.own p b hp).2.2
  ·rcases hidx i with⟨p,h1,_⟩|e
   ·exact (hrow i p h1).2 w η _ (a13.less hL1 (hs.rows p))
   ·rw [e];trivial
  ·obtain⟨p,h1,_,h3⟩:=hv1 i v hi
   obtain⟨q,g1,_,g3⟩:=hv1 j v hj
   obtain rfl:=hs.vers p q v h3 g3
   exact hinj i j p h1 g1
  ·obtain⟨p,_,_,h3⟩:=hv1 i v hi
   exact hs.bnd p v h3
  ·obtain⟨p,h1,_,h3⟩:=hb1 i b hi
   obtain⟨q,g1,_,g3⟩:=hb1 j b hj
   obtain rfl:=hs.disj p q b h3 g3
   exact hinj i j p h1 g1
  ·obtain⟨p,h1,h2,h3⟩:=hb1 i b hi
   refine⟨.inl ⟨p,h2,h3⟩,?_,(hs.own p b h3).2.2⟩
   rintro (hl|⟨q,hq,hb⟩)
   ·exact (hs.own p b h3).2.1 hl
   ·obtain rfl:=hs.disj p q b h3 hb
    exact hq h2
 refine (h.2 args' hp1 π.length nx _ hS1 c1 η w vs hs1 hd1 (a4C.le hL1 hle hargs)).mono ?_
 rintro e w' ⟨v,r,hp1',top1',nx',η',rfl,⟨r',hp',hr',hrow',hsame,hver,hK⟩,hs',hdead',hrep⟩
 have hn0:∀ k,k<nx->η k=none->η' k=none:=hs'.env.2.2
 have heq:∀ p v,(hp p).ver=some v->η' v=η v:=fun p v hv=>by
  cases hη:η v with
  | none=>exact hn0 v (hs.bnd p v hv) hη
  | some x=>exact hs'.env.1 v x hη
 have hbo:∀ p b,¬p∈π->(hp' p).blk η'=some b->(hp p).blk η=some b:=fun p b hnp hb=>by
  rw [hsame p hnp] at hb
  unfold Row.blk at hb ⊢
  cases hv:(hp p).ver with
  | none=>rw [hv] at hb;cases hb
  | some v=>rw [hv] at hb;simp only [Option.bind_some] at hb ⊢;rwa [heq p v hv] at hb
 have hbi:∀ p b,p∈π->(hp' p).blk η'=some b->∃ i,π[i]?=some p/\(hp1' i).blk η'=some b:=fun p b hp hb=>by
  obtain⟨i,hi⟩:=hget p hp
  exact⟨i,hi,by rw [<-c1t (hrow' i p hi).1];exact hb⟩
 have hL2:∀ b,a0Y c η' hp' b->a0Y c1 η' hp1' b:=by
  rintro b (hl|⟨p,hb⟩)
  ·exact .inl (.inl hl)
  ·by_cases hp:p∈π
   ·obtain⟨i,_,h2⟩:=hbi p b hp hb
    exact .inr ⟨i,h2⟩
   ·exact .inl (.inr ⟨p,hp,hbo p b hp hb⟩)
 have hL3:∀ b,b<w.heap.size->a0Y c1 η' hp1' b->a0Y c η hp b:=by
  rintro b hlt ((hl|⟨p,_,hb⟩)|⟨i,hi⟩)
  ·exact .inl hl
  ·exact .inr ⟨p,hb⟩
  ·rcases (hs'.own i b hi).1 with⟨p,_,hb⟩|hge
   ·exact .inr ⟨p,hb⟩
   ·exact absurd hlt (Nat.not_lt.2 hge)
 refine⟨v,r',hp',top,nx',η',rfl,hK,?_,fun p hp=>?_,hr' _ _ _ _ (Rep.less (fun b _ hb=>hL2 b hb) hrep)⟩
 ·refine⟨hs.fr.trans' hs'.fr ?_,hs.lx,fun p=>?_,fun p q u hp hq=>?_,fun p u hp=>?_,fun p q b hp hq=>?_,fun p b hb=>?_,hs'.fresh,Env.le_trans hs.env.1 hs'.env.1,Nat.le_trans hs.env.2.1 hs'.env.2.1,fun k hk h0=>hs'.env.2.2 k (Nat.lt_of_lt_of_le hk hs.env.2.1) (hs.env.2.2 k hk h0)⟩
  ·rintro k hk ⟨p,_,hp⟩
   exact (hs.own p k hp).1.resolve_right (by omega)
  ·by_cases hp:p∈π
   ·obtain⟨i,hi⟩:=hget p hp
    exact (hrow' i p hi).2 w' η' _ (a13.less hL2 (hs'.rows i))
   ·rw [hsame p hp]
    refine a13.keep hs'.fr hs'.env.1 (fun k _ hk=>?_) (fun k hk hl=>hL3 k hk (hL2 k hl)) (fun v hv=>heq p v hv) (fun b hb=>hs'.fr.block b (hs.own p b hb).2.2 ?_) (hs.rows p)
    ·obtain⟨q,_,hq⟩:=hk
     exact .inr ⟨q,hq⟩
    ·rintro⟨q,hq,hqb⟩
     obtain rfl:=hs.disj p q b hb hqb
     exact hp hq
  ·have mixed:∀ p q,p∈π->¬q∈π->(hp' p).ver=some u->(hp' q).ver=some u->p=q:=fun p q h1 h2 hpv hqv=>by
    rw [hsame q h2] at hqv
    rcases hver p h1 u hpv with g|g
    ·exact hs.vers p q u g hqv
    ·have:=hs.bnd q u hqv;omega
   by_cases h1:p∈π<;>by_cases h2:q∈π
   ·obtain⟨i,hi⟩:=hget p h1
    obtain⟨j,hj⟩:=hget q h2
    have:=hs'.vers i j u (by rw [<-(hrow' i p hi).1];exact hp) (by rw [<-(hrow' j q hj).1];exact hq)
    subst this
    rw [hi] at hj
    exact Option.some.inj hj
   ·exact mixed p q h1 h2 hp hq
   ·exact (mixed q p h2 h1 hq hp).symm
   ·rw [hsame p h1] at hp
    rw [hsame q h2] at hq
    exact hs.vers p q u hp hq
  ·by_cases h1:p∈π
   ·obtain⟨i,hi⟩:=hget p h1
    exact hs'.bnd i u (by rw [<-(hrow' i p hi).1];exact hp)
   ·rw [hsame p h1] at hp
    exact Nat.lt_of_lt_of_le (hs.bnd p u hp) hs'.env.2.1
  ·have mixed:∀ p q,p∈π->¬q∈π->(hp' p).blk η'=some b->(hp' q).blk η'=some b->p=q:=fun p q h1 h2 hpv hqv=>by
    obtain⟨i,_,hi⟩:=hbi p b h1 hpv
    exact absurd (.inr ⟨q,h2,hbo q b h2 hqv⟩) (hs'.own i b hi).2.1
   by_cases h1:p∈π<;>by_cases h2:q∈π
   ·obtain⟨i,hi,g1⟩:=hbi p b h1 hp
    obtain⟨j,hj,g2⟩:=hbi q b h2 hq
    have:=hs'.disj i j b g1 g2
    subst this
    rw [hi] at hj
    exact Option.some.inj hj
   ·exact mixed p q h1 h2 hp hq
   ·exact (mixed q p h2 h1 hq hp).symm
   ·exact hs.disj p q b (hbo p b h1 hp) (hbo q b h2 hq)
  ·by_cases h1:p∈π
   ·obtain⟨i,_,hi⟩:=hbi p b h1 hb
    obtain⟨o1,o2,o3⟩:=hs'.own i b hi
    refine⟨?_,fun hl=>o2 (.inl hl),o3⟩
    rcases o1 with⟨q,_,hq⟩|hge
    ·exact (hs.own q b hq).1
    ·exact .inr (Nat.le_trans hs.fr.size hge)
   ·obtain⟨o1,o2,o3⟩:=hs.own p b (hbo p b h1 hb)
    exact⟨o1,o2,Nat.lt_of_lt_of_le o3 hs'.fr.size⟩
 ·rw [hsame p (fun hm=>by have:=hlt p hm;omega)]
  exact hdead p hp
theorem a0e.ow {p q ver n:Nat}:a0e (.ow p ver n) (.ow q ver n):=fun _ _ _ _ h=>h
theorem a0e.pt {p q ver n:Nat}:a0e (.pt p ver n) (.pt q ver n):=fun _ _ _ _ h=>h
theorem a0a.vers {r r':Row} (h:a0a r r'):r'.ver=r.ver:=h.1
theorem a8U {p:Nat} {hp:Nat->Row} {r:Row} (h:a0a (hp p) r):∀ (i q:Nat),[p][i]?=some q->a0a (hp q) (rws [(0,r)] i):=by
 intro i q hq
 cases i with
 | zero=>
   simp only [List.getElem?_cons_zero,Option.some.injEq] at hq
   subst hq
   exact h
 | succ i=>simp at hq
theorem a0a.trans {r s t:Row} (h:a0a r s) (k:a0a s t):a0a r t:=by
 unfold a0a at *
 exact⟨k.1.trans h.1,fun w η L hr=>k.2 w η L (h.2 w η L hr)⟩
theorem e0Z {α:Type} {E:El α} {v t s n:Nat} {l:List α} {d:α} (hs:s=E.sz) (hd:d=E.dflt) (h:n=l.length):a0a (.sl v t s n fun i=>E.enc (l.getD i d)) (a05 v t E l):=by
 subst hs hd h
 exact a0a.refl _
theorem b1K {v e m:Nat} {c d:Nat->AV}:a0a (.box v e m (stC c 0 m d)) (.box v e m d):=by
 refine a0a.box fun j hj=>a0e.of_eq ?_
 simp only [stC]
 rw [if_pos ⟨by omega,by omega⟩,Nat.sub_zero]
section
variable {P:Program} {Γ:Gam} {ops:Array Oper} {st:AS} {o:Oper} {r:List Oper} {K:AS->Prop} {Q:Exit->AS->Prop}
theorem c4w {z:Bool}:c3M P Γ z st o K=match o.op with
 | .mapUpdate t m k x=>a5x P st t (st.ev m) (st.ev k) (st.ev x) o.dst K
 | .call ⟨.value (.func f),⟨xs⟩,_⟩=>match Γ f with
   | some (.meth S)=>a0N st.sz o.dst/\S (xs.map st.ev) st.hp st.top st.nx (c9r st o.dst K)
   | _=>False
 | .store t x y=>a6k P st t (st.ev x) (st.ev y) o.dst K
 | .call ⟨.builtin .append,⟨[x,y]⟩,⟨[t,t']⟩⟩=>t'=t/\(if z=true then b8K P st t (st.ev x) (st.ev y) o.dst K else c0p P st t (st.ev x) (st.ev y) o.dst K)
 | .buildSlice t n parts=>a7X P st t n (parts.toList.map fun a=>(a.1,st.ev a.2)) o.dst K
 | _=>OpM P o st K:=a2J rfl
def apF (P:Program) (st:AS) (y:AV) (d:Option Tmp) (K:AS->Prop):Option TypeDesc->AV->AV->Prop
 | some (.slice e),.em,.sn k sz dd=>(vwP st.hp y/\a0N st.sz d/\a8M P e sz k)/\K ⟨a2b st.fr d (.sn k sz dd),st.hp,st.sz,st.top,st.nx,st.df⟩
 | some (.slice e),.em,.em=>(0<P.cellsOf e/\a0N st.sz d)/\K ⟨a2b st.fr d .em,st.hp,st.sz,st.top,st.nx,st.df⟩
 | _,_,_=>False
theorem c1v {t:TypeId} {x y:AV} {d:Option Tmp}:b8K P st t x y d K=apF P st y d K (P.underlying t) x (vw st.hp y):=a2J rfl
theorem d3w {e:TypeId} {y:AV} {d:Option Tmp} {k sz:Nat} {dd:Nat->Nat->AV}:apF P st y d K (some (.slice e)) .em (.sn k sz dd)=((vwP st.hp y/\a0N st.sz d/\a8M P e sz k)/\K ⟨a2b st.fr d (.sn k sz dd),st.hp,st.sz,st.top,st.nx,st.df⟩):=a2J rfl
theorem d1R {e:TypeId} {y:AV} {d:Option Tmp}:apF P st y d K (some (.slice e)) .em .em=((0<P.cellsOf e/\a0N st.sz d)/\K ⟨a2b st.fr d .em,st.hp,st.sz,st.top,st.nx,st.df⟩):=a2J rfl
theorem d1S {α:Type} {E:El α} {l:List α} {e:TypeId} {y:AV} {d:Option Tmp}:apF P st y d K (some (.slice e)) .em (sL E l)=((vwP st.hp y/\a0N st.sz d/\a8M P e E.sz l.length)/\K ⟨a2b st.fr d (sL E l),st.hp,st.sz,st.top,st.nx,st.df⟩):=a2J rfl
variable {hk:Nat->Row} {Pk:List Nat}
theorem c4V {fr:Nat->AV} {hp:Nat->Row} {sz top nx:Nat} {df:List Deferred}:c2j hk ⟨fr,hp,sz,top,nx,df⟩=⟨fr,hk,sz,top,nx,df⟩:=a2J rfl
theorem d8p:dkS hk true st=c2j hk st:=a2J rfl
theorem d7s:dkS hk false st=st:=a2J rfl
variable {E G Z:Nat->Bool} {V:Nat->Nat} {n j:Nat} {kp:List (Nat×AV×Row)}
def c2W (hk:Nat->Row) (Pk:List Nat) (P:Program) (Γ:Gam) (ops:Array Oper) (E Z:Nat->Bool) (V:Nat->Nat) (j:Nat) (kp:List (Nat×AV×Row)) (r:List Oper) (K:AS->Prop):AS->Prop:=fun st=>(b0L hk st.hp Pk/\a98 j kp st)/\xT hk Pk P Γ ops E Z V (j+1) r st kp K
theorem c3d:c2W hk Pk P Γ ops E Z V j kp r K st=((b0L hk st.hp Pk/\a98 j kp st)/\xT hk Pk P Γ ops E Z V (j+1) r st kp K):=a2J rfl
def b3H (hk:Nat->Row) (Pk:List Nat) (P:Program) (Γ:Gam) (ops:Array Oper) (E Z:Nat->Bool) (V:Nat->Nat) (l:List Oper) (K:AS->Prop):AS->List (Nat×AV×Row)->Prop:=fun st kp=>xT hk Pk P Γ ops E Z V 0 l st kp K
theorem b9l {l:List Oper}:b3H hk Pk P Γ ops E Z V l K st kp=xT hk Pk P Γ ops E Z V 0 l st kp K:=a2J rfl
def goT (hk:Nat->Row) (Pk:List Nat) (P:Program) (Γ:Gam) (ops:Array Oper) (E Z:Nat->Bool) (V:Nat->Nat) (j:Nat) (o:Oper) (r:List Oper) (kp:List (Nat×AV×Row)) (K:AS->Prop) (st:AS) (v:Nat):b3x->Prop
 | some (pre,z,row)=>(gOK ops st.fr o.guard/\a0N st.sz o.dst/\pre/\c1U v z)/\xT hk Pk P Γ ops E Z V (j+1) r (st.put o.dst z row) kp K
 | none=>v=0/\o.guard=none/\c3M P Γ (Z j) st o (c2W hk Pk P Γ ops E Z V j kp r K)
variable {v:Nat}
theorem c4g {pre:Prop} {z:AV} {row:Row}:goT hk Pk P Γ ops E Z V j o r kp K st v (some (pre,z,row))=((gOK ops st.fr o.guard/\a0N st.sz o.dst/\pre/\c1U v z)/\xT hk Pk P Γ ops E Z V (j+1) r (st.put o.dst z row) kp K):=a2J rfl
theorem c6F:goT hk Pk P Γ ops E Z V j o r kp K st v none=(v=0/\o.guard=none/\c3M P Γ (Z j) st o (c2W hk Pk P Γ ops E Z V j kp r K)):=a2J rfl
theorem d2m:xT hk Pk P Γ ops E Z V j [] st kp K=K st:=a2J rfl
def goV (hk:Nat->Row) (Pk:List Nat) (P:Program) (Γ:Gam) (ops:Array Oper) (E Z:Nat->Bool) (V:Nat->Nat) (j:Nat) (o:Oper) (r:List Oper) (kp:List (Nat×AV×Row)) (K:AS->Prop) (st:AS):Nat->Prop
 | 1=>gOK ops st.fr o.guard/\c3M P Γ (Z j) st o (c2W hk Pk P Γ ops E Z V j kp r K)
 | 2=>(gNO ops st.fr o.guard/\a0N st.sz o.dst)/\xT hk Pk P Γ ops E Z V (j+1) r (st.put o.dst (.gd false .any) .dead) kp K
 | v=>goT hk Pk P Γ ops E Z V j o r kp K st v (gop P Γ ops st o)
theorem d7i:goV hk Pk P Γ ops E Z V j o r kp K st 2=((gNO ops st.fr o.guard/\a0N st.sz o.dst)/\xT hk Pk P Γ ops E Z V (j+1) r (st.put o.dst (.gd false .any) .dead) kp K):=a2J rfl
theorem d6M:goV hk Pk P Γ ops E Z V j o r kp K st 0=goT hk Pk P Γ ops E Z V j o r kp K st 0 (gop P Γ ops st o):=a2J rfl
theorem d7X:goV hk Pk P Γ ops E Z V j o r kp K st 1=(gOK ops st.fr o.guard/\c3M P Γ (Z j) st o (c2W hk Pk P Γ ops E Z V j kp r K)):=a2J rfl
theorem d79:goV hk Pk P Γ ops E Z V j o r kp K st 3=goT hk Pk P Γ ops E Z V j o r kp K st 3 (gop P Γ ops st o):=a2J rfl
theorem d6K:goV hk Pk P Γ ops E Z V j o r kp K st 4=goT hk Pk P Γ ops E Z V j o r kp K st 4 (gop P Γ ops st o):=a2J rfl
theorem d2D {z:AV}:c1U 0 z=True:=by simp [c1U]
theorem d2J {z:AV}:c1U 3 z=(a1v z true=some true):=by simp [c1U]
theorem d1D {z:AV}:c1U 4 z=(a1v z false=some true):=by simp [c1U]
theorem d0i:xT hk Pk P Γ ops E Z V j (o::r) st kp K=if E j=true then xT hk Pk P Γ ops E Z V (j+1) r st kp K else goV hk Pk P Γ ops E Z V j o r kp K st (V j):=a2J rfl
def vb:List (Nat×List Nat)->Nat->Nat
 | [],_=>0
 | (v,A)::r,j=>if A.contains j=true then v else vb r j
def v0 (_:Nat):Nat:=0
theorem c45 {l:List Oper} {E:Nat->Bool}:okU l l E v0 v0=true:=by
 unfold okU
 rw [List.all_eq_true]
 intro j _
 simp [v0]
theorem AW.drawU (hΓ:GOK P Γ) (hm:P.follows .mixedOrders=true) {id:Nat} {l:List Oper} (n:Nat) (F G Z Pk:List Nat) (hchk:okG l n F G=true)
  (h:xE (hkS Pk st.hp) P Γ l.toArray (eb n F) (gb G) n 0 l st [] (b3H (hkS Pk st.hp) Pk P Γ l.toArray (eb n F) (gb Z) v0 l (Q .normal))):AW P (.region id l.toArray true) Q st:=AW.drawG hΓ hm n F G Z Pk v0 v0 (b6r l 0) hchk c45 h
variable {KE:AS->List (Nat×AV×Row)->Prop}
def goE (hk:Nat->Row) (P:Program) (Γ:Gam) (ops:Array Oper) (E G:Nat->Bool) (n j:Nat) (o:Oper) (r:List Oper) (kp:List (Nat×AV×Row)) (KE:AS->List (Nat×AV×Row)->Prop) (st:AS):b3x->Prop
 | some (pre,z,row)=>((G j=true->gOK ops st.fr o.guard/\row=.dead)/\a0N st.sz o.dst/\pre)/\xE hk P Γ ops E G n (j+1) r (st.put o.dst z row) (if n<=j then (j,z,row)::kp else kp) KE
 | none=>False
theorem c4k {pre:Prop} {z:AV} {row:Row}:goE hk P Γ ops E G n j o r kp KE st (some (pre,z,row))=(((G j=true->gOK ops st.fr o.guard/\row=.dead)/\a0N st.sz o.dst/\pre)/\xE hk P Γ ops E G n (j+1) r (st.put o.dst z row) (if n<=j then (j,z,row)::kp else kp) KE):=a2J rfl
theorem c4Z:goE hk P Γ ops E G n j o r kp KE st none=False:=a2J rfl
theorem d1Q:xE hk P Γ ops E G n j [] st kp KE=KE st kp:=a2J rfl
theorem c8i:xE hk P Γ ops E G n j (o::r) st kp KE=if E j=true then goE hk P Γ ops E G n j o r kp KE st (gop P Γ ops (dkS hk (G j) st) o) else xE hk P Γ ops E G n (j+1) r st kp KE:=a2J rfl
theorem AW.drawZ (hΓ:GOK P Γ) (hm:P.follows .mixedOrders=true) {id:Nat} {l:List Oper} (n:Nat) (F G Z:List Nat) (hchk:okG l n F G=true)
  (h:xE (hkS [] st.hp) P Γ l.toArray (eb n F) (gb G) n 0 l st [] (b3H (hkS [] st.hp) [] P Γ l.toArray (eb n F) (gb Z) v0 l (Q .normal))):AW P (.region id l.toArray true) Q st:=AW.drawU hΓ hm n F G Z [] hchk h
theorem AW.drawK (hΓ:GOK P Γ) (hm:P.follows .mixedOrders=true) {id:Nat} {l:List Oper} (n:Nat) (F G Z Pk:List Nat) (hchk:okG l n F G=true)
  (h:xE (hkS Pk st.hp) P Γ l.toArray (eb n F) (gb G) n 0 l st [] (b3H (hkS Pk st.hp) Pk P Γ l.toArray (eb n F) (gb Z) v0 l (Q .normal))):AW P (.region id l.toArray true) Q st:=AW.drawU hΓ hm n F G Z Pk hchk h
theorem c9P {U:Nat->Nat} {j:Nat}:unG U j []=[]:=rfl
theorem c6I {U:Nat->Nat} {j:Nat} {o:Oper} {r:List Oper}:unG U j (o::r)=(if U j=0 then o else if U j=1 then b4P o else c7h o)::unG U (j+1) r:=rfl
theorem d1F {j:Nat}:vb [] j=0:=rfl
theorem c82 {j v:Nat} {A:List Nat} {r:List (Nat×List Nat)}:vb ((v,A)::r) j=if A.contains j=true then v else vb r j:=rfl
theorem c9E {d:Option Tmp} {op:Go.Op} {t:TypeId} {p:String} {af:Array Edge} {g:Option (Nat×Bool)}:c7h ⟨d,op,t,p,af,g⟩=⟨d,.move (.const undef),t,p,af,none⟩:=rfl
theorem c9S {d:Option Tmp} {op:Go.Op} {t:TypeId} {p:String} {af:Array Edge} {g:Option (Nat×Bool)}:b4P ⟨d,op,t,p,af,g⟩=⟨d,op,t,p,af,none⟩:=rfl
theorem AW.drawT (hΓ:GOK P Γ) (hm:P.follows .mixedOrders=true) {id:Nat} {l:List Oper} (n:Nat) (F:List Nat) (hchk:okG l n F []=true)
  (h:xE (hkS [] st.hp) P Γ l.toArray (eb n F) (gb []) n 0 l st [] (b3H (hkS [] st.hp) [] P Γ l.toArray (eb n F) (gb []) v0 l (Q .normal))):AW P (.region id l.toArray true) Q st:=AW.drawU hΓ hm n F [] [] [] hchk h
end
attribute [go_sem high] d0i c8i c4w
theorem b9L {hk hp:Nat->Row}:b0L hk hp []=True:=rfl
theorem b86 {hk hp:Nat->Row} {p:Nat} {r:List Nat}:b0L hk hp (p::r)=(hp p=hk p/\b0L hk hp r):=rfl
attribute [go_sem] b9L b86 hkS b7p a5o a4h
attribute [go_sem] c1v d3w d1R d1S c4V d8p d7s gb c3d b9l c4g c6F d6M d7X d7i a8u a7E d79 d6K d2D d2J d1D v0 d1F c82 c9P c6I c9E c9S c4k c4Z d2m d1Q
attribute [go_sem] a98 c9s eb List.contains_cons List.contains_nil Bool.or_false Bool.false_or Bool.true_or Bool.or_true
attribute [go_sem] b6i.eq_def a50.eq_1 a50.eq_2
end Go.Proofs.YthpjjjnbkfnghaaGreatDoor
namespace Go.Proofs.YthpjjjnbkfnghaaGreatDoor
open Go
@[go_sem high] theorem d2K {α:Type} (E:El α) (l:List α) {P:Program} {t:TypeId}:a9g P t (sL E l)=match P.underlying t with
  | some (.slice _)=>some (0<E.sz,.mb (l.length=0))
  | _=>none:=by
 unfold a9g sL
 generalize P.underlying t=u
 cases u with
 | none=>rfl
 | some d=>cases d<;>rfl
attribute [go_sem low] a9g.eq_def
@[go_sem high] theorem d68 {α:Type} (E:El α) (l:List α) {P:Program} {st:AS} {t:TypeId} {x:AV} {d:Option Tmp} {K:AS->Prop}:c0p P st t x (sL E l) d K=c0p P st t x (.sn l.length E.sz fun i=>E.enc (l.getD i E.dflt)) d K:=rfl
@[go_sem] theorem d8X {α:Type} (E:El α) (l:List α) {P:Program} {st:AS} {t:TypeId} {x y:AV} {d:Option Tmp} {K:AS->Prop} {u:Option TypeDesc}:apK P st t y d K u x (sL E l)=apK P st t y d K u x (.sn l.length E.sz fun i=>E.enc (l.getD i E.dflt)):=rfl
theorem c1u {α:Type} {E:El α} {f:Nat->Nat->AV} {k s n:Nat} {c:Nat->AV} {x d:α} {l:List α} (hk:k<l.length) (h:∀ i,i<n->∀ j,j<s->a0e (f i j) (E.enc (l.getD i d) j)) (hc:∀ j,j<s->a0e (c j) (E.enc x j)) :
  ∀ i,i<n->∀ j,j<s->a0e (stE f k 0 s c i j) (E.enc ((l.set k x).getD i d) j):=fun i hi j hj=>by
 simp only [stE]
 by_cases e:i=k
 ·subst e
  rw [if_pos ⟨rfl,by omega,by omega⟩,Nat.sub_zero]
  have e:(l.set i x).getD i d=x:=by simp [List.getD,hk]
  rw [e]
  exact hc j hj
 ·rw [if_neg (fun hh=>e hh.1)]
  have e:(l.set k x).getD i d=l.getD i d:=by simp [List.getD,List.getElem?_set_ne (Ne.symm e)]
  rw [e]
  exact h i hi j hj
theorem a9c {n:Nat} {args args':List AV} {hp:Nat->Row} {top nx:Nat} (h:a4C a0e args args'):a1g (stM n args hp top nx) (stM n args' hp top nx):=by
 refine fun c η a w hs=>⟨η,hs.hs,hs.dead,hs.size,fun t=>?_,hs.defs⟩
 refine (?_:a0e (args.getD t .any) (args'.getD t .any)) _ _ _ _ (hs.slots t)
 clear hs
 induction h generalizing t with
 | nil=>exact a0e.refl _
 | cons h _ ih=>
   cases t with
   | zero=>simpa using h
   | succ t=>simpa using ih t
theorem a1g.perm {st st':AS} (σ:Nat->Nat) (hsz:st'.sz=st.sz) (hdf:st'.df=st.df) (hfr:∀ t,a0e (st.fr t) (st'.fr t)) (hhp:∀ p,st'.hp p=.dead\/a0a (st.hp (σ p)) (st'.hp p))
  (hinj:∀ p q,st'.hp p≠.dead->st'.hp q≠.dead->σ p=σ q->p=q) (htop:∀ p,st'.top<=p->st'.hp p=.dead) (hnx:st.nx<=st'.nx):a1g st st':=by
 intro c η a w h
 have hver:∀ p v,(st'.hp p).ver=some v->(st.hp (σ p)).ver=some v/\st'.hp p≠.dead:=fun p v hv=>by
  rcases hhp p with e|e
  ·rw [e] at hv;cases hv
  ·exact⟨by rw [<-e.1];exact hv,fun e=>by rw [e] at hv;cases hv⟩
 have hblk:∀ p b,(st'.hp p).blk η=some b->(st.hp (σ p)).blk η=some b/\st'.hp p≠.dead:=fun p b hb=>by
  rcases hhp p with e|e
  ·rw [e] at hb;cases hb
  ·refine⟨?_,fun e=>by rw [e] at hb;cases hb⟩
   unfold Row.blk at hb ⊢
   rw [e.1] at hb
   exact hb
 have hL:∀ b,a0Y c η st'.hp b->a0Y c η st.hp b:=by
  rintro b (hl|⟨p,hp⟩)
  ·exact .inl hl
  ·exact .inr ⟨σ p,(hblk p b hp).1⟩
 refine⟨η,⟨⟨h.hs.fr,h.hs.lx,fun p=>?_,fun p q v hp hq=>hinj p q (hver p v hp).2 (hver q v hq).2 (h.hs.vers _ _ v (hver p v hp).1 (hver q v hq).1),fun p v hp=>Nat.lt_of_lt_of_le (h.hs.bnd _ v (hver p v hp).1) hnx,
  fun p q b hp hq=>hinj p q (hblk p b hp).2 (hblk q b hq).2 (h.hs.disj _ _ b (hblk p b hp).1 (hblk q b hq).1),fun p b hp=>h.hs.own _ b (hblk p b hp).1,fun v hv=>h.hs.fresh v (Nat.le_trans hnx hv),h.hs.env.1,Nat.le_trans h.hs.env.2.1 hnx,h.hs.env.2.2⟩,htop,by rw [hsz];exact h.size,
  fun t=>hfr t _ _ _ _ (Rep.less (fun b _ hb=>hL b hb) (h.slots t)),by rw [hdf];exact h.defs⟩⟩
 rcases hhp p with e|e
 ·rw [e];trivial
 ·exact e.2 _ _ _ (a13.less hL (h.hs.rows _))
def Sh.fitsV (σ:Nat->Nat) (s:Sh) (st:AS):Prop:=
 ((s.sz=st.sz/\s.df=st.df)/\st.nx<=s.nx)/\(∀ p∈s.fr,a0e (st.fr p.1) p.2)/\(∀ p∈s.hp,a0a (st.hp (σ p.1)) p.2)/\(∀ p∈s.hp,p.1<s.top)/\∀ p∈s.hp,∀ q∈s.hp,σ p.1=σ q.1->p.1=q.1
theorem b3i:∀ {l:List (Nat×Row)} {t:Nat},rws l t≠.dead->∃ p∈l,p.1=t/\rws l t=p.2
 | [],_,h=>absurd rfl h
 | (d,x)::r,t,h=>by
   by_cases e:t=d
   ·exact⟨(d,x),List.mem_cons_self ..,e.symm,if_pos e⟩
   ·have h':rws r t≠.dead:=fun hh=>h ((if_neg e).trans hh)
    obtain⟨p,h1,h2,h3⟩:=b3i h'
    exact⟨p,List.mem_cons_of_mem _ h1,h2,(if_neg e).trans h3⟩
theorem Sh.fitsV.le {s:Sh} {st:AS} {σ:Nat->Nat} (h:s.fitsV σ st):a1g st ⟨frm s.fr,rws s.hp,s.sz,s.top,s.nx,s.df⟩:=by
 obtain⟨⟨⟨h1,h2⟩,h3⟩,h4,h5,h6,h7⟩:=h
 refine a1g.perm σ h1 h2 (c3w h4) (fun p=>?_) (fun p q hp hq e=>?_) (a1Y h6) h3
 ·by_cases hd:rws s.hp p=.dead
  ·exact .inl hd
  ·obtain⟨x,hx,e1,e2⟩:=b3i hd
   subst e1
   refine .inr (?_:a0a (st.hp (σ x.1)) (rws s.hp x.1))
   rw [e2]
   exact h5 x hx
 ·obtain⟨x,hx,e1,_⟩:=b3i hp
  obtain⟨y,hy,e2,_⟩:=b3i hq
  subst e1 e2
  exact h7 x hx y hy e
theorem a0g {st:AS} (σ:Nat->Nat) {l:List (Nat×AV)} {r:List (Nat×Row)} {sz top nx:Nat} {df:List Deferred} (h:(Sh.mk l r sz top nx df).fitsV σ st):a1g st ⟨frm l,rws r,sz,top,nx,df⟩:=h.le
theorem AW.cutV {P:Program} {x:Code} {Q:Exit->AS->Prop} {st:AS} (σ:Nat->Nat) (s:Sh) (h:s.fitsV σ st) (k:AW P x Q s.st):AW P x Q st:=AW.le h.le k
attribute [go_sem] Sh.fitsV
def b7l {α:Type} (I:α->AS) (μ:α->Nat) (i:α) (Q:Exit->AS->Prop):Exit->AS->Prop
 | .normal,st=>∃ j,a1g st (I j)/\μ j<μ i
 | e,st=>Q e st
section
variable {P:Program} {x:Code} {Q:Exit->AS->Prop} {st:AS} {α:Type} {I:α->AS} {μ:α->Nat} {i:α} {id:Nat}
@[go_sem] theorem c38:b7l I μ i Q .normal st=∃ j,a1g st (I j)/\μ j<μ i:=a2J rfl
@[go_sem] theorem c8M:b7l I μ i Q (.exit id) st=Q (.exit id) st:=a2J rfl
@[go_sem] theorem d05:b7l I μ i Q .ret st=Q .ret st:=a2J rfl
theorem AW.roundL (I:α->AS) (μ:α->Nat) (i₀:α) (h₀:a1g st (I i₀)) (h:∀ i,AW P x (b7l I μ i Q) (I i)):AW P (.loop x) Q st:=by
 refine AW.loop I μ i₀ h₀ fun i c η a w hsr=>?_
 refine wp_mono (h i c η a w hsr) ?_
 rintro e a' w' ⟨st',η',hq,hs'⟩
 cases e with
 | normal=>
   obtain⟨j,hf,hm⟩:=hq
   exact⟨st',η',⟨j,hf,hm⟩,hs'⟩
 | _=>exact⟨st',η',hq,hs'⟩
end
theorem HS.same {c:Ctx} {hp:Nat->Row} {nx:Nat} {η:Env} {w:World} (h:HS c hp nx η w) {p:Nat} {row:Row} (hv:row.ver=(hp p).ver) (hrow:a13 w η (a0Y c η hp) row) :
  HS c (a0S hp p row) nx η w/\a0Y c η (a0S hp p row)=a0Y c η hp:=by
 have hver:∀ q,(a0S hp p row q).ver=(hp q).ver:=fun q=>by
  by_cases e:q=p
  ·subst e;rw [a0k,hv]
  ·rw [a0f _ _ e]
 have hbk:∀ q,(a0S hp p row q).blk η=(hp q).blk η:=fun q=>by
  unfold Row.blk
  rw [hver]
 have hL:a0Y c η (a0S hp p row)=a0Y c η hp:=by
  funext b
  simp only [a0Y,hbk]
 refine⟨⟨h.fr,h.lx,fun q=>?_,fun q r v hq hr=>?_,fun q v hq=>?_,fun q r b hq hr=>?_,fun q b hq=>?_,h.fresh,h.env⟩,hL⟩
 ·rw [hL]
  by_cases e:q=p
  ·subst e;rw [a0k];exact hrow
  ·rw [a0f _ _ e];exact h.rows q
 ·rw [hver] at hq hr;exact h.vers q r v hq hr
 ·rw [hver] at hq;exact h.bnd q v hq
 ·rw [hbk] at hq hr;exact h.disj q r b hq hr
 ·rw [hbk] at hq;exact h.own q b hq
theorem a1g.adoptB {st:AS} {q v m:Nat} {ety:TypeId} {cs:Nat->AV} (j:Nat) (e:TypeId) (sz:Nat) (cc:Nat->Nat->AV) (h:st.hp q=.box v ety m cs) (hj:cs j=.em) :
  a1g st ⟨st.fr,a0S (a0S st.hp st.top (.sl st.nx e sz 0 cc)) q (.box v ety m fun i=>if i=j then .ow st.top st.nx 0 else cs i),st.sz,st.top+1,st.nx+1,st.df⟩:=by
 intro c η a w hsr
 have hqt:q≠st.top:=fun e=>by
  have:=hsr.dead q (by omega)
  rw [h] at this
  cases this
 obtain⟨hs',hkeep⟩:=hsr.hs.swap (p:=st.top) (row:=.sl st.nx e sz 0 cc) (r:=(none,0)) rfl (Fr.refl (fun _=>False) w) (fun _ _ h=>h.elim) (fun g hg=>by cases hg) (fun _=>by
  intro g cap he
  rw [a0Q] at he
  simp only [Option.some.injEq,Prod.mk.injEq] at he
  obtain⟨rfl,rfl⟩:=he
  rfl)
 have hrow:=hs'.rows q
 rw [a0f _ _ hqt,h] at hrow
 have hrow0:=hsr.hs.rows q
 rw [h] at hrow0
 have hvn:v≠st.nx:=fun e=>by
  have:=hsr.hs.bnd q v (by rw [h];rfl)
  omega
 obtain⟨hs2,hL⟩:=hs'.same (p:=q) (row:=.box v ety m fun i=>if i=j then .ow st.top st.nx 0 else cs i) (by rw [a0f _ _ hqt,h];rfl) (by
  intro g cap he
  obtain⟨b,cur,h1,h2,h3,h4⟩:=hrow g cap he
  refine⟨b,cur,h1,h2,h3,fun i hi=>?_⟩
  obtain⟨u,hu,ho,hr⟩:=h4 i hi
  refine⟨u,hu,ho,?_⟩
  by_cases e':i=j
  ·subst e'
   rw [hj] at hr
   simp only [if_true]
   obtain⟨x,hr⟩:=hr
   exact⟨none,0,a0Q _ _ _,rfl,x,hr⟩
  ·simp only [if_neg e']
   exact hr)
 refine⟨a1Q η st.nx (none,0),hs2,fun p hp=>?_,hsr.size,fun t=>?_,hsr.defs⟩
 ·simp only at hp ⊢
  rw [a0f _ _ (fun e=>by
   subst e
   have:=hsr.dead p (by omega)
   rw [h] at this
   cases this),a0f _ _ (by omega)]
  exact hsr.dead p (by omega)
 ·simp only
  rw [hL]
  exact hkeep _ _ (hsr.slots t)
theorem AW.adoptB {P:Program} {x:Code} {Q:Exit->AS->Prop} {st:AS} {q v m:Nat} {ety:TypeId} {cs:Nat->AV} (j:Nat) (e:TypeId) (sz:Nat) (cc:Nat->Nat->AV) (h:st.hp q=.box v ety m cs) (hj:cs j=.em)
  (k:AW P x Q ⟨st.fr,a0S (a0S st.hp st.top (.sl st.nx e sz 0 cc)) q (.box v ety m fun i=>if i=j then .ow st.top st.nx 0 else cs i),st.sz,st.top+1,st.nx+1,st.df⟩):AW P x Q st:=AW.le (a1g.adoptB j e sz cc h hj) k
end Go.Proofs.YthpjjjnbkfnghaaGreatDoor
