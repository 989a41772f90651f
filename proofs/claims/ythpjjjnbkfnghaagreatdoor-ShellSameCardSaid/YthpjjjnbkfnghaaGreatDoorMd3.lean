/-
  Part 3 of what the proof rests on: values that are told, code that is walked, what comes out.
-/
import Derived.Test.YthpjjjnbkfnghaaGreatDoorMd2
import Derived.Lib.ItoaNum
import Derived.Lib.Atoi
import Derived.Lib.IndexMore
import Derived.Lib.Strings
import Derived.Lib.Split
import Derived.Lib.Replace
import Derived.Lib.AtoiAll
import Derived.Lib.IndexBytes
import Derived.Lib.AppendStr
import Derived.ProofKit
import Derived.OpenShut
import Derived.SizedLaws
import Derived.Laws.Runes
import Derived.Laws.BytesArg
import Derived.Shelf.Strings.Builder1
import Derived.Shelf.Strings.Builder2
import Derived.Shelf.Strings.OnBuilder
import Derived.Shelf.Small.Strs
import Derived.Shelf.Strings.BuilderF
import Derived.Shelf.Strconv.Atoi
import Derived.Shelf.Strconv.Itoa0
import Derived.Shelf.Strconv.Itoa1
import Derived.Shelf.LaysM
import Derived.Shelf.Strconv.Itoa2
import Derived.Shelf.Strconv.Itoa3
import Derived.Shelf.Strconv.AtoiErrFast
import Derived.Shelf.Strconv.ParseIntEmpty
import Derived.Shelf.Strconv.AtoiFail
import Derived.Shelf.Strconv.Clone
import Derived.Shelf.Strconv.SyntaxError
import Derived.Shelf.LaysC
import Derived.Shelf.Strconv.ToError
import Derived.Shelf.Strconv.Lower
import Derived.Shelf.Strconv.ParseUint10
import Derived.Shelf.Strconv.ParseUint10Empty
import Derived.Shelf.Strconv.ParseUint10Any
import Derived.Shelf.Strconv.ParseInt10
import Derived.Shelf.Strconv.AtoiLong
import Derived.Shelf.Strconv.AtoiInnerAll
import Derived.Shelf.Strconv.RangeError
import Derived.Shelf.Strconv.ToErrorRange
import Derived.Shelf.Strconv.AtoiAll
import Derived.Shelf.Strings.Search1
import Derived.Shelf.Strings.Search2
import Derived.Shelf.Strings.Search3
import Derived.Shelf.Strings.Cut
import Derived.Shelf.Strings.Count
import Derived.Shelf.Strings.Shaped
import Derived.Shelf.Strings.Prefix
import Derived.Shelf.Strings.Split
import Derived.Shelf.Strings.Replace
import Derived.Shelf.Strings.SplitShaped
import Derived.Shelf.Bits.Mul64
import Derived.Shelf.Strings.Repeat
import Derived.Shelf.Unicode.DecodeSlow
import Derived.Test.YthpjjjnbkfnghaaGreatDoorProg
import Derived.Test.YthpjjjnbkfnghaaGreatDoorChecked
import Derived.WalkKit
import Derived.Tactics
import Derived.Tactics2
import Derived.StillTactics
import Derived.Laws.Pointers
import Derived.Laws.Externs
import Derived.Laws.Entries
import Derived.Lib.Builder
import Derived.Lib.UnsafeStr
import Derived.KernelRfl
set_option maxRecDepth 100000
set_option maxHeartbeats 2000000
set_option linter.all false
namespace Go.Proofs.YthpjjjnbkfnghaaGreatDoor
open Go
attribute [local irreducible] AW a0e a1g a0a
theorem a1W:(eP eI (eL eS)).sz=2:=rfl
theorem b05:(eP eI (eL eS)).dflt=((0:Int),([]:List (List UInt8))):=rfl
theorem sp0 (s:Int×List (List UInt8)):(eP eI (eL eS)).enc s 0=.val (.int .i64 s.1):=rfl
theorem sp1 (s:Int×List (List UInt8)):(eP eI (eL eS)).enc s 1=sL eS s.2:=rfl
theorem b8b (c d:Nat->AV):stC c 0 2 d 0=d 0:=rfl
theorem b9i (c d:Nat->AV):stC c 0 2 d 1=d 1:=rfl
def a8i:a0s:=a0s.f2 kI kI (fun _ _=>True) (fun x y=>kB.enc (a6R x y))
theorem c3a:a0d Tryz.prog 102 a8i:=by
 refine a0d.f2 Tryz.func102 rfl (by decide) Tryz.results102 Tryz.ntmps102 (by decide) fun x y _=>?_
 have hΓ:GOK Tryz.prog (gam []):=GOK.nil
 refine AW.of hΓ mixed [] _ _ _ rfl ?_
 simp only [go_sem]
 refine⟨fun h1 h2=>by simp [h1,h2],rfl⟩
theorem a5A (k:Int) (l:List (Int×List (List UInt8))) (s:Int×List (List UInt8)):a0G k (l++[s])=a0G k l+if s.1=k then s.2.length else 0:=by
 unfold a0G
 rw [List.flatMap_append,List.length_append]
 by_cases h:s.1=k<;>simp [h]
theorem a29 {l:List (Int×List (List UInt8))} {m:Nat} (h:∀ s∈l,s.2.length<=m) (k:Int):a0G k l<=l.length*m:=by
 induction l with
 | nil=>simp [a0G]
 | cons s l ih=>
   have h1:=h s (List.mem_cons_self ..)
   have h2:=ih fun t ht=>h t (List.mem_cons_of_mem _ ht)
   have e:a0G k (s::l)=(if s.1=k then s.2.length else 0)+a0G k l:=by
    unfold a0G
    rw [List.flatMap_cons,List.length_append]
    by_cases h:s.1=k<;>simp [h]
   rw [e,List.length_cons,Nat.succ_mul]
   split<;>omega
theorem a1h {α:Type} (l:List α) (d:α) {i:Nat} (h:i<l.length):l.take (i+1)=l.take i++[l.getD i d]:=by
 rw [List.take_succ_eq_append_getElem h,a1e l d h]
def a5L:a0s:=a0s.f1 (kL (eP eI (eL eS))) (fun l=>l.length<10000/\∀ s∈l,s.2.length<=10000) (fun l=>tu3 (kI.enc (a0G 0 l)) (kI.enc (a0G 1 l)) (kI.enc (a0G 2 l)))
theorem b3C:a0d Tryz.prog 108 a5L:=by
 refine a0d.f1 Tryz.func108 rfl (by decide) Tryz.results108 Tryz.ntmps108 (by decide) fun l ⟨hl,hs⟩=>?_
 have hΓ:GOK Tryz.prog (gam []):=GOK.nil
 refine AW.of hΓ mixed [] _ _ _ rfl ?_
 simp only [go_sem,a1W]
 refine AW.round (α:={ x:Nat×Nat // x.1<=l.length })
  (fun x=>⟨[(5,.val (.int .i64 (a0G 0 (l.take x.1.1)))),(6,.val (.int .i64 (a0G 1 (l.take x.1.1)))),(7,.val (.int .i64 (a0G 2 (l.take x.1.1)))),(10,sL (eP eI (eL eS)) l),(11,.val (.int .i64 l.length)),(12,.val (.int .i64 x.1.1))],[],43,0,x.1.2,[]⟩) (fun x=>l.length-x.1.1) ⟨(0,0),Nat.zero_le _⟩ ?_ ?_
 ·simp only [go_sem]
  simp [a0G]
 ·rintro⟨⟨i,nx⟩,hi⟩
  simp only at hi
  have hb:∀ k,a0G k (l.take i)<=10000*10000:=fun k=>Nat.le_trans (a29 (fun s h=>hs s (List.mem_of_mem_take h)) k) (Nat.mul_le_mul_right _ (by simp;omega))
  have hb0:=hb 0
  have hb1:=hb 1
  have hb2:=hb 2
  refine AW.of hΓ mixed [99999] _ _ _ rfl ?_
  simp only [go_sem,a1W,b8b,b9i,sp0,sp1,b05]
  have e:∀ k,i<l.length->a0G k (l.take (i+1))=a0G k (l.take i)+if (l.getD i (0,[])).1=k then (l.getD i (0,[])).2.length else 0:=fun k h=>by rw [a1h l (0,[]) h,a5A]
  have hg:i<l.length->(l.getD i (0,[])).2.length<=10000:=fun h=>by
   rw [a1e l _ h]
   exact hs _ (List.getElem_mem _)
  generalize l.getD i (0,[])=g at *
  refine⟨fun hlt=>?_,fun hge=>?_⟩
  ·have hlt':i<l.length:=by omega
   have e0:=e 0 hlt'
   have e1:=e 1 hlt'
   have e2:=e 2 hlt'
   have hg':=hg hlt'
   refine⟨by omega,fun h=>?_,fun h=>⟨fun h1=>?_,fun h1=>⟨fun h2=>?_,fun h2=>?_⟩⟩⟩
   ·rw [if_pos h] at e0
    rw [if_neg (by omega)] at e1 e2
    exact⟨by omega,by omega,⟨(i+1,nx+1),by dsimp only;omega⟩,⟨Nat.le_refl _,by dsimp only;omega,by dsimp only;omega,by dsimp only;omega,by dsimp only;omega⟩,by dsimp only;omega⟩
   ·rw [if_pos h1] at e1
    rw [if_neg (by omega)] at e0 e2
    exact⟨by omega,by omega,⟨(i+1,nx+1),by dsimp only;omega⟩,⟨Nat.le_refl _,by dsimp only;omega,by dsimp only;omega,by dsimp only;omega,by dsimp only;omega⟩,by dsimp only;omega⟩
   ·rw [if_pos h2] at e2
    rw [if_neg (by omega)] at e0 e1
    exact⟨by omega,by omega,⟨(i+1,nx+1),by dsimp only;omega⟩,⟨Nat.le_refl _,by dsimp only;omega,by dsimp only;omega,by dsimp only;omega,by dsimp only;omega⟩,by dsimp only;omega⟩
   ·rw [if_neg (by omega)] at e0 e1 e2
    exact⟨by omega,⟨(i+1,nx+1),by dsimp only;omega⟩,⟨Nat.le_refl _,by dsimp only;omega,by dsimp only;omega,by dsimp only;omega,by dsimp only;omega⟩,by dsimp only;omega⟩
  ·obtain rfl:i=l.length:=by omega
   rw [List.take_length]
   exact⟨rfl,rfl,rfl⟩
def a1w:a0L:=fun args hp top nx K=>∃ x l,args=[x]/\a0e x (sL eS l)/\l.length<1000000000/\∀ ver nx',nx<=ver->ver<nx'->K (.ow top ver l.length) (a0S hp top (a05 ver 9 eS l)) (top+1) nx'
theorem a9F:a0i Tryz.prog 103 a1w:=by
 refine a0i.mk Tryz.func103 rfl (by decide) Tryz.results103 Tryz.ntmps103 ?_
 rintro args hp top nx K ⟨x,l,rfl,hx,hl,hK⟩
 have hΓ:GOK Tryz.prog (gam []):=GOK.nil
 refine⟨Nat.le_of_ble_eq_true rfl,?_⟩
 refine AW.le (a9c (.cons hx .nil)) ?_
 refine AW.of hΓ mixed [2,99999] _ _ _ rfl ?_
 simp only [go_sem]
 refine⟨fun h0=>?_,?_⟩
 ·refine AW.adopt 2 9 1 (fun i=>eS.enc (l.getD i [])) rfl ?_
  refine AW.of hΓ mixed [] _ _ _ rfl ?_
  simp only [go_sem]
  obtain rfl:=List.length_eq_zero_iff.1 h0
  exact hK nx (nx+1) (Nat.le_refl _) (Nat.lt_succ_self _)
 ·exact⟨by omega,hK nx (nx+1) (Nat.le_refl _) (Nat.lt_succ_self _)⟩
def a00:a0s:=a0s.f1 (kL (eP eI (eL eS))) (fun l=>l.length<10000/\∀ s∈l,s.2.length<=10000) (fun l=>kB.enc (a0I (-1) l))
def c48 (l:List (Int×List (List UInt8))):Nat->Int
 | 0=>-1
 | i+1=>(l.getD i (0,[])).1
theorem b65:a0d Tryz.prog 42 a00:=by
 refine a0d.f1 Tryz.func42 rfl (by decide) Tryz.results42 Tryz.ntmps42 (by decide) fun l ⟨hl,hs⟩=>?_
 have hΓ:GOK Tryz.prog (gam [(102,a8i)]):=(.cons c3a .nil)
 refine AW.of hΓ mixed [] _ _ _ rfl ?_
 simp only [go_sem,a8i,a1W]
 refine AW.round (α:={ x:Nat×Nat // x.1<=l.length/\a0I (-1) l=a0I (c48 l x.1) (l.drop x.1) })
  (fun x=>⟨[(0,sL (eP eI (eL eS)) l),(5,sL (eP eI (eL eS)) l),(6,.val (.int .i64 l.length)),(7,.val (.int .i64 x.1.1))],[],41,0,x.1.2,[]⟩) (fun x=>l.length-x.1.1) ⟨(0,0),Nat.zero_le _,rfl⟩ ?_ ?_
 ·simp only [go_sem,a8i]
 ·rintro⟨⟨i,nx⟩,hi,hr⟩
  simp only at hi hr
  refine AW.of hΓ mixed [99999] _ _ _ rfl ?_
  simp only [go_sem,a8i,a1W,b8b,b9i,sp0,sp1,b05]
  obtain⟨k,ts,hg⟩:∃ k ts,l.getD i (0,[])=(k,ts):=⟨_,_,rfl⟩
  have hd:i<l.length->l.drop i=(k,ts)::l.drop (i+1):=fun h=>by
   rw [List.drop_eq_getElem_cons h,<-a1e l (0,[]) h,hg]
  have hbad:(decide (k<0)||decide (2<k)||decide ((ts.length:Int)=0))=!b1t (k,ts):=by
   rw [Bool.eq_iff_iff]
   simp only [b1t,Bool.or_eq_true,decide_eq_true_eq,Bool.not_eq_true',decide_eq_false_iff_not]
   omega
  have hp:0<i->(l.getD ((i:Int)-1).toNat (0,[])).1=c48 l i:=fun h=>by
   cases i with
   | zero=>omega
   | succ i=>rw [show ((i+1:Nat):Int)-1=(i:Nat) by omega,Int.toNat_natCast];rfl
  rw [hg]
  dsimp only
  rw [hbad]
  refine⟨fun hlt=>?_,fun hge=>?_⟩
  ·rw [hd (by omega),a0I] at hr
   dsimp only at hr
   refine⟨by omega,fun h=>by rw [decide_eq_false h];rfl,fun h=>by rw [h];rfl,fun h=>?_,fun h=>⟨fun _=>by omega,fun _=>by omega,fun⟨h0,h1⟩=>?_,fun h1=>⟨by omega,⟨(i+1,nx+1),by dsimp only;omega,?_⟩,⟨Nat.le_refl _,rfl⟩,by dsimp only;omega⟩⟩⟩
   ·rw [Bool.not_eq_true'] at h
    rw [hr,h,Bool.false_and]
   ·rw [hp (by omega),Bool.not_eq_true'] at h1
    rw [hr,h1,Bool.false_and,Bool.and_false]
   ·rw [Bool.not_eq_false'] at h
    have hfo:a6R (c48 l i) k=true:=by
     rcases Nat.eq_zero_or_pos i with h0|h0
     ·subst h0
      simp only [b1t,decide_eq_true_eq] at h
      have e:c48 l 0=-1:=rfl
      rw [e,a6R,decide_eq_true (show (-1:Int)≠k by omega)]
      rfl
     ·have:=h1 (by omega)
      rw [hp h0,Bool.not_eq_false'] at this
      exact this
    rw [hr,h,hfo,Bool.true_and,Bool.true_and]
    show _=a0I (l.getD i (0,[])).1 _
    rw [hg]
  ·obtain rfl:i=l.length:=by omega
   rw [hr,List.drop_length]
   rfl
theorem a48 (k:Int) (l:List (Int×List (List UInt8))) (s:Int×List (List UInt8)):a0O k (l++[s])=a0O k l++if s.1=k then [] else s.2:=by
 unfold a0O
 rw [List.flatMap_append]
 by_cases h:s.1=k<;>simp [h]
theorem b7c {l:List (Int×List (List UInt8))} {m:Nat} (h:∀ s∈l,s.2.length<=m) (k:Int):(a0O k l).length<=l.length*m:=by
 induction l with
 | nil=>simp [a0O]
 | cons s l ih=>
   have h1:=h s (List.mem_cons_self ..)
   have h2:=ih fun t ht=>h t (List.mem_cons_of_mem _ ht)
   have e:a0O k (s::l)=(if s.1=k then [] else s.2)++a0O k l:=by
    unfold a0O
    rw [List.flatMap_cons]
   rw [e,List.length_append,List.length_cons,Nat.succ_mul]
   by_cases hk:s.1=k
   ·rw [if_pos hk,List.length_nil];omega
   ·rw [if_neg hk];omega
end Go.Proofs.YthpjjjnbkfnghaaGreatDoor
set_option maxRecDepth 100000
set_option maxHeartbeats 2000000
namespace Go.Proofs.YthpjjjnbkfnghaaGreatDoor
open Go
attribute [local irreducible] AW a0e a1g a0a
theorem d2F (s:Int×List (List UInt8)):vwO (.ag 2 ((eP eI (eL eS)).enc s))=false:=rfl
theorem a95 (hp:Nat->Row) (s:Int×List (List UInt8)):(kA (eP eI (eL eS))).dec (.ag 2 fun j=>if j<2 then vw0 hp ((eP eI (eL eS)).enc s j) else .any)=s:=by
 show (s.1,gL eS (sL eS s.2))=s
 rw [a5M]
theorem d74 (hp:Nat->Row) (s:Int×List (List UInt8)):(kA (eP eI (eL eS))).ok (.ag 2 fun j=>if j<2 then vw0 hp ((eP eI (eL eS)).enc s j) else .any)=True:=by
 refine eq_true ?_
 unfold Kd.ok
 rw [a95]
 refine a0e.ag fun j hj=>?_
 match j,hj with
 | 0,_=>exact a0e.refl _
 | 1,_=>exact a0e.refl _
end Go.Proofs.YthpjjjnbkfnghaaGreatDoor
namespace Go.Proofs.YthpjjjnbkfnghaaGreatDoor
open Go
def c4d (P:Program) (l:List ResultVar) (K:AV->(Nat->Row)->Nat->Nat->Prop) (st:AS):Prop:=∃ st',a1g st st'/\c5r P l K st'
def c8h (P:Program) (l:List ResultVar) (K:AV->(Nat->Row)->Nat->Nat->Prop):Exit->AS->Prop
 | .normal,st=>c4d P l K st
 | .ret,st=>c4d P l K st
 | _,_=>False
@[go_sem] theorem c7w {P:Program} {l:List ResultVar} {K:AV->(Nat->Row)->Nat->Nat->Prop} {st:AS}:c8h P l K .normal st=c4d P l K st:=a2J rfl
@[go_sem] theorem d2Z {P:Program} {l:List ResultVar} {K:AV->(Nat->Row)->Nat->Nat->Prop} {st:AS}:c8h P l K .ret st=c4d P l K st:=a2J rfl
theorem AW.late {P:Program} {l:List ResultVar} {K:AV->(Nat->Row)->Nat->Nat->Prop} {x:Code} {st:AS} (h:AW P x (c8h P l K) st):AW P x (d4r P l K) st:=by
 intro c η a w hsr
 refine wp_mono (h c η a w hsr) ?_
 rintro e a' w' ⟨st',η',hq,hs'⟩
 cases e with
 | normal=>
   obtain⟨s,h1,h2⟩:=hq
   obtain⟨η'',h''⟩:=h1 c η' a' w' hs'
   exact⟨s,η'',h2,h''⟩
 | ret=>
   obtain⟨s,h1,h2⟩:=hq
   obtain⟨η'',h''⟩:=h1 c η' a' w' hs'
   exact⟨s,η'',h2,h''⟩
 | _=>exact hq.elim
end Go.Proofs.YthpjjjnbkfnghaaGreatDoor
namespace Go.Proofs.YthpjjjnbkfnghaaGreatDoor
open Go
section
variable {P:Program} {Γ:Gam} {ops:Array Oper} {st:AS} {K:AS->Prop} {d:Tmp}
theorem a5k {o:Oper} {f:Nat->Option Bool} (h:o.guard=none):Region.wanted o f=true:=by simp [Region.wanted,h]
end
end Go.Proofs.YthpjjjnbkfnghaaGreatDoor
set_option maxRecDepth 100000
set_option maxHeartbeats 2000000
namespace Go.Proofs.YthpjjjnbkfnghaaGreatDoor
open Go
attribute [local irreducible] AW a0e a1g a0a
def c4B (l:List (Int×List (List UInt8))):Nat:=(l.map fun s=>s.2.length).sum
theorem a7L (l:List (Int×List (List UInt8))) (s:Int×List (List UInt8)):c4B (l++[s])=c4B l+s.2.length:=by simp [c4B]
end Go.Proofs.YthpjjjnbkfnghaaGreatDoor
set_option maxRecDepth 100000
set_option maxHeartbeats 2000000
namespace Go.Proofs.YthpjjjnbkfnghaaGreatDoor
open Go
attribute [local irreducible] AW a0e a1g a0a
def a3U (l:List (Int×List (List UInt8))):List (List UInt8):=(l.getD (l.length-1) (0,[])).2
def a7j (l:List (Int×List (List UInt8))) (tv:Nat):Nat->Nat->AV:=fun i j=>if i+1=l.length/\j=1 then .ow 1 tv (a3U l).length else (eP eI (eL eS)).enc (l.getD i (0,[])) j
def b18 (v tv:Nat) (l:List (Int×List (List UInt8))):Row:=.sl v 86 2 l.length (a7j l tv)
theorem a2Z (m:List (Int×List (List UInt8))) (s:Int×List (List UInt8)):a3U (m++[s])=s.2:=by simp [a3U,List.getD]
theorem a5p (m:List (Int×List (List UInt8))) (s:Int×List (List UInt8)):(m++[s]).getD m.length (0,[])=s:=by simp [List.getD]
theorem b43 {m:List (Int×List (List UInt8))} {s:Int×List (List UInt8)} {i:Nat} (h:i<m.length):(m++[s]).getD i (0,[])=m.getD i (0,[]):=by simp [List.getD,List.getElem?_append_left h]
theorem a84 (l:List (Int×List (List UInt8))) (tv i:Nat):a7j l tv i 0=.val (.int .i64 (l.getD i (0,[])).1):=by
 unfold a7j
 rw [if_neg (fun h=>absurd h.2 (by decide))]
 rfl
theorem b1B (m:List (Int×List (List UInt8))) (s:Int×List (List UInt8)) (tv:Nat):a7j (m++[s]) tv m.length 1=.ow 1 tv s.2.length:=by
 unfold a7j
 rw [if_pos ⟨by simp,rfl⟩,a2Z]
theorem a7F {l:List (Int×List (List UInt8))} {tv i j:Nat} (h:i+1<l.length):a7j l tv i j=(eP eI (eL eS)).enc (l.getD i (0,[])) j:=by
 unfold a7j
 rw [if_neg (fun hh=>by omega)]
theorem b24 (l:List (Int×List (List UInt8))) (k:Int):a3E l k []=l:=by rfl
theorem a2k {k:Int} {ts:List (List UInt8)} (h:ts.length≠0):a3E [] k ts=[(k,ts)]:=by
 unfold a3E
 rw [if_neg h]
 rfl
theorem a4g {m:List (Int×List (List UInt8))} {s:Int×List (List UInt8)} {k:Int} {ts:List (List UInt8)} (h:ts.length≠0) (hk:s.1=k):a3E (m++[s]) k ts=m++[(k,s.2++ts)]:=by
 unfold a3E
 rw [if_neg h]
 simp [hk]
theorem a5K {m:List (Int×List (List UInt8))} {s:Int×List (List UInt8)} {k:Int} {ts:List (List UInt8)} (h:ts.length≠0) (hk:¬s.1=k):a3E (m++[s]) k ts=m++[s]++[(k,ts)]:=by
 unfold a3E
 rw [if_neg h]
 simp [hk]
theorem b8L {m:List (Int×List (List UInt8))} {s:Int×List (List UInt8)} {k:Int} {ts:List (List UInt8)} {tv nx:Nat} (hk:s.1=k):∀ i,i<m.length+1->∀ j,j<2->
  a0e (stE (a7j (m++[s]) tv) m.length 1 1 (fun _=>AV.ow 1 nx (s.2.length+ts.length)) i j) (a7j (m++[(k,s.2++ts)]) nx i j):=fun i hi j hj=>by
 simp only [stE]
 by_cases e:i=m.length
 ·subst e
  match j,hj with
  | 0,_=>
    rw [if_neg (by omega),a84,a84,a5p,a5p,hk]
    exact a0e.refl _
  | 1,_=>
    rw [if_pos (by omega),b1B]
    simp only [List.length_append]
    exact a0e.refl _
 ·rw [if_neg (fun h=>e h.1),a7F (by simp;omega),a7F (by simp;omega),b43 (by omega),b43 (by omega)]
  exact a0e.refl _
theorem b59 {k:Int} {ts:List (List UInt8)} {c d:Nat->Nat->AV} {v:Nat} (h0:d 0 0=.val (.int .i64 k)) (h1:d 0 1=.ow 2 v ts.length):∀ i,i<1->∀ j,j<2->a0e (apC 0 c d i j) (a7j [(k,ts)] v i j):=fun i hi j hj=>by
 obtain rfl:i=0:=by omega
 show a0e (d 0 j) _
 match j,hj with
 | 0,_=>
   rw [h0,a84]
   exact a0e.refl _
 | 1,_=>
   rw [h1,show a7j [(k,ts)] v 0 1=_ from b1B [] (k,ts) v]
   exact a0e.ow
theorem c3f {m:List (Int×List (List UInt8))} {s:Int×List (List UInt8)} {k:Int} {ts:List (List UInt8)} {d:Nat->Nat->AV} {tv v:Nat} (h0:d 0 0=.val (.int .i64 k)) (h1:d 0 1=.ow 2 v ts.length) :
  ∀ i,i<m.length+1+1->∀ j,j<2->a0e (fz 1 tv (a3U (m++[s])).length 1 (fun i=>eS.enc ((a3U (m++[s])).getD i [])) (apC (m.length+1) (a7j (m++[s]) tv) d i j)) (a7j (m++[s]++[(k,ts)]) v i j):=fun i hi j hj=>by
 rw [a2Z]
 simp only [apC]
 by_cases e:i<m.length+1
 ·rw [if_pos e,a7F (l:=m++[s]++[(k,ts)]) (by simp;omega),b43 (m:=m++[s]) (by simp;omega)]
  by_cases e2:i=m.length
  ·subst e2
   rw [a5p]
   match j,hj with
   | 0,_=>
     rw [a84,a5p]
     exact a0e.refl _
   | 1,_=>
     rw [b1B]
     simp only [fz,and_self,if_true,Nat.le_refl]
     exact a0e.refl _
  ·rw [a7F (by simp;omega)]
   match j,hj with
   | 0,_=>exact a0e.refl _
   | 1,_=>exact a0e.refl _
 ·obtain rfl:i=m.length+1:=by omega
  rw [if_neg (by omega),Nat.sub_self]
  match j,hj with
  | 0,_=>
    rw [h0,a84]
    simp only [fz]
    rw [show (m++[s]++[(k,ts)]).getD (m.length+1) (0,[])=(k,ts) by simp [List.getD]]
    exact a0e.refl _
  | 1,_=>
    rw [h1,show a7j (m++[s]++[(k,ts)]) v (m.length+1) 1=_ by simpa using b1B (m++[s]) (k,ts) v]
    simp only [fz]
    exact a0e.ow
def d3l:a0L:=fun args hp top nx K=>∃ l v tv k y ts,args=[.ow 0 v l.length,kI.enc k,y]/\a0e y (sL eS ts)/\hp=rws [(0,b18 v tv l),(1,a05 tv 9 eS (a3U l))]/\top=2/\l.length<100000000/\(a3U l).length+ts.length<1000000000/\
 ∀ v' tv' nx',(v'=v\/nx<=v')->(tv'=tv\/nx<=tv')->nx<=nx'->K (.ow 0 v' (a3E l k ts).length) (rws [(0,b18 v' tv' (a3E l k ts)),(1,a05 tv' 9 eS (a3U (a3E l k ts)))]) 2 nx'
theorem d21:a0i Tryz.prog 82 d3l:=by
 refine a0i.mk Tryz.func82 rfl (by decide) Tryz.results82 Tryz.ntmps82 ?_
 rintro args hp top nx K ⟨l,v,tv,k,y,ts,rfl,hy,rfl,rfl,hl,ht,hK⟩
 have hΓ:GOK Tryz.prog (gam [(103,a1w)]):=(.cons a9F .nil)
 refine⟨Nat.le_of_ble_eq_true rfl,AW.late ?_⟩
 refine AW.le (a9c (.cons (a0e.refl _) (.cons (a0e.refl _) (.cons hy .nil)))) ?_
 by_cases h0:ts.length=0
 ·obtain rfl:=List.length_eq_zero_iff.1 h0
  refine AW.of hΓ mixed [99999] _ _ _ rfl ?_
  simp only [go_sem,a1w,b18,a1W]
  refine⟨by omega,_,a1g.refl _,?_⟩
  simp only [go_sem,a1w]
  exact hK v tv nx (.inl rfl) (.inl rfl) (Nat.le_refl _)
 have hts:((ts.length:Int)=0)=False:=eq_false (by omega)
 rcases l.eq_nil_or_concat with rfl|⟨m,s,hms⟩
 ·refine AW.of hΓ mixed [99999] _ _ _ rfl ?_
  simp only [go_sem,a1w,b18,a1W,a84,hts]
  refine⟨sL eS ts,ts,rfl,a0e.refl _,by omega,fun ver nx' h1 h2=>⟨_,a0g (fun p=>if p=1 then 2 else p) (l:=[(6,.ow 0 (nx'+1) 1)]) (r:=[(0,b18 (nx'+1) ver (a3E [] k ts)),(1,a05 ver 9 eS (a3U (a3E [] k ts)))]) (sz:=47) (top:=2) (nx:=nx'+1+1) (df:=[]) ?_,?_⟩⟩
  ·rw [a2k h0]
   simp only [go_sem,a1w,b18]
   exact⟨a0a.sl rfl (b59 rfl rfl),a0a.refl _⟩
  ·simp only [go_sem,a1w]
   have:=hK (nx'+1) ver (nx'+1+1) (.inr (by omega)) (.inr h1) (by omega)
   rwa [show (a3E [] k ts).length=1 by rw [a2k h0];rfl] at this
 ·rw [List.concat_eq_append] at hms
  subst hms
  have e1:(((m.length+1:Nat):Int)-1)=(m.length:Int):=by omega
  have e2:(0<=(m.length:Int))=True:=eq_true (by omega)
  refine AW.of hΓ mixed [99999] _ _ _ rfl ?_
  simp only [go_sem,a1w,b18,a1W,a84,b1B,a5p,hts,e1,e2]
  have hlm:m.length+1<100000000:=by simpa using hl
  rw [a2Z] at ht
  refine⟨by omega,by omega,by omega,fun hk=>⟨by omega,by omega,⟨by rw [a2Z],by omega⟩,by omega,by omega,?_⟩,fun hk=>?_⟩
  ·refine⟨_,a0g (fun p=>p) (l:=[(6,.ow 0 v (m.length+1))]) (r:=[(0,b18 v nx (a3E (m++[s]) k ts)),(1,a05 nx 9 eS (a3U (a3E (m++[s]) k ts)))]) (sz:=47) (top:=2) (nx:=nx+1) (df:=[]) ?_,?_⟩
   ·rw [a4g h0 hk,a2Z,a2Z]
    simp only [go_sem,a1w,b18]
    refine⟨a0a.sl rfl (b8L hk),?_⟩
    exact b3c (E:=eS) rfl rfl rfl rfl (by simp) fun i hi j hj=>a0e.refl _
   ·simp only [go_sem,a1w]
    have:=hK v nx (nx+1) (.inl rfl) (.inr (Nat.le_refl _)) (by omega)
    rwa [show (a3E (m++[s]) k ts).length=m.length+1 by rw [a4g h0 hk];simp] at this
  ·refine⟨sL eS ts,ts,rfl,a0e.refl _,by omega,fun ver nx' h1 h2=>⟨by omega,_,(a1g.freeze 1 tv 9 1 (a3U (m++[s])).length (fun i=>eS.enc ((a3U (m++[s])).getD i [])) rfl fun i _ j _=>rfl).trans (a0g (fun p=>if p=1 then 2 else p) (l:=[(6,.ow 0 (nx'+1) (m.length+1+1))]) (r:=[(0,b18 (nx'+1) ver (a3E (m++[s]) k ts)),(1,a05 ver 9 eS (a3U (a3E (m++[s]) k ts)))]) (sz:=47) (top:=2) (nx:=nx'+1+1) (df:=[]) ?_),?_⟩⟩
   ·rw [a5K h0 hk,a2Z (m:=m++[s])]
    simp only [go_sem,a1w,b18]
    exact⟨a0a.sl rfl (c3f rfl rfl),a0a.refl _⟩
   ·simp only [go_sem,a1w]
    have:=hK (nx'+1) ver (nx'+1+1) (.inr (by omega)) (.inr h1) (by omega)
    rwa [show (a3E (m++[s]) k ts).length=m.length+1+1 by rw [a5K h0 hk];simp] at this
end Go.Proofs.YthpjjjnbkfnghaaGreatDoor
namespace Go.Proofs.YthpjjjnbkfnghaaGreatDoor
def rgt (a b:List Int):Int->Int->List (Int×Int)->Bool
 | _,_,[]=>true
 | u,v,p::l=>decide (u<p.1/\v<p.2/\p.1<a.length/\p.2<b.length/\a.getD p.1.toNat 0=b.getD p.2.toNat 0)&&rgt a b p.1 p.2 l
end Go.Proofs.YthpjjjnbkfnghaaGreatDoor
set_option maxRecDepth 100000
set_option maxHeartbeats 2000000
namespace Go.Proofs.YthpjjjnbkfnghaaGreatDoor
open Go
attribute [local irreducible] AW a0e a1g a0a
theorem a6Z:(eP eI eI).sz=2:=rfl
theorem pp0 (p:Int×Int):(eP eI eI).enc p 0=.val (.int .i64 p.1):=rfl
theorem pp1 (p:Int×Int):(eP eI eI).enc p 1=.val (.int .i64 p.2):=rfl
def a1S:a0s:=a0s.f3 (kL eI) (kL eI) (kL (eP eI eI)) (fun a b l=>a.length<100000000/\b.length<100000000/\l.length<100000000) (fun a b l=>kB.enc (rgt a b (-1) (-1) l))
theorem b8m:a0d Tryz.prog 81 a1S:=by
 refine a0d.f3 Tryz.func81 rfl (by decide) Tryz.results81 Tryz.ntmps81 (by decide) fun a b l ⟨ha,hb,hl⟩=>?_
 have hΓ:GOK Tryz.prog (gam []):=GOK.nil
 refine AW.of hΓ mixed [] _ _ _ rfl ?_
 simp only [go_sem,a6Z]
 refine AW.round (α:={ x:Nat×Int×Int×Nat // x.1<=l.length/\rgt a b (-1) (-1) l=rgt a b x.2.1 x.2.2.1 (l.drop x.1)/\-1<=x.2.1/\-1<=x.2.2.1 })
  (fun x=>⟨[(0,sL eI a),(1,sL eI b),(7,.pt 0 0 0),(12,sL (eP eI eI) l),(13,.val (.int .i64 l.length)),(14,.val (.int .i64 x.1.1))],[(0,.box 0 129 2 fun j=>if j=0 then .val (.int .i64 x.1.2.1) else .val (.int .i64 x.1.2.2.1))],61,1,x.1.2.2.2,[]⟩) (fun x=>l.length-x.1.1) ⟨(0,-1,-1,1),Nat.zero_le _,rfl,Int.le_refl _,Int.le_refl _⟩ ?_ ?_
 ·simp only [go_sem]
  refine a0a.box fun j hj=>a0e.of_eq ?_
  match j,hj with
  | 0,_=>rfl
  | 1,_=>rfl
 ·rintro⟨⟨i,u,v,nx⟩,hi,hr,hu,hv⟩
  simp only at hi hr hu hv
  refine AW.of hΓ mixed [4,99999] _ _ _ rfl ?_
  simp only [go_sem,a6Z]
  refine⟨fun hlt=>?_,fun hge=>?_⟩
  ·obtain⟨x,y,hxy⟩:∃ x y,l.getD i (0,0)=(x,y):=⟨_,_,rfl⟩
   have hd:l.drop i=(x,y)::l.drop (i+1):=by
    rw [List.drop_eq_getElem_cons (by omega),<-a1e l (0,0) (by omega),hxy]
   rw [hd,rgt] at hr
   dsimp only at hr
   refine⟨by omega,?_⟩
   refine AW.cut ⟨[(0,sL eI a),(1,sL eI b),(7,.pt 0 0 0),(9,.pt 1 nx 0),(12,sL (eP eI eI) l),(13,.val (.int .i64 l.length)),(14,.val (.int .i64 i))],[(0,.box 0 129 2 fun j=>if j=0 then .val (.int .i64 u) else .val (.int .i64 v)),(1,.box nx 129 2 fun j=>if j=0 then .val (.int .i64 x) else .val (.int .i64 y))],61,2,nx+1,[]⟩ ?_ ?_
   ·simp only [go_sem]
    refine⟨a0a.refl _,a0a.box fun j hj=>a0e.of_eq ?_⟩
    match j,hj with
    | 0,_=>show (eP eI eI).enc (l.getD i (0,0)) 0=_;rw [hxy];rfl
    | 1,_=>show (eP eI eI).enc (l.getD i (0,0)) 1=_;rw [hxy];rfl
   ·refine AW.of hΓ mixed [99999] _ _ _ rfl ?_
    simp only [go_sem]
    by_cases c:u<x/\v<y/\x<a.length/\y<b.length
    ·obtain⟨c1,c2,c3,c4⟩:=c
     have c5:¬(a.length:Int)<=x:=by omega
     have c6:¬(b.length:Int)<=y:=by omega
     simp only [c1,c2,c3,c4,c5,c6,decide_true,decide_false,Bool.and_true,Bool.not_true,Bool.or_false,Bool.not_false,true_and,false_implies,forall_const] at hr ⊢
     simp only [Bool.false_or,decide_eq_true_eq,decide_eq_false_iff_not,Decidable.not_not]
     refine⟨⟨by omega,trivial⟩,⟨by omega,trivial⟩,fun h=>?_,fun h=>⟨by omega,⟨(i+1,x,y,nx+1),by dsimp only;omega,?_,by dsimp only;omega,by dsimp only;omega⟩,⟨Nat.le_refl _,rfl,b1K⟩,by dsimp only;omega⟩⟩
     ·rw [hr,decide_eq_false h,Bool.false_and]
     ·rw [hr,decide_eq_true h,Bool.true_and]
    ·have d:(!(decide (u<x)&&decide (v<y))||decide ((a.length:Int)<=x)||decide ((b.length:Int)<=y))=true:=by
      cases h:(!(decide (u<x)&&decide (v<y))||decide ((a.length:Int)<=x)||decide ((b.length:Int)<=y)) with
      | true=>rfl
      | false=>
        simp only [Bool.or_eq_false_iff,Bool.not_eq_false',Bool.and_eq_true,decide_eq_true_eq,decide_eq_false_iff_not] at h
        omega
     have hr2:rgt a b (-1) (-1) l=false:=by
      rw [hr,decide_eq_false (fun h=>c ⟨h.1,h.2.1,h.2.2.1,h.2.2.2.1⟩),Bool.false_and]
     refine⟨fun h=>by rw [h];rfl,fun h=>by rw [h];rfl,fun h=>by rw [d] at h;exact absurd h (by decide),fun h=>by rw [d] at h;exact absurd h (by decide),fun h=>by rw [d] at h;exact absurd h (by decide),fun _=>hr2.symm,fun h=>by rw [d,Bool.true_or] at h;exact absurd h (by decide)⟩
  ·obtain rfl:i=l.length:=by omega
   rw [List.drop_length] at hr
   exact hr.symm
theorem d6s:(eP eI eI).dflt=((0:Int),(0:Int)):=rfl
end Go.Proofs.YthpjjjnbkfnghaaGreatDoor
set_option maxRecDepth 100000
namespace Go.Proofs.YthpjjjnbkfnghaaGreatDoor
open Go
attribute [local irreducible] AW a0e a1g a0a
def a0u:a0s:=a0s.f1 (kL (eL eS)) (fun l=>l.length<=1000000/\∀ f∈l,f.length<=10000000) (fun l=>sL (eL eI) (a2x [] l))
theorem c2L (ks:List (List UInt8)) (fs:List (List (List UInt8))) (f:List (List UInt8)):a2x ks (fs++[f])=a2x ks fs++[(a2q (fs.foldl (fun k f=>(a2q k f).1) ks) f).2]:=by
 rw [b7m];rfl
theorem a2Q {α:Type} (l:List α) (d:α) {i:Nat} (h:i<l.length):l.take (i+1)=l.take i++[l.getD i d]:=by
 rw [List.take_add_one,a1e _ _ h];simp [h]
theorem c05 (ks f:List (List UInt8)) {k:Nat} (h:k<f.length):a2q ks (f.take (k+1)) =
  (if f.getD k []∈(a2q ks (f.take k)).1 then (a2q ks (f.take k)).1 else (a2q ks (f.take k)).1++[f.getD k []],(a2q ks (f.take k)).2++[((a2q ks (f.take k)).1.idxOf (f.getD k []):Int)]):=by
 rw [a2Q f [] h,b7e]
 simp [a2q]
theorem b3e:a0d Tryz.prog 27 a0u:=by
 refine a0d.f1 Tryz.func27 rfl (by decide) Tryz.results27 Tryz.ntmps27 (by decide) fun fs ⟨hl,hf⟩=>?_
 have hΓ:GOK Tryz.prog (gam []):=GOK.nil
 refine AW.of hΓ mixed [] _ _ _ rfl ?_
 simp only [go_sem]
 refine⟨by omega,?_⟩
 refine AW.round (α:={ x:Nat×Nat×Nat // x.1<=fs.length/\x.2.1<x.2.2 })
  (fun x=>⟨[(3,.mp 0 0),(4,.ow 1 x.1.2.1 x.1.1),(16,sL (eL eS) fs),(17,.val (.int .i64 fs.length)),(18,.val (.int .i64 x.1.1))],
   [(0,.mp 0 true ((fs.take x.1.1).foldl (fun k f=>(a2q k f).1) []).length (c3H ((fs.take x.1.1).foldl (fun k f=>(a2q k f).1) []))),(1,a05 x.1.2.1 63 (eL eI) (a2x [] (fs.take x.1.1)))],55,2,x.1.2.2,[]⟩) (fun x=>fs.length-x.1.1) ⟨(0,1,2),by simp⟩ ?_ ?_
 ·simp only [go_sem]
  refine⟨a0a.of_eq ?_,a8V rfl⟩
  simp [c3H]
  funext k
  cases k<;>simp [c3H]
 ·rintro⟨⟨i,v,nx⟩,hi,hv⟩
  simp only at hi hv
  refine AW.of hΓ mixed [7] _ _ _ rfl ?_
  simp only [go_sem]
  refine⟨fun hil=>?_,fun hil=>?_⟩
  ·have hlt:i<fs.length:=by omega
   have hfi:=hf _ (a1e fs [] hlt▸List.getElem_mem hlt)
   generalize hfe:fs.getD i []=f at *
   generalize hke:(fs.take i).foldl (fun k f=>(a2q k f).1) []=ks0
   refine⟨by omega,by omega,?_⟩
   refine AW.to (fun x:{ x:Nat // nx<x }=>Sh.st ⟨[(3,.mp 0 0),(4,.ow 1 v i),(7,sL eI (a2q ks0 f).2),(16,sL (eL eS) fs),(17,.val (.int .i64 fs.length)),(18,.val (.int .i64 i))],
    [(0,.mp 0 true (a2q ks0 f).1.length (c3H (a2q ks0 f).1)),(1,a05 v 63 (eL eI) (a2x [] (fs.take i)))],55,3,x.1,[]⟩) ?_ ?_
   ·refine AW.block (AW.round (α:={ x:Nat×Nat×Nat // x.1<=f.length/\x.2.1<x.2.2/\nx<x.2.2 })
     (fun x=>⟨[(3,.mp 0 0),(4,.ow 1 v i),(7,.ow 2 x.1.2.1 x.1.1),(16,sL (eL eS) fs),(17,.val (.int .i64 fs.length)),(18,.val (.int .i64 i)),(25,sL eS f),(26,.val (.int .i64 f.length)),(27,.val (.int .i64 x.1.1))],
     [(0,.mp 0 true (a2q ks0 (f.take x.1.1)).1.length (c3H (a2q ks0 (f.take x.1.1)).1)),(1,a05 v 63 (eL eI) (a2x [] (fs.take i))),(2,a05 x.1.2.1 3 eI (a2q ks0 (f.take x.1.1)).2)],55,3,x.1.2.2,[]⟩) (fun x=>f.length-x.1.1) ⟨(0,nx,nx+1),by simp⟩ ?_ ?_)
    ·simp only [go_sem,hke]
     exact⟨a0a.of_eq (by simp [a2q]),a0a.refl _,a8V (by simp [a2q])⟩
    ·rintro⟨⟨k,u,nx'⟩,hk,hu,hnx⟩
     simp only at hk hu hnx
     have hlen:(a2q ks0 (f.take k)).2.length=k:=by rw [a3x];simp;omega
     have hkl:(a2q ks0 (f.take k)).1.length<=ks0.length+k:=by
      have:=b9B ks0 (f.take k)
      simp at this;omega
     by_cases hkf:k<f.length
     ·have hs:=c05 ks0 f hkf
      have hkc:(k:Int)<f.length:=by omega
      generalize hx:f.getD k []=x at *
      generalize (a2q ks0 (f.take k)).1=ks at *
      generalize (a2q ks0 (f.take k)).2=ns at *
      by_cases hb:x∈ks
      ·rw [if_pos hb] at hs
       refine AW.of hΓ mixed [99999] _ _ _ rfl ?_
       simp only [go_sem,hb,hx,hkc]
       refine⟨by omega,⟨by omega,by omega⟩,by omega,⟨(k+1,nx',nx'+1),by dsimp only;omega,by dsimp only;omega,by dsimp only;omega⟩,⟨Nat.le_refl _,⟨⟨rfl,rfl⟩,by dsimp only;omega⟩,?_,a0a.refl _,?_⟩,by dsimp only;omega⟩
       ·rw [hs];exact a0a.refl _
       ·rw [hs];exact a1B rfl rfl hlen.symm rfl rfl fun _ _=>a0e.refl _
      ·rw [if_neg hb] at hs
       refine AW.of hΓ mixed [99999] _ _ _ rfl ?_
       simp only [go_sem,hb,hx,hkc]
       have hidx:ks.idxOf x=ks.length:=List.idxOf_eq_length hb
       refine⟨by omega,⟨by omega,by omega⟩,by omega,⟨(k+1,nx',nx'+1),by dsimp only;omega,by dsimp only;omega,by dsimp only;omega⟩,⟨Nat.le_refl _,⟨⟨rfl,rfl⟩,by dsimp only;omega⟩,?_,a0a.refl _,?_⟩,by dsimp only;omega⟩
       ·rw [hs,b9G ks x hb];exact a0a.of_eq (by simp)
       ·rw [hs,hidx];exact a1B rfl rfl hlen.symm rfl rfl fun _ _=>a0e.refl _
     ·obtain rfl:k=f.length:=by omega
      refine AW.of hΓ mixed [99999] _ _ _ rfl ?_
      simp only [go_sem]
      have hlf:(a2q ks0 f).2.length=f.length:=a3x ks0 f
      refine⟨⟨nx',hnx⟩,a1g.trans (a1g.freeze 2 u 3 1 _ _ rfl fun _ _ _ _=>rfl) (a2D ?_)⟩
      simp only [go_sem,hlf]
      exact⟨a4H rfl rfl hlf.symm,a0a.refl _,a0a.refl _⟩
   ·rintro⟨nx',hnx⟩
    simp only [go_sem]
    have hft:fs.take (i+1)=fs.take i++[f]:=by rw [a2Q fs [] hlt,hfe]
    refine⟨⟨by rw [a3Y];simp;omega,by omega⟩,by omega,⟨(i+1,nx',nx'+1),by dsimp only;omega,by dsimp only;omega⟩,⟨Nat.le_refl _,⟨⟨rfl,rfl⟩,by dsimp only;omega⟩,?_,?_⟩,by dsimp only;omega⟩
    ·dsimp only
     rw [hft,List.foldl_append,hke]
     exact a0a.refl _
    ·dsimp only
     rw [hft,c2L,hke]
     exact a1B rfl rfl (by rw [a3Y];simp;omega) rfl (by simp [a3Y]) fun _ _=>a0e.refl _
  ·obtain rfl:i=fs.length:=by omega
   refine⟨by rw [a3Y];simp,?_⟩
   rw [List.take_length]
   exact a4H rfl rfl (by rw [a3Y])
end Go.Proofs.YthpjjjnbkfnghaaGreatDoor
set_option maxRecDepth 100000
set_option maxHeartbeats 2000000
namespace Go.Proofs.YthpjjjnbkfnghaaGreatDoor
open Go
attribute [local irreducible] AW a0e a1g a0a
def b4M:a0L:=a1F d3l
theorem d6V:a0i Tryz.prog 82 b4M:=d21.frame
theorem d0W {hp:Nat->Row} {r s:Row} (h:a0a (hp 0) r) (h2:a0a (hp 1) s):∀ (i q:Nat),[0,1][i]?=some q->a0a (hp q) (rws [(0,r),(1,s)] i):=by
 intro i q hq
 match i with
 | 0=>
   simp only [List.getElem?_cons_zero,Option.some.injEq] at hq
   subst hq
   exact h
 | 1=>
   simp only [List.getElem?_cons_succ,List.getElem?_cons_zero,Option.some.injEq] at hq
   subst hq
   exact h2
 | i+2=>simp at hq
theorem b4s {l:List (Int×List (List UInt8))} {v tv n:Nat} {k:Int} {y:AV} {ts:List (List UInt8)} {hp:Nat->Row} {top nx:Nat} {K:AV->(Nat->Row)->Nat->Nat->Prop} (hn:n=l.length) (hy:a0e y (sL eS ts))
  (hr:a0a (hp 0) (b18 v tv l)) (hr2:a0a (hp 1) (a05 tv 9 eS (a3U l))) (ht:1<top) (hl:l.length<100000000) (hl2:(a3U l).length+ts.length<1000000000)
  (hK:∀ v' tv' nx',nx<=nx'->K (.ow 0 v' (a3E l k ts).length) (a0S (a0S hp 0 (b18 v' tv' (a3E l k ts))) 1 (a05 tv' 9 eS (a3U (a3E l k ts)))) top nx') :
  b4M [.ow 0 v n,.val (.int .i64 k),y] hp top nx K:=by
 subst hn
 have e1:(hp 0).ver=some v:=hr.vers.symm
 have e2:(hp 1).ver=some tv:=hr2.vers.symm
 refine⟨[0,1],[.ow 0 v l.length,kI.enc k,y],rws [(0,b18 v tv l),(1,a05 tv 9 eS (a3U l))],by decide,by simp;omega,.cons (a0e.refl _) (.cons (a0e.refl _) (.cons (a0e.refl _) .nil)),d0W hr hr2,fun i hi=>a1Y (top:=2) (by simp) i (by simpa using hi),l,v,tv,k,y,ts,rfl,hy,rfl,rfl,hl,hl2,fun v' tv' nx' h1 h2 h3=>?_⟩
 refine⟨_,_,a0e.refl _,fun i q hq=>?_,fun q hq=>?_,fun q hq w hv=>?_,hK v' tv' nx' h3⟩
 ·match i with
  | 0=>
    simp only [List.getElem?_cons_zero,Option.some.injEq] at hq
    subst hq
    exact a0a.refl _
  | 1=>
    simp only [List.getElem?_cons_succ,List.getElem?_cons_zero,Option.some.injEq] at hq
    subst hq
    exact a0a.refl _
  | i+2=>simp at hq
 ·simp only [List.mem_cons,List.not_mem_nil,or_false,not_or] at hq
  rw [a0f _ _ hq.2,a0f _ _ hq.1]
 ·simp only [List.mem_cons,List.not_mem_nil,or_false] at hq
  rcases hq with rfl|rfl
  ·have:some v'=some w:=hv
   obtain rfl:=Option.some.inj this
   rcases h1 with rfl|h1
   ·exact .inl e1
   ·exact .inr h1
  ·have:some tv'=some w:=hv
   obtain rfl:=Option.some.inj this
   rcases h2 with rfl|h2
   ·exact .inl e2
   ·exact .inr h2
theorem c6U (l:List (Int×List (List UInt8))) (tv:Nat):∀ i,i<l.length->∀ j,j<2->a0e (fz 1 tv (a3U l).length 1 (fun i=>eS.enc ((a3U l).getD i [])) (a7j l tv i j)) ((eP eI (eL eS)).enc (l.getD i (0,[])) j):=by
 rcases l.eq_nil_or_concat with rfl|⟨m,s,rfl⟩
 ·exact fun i hi=>absurd hi (Nat.not_lt_zero _)
 ·rw [List.concat_eq_append,a2Z]
  intro i hi j hj
  by_cases e2:i=m.length
  ·subst e2
   rw [a5p]
   match j,hj with
   | 0,_=>
     rw [a84,a5p]
     exact a0e.refl _
   | 1,_=>
     rw [b1B]
     simp only [fz,and_self,if_true,Nat.le_refl]
     exact a0e.refl _
  ·have hi2:i+1<(m++[s]).length:=by simp at hi ⊢;omega
   rw [a7F hi2]
   match j,hj with
   | 0,_=>exact a0e.refl _
   | 1,_=>exact a0e.refl _
def a1D {α:Type} (a:List α) (i j:Nat):List α:=(a.take j).drop i
def ofG (a b:List (List UInt8)):List (Int×Int)->Nat->Nat->List (Int×List (List UInt8))->List (Int×List (List UInt8))
 | [],i,k,s=>a3E (a3E s 1 (a.drop i)) 2 (b.drop k)
 | p::l,i,k,s=>ofG a b l (p.1.toNat+1) (p.2.toNat+1) (a3E (a3E (a3E s 1 (a1D a i p.1.toNat)) 2 (a1D b k p.2.toNat)) 0 (a1D a p.1.toNat (p.1.toNat+1)))
theorem a6B (l:List (Int×List (List UInt8))) (k:Int) (ts:List (List UInt8)):(a3E l k ts).length<=l.length+1:=by
 by_cases h:ts.length=0
 ·unfold a3E
  rw [if_pos h]
  omega
 ·rcases l.eq_nil_or_concat with rfl|⟨m,s,rfl⟩
  ·rw [a2k h];simp
  ·rw [List.concat_eq_append]
   by_cases hk:s.1=k
   ·rw [a4g h hk];simp
   ·rw [a5K h hk];simp
theorem a7D (l:List (Int×List (List UInt8))) (k:Int) (ts:List (List UInt8)):c4B (a3E l k ts)=c4B l+ts.length:=by
 by_cases h:ts.length=0
 ·unfold a3E
  rw [if_pos h]
  omega
 ·rcases l.eq_nil_or_concat with rfl|⟨m,s,rfl⟩
  ·rw [a2k h];simp [c4B]
  ·rw [List.concat_eq_append]
   by_cases hk:s.1=k
   ·rw [a4g h hk,a7L,a7L];simp;omega
   ·rw [a5K h hk,a7L]
theorem a9B (l:List (Int×List (List UInt8))):(a3U l).length<=c4B l:=by
 rcases l.eq_nil_or_concat with rfl|⟨m,s,rfl⟩
 ·simp [a3U]
 ·rw [List.concat_eq_append,a2Z,a7L]
  omega
theorem a2p {α:Type} (a:List α) {i j:Nat} (h:j<=a.length):(a1D a i j).length=j-i:=by simp [a1D];omega
theorem b3j {α:Type} (a:List α) (i:Nat):a1D a i a.length=a.drop i:=by simp [a1D]
theorem b5u {a:List (List UInt8)} {i j:Nat} (h:j<=a.length):a1D a i j=(List.range (j-i)).map fun t=>a.getD (i+t) []:=by
 refine a1C [] (by rw [a2p a h];simp) fun t ht=>?_
 rw [a2p a h] at ht
 simp [a1D,List.getD,ht,List.getElem?_take,show i+t<j by omega]
theorem b15 {a:List (List UInt8)} {i j:Nat} (h:j<=a.length):a0e (.sn (j-i) 1 fun t=>eS.enc (a.getD (i+t) [])) (sL eS (a1D a i j)):=
 d0A (E:=eS) (j-i) (fun t=>a.getD (i+t) []) _ (b5u h)
def b1f (a b:List (List UInt8)):List Int:=(a2x [] [a,b]).getD 0 []
def b1g (a b:List (List UInt8)):List Int:=(a2x [] [a,b]).getD 1 []
theorem a8r (a b:List (List UInt8)):(b1f a b).length=a.length:=by
 simp [b1f,a2x,a3x]
theorem a9u (a b:List (List UInt8)):(b1g a b).length=b.length:=by
 simp [b1g,a2x,a3x]
def a4a:a0s:=a0s.f3 (kL eS) (kL eS) (kL (eP eI eI)) (fun a b l=>a.length<=1000000/\b.length<=1000000/\l.length<100000000)
 (fun a b l=>if rgt (b1f a b) (b1g a b) (-1) (-1) l then tu2 (sL (eP eI (eL eS)) (ofG a b l 0 0 [])) (kI.enc 0) else tu2 .em (kI.enc 12))
theorem d8f:a0d Tryz.prog 29 a4a:=by
 refine a0d.f3 Tryz.func29 rfl (by decide) Tryz.results29 Tryz.ntmps29 (by decide) fun a b l ⟨ha,hb,hl⟩=>?_
 have hΓ:GOK Tryz.prog (gam [(27,a0u),(81,a1S),(82,b4M)]):=(.cons b3e (.cons b8m (.cons d6V .nil)))
 refine AW.of hΓ mixed [5] _ _ _ rfl ?_
 simp only [go_sem,a0u,a1S,b4M,a1W,a6Z]
 have hn2:(a2x [] [a,b]).length=2:=rfl
 have hna:=a8r a b
 have hnb:=a9u a b
 unfold b1f b1g at *
 refine⟨⟨by omega,by omega⟩,by omega,by omega,⟨by omega,by omega,hl⟩,?_⟩
 rcases hq:rgt ((a2x [] [a,b]).getD 0 []) ((a2x [] [a,b]).getD 1 []) (-1) (-1) l with _|_
 ·refine⟨fun _=>?_,fun h=>absurd h (by decide)⟩
  simp only [go_sem,a0u,a1S,b4M]
 refine⟨fun h=>absurd h (by decide),fun _=>?_⟩
 refine AW.adopt 9 86 2 (fun i=>(eP eI (eL eS)).enc (([]:List (Int×List (List UInt8))).getD i (0,[]))) rfl ?_
 refine AW.adopt 6 9 1 (fun i=>eS.enc (([]:List (List UInt8)).getD i [])) rfl ?_
 refine AW.of hΓ mixed [6,15] _ _ _ rfl ?_
 simp only [go_sem,a0u,a1S,b4M,a1W,a6Z]
 generalize hA:(a2x [] [a,b]).getD 0 []=na at *
 generalize hB:(a2x [] [a,b]).getD 1 []=nb at *
 refine AW.block (AW.round (α:={ x:Nat×Nat×Nat×List (Int×List (List UInt8))×Nat×Nat×Nat // x.1<=l.length/\x.2.1<=a.length/\x.2.2.1<=b.length/\rgt na nb ((x.2.1:Int)-1) ((x.2.2.1:Int)-1) (l.drop x.1)=true/\
   ofG a b l 0 0 []=ofG a b (l.drop x.1) x.2.1 x.2.2.1 x.2.2.2.1/\x.2.2.2.1.length<=3*x.1/\x.1<=x.2.1/\c4B x.2.2.2.1<=x.2.1+x.2.2.1 })
  (fun x=>⟨[(0,sL eS a),(1,sL eS b),(9,.ow 0 x.1.2.2.2.2.1 x.1.2.2.2.1.length),(10,.val (.int .i64 x.1.2.1)),(11,.val (.int .i64 x.1.2.2.1)),(27,sL (eP eI eI) l),(28,.val (.int .i64 l.length)),(29,.val (.int .i64 x.1.1))],
   [(0,b18 x.1.2.2.2.2.1 x.1.2.2.2.2.2.1 x.1.2.2.2.1),(1,a05 x.1.2.2.2.2.2.1 9 eS (a3U x.1.2.2.2.1))],74,2,x.1.2.2.2.2.2.2,[]⟩) (fun x=>l.length-x.1.1) ⟨(0,0,0,[],0,1,2),Nat.zero_le _,Nat.zero_le _,Nat.zero_le _,by simpa using hq,rfl,by simp,by simp,by simp [c4B]⟩ ?_ ?_)
 ·simp only [go_sem,a0u,a1S,b4M,b18]
  exact⟨a0a.sl rfl fun i hi=>absurd hi (Nat.not_lt_zero _),a0a.sl rfl fun i hi=>absurd hi (Nat.not_lt_zero _)⟩
 ·rintro⟨⟨i,u,w,s,v,tv,nx⟩,hi,hu,hw,hr,he,hs1,hs2,hs3⟩
  simp only at hi hu hw hr he hs1 hs2 hs3
  have hlt:=a9B s
  refine AW.of hΓ mixed [8,15,99999] _ _ _ rfl ?_
  simp only [go_sem,a0u,a1S,b4M,a6Z,pp0,pp1,d6s]
  refine⟨fun hil=>?_,fun hil=>?_⟩
  ·obtain⟨x,y,hxy⟩:∃ x y,l.getD i (0,0)=(x,y):=⟨_,_,rfl⟩
   have hd:l.drop i=(x,y)::l.drop (i+1):=by
    rw [List.drop_eq_getElem_cons (by omega),<-a1e l (0,0) (by omega),hxy]
   rw [hd,rgt] at hr
   rw [hd,ofG] at he
   simp only [Bool.and_eq_true,decide_eq_true_eq] at hr
   dsimp only at he
   obtain⟨⟨c1,c2,c3,c4,_⟩,hr⟩:=hr
   refine⟨by omega,?_⟩
   refine AW.cut ⟨[(0,sL eS a),(1,sL eS b),(9,.ow 0 v s.length),(10,.val (.int .i64 u)),(11,.val (.int .i64 w)),(13,.pt 2 nx 0),(27,sL (eP eI eI) l),(28,.val (.int .i64 l.length)),(29,.val (.int .i64 i))],
    [(0,b18 v tv s),(1,a05 tv 9 eS (a3U s)),(2,.box nx 129 2 fun j=>if j=0 then .val (.int .i64 x) else .val (.int .i64 y))],74,3,nx+1,[]⟩ ?_ ?_
   ·simp only [go_sem]
    refine⟨a0a.refl _,a0a.refl _,a0a.box fun j hj=>a0e.of_eq ?_⟩
    match j,hj with
    | 0,_=>show (eP eI eI).enc (l.getD i (0,0)) 0=_;rw [hxy];rfl
    | 1,_=>show (eP eI eI).enc (l.getD i (0,0)) 1=_;rw [hxy];rfl
   ·obtain⟨p,rfl⟩:∃ p:Nat,x=p:=⟨x.toNat,by omega⟩
    obtain⟨q,rfl⟩:∃ q:Nat,y=q:=⟨y.toNat,by omega⟩
    simp only [Int.toNat_natCast] at he
    have g1:=a2p a (i:=u) (j:=p) (by omega)
    have g2:=a2p b (i:=w) (j:=q) (by omega)
    have g3:=a2p a (i:=p) (j:=p+1) (by omega)
    have k1:=a6B s 1 (a1D a u p)
    have j1:=a7D s 1 (a1D a u p)
    refine AW.of hΓ mixed [99999] _ _ _ rfl ?_
    simp only [go_sem,a0u,a1S,b4M]
    refine⟨by omega,b4s rfl (b15 (a:=a) (by omega)) (a0a.refl _) (a0a.refl _) (by decide) (by omega) (by omega) fun v1 tv1 n1 h1=>?_⟩
    generalize a3E s 1 (a1D a u p)=s1 at *
    have l1:=a9B s1
    have k2:=a6B s1 2 (a1D b w q)
    have j2:=a7D s1 2 (a1D b w q)
    simp only [go_sem,a0u,a1S,b4M]
    refine⟨by omega,b4s rfl (b15 (a:=b) (by omega)) (a0a.refl _) (a0a.refl _) (by decide) (by omega) (by omega) fun v2 tv2 n2 h2=>?_⟩
    generalize a3E s1 2 (a1D b w q)=s2 at *
    have l2:=a9B s2
    have k3:=a6B s2 0 (a1D a p (p+1))
    have j3:=a7D s2 0 (a1D a p (p+1))
    simp only [go_sem,a0u,a1S,b4M]
    refine⟨by omega,by omega,b4s rfl (b15 (a:=a) (by omega)) (a0a.refl _) (a0a.refl _) (by decide) (by omega) (by omega) fun v3 tv3 n3 h3=>?_⟩
    generalize a3E s2 0 (a1D a p (p+1))=s3 at *
    simp only [go_sem,a0u,a1S,b4M,b18]
    refine⟨by omega,by omega,by omega,⟨(i+1,p+1,q+1,s3,v3,tv3,n3),by dsimp only;omega,by dsimp only;omega,by dsimp only;omega,?_,he,by dsimp only;omega,by dsimp only;omega,by dsimp only;omega⟩,?_,by dsimp only;omega⟩
    ·dsimp only
     rw [show ((p+1:Nat):Int)-1=(p:Int) by omega,show ((q+1:Nat):Int)-1=(q:Int) by omega]
     exact hr
    ·exact⟨Nat.le_refl _,⟨⟨rfl,rfl⟩,by dsimp only;omega,by dsimp only;omega,by dsimp only;omega⟩,a0a.refl _,a0a.refl _⟩
  ·obtain rfl:i=l.length:=by omega
   have g1:=a2p a (i:=u) (j:=a.length) (by omega)
   have g2:=a2p b (i:=w) (j:=b.length) (by omega)
   have k1:=a6B s 1 (a1D a u a.length)
   have j1:=a7D s 1 (a1D a u a.length)
   rw [List.drop_length,ofG,<-b3j a,<-b3j b] at he
   refine⟨by omega,b4s rfl (b15 (a:=a) (Nat.le_refl _)) (a0a.refl _) (a0a.refl _) (by decide) (by omega) (by omega) fun v1 tv1 n1 h1=>?_⟩
   generalize a3E s 1 (a1D a u a.length)=s1 at *
   have l1:=a9B s1
   have k2:=a6B s1 2 (a1D b w b.length)
   have j2:=a7D s1 2 (a1D b w b.length)
   simp only [go_sem,a0u,a1S,b4M]
   refine⟨by omega,b4s rfl (b15 (a:=b) (Nat.le_refl _)) (a0a.refl _) (a0a.refl _) (by decide) (by omega) (by omega) fun v2 tv2 n2 h2=>?_⟩
   generalize a3E s1 2 (a1D b w b.length)=s2 at *
   simp only [go_sem,a0u,a1S,b4M]
   refine AW.freeze 1 tv2 9 1 (a3U s2).length (fun i=>eS.enc ((a3U s2).getD i [])) rfl (fun _ _ _ _=>rfl) ?_
   refine AW.cut ⟨[(9,.ow 0 v2 s2.length)],[(0,a05 v2 86 (eP eI (eL eS)) s2)],74,2,n2,[]⟩ ?_ ?_
   ·simp only [go_sem,a0u,a1S,b4M,a1W,b18]
    exact a0a.sl rfl (c6U s2 tv2)
   ·refine AW.of hΓ mixed [] _ _ _ rfl ?_
    simp only [go_sem,a0u,a1S,b4M,a1W]
    rw [he]
    exact⟨fun i hi=>⟨rfl,rfl⟩,a0e.refl _⟩
end Go.Proofs.YthpjjjnbkfnghaaGreatDoor
set_option maxRecDepth 100000
set_option maxHeartbeats 2000000
namespace Go.Proofs.YthpjjjnbkfnghaaGreatDoor
open Go
attribute [local irreducible] AW a0e a1g a0a
theorem c09 {a:List (List UInt8)} {i j:Nat} (h:i<=j) (hj:j<a.length):a1D a i (j+1)=a1D a i j++[a.getD j []]:=by
 unfold a1D
 rw [a1h a [] hj,List.drop_append_of_le_length (by simp;omega)]
theorem b3J {a:List (List UInt8)} {i:Nat}:a1D a i i=[]:=by
 unfold a1D
 exact List.drop_eq_nil_of_le (by simp;omega)
end Go.Proofs.YthpjjjnbkfnghaaGreatDoor
namespace Go.Proofs.YthpjjjnbkfnghaaGreatDoor
theorem b4O:∀ (l ks:List (List UInt8)),∃ m,(a2q ks l).1=ks++m
 | [],ks=>⟨[],by simp [a2q]⟩
 | x::l,ks=>by
   obtain⟨m,hm⟩:=b4O l (if x∈ks then ks else ks++[x])
   by_cases h:x∈ks
   ·rw [if_pos h] at hm
    exact⟨m,by simp only [a2q];rw [if_pos h];exact hm⟩
   ·rw [if_neg h] at hm
    exact⟨[x]++m,by simp only [a2q];rw [if_neg h,hm,List.append_assoc]⟩
theorem c0s:∀ (l ks:List (List UInt8)) (i:Nat),i<l.length->l.getD i []∈(a2q ks l).1/\(a2q ks l).2.getD i 0=((a2q ks l).1.idxOf (l.getD i []):Int)
 | x::l,ks,0,_=>by
   obtain⟨m,hm⟩:=b4O l (if x∈ks then ks else ks++[x])
   simp only [a2q,List.getD_cons_zero]
   rw [hm]
   by_cases h:x∈ks
   ·rw [if_pos h]
    exact⟨List.mem_append_left _ h,by rw [List.idxOf_append,if_pos h]⟩
   ·rw [if_neg h]
    refine⟨by simp,?_⟩
    rw [List.append_assoc,List.idxOf_append,if_neg h,List.idxOf_eq_length h]
    simp
 | x::l,ks,i+1,h=>by
   simp only [a2q,List.getD_cons_succ]
   exact c0s l _ i (by simpa using h)
theorem d2R {a b:List (List UInt8)} {p q:Nat} (hp:p<a.length) (hq:q<b.length) (h:(b1f a b).getD p 0=(b1g a b).getD q 0):a.getD p []=b.getD q []:=by
 obtain⟨h1,h2⟩:=c0s a [] p hp
 obtain⟨h3,h4⟩:=c0s b (a2q [] a).1 q hq
 have e1:b1f a b=(a2q [] a).2:=rfl
 have e2:b1g a b=(a2q (a2q [] a).1 b).2:=rfl
 rw [e1,e2,h2,h4] at h
 obtain⟨m,hm⟩:=b4O b (a2q [] a).1
 have h5:(a2q (a2q [] a).1 b).1.idxOf (a.getD p [])=(a2q [] a).1.idxOf (a.getD p []):=by rw [hm,List.idxOf_append,if_pos h1]
 have h6:a.getD p []∈(a2q (a2q [] a).1 b).1:=by rw [hm];exact List.mem_append_left _ h1
 rw [<-h5] at h
 have h7:(a2q (a2q [] a).1 b).1.idxOf (a.getD p [])=(a2q (a2q [] a).1 b).1.idxOf (b.getD q []):=by omega
 have g1:=List.getElem_idxOf (List.idxOf_lt_length_of_mem h6)
 have g2:=List.getElem_idxOf (List.idxOf_lt_length_of_mem h3)
 rw [<-g1,<-g2]
 simp only [h7]
theorem a7Q (s:List (Int×List (List UInt8))) (k j:Int) (ts:List (List UInt8)):a0O j (a3E s k ts)=a0O j s++if k=j then [] else ts:=by
 by_cases h:ts.length=0
 ·obtain rfl:=List.length_eq_zero_iff.1 h
  rw [b24]
  simp
 ·rcases s.eq_nil_or_concat with rfl|⟨m,x,rfl⟩
  ·rw [a2k h]
   simp [a0O]
  ·rw [List.concat_eq_append]
   by_cases hk:x.1=k
   ·rw [a4g h hk,a48,a48,hk]
    by_cases e:k=j
    ·simp [e]
    ·simp [e]
   ·rw [a5K h hk,a48]
theorem a38 (s:List (Int×List (List UInt8))) (k j:Int) (ts:List (List UInt8)):a0G j (a3E s k ts)=a0G j s+if k=j then ts.length else 0:=by
 by_cases h:ts.length=0
 ·obtain rfl:=List.length_eq_zero_iff.1 h
  rw [b24]
  simp
 ·rcases s.eq_nil_or_concat with rfl|⟨m,x,rfl⟩
  ·rw [a2k h]
   by_cases e:k=j
   ·simp [a0G,e]
   ·simp [a0G,e]
  ·rw [List.concat_eq_append]
   by_cases hk:x.1=k
   ·rw [a4g h hk,a5A,a5A,hk]
    by_cases e:k=j
    ·simp [e];omega
    ·simp [e]
   ·rw [a5K h hk,a5A]
theorem b4C {α:Type} (a:List α) {i j:Nat} (h:i<=j):a1D a i j++a.drop j=a.drop i:=by
 unfold a1D
 rw [List.drop_take]
 have:a.drop j=(a.drop i).drop (j-i):=by rw [List.drop_drop];congr 1;omega
 rw [this,List.take_append_drop]
theorem b6Z {a:List (List UInt8)} {i:Nat} (h:i<a.length):a.drop i=a.getD i []::a.drop (i+1):=by
 rw [List.drop_eq_getElem_cons h,<-a1e a [] h]
theorem b6S {a:List (List UInt8)} {i:Nat} (h:i<a.length):a1D a i (i+1)=[a.getD i []]:=by rw [c09 (Nat.le_refl _) h,b3J,List.nil_append]
theorem b60 {a b:List (List UInt8)}:∀ (l:List (Int×Int)) (u w:Nat) (s:List (Int×List (List UInt8))),u<=a.length->w<=b.length->rgt (b1f a b) (b1g a b) ((u:Int)-1) ((w:Int)-1) l=true->
  a0O 2 (ofG a b l u w s)=a0O 2 s++a.drop u/\a0O 1 (ofG a b l u w s)=a0O 1 s++b.drop w/\a0G 0 (ofG a b l u w s)=a0G 0 s+l.length/\
   a0G 0 (ofG a b l u w s)+a0G 1 (ofG a b l u w s)=a0G 0 s+a0G 1 s+(a.length-u)/\a0G 0 (ofG a b l u w s)+a0G 2 (ofG a b l u w s)=a0G 0 s+a0G 2 s+(b.length-w)
 | [],u,w,s,hu,hw,_=>by
   refine⟨?_,?_,?_,?_,?_⟩
   ·simp [ofG,a7Q]
   ·simp [ofG,a7Q]
   ·simp [ofG,a38]
   ·simp [ofG,a38];omega
   ·simp [ofG,a38];omega
 | (x,y)::l,u,w,s,hu,hw,h=>by
   rw [rgt] at h
   simp only [Bool.and_eq_true,decide_eq_true_eq] at h
   obtain⟨⟨c1,c2,c3,c4,c5⟩,h⟩:=h
   obtain⟨p,rfl⟩:∃ p:Nat,x=p:=⟨x.toNat,by omega⟩
   obtain⟨q,rfl⟩:∃ q:Nat,y=q:=⟨y.toNat,by omega⟩
   rw [a8r] at c3
   rw [a9u] at c4
   have hp:p<a.length:=by omega
   have hq:q<b.length:=by omega
   simp only [Int.toNat_natCast] at c5
   have he:=d2R hp hq c5
   obtain⟨i1,i2,i3,i4,i5⟩:=b60 (a:=a) (b:=b) l (p+1) (q+1) (a3E (a3E (a3E s 1 (a1D a u p)) 2 (a1D b w q)) 0 (a1D a p (p+1))) (by omega) (by omega) (by
    rw [show ((p+1:Nat):Int)-1=(p:Int) by omega,show ((q+1:Nat):Int)-1=(q:Int) by omega];exact h)
   rw [ofG]
   simp only [Int.toNat_natCast]
   have g1:=a2p a (i:=u) (j:=p) (by omega)
   have g2:=a2p b (i:=w) (j:=q) (by omega)
   rw [i4,i5,i1,i2,i3]
   rw [b6S hp]
   refine⟨?_,?_,?_,?_,?_⟩
   ·simp only [a7Q]
    rw [<-b4C a (i:=u) (j:=p) (by omega),b6Z hp]
    simp
   ·simp only [a7Q]
    rw [<-b4C b (i:=w) (j:=q) (by omega),b6Z hq,he]
    simp
   ·simp only [a38,List.length_cons]
    simp
    omega
   ·simp only [a38]
    simp
    omega
   ·simp only [a38]
    simp
    omega
theorem d3R {a b:List (List UInt8)} {l:List (Int×Int)} (h:rgt (b1f a b) (b1g a b) (-1) (-1) l=true) :
  a0O 2 (ofG a b l 0 0 [])=a/\a0O 1 (ofG a b l 0 0 [])=b/\a0G 0 (ofG a b l 0 0 [])=l.length/\a0G 0 (ofG a b l 0 0 [])+a0G 1 (ofG a b l 0 0 [])=a.length/\a0G 0 (ofG a b l 0 0 [])+a0G 2 (ofG a b l 0 0 [])=b.length:=by
 have:=b60 (a:=a) (b:=b) l 0 0 [] (Nat.zero_le _) (Nat.zero_le _) h
 simpa [a0O,a0G] using this
def hk:List (Int×List (List UInt8))->Int
 | []=>-1
 | t::_=>t.1
theorem a3k {s:Int×List (List UInt8)}:∀ {l:List (Int×List (List UInt8))},¬(s.1=1/\hk l=2)->a2L (s::l)=a5t s::a2L l
 | [],_=>rfl
 | t::l,h=>by
   rw [a2L]
   exact if_neg h
theorem a8I {s t:Int×List (List UInt8)} {l:List (Int×List (List UInt8))} (h:s.1=1) (h2:t.1=2):a2L (s::t::l)=a5t t::a5t s::a2L l:=by
 rw [a2L,if_pos ⟨h,h2⟩]
theorem d3z (k:Int):a9o (a9o k)=k:=by
 unfold a9o
 by_cases h:k=1
 ·subst h;rfl
 ·by_cases h2:k=2
  ·subst h2;rfl
  ·rw [if_neg h,if_neg h2,if_neg h,if_neg h2]
theorem a89 (s:Int×List (List UInt8)):a5t (a5t s)=s:=by
 unfold a5t
 rw [d3z]
theorem a73 {k:Int}:a9o k=1↔k=2:=by
 unfold a9o
 by_cases h:k=1
 ·subst h;simp
 ·by_cases h2:k=2
  ·subst h2;simp
  ·rw [if_neg h,if_neg h2];simp [h,h2]
theorem a7V {k:Int}:a9o k=2↔k=1:=by
 unfold a9o
 by_cases h:k=1
 ·subst h;simp
 ·by_cases h2:k=2
  ·subst h2;simp
  ·rw [if_neg h,if_neg h2];simp [h,h2]
theorem a1P (j:Int) (s:Int×List (List UInt8)) (l:List (Int×List (List UInt8))):a0O j (s::l)=(if s.1=j then [] else s.2)++a0O j l:=rfl
theorem a7H:∀ (n:Nat) (l:List (Int×List (List UInt8))),l.length<=n->a0O 2 (a2L l)=a0O 1 l/\a0O 1 (a2L l)=a0O 2 l/\(a2L l).length=l.length/\∀ x∈a2L l,a5t x∈l
 | _,[],_=>⟨rfl,rfl,rfl,fun x hx=>by cases hx⟩
 | 0,s::l,h=>by simp at h
 | n+1,s::l,h=>by
   by_cases c:s.1=1/\hk l=2
   ·match l,c,h with
    | t::l,⟨c1,c2⟩,h=>
      have c2:t.1=2:=c2
      obtain⟨i1,i2,i3,i4⟩:=a7H n l (by simp at h;omega)
      rw [a8I c1 c2]
      have e1:(a5t s).1=2:=a7V.2 c1
      have e2:(a5t t).1=1:=a73.2 c2
      refine⟨?_,?_,by simp [i3],fun x hx=>?_⟩
      ·simp only [a1P,e1,e2,c1,c2,i1]
       rfl
      ·simp only [a1P,e1,e2,c1,c2,i2]
       simp [a5t]
      ·rcases List.mem_cons.1 hx with rfl|hx
       ·rw [a89];simp
       ·rcases List.mem_cons.1 hx with rfl|hx
        ·rw [a89];simp
        ·exact List.mem_cons_of_mem _ (List.mem_cons_of_mem _ (i4 x hx))
   ·obtain⟨i1,i2,i3,i4⟩:=a7H n l (by simp at h;omega)
    rw [a3k c]
    refine⟨?_,?_,by simp [i3],fun x hx=>?_⟩
    ·simp only [a1P,i1]
     congr 1
     show (if a9o s.1=2 then [] else s.2)=_
     simp only [a7V]
    ·simp only [a1P,i2]
     congr 1
     show (if a9o s.1=1 then [] else s.2)=_
     simp only [a73]
    ·rcases List.mem_cons.1 hx with rfl|hx
     ·rw [a89];simp
     ·exact List.mem_cons_of_mem _ (i4 x hx)
theorem c34 {l:List (Int×List (List UInt8))} (h:hk l=0):hk (a2L l)=0:=by
 match l,h with
 | s::l,h=>
   have h:s.1=0:=h
   rw [a3k (fun c=>by omega)]
   show a9o s.1=0
   rw [h]
   rfl
theorem b37 {x y:Int}:a6R x y=true↔x≠y/\¬(x=2/\y=1):=by
 unfold a6R
 by_cases h1:x=2<;>by_cases h2:y=1<;>simp [h1,h2]
theorem b8S {s:Int×List (List UInt8)}:b1t s=true↔(s.1=0\/s.1=1\/s.1=2)/\s.2.length≠0:=by
 unfold b1t
 rw [decide_eq_true_eq]
 omega
theorem a0z {k:Int} {s:Int×List (List UInt8)} {l:List (Int×List (List UInt8))}:a0I k (s::l)=true↔((s.1=0\/s.1=1\/s.1=2)/\s.2.length≠0)/\(k≠s.1/\¬(k=2/\s.1=1))/\a0I s.1 l=true:=by
 rw [a0I,Bool.and_eq_true,Bool.and_eq_true,b8S,b37]
theorem b0i {k:Int} {l:List (Int×List (List UInt8))} (h:a0I k l=true) (hl:l≠[]):(hk l=0\/hk l=1\/hk l=2)/\k≠hk l/\¬(k=2/\hk l=1):=by
 match l,hl,h with
 | s::l,_,h=>
   obtain⟨h1,h2,_⟩:=a0z.1 h
   exact⟨h1.1,h2⟩
theorem a8E:∀ (n:Nat) (l:List (Int×List (List UInt8))),l.length<=n->(∀ k,(k=0\/k=-1)->a0I k l=true->a0I k (a2L l)=true/\a2L (a2L l)=l)/\
  (∀ k k',a0I k l=true->(l=[]\/hk l=0)->k'≠0->a0I k' (a2L l)=true/\a2L (a2L l)=l)
 | _,[],_=>⟨fun _ _ _=>⟨rfl,rfl⟩,fun _ _ _ _ _=>⟨rfl,rfl⟩⟩
 | 0,s::l,h=>by simp at h
 | n+1,s::l,h=>by
   have hl:l.length<=n:=by simp at h;omega
   obtain⟨ihB,ihA⟩:=a8E n l hl
   have zero:∀ k',s.1=0->s.2.length≠0->a0I s.1 l=true->k'≠0->a0I k' (a2L (s::l))=true/\a2L (a2L (s::l))=s::l:=fun k' h0 hne hr hk'=>by
    rw [a3k (fun c=>by omega)]
    rw [h0] at hr
    obtain⟨j1,j2⟩:=ihB 0 (.inl rfl) hr
    have e:(a5t s).1=0:=by show a9o s.1=0;rw [h0];rfl
    refine⟨a0z.2 ⟨⟨.inl e,hne⟩,⟨by omega,by omega⟩,by rw [e];exact j1⟩,?_⟩
    rw [a3k (fun c=>by omega),a89,j2]
   refine⟨fun k hk0 hr=>?_,fun k k' hr h0 hk'=>?_⟩
   ·obtain⟨⟨hs,hne⟩,hf,hr⟩:=a0z.1 hr
    rcases hs with hs|hs|hs
    ·exact zero k hs hne hr (by omega)
    ·by_cases c:hk l=2
     ·match l,c,hr,ihA,hl with
      | t::r,c,hr,_,hl=>
        have c:t.1=2:=c
        obtain⟨⟨_,hne2⟩,_,hr2⟩:=a0z.1 hr
        obtain⟨_,ihA2⟩:=a8E n r (by simp at hl;omega)
        rw [c] at hr2
        have h0:r=[]\/hk r=0:=by
         rcases r with _|⟨x,r⟩
         ·exact .inl rfl
         ·have:=b0i hr2 (by simp)
          exact .inr (by omega)
        have e1:(a5t s).1=2:=a7V.2 hs
        have e2:(a5t t).1=1:=a73.2 c
        obtain⟨j1,j2⟩:=ihA2 2 2 hr2 h0 (by decide)
        rw [a8I hs c]
        refine⟨a0z.2 ⟨⟨.inr (.inl e2),hne2⟩,⟨by omega,by omega⟩,a0z.2 ⟨⟨.inr (.inr e1),hne⟩,⟨by omega,by omega⟩,by rw [e1];exact j1⟩⟩,?_⟩
        rw [a8I e2 e1,a89,a89,j2]
     ·have h0:l=[]\/hk l=0:=by
       rcases l with _|⟨x,r⟩
       ·exact .inl rfl
       ·have:=b0i hr (by simp)
        exact .inr (by omega)
      rw [a3k (fun hh=>c hh.2)]
      have e1:(a5t s).1=2:=a7V.2 hs
      obtain⟨j1,j2⟩:=ihA s.1 2 hr h0 (by decide)
      refine⟨a0z.2 ⟨⟨.inr (.inr e1),hne⟩,⟨by omega,by omega⟩,by rw [e1];exact j1⟩,?_⟩
      rw [a3k (fun hh=>by omega),a89,j2]
    ·have h0:l=[]\/hk l=0:=by
      rcases l with _|⟨x,r⟩
      ·exact .inl rfl
      ·have:=b0i hr (by simp)
       exact .inr (by omega)
     rw [a3k (fun hh=>by omega)]
     have e1:(a5t s).1=1:=a73.2 hs
     obtain⟨j1,j2⟩:=ihA s.1 1 hr h0 (by decide)
     refine⟨a0z.2 ⟨⟨.inr (.inl e1),hne⟩,⟨by omega,by omega⟩,by rw [e1];exact j1⟩,?_⟩
     rw [a3k (fun hh=>by
      rcases h0 with rfl|h0
      ·have:=hh.2
       simp [a2L,hk] at this
      ·have:=c34 h0
       omega),a89,j2]
   ·obtain⟨⟨hs,hne⟩,hf,hr⟩:=a0z.1 hr
    have h0:s.1=0:=by
     rcases h0 with h0|h0
     ·cases h0
     ·exact h0
    exact zero k' h0 hne hr hk'
theorem c6O {l:List (Int×List (List UInt8))} (h:a0I (-1) l=true):a0I (-1) (a2L l)=true/\a2L (a2L l)=l:=(a8E l.length l (Nat.le_refl _)).1 (-1) (.inr rfl) h
theorem b5s {k:Int}:∀ {l:List (Int×List (List UInt8))},a0I k l=true->∀ s∈l,0<=s.1/\s.1<=2:=by
 intro l
 induction l generalizing k with
 | nil=>exact fun _ s hs=>by cases hs
 | cons t l ih=>
   intro h s hs
   obtain⟨⟨ht,_⟩,_,hr⟩:=a0z.1 h
   rcases List.mem_cons.1 hs with rfl|hs
   ·omega
   ·exact ih hr s hs
theorem c3l (l:List (Int×List (List UInt8))):a0O 2 (a2L l)=a0O 1 l:=(a7H l.length l (Nat.le_refl _)).1
theorem c2d (l:List (Int×List (List UInt8))):a0O 1 (a2L l)=a0O 2 l:=(a7H l.length l (Nat.le_refl _)).2.1
end Go.Proofs.YthpjjjnbkfnghaaGreatDoor
namespace Go.Proofs.YthpjjjnbkfnghaaGreatDoor
abbrev StE:=Int×List (List UInt8)
abbrev Hk:=Int×Int×List StE
def a3R (l:List StE) (k:Int) (ts:List (List UInt8)):List StE:=if ts.length=0 then l else l++[(k,ts)]
def b1l (l:List StE):Bool:=l.any fun s=>decide (s.1≠0)
def a63 (hs:List Hk) (o:Hk):List Hk:=if b1l o.2.2=true then hs++[o] else hs
def b6m (s:StE):Int:=if s.1=2 then 0 else s.2.length
def b6t (s:StE):Int:=if s.1=1 then 0 else s.2.length
abbrev Os:=List Hk×Hk×Int×Int
def bhP (n:Nat) (f:Bool) (s:StE):Nat:=if f=true then 0 else min s.2.length n
def ahP (n:Nat) (t:Bool) (s:StE):Nat:=if t=true then 0 else min s.2.length n
def a3G (n:Nat) (f t:Bool) (s:StE) (q:Os):Os:=
 if s.1≠0 then (q.1,(q.2.1.1,q.2.1.2.1,a3R q.2.1.2.2 s.1 s.2),q.2.2.1+b6m s,q.2.2.2+b6t s)
 else if f=false/\t=false/\s.2.length<=2*n then (q.1,(q.2.1.1,q.2.1.2.1,a3R q.2.1.2.2 0 s.2),q.2.2.1+s.2.length,q.2.2.2+s.2.length)
 else (a63 q.1 (q.2.1.1,q.2.1.2.1,a3R q.2.1.2.2 0 (s.2.take (bhP n f s))),
  (q.2.2.1+s.2.length-ahP n t s,q.2.2.2+s.2.length-ahP n t s,a3R [] 0 (s.2.drop (s.2.length-ahP n t s))),q.2.2.1+s.2.length,q.2.2.2+s.2.length)
def ofI (L:List StE) (n:Nat):Nat->Os
 | 0=>([],(0,0,[]),0,0)
 | i+1=>a3G n (decide (i=0)) (decide (i+1=L.length)) (L.getD i (0,[])) (ofI L n i)
def ofP (L:List StE) (n:Nat):List Hk:=a63 (ofI L n L.length).1 (ofI L n L.length).2.1
def b5y (l:List (List UInt8)):Bool:=decide (l=[])||a1d (l.getD (l.length-1) [])
def d00 (l:List StE) (last:Bool):Bool:=a09 (a0O 2 l)&&(a09 (a0O 1 l)&&(last||(b5y (a0O 2 l)&&b5y (a0O 1 l))))
def b5h (h:Hk) (last:Bool) (next shift:Int):Bool:=(a0I (-1) h.2.2&&(b1l h.2.2&&d00 h.2.2 last))&&decide (next<=h.1/\h.1<=999999/\h.2.1=h.1+shift)
def a2u:List Hk->Int->Int->Bool
 | [],_,_=>true
 | h::r,next,shift=>b5h h (decide (r=[])) next shift&&a2u r (h.1+a0G 0 h.2.2+a0G 1 h.2.2) (shift+(a0G 2 h.2.2-a0G 1 h.2.2))
def c7n (old:List (List UInt8)):List Hk->Nat->List (List UInt8)->Int->List UInt8×Int×Int
 | [],at',ch,i=>if a09 (ch++old.drop at')=true then ((ch++old.drop at').flatten,0,-1) else ([],12,i-1)
 | h::r,at',ch,i=>if ((a0O 2 h.2.2).length:Int) > old.length-h.1\/a0O 2 h.2.2≠a1D old h.1.toNat (h.1.toNat+(a0O 2 h.2.2).length) then ([],12,i)
   else c7n old r (h.1.toNat+(a0O 2 h.2.2).length) (ch++a1D old at' h.1.toNat++a0O 1 h.2.2) (i+1)
theorem a6Q (l:List StE) (k:Int):a3R l k []=l:=rfl
theorem a4s {l:List StE} {k:Int} {ts:List (List UInt8)} (h:ts.length≠0):a3R l k ts=l++[(k,ts)]:=by unfold a3R;rw [if_neg h]
theorem a2w (j:Int) (l:List StE) (k:Int) (ts:List (List UInt8)):a0O j (a3R l k ts)=a0O j l++if k=j then [] else ts:=by
 by_cases h:ts.length=0
 ·obtain rfl:=List.length_eq_zero_iff.1 h
  rw [a6Q];simp
 ·rw [a4s h,a48]
theorem c0P (l:List StE) (s:StE):b1l (l++[s])=(b1l l||decide (s.1≠0)):=by simp [b1l]
theorem c3u (l:List StE) (ts:List (List UInt8)):b1l (a3R l 0 ts)=b1l l:=by
 by_cases h:ts.length=0
 ·obtain rfl:=List.length_eq_zero_iff.1 h
  rw [a6Q]
 ·rw [a4s h,c0P];simp
theorem c0x {l:List StE} (h:b1l l=false):a0O 2 l=a0O 1 l:=by
 induction l with
 | nil=>rfl
 | cons s l ih=>
   unfold b1l at h ih
   rw [List.any_cons,Bool.or_eq_false_iff] at h
   have h0:s.1=0:=by simpa using h.1
   rw [a1P,a1P,ih h.2,h0]
   rfl
theorem b9P {u v:List StE}:∀ {k:Int},a0I k (u++v)=true->a0I k u=true:=by
 induction u with
 | nil=>exact fun _=>rfl
 | cons s u ih=>
   intro k h
   rw [List.cons_append,a0z] at h
   exact a0z.2 ⟨h.1,h.2.1,ih h.2.2⟩
theorem c3r {u r:List StE} {k0:Int} {ts ts':List (List UInt8)} (hne:ts'.length≠0):∀ {k:Int},a0I k (u++(k0,ts)::r)=true->a0I k (u++[(k0,ts')])=true:=by
 induction u with
 | nil=>
   intro k h
   rw [List.nil_append,a0z] at h
   exact a0z.2 ⟨⟨h.1.1,hne⟩,h.2.1,rfl⟩
 | cons s u ih=>
   intro k h
   rw [List.cons_append,a0z] at h
   exact a0z.2 ⟨h.1,h.2.1,ih h.2.2⟩
theorem c2F {u r:List StE} {k:Int} {ts ts':List (List UInt8)} (h:a0I k (u++(0,ts)::r)=true):a0I k (a3R u 0 ts')=true:=by
 by_cases hn:ts'.length=0
 ·obtain rfl:=List.length_eq_zero_iff.1 hn
  rw [a6Q]
  exact b9P h
 ·rw [a4s hn]
  exact c3r hn h
theorem c1y {u r:List StE} {s:StE}:∀ {k:Int},a0I k (u++s::r)=true->(s.1=0\/s.1=1\/s.1=2)/\s.2.length≠0/\a0I s.1 r=true:=by
 induction u with
 | nil=>
   intro k h
   rw [List.nil_append,a0z] at h
   exact⟨h.1.1,h.1.2,h.2.2⟩
 | cons t u ih=>
   intro k h
   rw [List.cons_append,a0z] at h
   exact ih h.2.2
theorem b5O {r:List StE} (h:a0I 0 r=true):a0I (-1) r=true:=by
 cases r with
 | nil=>rfl
 | cons s r=>
   rw [a0z] at h ⊢
   obtain⟨h1,h2,h3⟩:=h
   exact⟨h1,⟨by omega,by omega⟩,h3⟩
theorem c0m {r:List StE} (h:a0I 0 r=true) (ts:List (List UInt8)):a0I (-1) (a3R [] 0 ts++r)=true:=by
 by_cases hn:ts.length=0
 ·obtain rfl:=List.length_eq_zero_iff.1 hn
  rw [a6Q]
  exact b5O h
 ·rw [a4s hn]
  exact a0z.2 ⟨⟨.inl rfl,hn⟩,⟨by omega,by omega⟩,h⟩
theorem b9j {k:Int}:∀ {l:List StE},a0I k l=true->((a0G 0 l:Nat):Int)+a0G 1 l=(a0O 2 l).length/\((a0G 0 l:Nat):Int)+a0G 2 l=(a0O 1 l).length:=by
 intro l
 induction l generalizing k with
 | nil=>intro _;exact⟨rfl,rfl⟩
 | cons s l ih=>
   intro h
   rw [a0z] at h
   obtain⟨⟨h1,_⟩,_,h3⟩:=h
   obtain⟨i1,i2⟩:=ih h3
   have c:∀ j,a0G j (s::l)=(if s.1=j then s.2.length else 0)+a0G j l:=fun j=>by
    unfold a0G
    rw [List.flatMap_cons,List.length_append]
    congr 1
    split<;>simp
   rw [a1P,a1P,c,c,c,List.length_append,List.length_append]
   rcases h1 with e|e|e<;>rw [e]<;>simp<;>omega
theorem a5E {α:Type} (a:List α) {i j k:Nat} (h1:i<=j) (h2:j<=k):a1D a i j++a1D a j k=a1D a i k:=by
 unfold a1D
 have e:a.take j=(a.take k).take j:=by rw [List.take_take];congr 1;omega
 rw [e]
 generalize a.take k=b
 rw [List.drop_take]
 have:b.drop j=(b.drop i).drop (j-i):=by rw [List.drop_drop];congr 1;omega
 rw [this,List.take_append_drop]
theorem a9M {α:Type} (a:List α) (j:Nat):a1D a 0 j=a.take j:=by simp [a1D]
theorem a11 {a l r:List (List UInt8)} {i:Nat} (h:a.drop i=l++r):a1D a i (i+l.length)=l/\a.drop (i+l.length)=r:=by
 unfold a1D
 constructor
 ·rw [List.drop_take,h,Nat.add_sub_cancel_left,List.take_left']
  rfl
 ·rw [<-List.drop_drop,h,List.drop_left']
  rfl
theorem a8X {a:List (List UInt8)} {i j k:Nat} (h:k<(a1D a i j).length):(a1D a i j).getD k []=a.getD (i+k) []/\i+k<j/\i+k<a.length:=by
 unfold a1D at h ⊢
 rw [List.length_drop,List.length_take] at h
 refine⟨?_,by omega,by omega⟩
 simp only [List.getD,List.getElem?_drop,List.getElem?_take]
 rw [if_pos (by omega)]
theorem b1n {a:List (List UInt8)} (h:a09 a=true) (i j:Nat):a09 (a1D a i j)=true:=by
 rw [a3i] at h ⊢
 intro k hk
 obtain⟨e,k1,k2⟩:=a8X hk
 rw [e]
 obtain⟨h1,h2⟩:=h (i+k) k2
 refine⟨h1,fun hk'=>h2 ?_⟩
 obtain⟨_,_,k3⟩:=a8X hk'
 omega
theorem b6W {a:List (List UInt8)} (h:a09 a=true) {i j:Nat} (hj:j<a.length):b5y (a1D a i j)=true:=by
 unfold b5y
 rw [Bool.or_eq_true,decide_eq_true_eq]
 rcases Nat.eq_zero_or_pos (a1D a i j).length with h0|h0
 ·exact .inl (List.length_eq_zero_iff.1 h0)
 ·right
  obtain⟨e,k1,k2⟩:=a8X (a:=a) (i:=i) (j:=j) (k:=(a1D a i j).length-1) (by omega)
  rw [e]
  exact ((a3i a).1 h _ k2).2 (by omega)
def QP (x y:List (List UInt8)) (hs:List Hk) (p q:Nat) (e:Bool):Prop:=
 ∃ at':Nat,∃ sh:Int,∃ ch:List (List UInt8),at'<=p/\sh=(q:Int)-p/\ch++a1D x at' p=y.take q/\a2u hs 0 0=true/\
  (e=true->∀ t,t≠[]->a2u (hs++t) 0 0=a2u t at' sh)/\(∀ t,c7n x (hs++t) 0 [] 0=c7n x t at' ch hs.length)/\∀ h∈hs,0<=h.1/\0<=h.2.1/\h.2.1<=y.length
theorem c8q (x y:List (List UInt8)):QP x y [] 0 0 true:=⟨0,0,[],Nat.le_refl _,by omega,by simp [a1D],rfl,fun _ _ _=>rfl,fun _=>rfl,fun h hh=>by cases hh⟩
theorem d2C {x y:List (List UInt8)} {hs:List Hk} {p q:Nat} (h:QP x y hs p q true):QP x y hs p q false:=by
 obtain⟨a,sh,ch,h1,h2,h3,h4,h5,h6,h7⟩:=h
 exact⟨a,sh,ch,h1,h2,h3,h4,(fun h=>by cases h),h6,h7⟩
theorem d3v {x y:List (List UInt8)} {hs:List Hk} {p q d:Nat} {e:Bool} (h:QP x y hs p q e) (hc:a1D x p (p+d)=a1D y q (q+d)):QP x y hs (p+d) (q+d) e:=by
 obtain⟨a,sh,ch,h1,h2,h3,h4,h5,h6,h7⟩:=h
 refine⟨a,sh,ch,by omega,by omega,?_,h4,h5,h6,h7⟩
 rw [<-a5E x h1 (Nat.le_add_right p d),<-List.append_assoc,h3,hc,<-a9M y q,a5E y (Nat.zero_le _) (Nat.le_add_right q d),a9M]
theorem c1P {x y:List (List UInt8)} (wx:a09 x=true) (wy:a09 y=true) (hbig:x.length<=999999) {hs:List Hk} {p q p' q':Nat} {st:List StE} (h:QP x y hs p q true)
  (hp:p<=p') (hp':p'<=x.length) (hq:q<=q') (hq':q'<=y.length) (hx:a0O 2 st=a1D x p p') (hy:a0O 1 st=a1D y q q') (hr:a0I (-1) st=true) {e:Bool}
  (he:e=true->b1l st=true->p'<x.length/\q'<y.length):QP x y (a63 hs ((p:Int),(q:Int),st)) p' q' e:=by
 have lx:=congrArg List.length hx
 have ly:=congrArg List.length hy
 rw [a2p _ hp'] at lx
 rw [a2p _ hq'] at ly
 cases hc:b1l st with
 | false=>
   have k:=c0x hc
   have e1:a63 hs ((p:Int),(q:Int),st)=hs:=by unfold a63;rw [if_neg (by rw [hc];simp)]
   rw [e1]
   rw [k] at lx hx
   obtain⟨d,rfl⟩:∃ d,p'=p+d:=⟨p'-p,by omega⟩
   obtain rfl:q'=q+d:=by omega
   have:=d3v h (hx.symm.trans hy)
   cases e with
   | true=>exact this
   | false=>exact d2C this
 | true=>
   have e1:a63 hs ((p:Int),(q:Int),st)=hs++[((p:Int),(q:Int),st)]:=by unfold a63;rw [if_pos hc]
   rw [e1]
   obtain⟨a,sh,ch,h1,h2,h3,h4,h5,h6,h7⟩:=h
   obtain⟨c1,c2⟩:=b9j hr
   have hH:∀ last:Bool,(last=false->p'<x.length/\q'<y.length)->b5h ((p:Int),(q:Int),st) last a sh=true:=fun last hl=>by
    unfold b5h d00
    rw [hr,hc,hx,hy,b1n wx,b1n wy]
    simp only [Bool.true_and,Bool.and_eq_true,Bool.or_eq_true,decide_eq_true_eq]
    refine⟨?_,by omega,by omega,by omega⟩
    cases last with
    | true=>exact .inl rfl
    | false=>
      obtain⟨g1,g2⟩:=hl rfl
      exact .inr ⟨b6W wx g1,b6W wy g2⟩
   refine⟨p',(q':Int)-p',y.take q',Nat.le_refl _,rfl,by simp [a1D],?_,fun het t ht=>?_,fun t=>?_,fun h hh=>?_⟩
   ·rw [h5 rfl _ (by simp),a2u,hH _ (fun g=>by simp at g)]
    rfl
   ·rw [List.append_assoc,h5 rfl _ (by simp)]
    show a2u (((p:Int),(q:Int),st)::t) _ _=_
    rw [a2u,hH _ (fun _=>he het hc),Bool.true_and]
    congr 1<;>dsimp only<;>omega
   ·rw [List.append_assoc,h6]
    show c7n x (((p:Int),(q:Int),st)::t) _ _ _=_
    rw [c7n]
    dsimp only
    have hn:(p:Int).toNat=p:=by omega
    have ep:p+(a0O 2 st).length=p':=by omega
    rw [hn,ep,if_neg]
    ·congr 1
     ·rw [h3,hy,<-a9M y q,a5E y (Nat.zero_le _) hq,a9M]
     ·simp
    ·rw [<-hx]
     simp only [ne_eq,not_true_eq_false,or_false]
     omega
   ·rcases List.mem_append.1 hh with hh|hh
    ·exact h7 h hh
    ·rw [List.mem_singleton] at hh
     subst hh
     exact⟨by dsimp only;omega,by dsimp only;omega,by dsimp only;omega⟩
def JP (x y:List (List UInt8)) (n:Nat) (r:List StE) (s:Os):Prop:=
 ∃ p q a b:Nat,∃ e:Bool,s.2.1.1=p/\s.2.1.2.1=q/\s.2.2.1=a/\s.2.2.2=b/\p<=a/\q<=b/\QP x y s.1 p q e/\(e=true\/(s.2.1.2.2=[]/\r=[]))/\
  a0I (-1) (s.2.1.2.2++r)=true/\a0O 2 s.2.1.2.2=a1D x p a/\a0O 1 s.2.1.2.2=a1D y q b/\x.drop a=a0O 2 r/\y.drop b=a0O 1 r/\a<=x.length/\b<=y.length
theorem b2w {j:Int} {s:StE} {r:List StE} (h:s.1≠j):a0O j (s::r)=s.2++a0O j r:=by rw [a1P,if_neg h]
theorem b67 {j:Int} {s:StE} {r:List StE} (h:s.1=j):a0O j (s::r)=a0O j r:=by rw [a1P,if_pos h,List.nil_append]
theorem a8e {x l r:List (List UInt8)} {a:Nat} (h:x.drop a=l++r) (ha:a<=x.length):a+l.length<=x.length:=by
 have:=congrArg List.length h
 rw [List.length_drop,List.length_append] at this
 omega
theorem d2l {x y:List (List UInt8)} (wx:a09 x=true) (wy:a09 y=true) (hbig:x.length<=999999) {n:Nat} {r:List StE} {s:StE} {o:Os} {f:Bool} (hf:f=true->o.2.1.2.2=[]/\o.1=[])
  (h:JP x y n (s::r) o):JP x y n r (a3G n f (decide (r=[])) s o):=by
 obtain⟨p,q,a,b,e,e1,e2,e3,e4,h1,h2,hQ,he,hr,hx,hy,dx,dy,ha,hb⟩:=h
 have he:e=true:=he.elim id fun g=>by cases g.2
 subst he
 obtain⟨hs,⟨oa,ob,st⟩,ca,cb⟩:=o
 dsimp only at e1 e2 e3 e4 hQ hr hx hy
 subst e1 e2 e3 e4
 obtain⟨k0,ts⟩:=s
 obtain⟨sk,sn,sr⟩:=c1y hr
 dsimp only at sk sn sr
 have hass:∀ k,st++[(k,ts)]++r=st++(k,ts)::r:=fun k=>by simp
 by_cases hk:k0=0
 ·subst hk
  rw [b2w (by dsimp only;omega)] at dx dy
  dsimp only at dx dy
  have ax:=a8e dx ha
  have bx:=a8e dy hb
  obtain⟨cx,dx'⟩:=a11 dx
  obtain⟨cy,dy'⟩:=a11 dy
  by_cases hin:f=false/\decide (r=[])=false/\ts.length<=2*n
  ·have es:a3G n f (decide (r=[])) (0,ts) (hs,((p:Int),(q:Int),st),(a:Int),(b:Int))=(hs,((p:Int),(q:Int),a3R st 0 ts),(a:Int)+ts.length,(b:Int)+ts.length):=by
    unfold a3G
    rw [if_neg (by simp),if_pos hin]
   rw [es]
   refine⟨p,q,a+ts.length,b+ts.length,true,rfl,rfl,by simp,by simp,by omega,by omega,hQ,.inl rfl,?_,?_,?_,dx',dy',ax,bx⟩
   ·dsimp only
    rw [a4s sn,hass];exact hr
   ·dsimp only
    rw [a2w,if_neg (by omega),hx,<-a5E x h1 (Nat.le_add_right a _),cx]
   ·dsimp only
    rw [a2w,if_neg (by omega),hy,<-a5E y h2 (Nat.le_add_right b _),cy]
  ·have hbh:bhP n f (0,ts)<=ts.length:=by unfold bhP;split<;>(try dsimp only)<;>omega
   have hah:ahP n (decide (r=[])) (0,ts)<=ts.length:=by unfold ahP;split<;>(try dsimp only)<;>omega
   have hsum:bhP n f (0,ts)+ahP n (decide (r=[])) (0,ts)<=ts.length:=by
    unfold bhP ahP
    dsimp only
    cases f with
    | true=>first|(rw [if_pos rfl];split<;>(try dsimp only)<;>omega)|(split<;>(try dsimp only)<;>omega)|omega
    | false=>
      cases hd:decide (r=[]) with
      | true=>
        show min ts.length n+0<=ts.length
        omega
      | false=>
        have:¬ts.length<=2*n:=fun g=>hin ⟨rfl,hd,g⟩
        show min ts.length n+min ts.length n<=ts.length
        omega
   have hlast:decide (r=[])=false->b1l (a3R st 0 (ts.take (bhP n f (0,ts))))=true->bhP n f (0,ts)<ts.length:=fun hd hc=>by
    rw [c3u] at hc
    cases f with
    | true=>
      have:=(hf rfl).1
      dsimp only at this
      rw [this] at hc
      cases hc
    | false=>
      have:¬ts.length<=2*n:=fun g=>hin ⟨rfl,hd,g⟩
      unfold bhP
      dsimp only
      rw [if_neg (by simp)]
      omega
   have es:a3G n f (decide (r=[])) (0,ts) (hs,((p:Int),(q:Int),st),(a:Int),(b:Int))=(a63 hs ((p:Int),(q:Int),a3R st 0 (ts.take (bhP n f (0,ts)))),
     ((a:Int)+ts.length-ahP n (decide (r=[])) (0,ts),(b:Int)+ts.length-ahP n (decide (r=[])) (0,ts),a3R [] 0 (ts.drop (ts.length-ahP n (decide (r=[])) (0,ts)))),(a:Int)+ts.length,(b:Int)+ts.length):=by
    unfold a3G
    rw [if_neg (by simp),if_neg hin]
   rw [es]
   generalize hB:bhP n f (0,ts)=B at *
   generalize hA:ahP n (decide (r=[])) (0,ts)=A at *
   have lB:(ts.take B).length=B:=by rw [List.length_take];omega
   have lA:(ts.drop (ts.length-A)).length=A:=by rw [List.length_drop];omega
   have dxB:x.drop a=ts.take B++(ts.drop B++a0O 2 r):=by rw [<-List.append_assoc,List.take_append_drop];exact dx
   have dyB:y.drop b=ts.take B++(ts.drop B++a0O 1 r):=by rw [<-List.append_assoc,List.take_append_drop];exact dy
   obtain⟨cxB,dxB'⟩:=a11 dxB
   obtain⟨cyB,dyB'⟩:=a11 dyB
   rw [lB] at cxB cyB dxB' dyB'
   have Q1:QP x y (a63 hs ((p:Int),(q:Int),a3R st 0 (ts.take B))) (a+B) (b+B) (!decide (r=[])):=
    c1P wx wy hbig hQ (by omega) (by omega) (by omega) (by omega)
     (by rw [a2w,if_neg (by omega),hx,<-a5E x h1 (Nat.le_add_right a _),cxB])
     (by rw [a2w,if_neg (by omega),hy,<-a5E y h2 (Nat.le_add_right b _),cyB]) (c2F hr)
     (fun g c=>by
      have:=hlast (by simpa using g) c
      omega)
   have hgap:ts.drop B=(ts.drop B).take (ts.length-A-B)++ts.drop (ts.length-A):=by
    have:=List.take_append_drop (ts.length-A-B) (ts.drop B)
    rw [List.drop_drop,show B+(ts.length-A-B)=ts.length-A by omega] at this
    exact this.symm
   have lG:((ts.drop B).take (ts.length-A-B)).length=ts.length-A-B:=by rw [List.length_take,List.length_drop];omega
   rw [hgap,List.append_assoc] at dxB' dyB'
   obtain⟨cxG,dxG⟩:=a11 dxB'
   obtain⟨cyG,dyG⟩:=a11 dyB'
   rw [lG] at cxG cyG dxG dyG
   have Q2:=d3v Q1 (cxG.trans cyG.symm)
   obtain⟨cxA,_⟩:=a11 dxG
   obtain⟨cyA,_⟩:=a11 dyG
   rw [lA] at cxA cyA
   have ea:a+B+(ts.length-A-B)+A=a+ts.length:=by omega
   have eb:b+B+(ts.length-A-B)+A=b+ts.length:=by omega
   rw [ea] at cxA
   rw [eb] at cyA
   refine⟨a+B+(ts.length-A-B),b+B+(ts.length-A-B),a+ts.length,b+ts.length,(!decide (r=[])),by dsimp only;omega,by dsimp only;omega,by simp,by simp,by omega,by omega,Q2,?_,?_,?_,?_,dx',dy',ax,bx⟩
   ·by_cases hre:r=[]
    ·right
     refine⟨?_,hre⟩
     have:A=0:=by
      rw [<-hA]
      unfold ahP
      rw [if_pos (by simp [hre])]
     dsimp only
     rw [this,Nat.sub_zero,List.drop_length,a6Q]
    ·left;simp [hre]
   ·exact c0m sr _
   ·dsimp only
    rw [a2w,if_neg (by omega),cxA]
    rfl
   ·dsimp only
    rw [a2w,if_neg (by omega),cyA]
    rfl
 ·have es:a3G n f (decide (r=[])) (k0,ts) (hs,((p:Int),(q:Int),st),(a:Int),(b:Int))=(hs,((p:Int),(q:Int),a3R st k0 ts),(a:Int)+b6m (k0,ts),(b:Int)+b6t (k0,ts)):=by
   unfold a3G
   rw [if_pos hk]
  rw [es]
  have hR:a0I (-1) (a3R st k0 ts++r)=true:=by rw [a4s sn,hass];exact hr
  rcases sk with g|g|g
  ·exact absurd g hk
  ·subst g
   rw [b2w (by dsimp only;omega)] at dx
   rw [b67 (j:=1) (s:=(1,ts)) rfl] at dy
   dsimp only at dx
   have ax:=a8e dx ha
   obtain⟨cx,dx'⟩:=a11 dx
   refine⟨p,q,a+ts.length,b,true,rfl,rfl,by simp [b6m],by simp [b6t],by omega,h2,hQ,.inl rfl,hR,?_,?_,dx',dy,ax,hb⟩
   ·dsimp only
    rw [a2w,if_neg (by omega),hx,<-a5E x h1 (Nat.le_add_right a _),cx]
   ·dsimp only
    rw [a2w,if_pos rfl,List.append_nil,hy]
  ·subst g
   rw [b2w (by dsimp only;omega)] at dy
   rw [b67 (j:=2) (s:=(2,ts)) rfl] at dx
   dsimp only at dy
   have bx:=a8e dy hb
   obtain⟨cy,dy'⟩:=a11 dy
   refine⟨p,q,a,b+ts.length,true,rfl,rfl,by simp [b6m],by simp [b6t],h1,by omega,hQ,.inl rfl,hR,?_,?_,dx,dy',ha,bx⟩
   ·dsimp only
    rw [a2w,if_pos rfl,List.append_nil,hx]
   ·dsimp only
    rw [a2w,if_neg (by omega),hy,<-a5E y h2 (Nat.le_add_right b _),cy]
theorem b9I {L:List StE} {i:Nat} (h:i<L.length):L.drop i=L.getD i (0,[])::L.drop (i+1):=by
 rw [List.drop_eq_getElem_cons h]
 simp [List.getD,List.getElem?_eq_getElem h]
theorem d8M {L:List StE} {x y:List (List UInt8)} (hr:a0I (-1) L=true) (hx:a0O 2 L=x) (hy:a0O 1 L=y) (wx:a09 x=true) (wy:a09 y=true) (hbig:x.length<=999999) (n:Nat):∀ i,i<=L.length->JP x y n (L.drop i) (ofI L n i)
 | 0,_=>⟨0,0,0,0,true,rfl,rfl,rfl,rfl,Nat.le_refl _,Nat.le_refl _,c8q x y,.inl rfl,hr,rfl,rfl,by simp [hx],by simp [hy],Nat.zero_le _,Nat.zero_le _⟩
 | i+1,h=>by
   have ih:=d8M hr hx hy wx wy hbig n i (by omega)
   rw [b9I (by omega)] at ih
   have hd:(decide (i+1=L.length))=decide (L.drop (i+1)=[]):=by
    rw [decide_eq_decide,List.drop_eq_nil_iff]
    omega
   rw [ofI,hd]
   refine d2l wx wy hbig (fun g=>?_) ih
   have:i=0:=by simpa using g
   subst this
   exact⟨rfl,rfl⟩
theorem b5U {L:List StE} {x y:List (List UInt8)} (hr:a0I (-1) L=true) (hx:a0O 2 L=x) (hy:a0O 1 L=y) (wx:a09 x=true) (wy:a09 y=true) (hbig:x.length<=999999) (n:Nat) :
  a2u (ofP L n) 0 0=true/\c7n x (ofP L n) 0 [] 0=(y.flatten,0,-1)/\∀ h∈ofP L n,0<=h.1/\0<=h.2.1/\h.2.1<=y.length:=by
 have hJ:=d8M hr hx hy wx wy hbig n L.length (Nat.le_refl _)
 rw [List.drop_length] at hJ
 unfold ofP
 generalize ofI L n L.length=o at *
 obtain⟨hs,⟨oa,ob,st⟩,ca,cb⟩:=o
 obtain⟨p,q,a,b,e,e1,e2,e3,e4,h1,h2,hQ,he,hR,hcx,hcy,dx,dy,ha,hb⟩:=hJ
 dsimp only at e1 e2 e3 e4 hQ he hR hcx hcy ⊢
 subst e1 e2 e3 e4
 rw [List.append_nil] at hR
 have a1:a=x.length:=by
  have:=congrArg List.length dx
  rw [List.length_drop] at this
  have e0:(a0O 2 ([]:List StE)).length=0:=rfl
  omega
 have b1:b=y.length:=by
  have:=congrArg List.length dy
  rw [List.length_drop] at this
  have e0:(a0O 1 ([]:List StE)).length=0:=rfl
  omega
 subst a1 b1
 have Q:QP x y (a63 hs ((p:Int),(q:Int),st)) x.length y.length false:=by
  cases e with
  | true=>exact c1P wx wy hbig hQ h1 (Nat.le_refl _) h2 (Nat.le_refl _) hcx hcy hR (fun g=>by cases g)
  | false=>
    have hst:st=[]:=he.elim (fun g=>by cases g) fun g=>g.1
    subst hst
    have e1:a63 hs ((p:Int),(q:Int),[])=hs:=rfl
    rw [e1]
    have lx:=congrArg List.length hcx
    have ly:=congrArg List.length hcy
    rw [a2p _ (Nat.le_refl _)] at lx ly
    have e0:(a0O 2 ([]:List StE)).length=0:=rfl
    have e0':(a0O 1 ([]:List StE)).length=0:=rfl
    obtain rfl:p=x.length:=by omega
    obtain rfl:q=y.length:=by omega
    exact hQ
 obtain⟨at',sh,ch,g1,g2,g3,g4,_,g6,g7⟩:=Q
 refine⟨g4,?_,g7⟩
 have:=g6 []
 rw [List.append_nil] at this
 rw [this,c7n]
 rw [b3j,List.take_length] at g3
 rw [g3,if_pos wy]
theorem c9i (hs:List Hk) (o:Hk):(a63 hs o).length=if b1l o.2.2=true then hs.length+1 else hs.length:=by
 unfold a63
 split<;>simp
theorem b3o {k:Int}:∀ {L:List StE},a0I k L=true->∀ s∈L,s.2.length≠0:=by
 intro L
 induction L generalizing k with
 | nil=>intro _ s hs;cases hs
 | cons t L ih=>
   intro h s hs
   rw [a0z] at h
   rcases List.mem_cons.1 hs with rfl|hs
   ·exact h.1.2
   ·exact ih h.2.2 s hs
end Go.Proofs.YthpjjjnbkfnghaaGreatDoor
namespace Go.Proofs.YthpjjjnbkfnghaaGreatDoor
open Go
def b1Z:List UInt8:=[92,32,110,111,32,101,110,100,10]
def d6z:List UInt8:=[37,37,32,45]
def d9O:List UInt8:=[32,43]
def d9m:List UInt8:=[32,37,37,10]
def d3Q (k:Int):UInt8:=[32,45,43].getD k.toNat 0
def a69 (k:Int) (s:List UInt8):List UInt8:=d3Q k::s++(if a1d s=true then [] else 10::b1Z)
def b3E (a:Int) (n:Int):List UInt8:=Lib.itoa (a+1)++[44]++Lib.itoa n
def a6W (h:Hk):List UInt8:=d6z++b3E h.1 (a0G 0 h.2.2+a0G 1 h.2.2)++d9O++b3E h.2.1 (a0G 0 h.2.2+a0G 2 h.2.2)++d9m
def c4r (s:StE):List UInt8:=(s.2.map (a69 s.1)).flatten
def c8e (h:Hk):List UInt8:=a6W h++(h.2.2.map c4r).flatten
def a6K (l:List Hk):List UInt8:=(l.map c8e).flatten
def a3W (l:List Hk):List UInt8:=if a2u l 0 0=true then a6K l else []
theorem d0G:∀ (m u:Nat),u<=m->(∀ c∈Lib.decDigits u,48<=c.toNat/\c.toNat<=57)/\Lib.decDigits u≠[]/\Lib.decFrom 0 (Lib.decDigits u)=some u:=by
 have app:∀ (a b:List UInt8) (acc n:Nat),Lib.decFrom acc a=some n->Lib.decFrom acc (a++b)=Lib.decFrom n b:=by
  intro a
  induction a with
  | nil=>intro b acc n h;simp only [Lib.decFrom,Option.some.injEq] at h;rw [h];rfl
  | cons c a ih=>
    intro b acc n h
    rw [List.cons_append]
    simp only [Lib.decFrom] at h ⊢
    cases hd:Lib.digitVal c with
    | none=>rw [hd] at h;cases h
    | some d=>rw [hd] at h;exact ih b _ n h
 have dv:∀ d:Nat,d<10->Lib.digitVal (UInt8.ofNat (48+d))=some d/\48<=(UInt8.ofNat (48+d)).toNat/\(UInt8.ofNat (48+d)).toNat<=57:=by decide
 intro m
 induction m with
 | zero=>
   intro u hu
   obtain rfl:u=0:=by omega
   rw [Lib.decDigits,dif_pos (by omega)]
   refine⟨fun c hc=>?_,by simp,by decide⟩
   rw [List.mem_singleton] at hc
   subst hc
   exact (dv 0 (by omega)).2
 | succ m ih=>
   intro u hu
   by_cases h:u<10
   ·rw [Lib.decDigits,dif_pos h]
    refine⟨fun c hc=>?_,by simp,?_⟩
    ·rw [List.mem_singleton] at hc
     subst hc
     exact (dv u h).2
    ·simp only [Lib.decFrom,(dv u h).1]
     simp
   ·rw [Lib.decDigits,dif_neg h]
    obtain⟨i1,i2,i3⟩:=ih (u / 10) (by omega)
    refine⟨fun c hc=>?_,by simp,?_⟩
    ·rcases List.mem_append.1 hc with hc|hc
     ·exact i1 c hc
     ·rw [List.mem_singleton] at hc
      subst hc
      exact (dv (u % 10) (Nat.mod_lt _ (by omega))).2
    ·rw [app _ _ _ _ i3]
     simp only [Lib.decFrom,(dv (u % 10) (Nat.mod_lt _ (by omega))).1]
     simp
     omega
theorem a7M {n:Int} (h:0<=n):(∀ c∈Lib.itoa n,48<=c.toNat/\c.toNat<=57)/\Lib.itoa n≠[]/\Lib.atoi (Lib.itoa n)=some n:=by
 obtain⟨k,rfl⟩:=Int.eq_ofNat_of_zero_le h
 have e:Lib.itoa (k:Int)=Lib.decDigits k:=by unfold Lib.itoa;rw [if_neg (by omega)];rfl
 obtain⟨h1,h2,h3⟩:=d0G k k (Nat.le_refl _)
 rw [e]
 refine⟨h1,h2,?_⟩
 cases hl:Lib.decDigits k with
 | nil=>exact absurd hl h2
 | cons b r=>
   have hb:=h1 b (by rw [hl];simp)
   have n1:(b==45)=false:=by
    rw [beq_eq_false_iff_ne]
    intro e
    have:=congrArg UInt8.toNat e
    have e2:(45:UInt8).toNat=45:=rfl
    omega
   have n2:(b==43)=false:=by
    rw [beq_eq_false_iff_ne]
    intro e
    have:=congrArg UInt8.toNat e
    have e2:(43:UInt8).toNat=43:=rfl
    omega
   unfold Lib.atoi
   dsimp only
   rw [n1,n2]
   unfold Lib.decNat
   rw [hl] at h3
   simp [h3]
theorem b5S:∀ (k u:Nat),1<=k->u<10 ^ k->(Lib.decDigits u).length<=k
 | 0,_,h,_=>by omega
 | k+1,u,_,h=>by
   by_cases h1:u<10
   ·rw [Lib.decDigits,dif_pos h1];simp
   ·rw [Lib.decDigits,dif_neg h1,List.length_append]
    have hk:1<=k:=by
     rcases Nat.eq_zero_or_pos k with e|e
     ·subst e;omega
     ·exact e
    have:=b5S k (u / 10) hk (by rw [Nat.pow_succ] at h;omega)
    simp only [List.length_cons,List.length_nil]
    omega
theorem b6y {c:UInt8} {t:List UInt8}:∀ (a b:List UInt8),c∉a->Lib.index (a++((c::t)++b)) (c::t)=a.length
 | [],b,_=>by
   rw [List.nil_append,List.cons_append,Lib.index,if_pos]
   ·rfl
   ·exact List.isPrefixOf_iff_prefix.2 (by rw [<-List.cons_append];exact List.prefix_append _ _)
 | x::a,b,h=>by
   rw [List.mem_cons,not_or] at h
   rw [List.cons_append,Lib.index,if_neg,b6y a b h.2,if_neg]
   ·simp
   ·rw [beq_iff_eq];omega
   ·rw [List.isPrefixOf_cons_cons]
    simp [h.1]
def d9T (h:Hk):Prop:=(0<=h.1/\h.1<=999999/\0<=h.2.1/\h.2.1<=9999999)/\a0I (-1) h.2.2=true/\∀ s∈h.2.2,∀ t∈s.2,b51 t=true
theorem b8s {k:Int} {l:List StE} (h:a0I k l=true):∀ s∈l,(s.1=0\/s.1=1\/s.1=2):=fun s hs=>by
 have:=b5s h s hs
 omega
theorem b6B {j:Int} {l:List StE} {s:StE} (hs:s∈l) (hj:s.1≠j) {t:List UInt8} (ht:t∈s.2):t∈a0O j l:=by
 unfold a0O
 exact List.mem_flatMap.2 ⟨s,hs,by rw [if_neg hj];exact ht⟩
theorem b4x {l:List (List UInt8)} (h:a09 l=true) {t:List UInt8} (ht:t∈l):b51 t=true:=by
 obtain⟨i,hi,e⟩:=List.mem_iff_getElem.1 ht
 have:=((a3i l).1 h i hi).1
 rw [a1e l _ hi,e] at this
 exact this
theorem a9z:∀ {l:List Hk} {n s:Int},a2u l n s=true->∀ h∈l,a0I (-1) h.2.2=true/\h.1<=999999/\∀ s∈h.2.2,∀ t∈s.2,b51 t=true
 | h::r,n,s,hr,x,hx=>by
   rw [a2u,Bool.and_eq_true] at hr
   obtain⟨h1,h2⟩:=hr
   rcases List.mem_cons.1 hx with rfl|hx
   ·unfold b5h d00 at h1
    simp only [Bool.and_eq_true,decide_eq_true_eq] at h1
    obtain⟨⟨g1,_,g2,g3,_⟩,_,g4,_⟩:=h1
    refine⟨g1,g4,fun s hs t ht=>?_⟩
    by_cases e:s.1=2
    ·exact b4x g3 (b6B hs (by omega) ht)
    ·exact b4x g2 (b6B hs e ht)
   ·exact a9z h2 x hx
end Go.Proofs.YthpjjjnbkfnghaaGreatDoor
namespace Go.Proofs.YthpjjjnbkfnghaaGreatDoor
open Go
def wdL:List UInt8->List (List UInt8)
 | []=>[[]]
 | c::r=>if c=32 then []::wdL r else match wdL r with
   | []=>[[c]]
   | w::ws=>(c::w)::ws
theorem a62:∀ s,wdL s≠[]
 | []=>by simp [wdL]
 | c::r=>by
   unfold wdL
   split
   ·simp
   ·split<;>simp
theorem a86:∀ s:List UInt8,(32:UInt8)∉s->wdL s=[s]
 | [],_=>rfl
 | c::r,h=>by
   rw [List.mem_cons,not_or] at h
   rw [wdL,if_neg (Ne.symm h.1),a86 r h.2]
theorem a7g:∀ (p r:List UInt8),(32:UInt8)∉p->wdL (p++32::r)=p::wdL r
 | [],r,_=>by rw [List.nil_append,wdL,if_pos rfl]
 | c::p,r,h=>by
   rw [List.mem_cons,not_or] at h
   rw [List.cons_append,wdL,if_neg (Ne.symm h.1),a7g p r h.2]
theorem a3t (c:UInt8):∀ s:List UInt8,c∉s\/∃ p r,s=p++c::r/\c∉p
 | []=>.inl (by simp)
 | x::s=>by
   by_cases h:x=c
   ·exact .inr ⟨[],s,by rw [h];rfl,by simp⟩
   ·rcases a3t c s with h1|⟨p,r,rfl,h1⟩
    ·exact .inl (by simp [Ne.symm h,h1])
    ·exact .inr ⟨x::p,r,rfl,by simp [Ne.symm h,h1]⟩
theorem b7R {c:UInt8} {s:List UInt8} (h:c∉s):Lib.index s [c]=-1:=by
 rw [Lib.index_one]
 rcases Int.lt_or_le (Lib.indexByte s c) 0 with h1|h1
 ·have:=Lib.indexByte_ge s c
  omega
 ·obtain⟨o,ho⟩:=Int.eq_ofNat_of_zero_le h1
  exact absurd (List.mem_of_getElem? (Lib.indexByte_some (o:=o) ho).1) h
theorem b4J {c:UInt8} {p r:List UInt8} (h:c∉p):Lib.index (p++c::r) [c]=p.length:=b6y (t:=[]) p r h
theorem b7j (p r:List UInt8) (c:UInt8):(p++c::r).drop (p.length+1)=r:=by
 rw [List.drop_append,List.drop_eq_nil_of_le (by omega)]
 simp [show p.length+1-p.length=1 by omega]
theorem b33 {c:UInt8} {s:List UInt8} (h:c∉s) (k:Nat):Lib.splitK [c] 0 k s=[s]:=by
 cases k with
 | zero=>rfl
 | succ k=>rw [Lib.splitK,if_pos (by rw [b7R h];rfl)]
theorem b0I {c:UInt8} {p r:List UInt8} (h:c∉p) (k:Nat):Lib.splitK [c] 0 (k+1) (p++c::r)=p::Lib.splitK [c] 0 k r:=by
 rw [Lib.splitK,b4J h,if_neg (by rw [beq_iff_eq];omega)]
 rw [Int.toNat_natCast,Nat.add_zero,List.take_left' rfl]
 congr 2
 exact b7j p r c
theorem c4x:∀ (n:Nat) (s:List UInt8),s.length<=n->Lib.split s [32]=wdL s:=by
 intro n
 induction n with
 | zero=>
   intro s h
   obtain rfl:=List.length_eq_zero_iff.1 (by omega:s.length=0)
   unfold Lib.split
   rw [b33 (by simp)]
   rfl
 | succ n ih=>
   intro s h
   unfold Lib.split
   rcases a3t 32 s with h1|⟨p,r,rfl,h1⟩
   ·rw [b33 h1,a86 s h1]
   ·rw [Lib.count_hit (i:=p.length) (by simp) (b4J h1)]
    have e:(p++32::r).drop (p.length+([32]:List UInt8).length)=r:=b7j p r 32
    rw [e,Nat.add_comm,b0I h1,a7g p r h1]
    have:=ih r (by simp at h;omega)
    unfold Lib.split at this
    rw [this]
def a9A:Nat->List UInt8->List UInt8
 | _,[]=>[]
 | n,c::r=>if c=32 then (if n=1 then r else a9A (n-1) r) else a9A n r
theorem a6n (n:Nat):∀ (p r:List UInt8),(32:UInt8)∉p->a9A n (p++32::r)=if n=1 then r else a9A (n-1) r
 | [],r,_=>by rw [List.nil_append,a9A,if_pos rfl]
 | c::p,r,h=>by
   rw [List.mem_cons,not_or] at h
   rw [List.cons_append,a9A,if_neg (Ne.symm h.1),a6n n p r h.2]
theorem d2u {s:List UInt8} (h:3<=(wdL s).length):(Lib.splitN s [32] 3).length=3/\(Lib.splitN s [32] 3).getD 2 []=a9A 2 s:=by
 rcases a3t 32 s with h1|⟨p,r,rfl,h1⟩
 ·rw [a86 s h1] at h
  simp at h
 ·rw [a7g p r h1] at h
  rcases a3t 32 r with h2|⟨q,t,rfl,h2⟩
  ·rw [a86 r h2] at h
   simp at h
  ·unfold Lib.splitN
   have e:min 3 ((p++32::(q++32::t)).length+1)-1=1+1:=by simp;omega
   rw [e,b0I h1,b0I h2,a6n 2 p _ h1,if_neg (by decide),a6n 1 q t h2,if_pos rfl]
   simp [Lib.splitK]
def d5E (c:UInt8):UInt8:=if c=10 then 59 else c
def c2k (s:List UInt8):List UInt8:=s.map d5E
theorem b90 {s:List UInt8} (h:(10:UInt8)∉s):c2k s=s:=by
 unfold c2k
 conv=>rhs;rw [<-List.map_id s]
 refine List.map_congr_left fun c hc=>?_
 show d5E c=c
 unfold d5E
 rw [if_neg]
 rintro rfl
 exact h hc
theorem b0J {c:UInt8} {s n:List UInt8} (h:c∉s) (k:Nat):Lib.replaceK [c] n k s=s:=by
 cases k with
 | zero=>rfl
 | succ k=>rw [Lib.replaceK,if_pos (by rw [b7R h];rfl)]
theorem b47:∀ (n:Nat) (s:List UInt8),s.length<=n->Lib.replaceAll s [10] [59]=c2k s:=by
 have key:∀ s:List UInt8,Lib.replaceAll s [10] [59]=Lib.replaceK [10] [59] (Lib.count s [10]) s:=fun s=>by
  unfold Lib.replaceAll Lib.replace Lib.replaceNum
  rw [if_neg (by decide),if_pos (.inl (by decide))]
 intro n
 induction n with
 | zero=>
   intro s h
   obtain rfl:=List.length_eq_zero_iff.1 (by omega:s.length=0)
   rw [key,b0J (by simp)]
   rfl
 | succ n ih=>
   intro s h
   rcases a3t 10 s with h1|⟨p,r,rfl,h1⟩
   ·rw [key,b0J h1,b90 h1]
   ·rw [key,Lib.count_hit (i:=p.length) (by simp) (b4J h1)]
    have e:(p++10::r).drop (p.length+([10]:List UInt8).length)=r:=b7j p r 10
    rw [Nat.add_comm,Lib.replaceK_hit _ _ _ _ p.length (b4J h1),e,<-key,ih r (by simp at h;omega),List.take_left' rfl]
    have e2:c2k (p++10::r)=c2k p++59::c2k r:=by simp [c2k,d5E]
    rw [e2,b90 h1]
    simp
def a7a (s:List UInt8):List UInt8:=if s=[] then [110,111,110,101] else c2k s
open Classical in
noncomputable def b57 (w:List UInt8):Option Nat:=if h:∃ n:Nat,n<=1000000/\Lib.itoa (n:Nat)=w then some (Classical.choose h) else none
theorem c4I {a b:Nat} (h:Lib.itoa (a:Nat)=Lib.itoa (b:Nat)):a=b:=by
 have h1:=(a7M (n:=(a:Int)) (by omega)).2.2
 have h2:=(a7M (n:=(b:Int)) (by omega)).2.2
 rw [h,h2] at h1
 have:=Option.some.inj h1
 omega
theorem b8p {w:List UInt8} {n:Nat} (h:n<=1000000) (e:Lib.itoa (n:Nat)=w):b57 w=some n:=by
 have hx:∃ n:Nat,n<=1000000/\Lib.itoa (n:Nat)=w:=⟨n,h,e⟩
 have hc:=Classical.choose_spec hx
 unfold b57
 rw [dif_pos hx,c4I (hc.2.trans e.symm)]
theorem b82 {w:List UInt8} (h:∀ n:Nat,n<=1000000->Lib.itoa (n:Nat)≠w):b57 w=none:=by
 unfold b57
 rw [dif_neg]
 rintro⟨n,h1,h2⟩
 exact h n h1 h2
theorem b77 (w:List UInt8):(∃ n:Nat,n<=1000000/\Lib.itoa (n:Nat)=w/\b57 w=some n)\/((∀ n:Nat,n<=1000000->Lib.itoa (n:Nat)≠w)/\b57 w=none):=by
 by_cases h:∃ n:Nat,n<=1000000/\Lib.itoa (n:Nat)=w
 ·obtain⟨n,h1,h2⟩:=h
  exact .inl ⟨n,h1,h2,b8p h1 h2⟩
 ·have h':∀ n:Nat,n<=1000000->Lib.itoa (n:Nat)≠w:=fun n h1 h2=>h ⟨n,h1,h2⟩
  exact .inr ⟨h',b82 h'⟩
theorem c0k:∃ f:List UInt8->Option Nat,∀ w,(∃ n:Nat,n<=1000000/\Lib.itoa (n:Nat)=w/\f w=some n)\/((∀ n:Nat,n<=1000000->Lib.itoa (n:Nat)≠w)/\f w=none):=⟨b57,b77⟩
noncomputable def a6E:List UInt8->Option Nat:=Classical.choose c0k
theorem a4t (w:List UInt8):(∃ n:Nat,n<=1000000/\Lib.itoa (n:Nat)=w/\a6E w=some n)\/((∀ n:Nat,n<=1000000->Lib.itoa (n:Nat)≠w)/\a6E w=none):=Classical.choose_spec c0k w
end Go.Proofs.YthpjjjnbkfnghaaGreatDoor
namespace Go.Proofs.YthpjjjnbkfnghaaGreatDoor
open Go
theorem b4G:∀ (a b:List UInt8) (acc n:Nat),Lib.parseUint10 acc a=.ok n->Lib.parseUint10 acc (a++b)=Lib.parseUint10 n b
 | [],b,acc,n,h=>by
   simp only [Lib.parseUint10] at h
   injection h with h
   rw [h];rfl
 | c::a,b,acc,n,h=>by
   rw [List.cons_append]
   simp only [Lib.parseUint10] at h ⊢
   split at h
   ·rename_i h1
    rw [if_pos h1]
    split at h
    ·cases h
    ·rename_i h2
     rw [if_neg h2]
     split at h
     ·cases h
     ·rename_i h3
      rw [if_neg h3]
      exact b4G a b _ n h
   ·cases h
theorem c1d:∀ (m u:Nat),u<=m->u<=100000000->Lib.parseUint10 0 (Lib.decDigits u)=.ok u:=by
 have dv:∀ d:Nat,d<10->(UInt8.ofNat (48+d)).toNat=48+d:=by decide
 have one:∀ (acc d:Nat),d<10->acc<=100000000->Lib.parseUint10 acc [UInt8.ofNat (48+d)]=.ok (acc*10+d):=fun acc d hd ha=>by
  simp only [Lib.parseUint10,dv d hd]
  rw [if_pos (by omega),if_neg (by omega),if_neg (by omega)]
  congr 1
  omega
 intro m
 induction m with
 | zero=>
   intro u hu h2
   obtain rfl:u=0:=by omega
   rw [Lib.decDigits,dif_pos (by omega)]
   exact one 0 0 (by omega) (by omega)
 | succ m ih=>
   intro u hu h2
   by_cases h:u<10
   ·rw [Lib.decDigits,dif_pos h]
    have:=one 0 u h (by omega)
    simpa using this
   ·rw [Lib.decDigits,dif_neg h,b4G _ _ _ _ (ih (u / 10) (by omega) (by omega)),one _ _ (Nat.mod_lt _ (by omega)) (by omega)]
    congr 1
    omega
theorem a32 (n:Nat):Lib.itoa (n:Nat)=Lib.decDigits n:=by unfold Lib.itoa;rw [if_neg (by omega)];rfl
theorem c0b {n:Nat} (h:n<=100000000):Lib.atoiAll (Lib.itoa (n:Nat))=.ok (n:Int):=by
 obtain⟨h1,h2,_⟩:=a7M (n:=(n:Int)) (by omega)
 have hp:=c1d n n (Nat.le_refl _) h
 rw [<-a32] at hp
 cases hl:Lib.itoa (n:Nat) with
 | nil=>exact absurd hl h2
 | cons b r=>
   have hb:=h1 b (by rw [hl];simp)
   rw [hl] at hp
   have hm:Lib.parseMag (b::r)=.ok n:=by
    unfold Lib.parseMag
    rw [if_neg (by simp),hp]
   unfold Lib.atoiAll
   dsimp only
   rw [if_neg (by omega),hm]
   dsimp only
   rw [if_neg (by omega),if_neg (by omega),if_neg (by omega)]
def b9v (w:List UInt8):Option Int:=match Lib.atoiAll w with
 | .ok n=>if n<0\/1000000<n\/Lib.itoa n≠w then none else some n
 | _=>none
def d8k:Option Nat->Option Int
 | some n=>some n
 | none=>none
theorem b71 (w:List UInt8):b9v w=d8k (a6E w):=by
 rcases a4t w with⟨n,h1,h2,h3⟩|⟨h1,h3⟩
 ·rw [h3]
  unfold b9v
  rw [<-h2,c0b (by omega)]
  dsimp only
  rw [if_neg (by rintro (h|h|h)<;>first|omega|exact h rfl)]
  rfl
 ·rw [h3]
  unfold b9v
  split
  ·rename_i n hn
   rw [if_pos]
   ·rfl
   ·rcases Int.lt_or_le n 0 with g|g
    ·exact .inl g
    ·rcases Int.lt_or_le 1000000 n with g2|g2
     ·exact .inr (.inl g2)
     ·refine .inr (.inr ?_)
      obtain⟨k,rfl⟩:=Int.eq_ofNat_of_zero_le g
      exact h1 k (by omega)
  ·rfl
def a96:List UInt8->Nat->Nat
 | [],n=>n
 | c::r,n=>a96 r (10*n+(c.toNat-48))
theorem b3a:∀ (a b:List UInt8) (n:Nat),a96 (a++b) n=a96 b (a96 a n)
 | [],_,_=>rfl
 | c::a,b,n=>by rw [List.cons_append,a96,b3a a b];rfl
theorem d0n:∀ (m u:Nat),u<=m->a96 (Lib.decDigits u) 0=u:=by
 have dv:∀ d:Nat,d<10->(UInt8.ofNat (48+d)).toNat=48+d:=by decide
 intro m
 induction m with
 | zero=>
   intro u hu
   obtain rfl:u=0:=by omega
   rw [Lib.decDigits,dif_pos (by omega)]
   rfl
 | succ m ih=>
   intro u hu
   by_cases h:u<10
   ·rw [Lib.decDigits,dif_pos h,a96,a96,dv u h]
    omega
   ·rw [Lib.decDigits,dif_neg h,b3a,ih (u / 10) (by omega),a96,a96,dv _ (Nat.mod_lt _ (by omega))]
    omega
theorem c0D:∀ (l:List UInt8) (n k:Nat),(∀ c∈l,48<=c.toNat/\c.toNat<=57)->n<10 ^ k->a96 l n<10 ^ (k+l.length)
 | [],n,k,_,h=>h
 | c::r,n,k,hd,h=>by
   have hc:=hd c (List.mem_cons_self ..)
   have:=c0D r (10*n+(c.toNat-48)) (k+1) (fun x hx=>hd x (List.mem_cons_of_mem _ hx)) (by rw [Nat.pow_succ];omega)
   rw [a96,List.length_cons]
   rwa [show k+(r.length+1)=k+1+r.length by omega]
def d7f:Option Nat->Int
 | some n=>n
 | none=>-1
noncomputable def a8R (w:List UInt8):Int:=d7f (a6E w)
theorem a6f {w:List UInt8} (h:a6E w=none):a8R w=-1:=congrArg d7f h
theorem a3q {w:List UInt8} {n:Nat} (h:a6E w=some n):a8R w=n:=congrArg d7f h
theorem b34 {n:Nat} (h:n<=1000000):(Lib.itoa (n:Nat)).length<=7:=by
 rw [a32]
 exact b5S 7 n (by decide) (Nat.lt_of_le_of_lt h (by decide))
theorem b1R {w:List UInt8} (h:w.length<1\/7<w.length):a8R w=-1:=by
 rcases a4t w with⟨n,h1,h2,h3⟩|⟨h1,h3⟩
 ·exfalso
  have g2:=(a7M (n:=(n:Int)) (Int.natCast_nonneg n)).2.1
  have g3:=b34 h1
  rw [h2] at g2 g3
  have:=List.length_pos_iff.2 g2
  omega
 ·exact a6f h3
theorem a2o {w:List UInt8} {c:UInt8} (hc:c∈w) (h:c.toNat<48\/57<c.toNat):a8R w=-1:=by
 rcases a4t w with⟨n,h1,h2,h3⟩|⟨h1,h3⟩
 ·exfalso
  have g1:=(a7M (n:=(n:Int)) (Int.natCast_nonneg n)).1 c (by rw [h2];exact hc)
  omega
 ·exact a6f h3
theorem c5O (w:List UInt8):a8R w=if Lib.itoa ((a96 w 0:Nat):Int)≠w\/1000000<a96 w 0 then -1 else (a96 w 0:Int):=by
 rcases a4t w with⟨n,h1,h2,h3⟩|⟨h1,h3⟩
 ·have e:a96 w 0=n:=by rw [<-h2,a32];exact d0n n n (Nat.le_refl _)
  rw [a3q h3,e,if_neg]
  rintro (h|h)
  ·exact h h2
  ·omega
 ·rw [a6f h3]
  by_cases h:Lib.itoa ((a96 w 0:Nat):Int)≠w\/1000000<a96 w 0
  ·rw [if_pos h]
  ·rw [not_or] at h
   exact absurd (Decidable.not_not.1 h.1) (h1 _ (by omega))
end Go.Proofs.YthpjjjnbkfnghaaGreatDoor
namespace Go.Proofs.YthpjjjnbkfnghaaGreatDoor
open Go
section
variable {α β:Type} {A:El α} {B:El β}
@[go_sem] theorem e1a:(eP A B).sz=A.sz+B.sz:=rfl
@[go_sem] theorem e0j (a:α):(kA A).enc a=.ag A.sz (A.enc a):=rfl
@[go_sem] theorem d8r (p:α×β) (n:Nat) (h:n<A.sz):(eP A B).enc p n=A.enc p.1 n:=if_pos h
@[go_sem] theorem d6r (p:α×β) (n:Nat) (h:A.sz<=n):(eP A B).enc p n=B.enc p.2 (n-A.sz):=if_neg (Nat.not_lt.2 h)
@[go_sem] theorem a9T {c d:Nat->AV} {j k i:Nat} (h:j<=i) (h2:i<j+k):stC c j k d i=d (i-j):=if_pos ⟨h,h2⟩
@[go_sem] theorem d9s {c d:Nat->AV} {j k i:Nat} (h:i<j):stC c j k d i=c i:=if_neg fun hh=>by omega
@[go_sem] theorem e0x {c d:Nat->AV} {j k i:Nat} (h:j+k<=i):stC c j k d i=c i:=if_neg fun hh=>by omega
@[go_sem] theorem d7q (v:Value) (l:List Value):zC (v::l) 0=a7i v:=rfl
@[go_sem] theorem d6t (v:Value) (l:List Value) (n:Nat) (h:0<n):zC (v::l) n=zC l (n-1):=by
 cases n with
 | zero=>omega
 | succ n=>rfl
@[go_sem] theorem d2U (k:IntKind) (n:Int):a7i (.int k n)=.val (.int k n):=rfl
@[go_sem] theorem d1t (b:Bool):a7i (.bool b)=.val (.bool b):=rfl
@[go_sem] theorem e0J (c:Nat->AV):(eP A B).dec c=(A.dec c,B.dec fun j=>c (A.sz+j)):=rfl
@[go_sem] theorem d8S (c:Nat->AV):eI.dec c=kI.dec (c 0):=rfl
@[go_sem] theorem e0d (c:Nat->AV):eB.dec c=kB.dec (c 0):=rfl
@[go_sem] theorem e0f (c:Nat->AV):eS.dec c=kS.dec (c 0):=rfl
@[go_sem] theorem d9h (c:Nat->AV):(eL A).dec c=(kL A).dec (c 0):=rfl
@[go_sem] theorem d9K (n:Nat) (c:Nat->AV):(kA A).dec (.ag n c)=A.dec c:=rfl
theorem c2D {E:El α} {K:Kd α} (hs:E.sz=1) (hd:∀ c,E.dec c=K.dec (c 0)) (he:∀ a,E.enc a 0=K.enc a) (c:Nat->AV):E.okc c=K.ok (c 0):=by
 refine propext ⟨fun h=>?_,fun h j hj=>?_⟩
 ·have:=h 0 (by omega)
  rw [hd,he] at this
  exact this
 ·obtain rfl:j=0:=by omega
  rw [hd,he]
  exact h
@[go_sem] theorem d9X (c:Nat->AV):eI.okc c=kI.ok (c 0):=c2D rfl (fun _=>rfl) (fun _=>rfl) c
@[go_sem] theorem d9I (c:Nat->AV):eB.okc c=kB.ok (c 0):=c2D rfl (fun _=>rfl) (fun _=>rfl) c
@[go_sem] theorem d9d (c:Nat->AV):eS.okc c=kS.ok (c 0):=c2D rfl (fun _=>rfl) (fun _=>rfl) c
@[go_sem] theorem d85 (c:Nat->AV):(eL A).okc c=(kL A).ok (c 0):=c2D rfl (fun _=>rfl) (fun _=>rfl) c
@[go_sem] theorem d8Q (c:Nat->AV):(eP A B).okc c=(A.okc c/\B.okc fun j=>c (A.sz+j)):=by
 have e:∀ j,(eP A B).enc ((eP A B).dec c) j=if j<A.sz then A.enc (A.dec c) j else B.enc (B.dec fun j=>c (A.sz+j)) (j-A.sz):=fun _=>rfl
 refine propext ⟨fun h=>⟨fun j hj=>?_,fun j hj=>?_⟩,fun⟨h1,h2⟩ j hj=>?_⟩
 ·have:=h j (Nat.lt_add_right _ hj)
  rw [e,if_pos hj] at this
  exact this
 ·have:=h (A.sz+j) (Nat.add_lt_add_left hj _)
  rw [e,if_neg (by omega),Nat.add_sub_cancel_left] at this
  exact this
 ·rw [e]
  by_cases hA:j<A.sz
  ·rw [if_pos hA]
   exact h1 j hA
  ·rw [if_neg hA]
   have hj:j<A.sz+B.sz:=hj
   have h3:a0e (c (A.sz+(j-A.sz))) _:=h2 (j-A.sz) (by omega)
   have e2:A.sz+(j-A.sz)=j:=by omega
   rw [e2] at h3
   exact h3
@[go_sem] theorem e04 (n:Nat) (c:Nat->AV) (h:A.sz=n) (h2:A.okc c):(kA A).ok (.ag n c)=True:=by
 subst h
 exact eq_true (a0e.ag h2)
def d9W:Option Bool->Option Bool->Option Bool
 | some a,some b=>some (a&&b)
 | _,_=>none
@[go_sem] theorem d25 (a b:Bool):d9W (some a) (some b)=some (a&&b):=rfl
def d07 (u:Option TypeDesc):AV->AV->Option Bool:=fun x y=>match u,x,y with
 | some .bool,.val (.bool a),.val (.bool b)=>some (decide (a=b))
 | some (.int _),.val (.int .i64 a),.val (.int .i64 b)=>some (decide (a=b))
 | some (.int _),.val (.int .u8 a),.val (.int .u8 b)=>some (decide (a=b))
 | some .string,.st a,.st b=>some (decide (a=b))
 | _,_,_=>none
@[go_sem] theorem d5z (k:IntKind) (a b:Int):d07 (some (.int k)) (.val (.int .i64 a)) (.val (.int .i64 b))=some (decide (a=b)):=rfl
@[go_sem] theorem d1H (a b:Bool):d07 (some .bool) (.val (.bool a)) (.val (.bool b))=some (decide (a=b)):=rfl
@[go_sem] theorem c84 (a b:List UInt8):d07 (some .string) (.st a) (.st b)=some (decide (a=b)):=rfl
def eqI (P:Program) (d m:Nat) (x y:Nat->AV) (o:Nat) (u:TypeId) (k:Nat):Option Bool:=if 0<k/\o+k<=m then aEq P d u k (fun j=>x (o+j)) (fun j=>y (o+j)) else none
@[go_sem] theorem d9V {P:Program} {d m o k:Nat} {x y:Nat->AV} {u:TypeId} (h:0<k) (h2:o+k<=m):eqI P d m x y o u k=aEq P d u k (fun j=>x (o+j)) (fun j=>y (o+j)):=if_pos ⟨h,h2⟩
def eqA (P:Program) (d m:Nat) (x y:Nat->AV):List (Nat×TypeId)->Option Bool:=fun l=>b0e (fun o u=>eqI P d m x y o u (P.cellsOf u)) l
@[go_sem] theorem d8o {P:Program} {d m:Nat} {x y:Nat->AV}:eqA P d m x y []=some true:=rfl
@[go_sem] theorem d36 {P:Program} {d m:Nat} {x y:Nat->AV} {o:Nat} {u:TypeId} {r:List (Nat×TypeId)}:eqA P d m x y ((o,u)::r)=d9W (eqI P d m x y o u (P.cellsOf u)) (eqA P d m x y r):=by
 unfold eqA
 simp only [b0e]
 cases eqI P d m x y o u (P.cellsOf u) with
 | none=>rfl
 | some a=>cases b0e (fun o u=>eqI P d m x y o u (P.cellsOf u)) r<;>rfl
def d4X (P:Program) (d:Nat) (t:TypeId) (m:Nat) (x y:Nat->AV):Option (List (Nat×TypeId))->Option Bool
 | some l=>eqA P d m x y l
 | none=>if 0<m then d07 (P.underlying t) (x 0) (y 0) else none
@[go_sem] theorem d2c {P:Program} {d m:Nat} {t:TypeId} {x y:Nat->AV} {l:List (Nat×TypeId)}:d4X P d t m x y (some l)=eqA P d m x y l:=rfl
@[go_sem] theorem d3g {P:Program} {d m:Nat} {t:TypeId} {x y:Nat->AV} (h:0<m):d4X P d t m x y none=d07 (P.underlying t) (x 0) (y 0):=if_pos h
@[go_sem] theorem d6l {P:Program} {d m:Nat} {t:TypeId} {x y:Nat->AV} (h:0<d):aEq P d t m x y=d4X P (d-1) t m x y (a2z P t):=by
 cases d with
 | zero=>omega
 | succ d=>
   unfold aEq d4X
   cases a2z P t with
   | none=>rfl
   | some l=>rfl
end
end Go.Proofs.YthpjjjnbkfnghaaGreatDoor
namespace Go.Proofs.YthpjjjnbkfnghaaGreatDoor
open Go
theorem a1g.still {st:AS} (s q v e m:Nat) (c:Nat->AV) (hs:st.fr s=.pt q v 0) (hrow:st.hp q=.box v e m c) (hfl:∀ j,j<m->(c j).flat=true) :
  a1g st ⟨c30 st.fr s (.ps m c),a0S st.hp q .dead,st.sz,st.top,st.nx,st.df⟩:=by
 intro ct η a w h
 have hver:∀ p u,(a0S st.hp q .dead p).ver=some u->(st.hp p).ver=some u/\p≠q:=fun p u hv=>by
  by_cases e:p=q
  ·subst e;rw [a0k] at hv;cases hv
  ·rw [a0f _ _ e] at hv;exact⟨hv,e⟩
 have hblk:∀ p b,(a0S st.hp q .dead p).blk η=some b->(st.hp p).blk η=some b/\p≠q:=fun p b hb=>by
  by_cases e:p=q
  ·subst e;rw [a0k] at hb;cases hb
  ·rw [a0f _ _ e] at hb;exact⟨hb,e⟩
 have hL:∀ b,a0Y ct η (a0S st.hp q .dead) b->a0Y ct η st.hp b:=by
  rintro b (hl|⟨p,hp⟩)
  ·exact .inl hl
  ·exact .inr ⟨p,(hblk p b hp).1⟩
 have less:∀ {x u},Rep w η (a0Y ct η st.hp) x u->Rep w η (a0Y ct η (a0S st.hp q .dead)) x u:=fun h=>Rep.less (fun b _ hb=>hL b hb) h
 have lessN:∀ {x u},Rep w a1l (a0Y ct η st.hp) x u->Rep w a1l (a0Y ct η (a0S st.hp q .dead)) x u:=fun h=>Rep.less (fun b _ hb=>hL b hb) h
 refine⟨η,⟨⟨h.hs.fr,h.hs.lx,fun p=>?_,fun p p' u hp hq=>h.hs.vers p p' u (hver p u hp).1 (hver p' u hq).1,fun p u hp=>h.hs.bnd p u (hver p u hp).1,
  fun p p' b hp hq=>h.hs.disj p p' b (hblk p b hp).1 (hblk p' b hq).1,fun p b hp=>h.hs.own p b (hblk p b hp).1,h.hs.fresh,h.hs.env⟩,fun p hp=>?_,h.size,
  fun t=>?_,h.defs⟩⟩
 ·show a13 w η (a0Y ct η (a0S st.hp q .dead)) (if p=q then .dead else st.hp p)
  by_cases e:p=q
  ·rw [if_pos e];trivial
  ·rw [if_neg e]
   exact a13.less hL (h.hs.rows p)
 ·show (if p=q then Row.dead else st.hp p)=.dead
  by_cases e:p=q
  ·rw [if_pos e]
  ·rw [if_neg e]
   exact h.dead p hp
 ·by_cases et:t=s
  ·subst et
   show Rep w η (a0Y ct η (a0S st.hp q .dead)) (if t=t then .ps m c else st.fr t) _
   rw [if_pos rfl]
   have hr:=h.slots t
   rw [hs] at hr
   obtain⟨g,cap,hη,hv⟩:=hr
   have hrr:=h.hs.rows q
   rw [hrow] at hrr
   obtain⟨b,cur,hg,hh,hsz,hc⟩:=hrr (some g) cap hη
   have hg:g=b:=Option.some.inj hg
   subst hg
   have hbk:(st.hp q).blk η=some g:=by rw [hrow];simp [Row.blk,Row.ver,hη]
   refine⟨g,0,hv,fun _=>?_,fun j hj=>?_⟩
   ·rintro (hl|⟨p',hp'⟩)
    ·exact (h.hs.own q g hbk).2.1 hl
    ·obtain⟨h1,h2⟩:=hblk p' g hp'
     exact h2 (h.hs.disj p' q g h1 hbk)
   ·obtain⟨u,hu,h1,hrep⟩:=hc j hj
    exact⟨u,by rw [a0Z hh,Nat.zero_add];exact hu,h1,lessN (a3d (hfl j hj) hrep)⟩
  ·show Rep w η (a0Y ct η (a0S st.hp q .dead)) (if t=s then .ps m c else st.fr t) _
   rw [if_neg et]
   exact less (h.slots t)
theorem AW.still {P:Program} {x:Code} {Q:Exit->AS->Prop} {st:AS} (s q v e m:Nat) (c:Nat->AV) (hs:st.fr s=.pt q v 0) (hrow:st.hp q=.box v e m c) (hfl:∀ j,j<m->(c j).flat=true)
  (k:AW P x Q ⟨c30 st.fr s (.ps m c),a0S st.hp q .dead,st.sz,st.top,st.nx,st.df⟩):AW P x Q st:=AW.le (a1g.still s q v e m c hs hrow hfl) k
section
variable {α β γ δ ε ζ:Type}
def a0s.f5 (A:Kd α) (B:Kd β) (C:Kd γ) (D:Kd δ) (E:Kd ε) (dom:α->β->γ->δ->ε->Prop) (out:α->β->γ->δ->ε->AV):a0s where
 pre|[x,y,z,u,v]=>A.ok x/\B.ok y/\C.ok z/\D.ok u/\E.ok v/\dom (A.dec x) (B.dec y) (C.dec z) (D.dec u) (E.dec v)
     | _=>False
 res|[x,y,z,u,v]=>out (A.dec x) (B.dec y) (C.dec z) (D.dec u) (E.dec v)
     | _=>.any
def a0s.f6 (A:Kd α) (B:Kd β) (C:Kd γ) (D:Kd δ) (E:Kd ε) (F:Kd ζ) (dom:α->β->γ->δ->ε->ζ->Prop) (out:α->β->γ->δ->ε->ζ->AV):a0s where
 pre|[x,y,z,u,v,w]=>A.ok x/\B.ok y/\C.ok z/\D.ok u/\E.ok v/\F.ok w/\dom (A.dec x) (B.dec y) (C.dec z) (D.dec u) (E.dec v) (F.dec w)
     | _=>False
 res|[x,y,z,u,v,w]=>out (A.dec x) (B.dec y) (C.dec z) (D.dec u) (E.dec v) (F.dec w)
     | _=>.any
variable {P:Program} {f:FuncId} {fn:Func} {code:Code} {l:List ResultVar}
theorem a0d.f5 {A:Kd α} {B:Kd β} {C:Kd γ} {D:Kd δ} {E:Kd ε} {dom:α->β->γ->δ->ε->Prop} {out:α->β->γ->δ->ε->AV} (hf:P.funcs[f]?=some fn) (hb:fn.body=some code) (hn:(fn.name == "runtime.NumGoroutine")=false) (hl:fn.results=l.toArray) {n:Nat} (ht:fn.ntmps=n) (hm:5<=n)
  (h:∀ a b c d e,dom a b c d e->AW P code (c3O P l (out a b c d e)) (st0 n [A.enc a,B.enc b,C.enc c,D.enc d,E.enc e])):a0d P f (a0s.f5 A B C D E dom out):=by
 subst ht
 refine a0d.mk hf hb hn hl fun args hp=>?_
 match args,hp with
 | [x,y,z,u,v],hp=>exact⟨hm,AW.le (b0u (.cons hp.1 (.cons hp.2.1 (.cons hp.2.2.1 (.cons hp.2.2.2.1 (.cons hp.2.2.2.2.1 .nil)))))) (h _ _ _ _ _ hp.2.2.2.2.2)⟩
theorem a0d.f6 {A:Kd α} {B:Kd β} {C:Kd γ} {D:Kd δ} {E:Kd ε} {F:Kd ζ} {dom:α->β->γ->δ->ε->ζ->Prop} {out:α->β->γ->δ->ε->ζ->AV} (hf:P.funcs[f]?=some fn) (hb:fn.body=some code) (hn:(fn.name == "runtime.NumGoroutine")=false) (hl:fn.results=l.toArray) {n:Nat} (ht:fn.ntmps=n) (hm:6<=n)
  (h:∀ a b c d e g,dom a b c d e g->AW P code (c3O P l (out a b c d e g)) (st0 n [A.enc a,B.enc b,C.enc c,D.enc d,E.enc e,F.enc g])):a0d P f (a0s.f6 A B C D E F dom out):=by
 subst ht
 refine a0d.mk hf hb hn hl fun args hp=>?_
 match args,hp with
 | [x,y,z,u,v,w],hp=>exact⟨hm,AW.le (b0u (.cons hp.1 (.cons hp.2.1 (.cons hp.2.2.1 (.cons hp.2.2.2.1 (.cons hp.2.2.2.2.1 (.cons hp.2.2.2.2.2.1 .nil))))))) (h _ _ _ _ _ _ hp.2.2.2.2.2.2)⟩
end
attribute [go_sem] a0s.f5 a0s.f6
end Go.Proofs.YthpjjjnbkfnghaaGreatDoor
namespace Go.Proofs.YthpjjjnbkfnghaaGreatDoor
open Go
section
variable {P:Program} {Γ:Gam} {ops:Array Oper} {st:AS} {K:AS->Prop}
def a6V (P:Program) (Γ:Gam) (ops:Array Oper):List Bool->List Oper->AS->(AS->Prop)->Prop
 | _,[],st,K=>K st
 | true::W,o::r,st,K=>o.guard=none/\OpW P o st fun st'=>a6V P Γ ops W r st' K
 | false::W,o::r,st,K=>match gop P Γ ops st o with
   | some (pre,z,row)=>(a0N st.sz o.dst/\pre)/\a6V P Γ ops W r (st.put o.dst z row) K
   | none=>o.guard=none/\bop P Γ st o fun st'=>a6V P Γ ops W r st' K
 | [],l,st,K=>a9G P Γ ops l st K
theorem a7Y (hΓ:GOK P Γ) {ops:Array Oper} {Q:Exit->Act->World->Prop}:∀ (W:List Bool) (l:List Oper) (c:Ctx) (st:AS) (K:AS->Prop) (η:Env) (a:Act) (w:World),SR c st η a w->a6V P Γ ops W l st K->
  (∀ st' η' a' w',SR c st' η' a' w'->K st'->Q .normal a' w')->wpList P ops Q l a w
 | [],[],_,_,_,η,a,w,hsr,h,hQ=>hQ _ η a w hsr h
 | _::_,[],_,_,_,η,a,w,hsr,h,hQ=>hQ _ η a w hsr (by unfold a6V at h;exact h)
 | [],o::r,c,st,K,η,a,w,hsr,h,hQ=>a8s hΓ (o::r) c st K η a w hsr h hQ
 | true::W,o::r,c,st,K,η,a,w,hsr,h,hQ=>by
   unfold a6V at h
   refine wpList_step fun KK hKK=>?_
   rw [if_pos (a5k h.1)]
   exact h.2 c η a w KK Q hsr fun st' η' a' w' hsr' hx=>hKK _ _ (a7Y hΓ W r c st' K η' a' w' hsr' hx hQ)
 | false::W,o::r,c,st,K,η,a,w,hsr,h,hQ=>by
   unfold a6V at h
   split at h
   ·rename_i pre z row hg
    refine wpList_step fun KK hKK=>b1G hΓ hsr hg h.1.2 h.1.1 fun η' a' w' hsr'=>hKK _ _ (a7Y hΓ W r c _ K η' a' w' hsr' h.2 hQ)
   ·refine wpList_step fun KK hKK=>?_
    rw [if_pos (a5k h.1)]
    exact b4v hΓ h.2 c η a w KK Q hsr fun st' η' a' w' hsr' hx=>hKK _ _ (a7Y hΓ W r c st' K η' a' w' hsr' hx hQ)
def c4i (P:Program) (Γ:Gam) (ops:Array Oper) (W:List Bool) (r:List Oper) (K:AS->Prop):AS->Prop:=fun st=>a6V P Γ ops W r st K
theorem c1G {W:List Bool} {r:List Oper}:c4i P Γ ops W r K st=a6V P Γ ops W r st K:=a2J rfl
def goO (P:Program) (Γ:Gam) (ops:Array Oper) (W:List Bool) (o:Oper) (r:List Oper) (K:AS->Prop) (st:AS):b3x->Prop
 | some (pre,z,row)=>(a0N st.sz o.dst/\pre)/\a6V P Γ ops W r (st.put o.dst z row) K
 | none=>o.guard=none/\bop P Γ st o (c4i P Γ ops W r K)
theorem c6w {W:List Bool} {o:Oper} {r:List Oper} {pre:Prop} {z:AV} {row:Row}:goO P Γ ops W o r K st (some (pre,z,row))=((a0N st.sz o.dst/\pre)/\a6V P Γ ops W r (st.put o.dst z row) K):=a2J rfl
theorem c5f {W:List Bool} {o:Oper} {r:List Oper}:goO P Γ ops W o r K st none=(o.guard=none/\bop P Γ st o (c4i P Γ ops W r K)):=a2J rfl
theorem c2H {W:List Bool}:a6V P Γ ops W [] st K=K st:=a2J (by cases W with
 | nil=>rfl
 | cons b W=>cases b<;>rfl)
theorem c1p {o:Oper} {r:List Oper}:a6V P Γ ops [] (o::r) st K=a9G P Γ ops (o::r) st K:=a2J rfl
theorem c8Q {W:List Bool} {o:Oper} {r:List Oper}:a6V P Γ ops (false::W) (o::r) st K=goO P Γ ops W o r K st (gop P Γ ops st o):=a2J rfl
theorem c8O {W:List Bool} {o:Oper} {r:List Oper}:a6V P Γ ops (true::W) (o::r) st K=(o.guard=none/\OpW P o st (c4i P Γ ops W r K)):=a2J rfl
theorem AW.regionO (hΓ:GOK P Γ) {Q:Exit->AS->Prop} {id:Nat} {l:List Oper} (W:List Bool) (h:a6V P Γ l.toArray W l st (Q .normal)):AW P (.region id l.toArray false) Q st:=by
 intro c η a w hsr
 exact wp_region_lit (a7Y hΓ W l c st _ η a w hsr h fun st' η' a' w' hsr' hq=>⟨st',η',hq,hsr'⟩)
end
attribute [go_sem high] c8Q c8O
attribute [go_sem] c1G c6w c5f c2H c1p
section
variable {w:World}
theorem a5R {P:Program} {t t' e ty:TypeId} (ht:P.underlying t=some (.slice e)) (hu:P.underlying t'=some .string) {k:Nat} (hk:P.cellsOf e=k) (h0:0<k) {a:Option Addr} {n cap:Nat} (hn:n<=cap) :
  (Builtin.append_ #[t,t'] ty #[.slice a n cap,.string ⟨#[]⟩]).run P w=.ok (.slice a n cap) w:=by
 have e0:ByteArray.size ⟨#[]⟩=0:=rfl
 have hf:=Lib.run_firstCells_string (P:=P) w k ⟨#[]⟩
 rw [e0] at hf
 have e1:Lib.strCells ⟨#[]⟩=[]:=rfl
 rw [e1] at hf
 cases a<;>simp [Builtin.append_,run_underlying ht,run_underlying hu,a0P (P:=P) (w:=w) hk h0,Builtin.lenOf,e0,hn,hf,storeCells]
def a2j (s:List UInt8):Nat->Nat->AV:=fun i _=>.val (.int .u8 (s.getD i 0).toNat)
theorem a5r (s:List UInt8) {η:Env} {L:Nat->Prop} (i:Nat) (hi:i<s.length) (j:Nat) (hj:j<1) :
  ∃ u,(Lib.strCells ⟨s.toArray⟩)[i*1+j]?=some u/\u.oneCell'=true/\Rep w η L (a2j s i j) u:=by
 obtain rfl:j=0:=by omega
 refine⟨.int .u8 (s.getD i 0).toNat,?_,rfl,rfl⟩
 simp [Lib.strCells,List.getD,hi]
theorem a87 (s:List UInt8):(Lib.strCells ⟨s.toArray⟩).length=s.length:=by
 rw [Lib.strCells_length]
 simp [ByteArray.size]
theorem a6m {P:Program} {st:AS} {o:Oper} {t t' e:TypeId} {x y:Operand} {K:AS->Prop} {p v n:Nat} {cc:Nat->Nat->AV} {s:List UInt8} (ho:o.op=.call ⟨.builtin .append,⟨[x,y]⟩,⟨[t,t']⟩⟩) (hu:P.underlying t=some (.slice e)) (hu':P.underlying t'=some .string)
  (hxe:st.ev x=.ow p v n) (hye:st.ev y=.st s) (hrow:st.hp p=.sl v e 1 n cc) (hd:a0N st.sz o.dst) (hok:a8M P e 1 (n+s.length))
  (hK:K ⟨a2b st.fr o.dst (.ow p st.nx (n+s.length)),a0S st.hp p (.sl st.nx e 1 (n+s.length) (apC n cc (a2j s))),st.sz,st.top,st.nx+1,st.df⟩):OpW P o st K:=by
 intro c η a w next Q hsr hnext
 have hev:∀ x,Rep w η (a0Y c η st.hp) (st.ev x) (a.eval x):=a1X hsr.slots
 have fin:∀ v w',(Builtin.append_ #[t,t'] o.type #[a.eval x,a.eval y]).run P w=.ok v w'->next (a.put o.dst v) w'->o.wp P a w next Q:=fun v w' hr hn=>by
  unfold Oper.wp
  have:(execOp a.eval o).run P w=.ok (.value v) w':=by
   unfold execOp
   rw [ho]
   simp [resolve,invoke,builtin,hr]
  rw [this]
  exact hn
 have hx:=hev x
 have hyv:a.eval y=.string ⟨s.toArray⟩:=by
  have hy:=hev y
  rw [hye] at hy
  exact hy
 rw [hxe] at hx
 obtain⟨hsz,h0,hb0,hbytes,zl,hz,hzl⟩:=hok
 obtain⟨i,zv,hi,hiz,hzc,his,hib⟩:=b0c hz
 have hisz:i.size=1:=by rw [his,hsz]
 have hss:(⟨s.toArray⟩:ByteArray).size=s.length:=by simp [ByteArray.size]
 obtain⟨g,cap,hη,hv⟩:=hx
 have hr:=hsr.hs.rows p
 rw [hrow] at hr
 have hr:=hr g cap hη
 have hdead:∀ q row,st.top<=q->a0S st.hp p row q=.dead\/q=p:=fun q row hq=>by
  by_cases e:q=p
  ·exact .inr e
  ·rw [a0f _ _ e];exact .inl (hsr.dead q hq)
 have hpt:p<st.top:=by
  rcases Nat.lt_or_ge p st.top with h|h
  ·exact h
  ·rw [hsr.dead p h] at hrow;cases hrow
 have finish:∀ (v':Value) (w':World) (r:Option Nat×Nat) (O:Nat->Prop),(Builtin.append_ #[t,t'] o.type #[a.eval x,a.eval y]).run P w=.ok v' w'->Fr O w w'->
   (∀ k,k<w.heap.size->O k->(st.hp p).blk η=some k)->(∀ g,r.1=some g->(st.hp p).blk η=some g\/(w.heap.size<=g/\g<w'.heap.size))->
   ((∀ x u,Rep w η (a0Y c η st.hp) x u->Rep w' (a1Q η st.nx r) (a0Y c (a1Q η st.nx r) (a0S st.hp p (.sl st.nx e 1 (n+s.length) (apC n cc (a2j s))))) x u)->
    a13 w' (a1Q η st.nx r) (a0Y c (a1Q η st.nx r) (a0S st.hp p (.sl st.nx e 1 (n+s.length) (apC n cc (a2j s))))) (.sl st.nx e 1 (n+s.length) (apC n cc (a2j s))))->
   (match r.1 with|none=>n+s.length=0/\∃ a,v'=.slice a 0 0|some g=>v'=.slice (some ⟨g,0,none⟩) (n+s.length) r.2/\n+s.length<=r.2)->o.wp P a w next Q:=by
  intro v' w' r O hrun hf hO hrb hrok hval
  obtain⟨hs',hkeep⟩:=hsr.hs.swap (p:=p) (row:=.sl st.nx e 1 (n+s.length) (apC n cc (a2j s))) (r:=r) rfl hf hO hrb hrok
  refine fin v' w' hrun (hnext _ (a1Q η st.nx r) _ _ (hsr.put hd hs' (fun q hq=>(hdead q _ hq).resolve_right (by omega)) hkeep ?_) hK)
  exact⟨r.1,r.2,a0Q _ _ _,hval⟩
 have hmb:(n+s.length)*1<=(n+s.length)*P.bytesOf e:=Nat.mul_le_mul_left _ hb0
 by_cases hk0:s.length=0
 ·
  obtain rfl:=List.length_eq_zero_iff.1 hk0
  have hcapn:∃ av nn cp,a.eval x=.slice av nn cp/\nn<=cp:=by
   cases g with
   | none=>obtain⟨_,av,e⟩:=hv;exact⟨av,0,0,e,Nat.le_refl _⟩
   | some g=>obtain⟨e,hc⟩:=hv;exact⟨_,_,_,e,hc⟩
  obtain⟨av,nn,cp,hxv,hcp⟩:=hcapn
  refine finish (a.eval x) w (g,cap) (fun _=>False) (by rw [hxv,hyv];exact a5R hu hu' hsz h0 hcp) (Fr.refl _ _) (fun _ _ h=>h.elim) (fun g' hg'=>.inl ?_) (fun hkeep=>?_) ?_
  ·simp only at hg'
   rw [hrow];simp [Row.blk,Row.ver,hη,hg']
  ·intro g' cap' he
   rw [a0Q] at he
   simp only [Option.some.injEq,Prod.mk.injEq] at he
   obtain⟨rfl,rfl⟩:=he
   cases g with
   | none=>simpa using hr
   | some g=>
     obtain⟨cur,hh,hcs,hnc,hcm,hc⟩:=hr
     refine⟨cur,hh,hcs,by simp;omega,hcm,fun i hi j hj=>?_⟩
     have hi:i<n:=by simpa using hi
     obtain⟨u,hu',h1,hrep⟩:=hc i hi j hj
     exact⟨u,hu',h1,by unfold apC;rw [if_pos hi];exact hkeep _ _ hrep⟩
  ·cases g with
   | none=>simpa using hv
   | some g=>simpa using hv
 ·have hnl:=a87 s
  have hmx:n+s.length<=maxLen:=by simp only [maxLen];omega
  cases g with
  | none=>
    obtain⟨rfl,av,hxv⟩:=hv
    have hgrow:∃ cap',(Builtin.append_ #[t,t'] o.type #[a.eval x,a.eval y]).run P w=.ok (.slice (some ⟨w.heap.size,0,none⟩) s.length cap')
      (w.drew.alloc (.cells ((Lib.strCells ⟨s.toArray⟩).toArray++Builtin.zeroCells zv.cells (cap'-s.length)) e))/\s.length<=cap'/\cap'<=maxLen:=by
     refine⟨grownCap w s.length 0 e,?_,grownCap_ge _ _ _ _,grownCap_le_maxLen _ _ _ _ (by omega)⟩
     rw [hxv,hyv]
     cases av with
     | none=>
       have hr:=run_append_nil_string (P:=P) w t t' o.type e i zv hu hu' hi hiz ⟨s.toArray⟩ (by rw [hss];omega) (by rw [hss];omega) (by rw [hss,hib];simp only [Nat.zero_add] at hbytes;omega)
       have e1:((⟨s.toArray⟩:ByteArray).data.map fun b=>Value.int .u8 b.toNat)=(Lib.strCells ⟨s.toArray⟩).toArray:=by
        apply Array.ext'
        simp [Lib.strCells]
       rw [hss] at hr
       rw [<-e1]
       exact hr
     | some ad=>
       have:=Lib.run_append_grow_string (P:=P) w t t' o.type e i zv hu hu' hi hiz ad 0 0 [] (by simp) (by simp) ⟨s.toArray⟩ (by rw [hss];omega) (by rw [hss];omega) (growslice_fits (by rw [hss];omega) (by rw [hss,hib];exact hbytes))
       rw [hss] at this
       simpa using this
    obtain⟨cap',hrun,hge,hle⟩:=hgrow
    have hf:Fr (fun _=>False) w (w.drew.alloc (.cells ((Lib.strCells ⟨s.toArray⟩).toArray++Builtin.zeroCells zv.cells (cap'-s.length)) e)):=(Fr.refl _ w).drew.trans (Fr.alloc _ _ _)
    refine finish _ _ (some w.heap.size,cap') (fun _=>False) hrun hf (fun _ _ h=>h.elim) (fun g' hg'=>.inr ?_) (fun hkeep=>?_) ⟨by rw [Nat.zero_add],by omega⟩
    ·simp only [Option.some.injEq] at hg'
     subst hg'
     simp
    ·intro g' cap'' he
     rw [a0Q] at he
     simp only [Option.some.injEq,Prod.mk.injEq] at he
     obtain⟨rfl,rfl⟩:=he
     refine⟨_,heap_alloc_new w.drew _,?_,by omega,hle,?_⟩
     ·simp only [Array.size_append,List.size_toArray,size_zeroCells,hzc,hzl,hnl]
      omega
     ·refine a49 (olds:=[]) (news:=Lib.strCells ⟨s.toArray⟩) (by simp) (fun q hq=>?_) (fun i hi=>absurd hi (by omega)) (fun i hi j hj=>a5r s i hi j hj)
      rw [Nat.zero_add] at hq
      rw [List.nil_append,Array.getElem?_append_left (by simp only [List.size_toArray];omega),List.getElem?_toArray]
  | some g=>
    obtain⟨hxv,hcap⟩:=hv
    obtain⟨cur,hh,hcs,hncap,hcm,hc⟩:=hr
    have hblk:(st.hp p).blk η=some g:=by rw [hrow];simp [Row.blk,Row.ver,hη]
    have hold:(cur.toList.take (n*1)).length=n*1:=by
     simp;omega
    have holdr:∀ (w':World) (η':Env) (L':Nat->Prop),(∀ x u,Rep w η (a0Y c η st.hp) x u->Rep w' η' L' x u)->∀ i,i<n->∀ j,j<1->∃ u,(cur.toList.take (n*1))[i*1+j]?=some u/\u.oneCell'=true/\Rep w' η' L' (cc i j) u:=by
     intro w' η' L' hkeep i hi j hj
     obtain⟨u,hu',h1,hrep⟩:=hc i hi j hj
     exact⟨u,by rw [List.getElem?_take,if_pos (by omega),Array.getElem?_toList];exact hu',h1,hkeep _ _ hrep⟩
    by_cases hroom:n+s.length<=cap
    ·have hrun:=Lib.run_append_room_string (P:=P) w t t' o.type e i hu hu' hi hisz g n cap cur hh ⟨s.toArray⟩ (by rw [hss];exact hroom) (by rw [hss];omega)
     rw [hss] at hrun
     refine finish _ _ (some g,cap) (fun b=>b=g) (by rw [hxv,hyv];exact hrun) (a6u w g _) (fun k _ e=>by rw [e];exact hblk) (fun g' hg'=>.inl (by simp only [Option.some.injEq] at hg';rw [<-hg'];exact hblk)) (fun hkeep=>?_) ⟨rfl,hroom⟩
     intro g' cap'' he
     rw [a0Q] at he
     simp only [Option.some.injEq,Prod.mk.injEq] at he
     obtain⟨rfl,rfl⟩:=he
     refine⟨_,setRow_heap w g cur _ e (0,0) hh,?_,hroom,hcm,?_⟩
     ·simp only [List.size_toArray,List.length_append,List.length_take,List.length_drop,Array.length_toList,hnl]
      omega
     ·refine a49 (olds:=cur.toList.take (n*1)) (news:=Lib.strCells ⟨s.toArray⟩) hold (fun q hq=>?_) (holdr _ _ _ hkeep) (fun i hi j hj=>a5r s i hi j hj)
      rw [List.getElem?_toArray]
      have e1:cur.toList.take n=cur.toList.take (n*1):=by rw [Nat.mul_one]
      rw [e1,List.getElem?_append_left (by rw [List.length_append,hold,hnl];omega)]
    ·have hrun:=Lib.run_append_grow_string (P:=P) w t t' o.type e i zv hu hu' hi hiz ⟨g,0,none⟩ n cap (cur.toList.take (n*1)) (by rw [hisz];exact hold) (fun j v hj=>by
       rw [a3A,Nat.zero_add,a0Z hh,<-Array.getElem?_toList]
       rw [List.getElem?_take] at hj
       split at hj
       ·exact hj
       ·cases hj) ⟨s.toArray⟩ (by rw [hss];omega) (by rw [hss];omega) (growslice_fits (by rw [hss];omega) (by rw [hss,hib];exact hbytes))
     rw [hss] at hrun
     have hge:=grownCap_ge w (n+s.length) cap e
     have hle:=grownCap_le_maxLen w (n+s.length) cap e hmx
     generalize grownCap w (n+s.length) cap e=cap' at hrun hge hle
     have hf:Fr (fun _=>False) w (w.drew.alloc (.cells ((cur.toList.take (n*1)).toArray++(Lib.strCells ⟨s.toArray⟩).toArray++Builtin.zeroCells zv.cells (cap'-(n+s.length))) e)):=(Fr.refl _ w).drew.trans (Fr.alloc _ _ _)
     refine finish _ _ (some w.heap.size,cap') (fun _=>False) (by rw [hxv,hyv];exact hrun) hf (fun _ _ h=>h.elim) (fun g' hg'=>.inr ?_) (fun hkeep=>?_) ⟨rfl,hge⟩
     ·simp only [Option.some.injEq] at hg'
      subst hg'
      simp
     ·intro g' cap'' he
      rw [a0Q] at he
      simp only [Option.some.injEq,Prod.mk.injEq] at he
      obtain⟨rfl,rfl⟩:=he
      refine⟨_,heap_alloc_new w.drew _,?_,hge,hle,?_⟩
      ·simp only [Array.size_append,List.size_toArray,size_zeroCells,hzc,hzl,hnl,hold]
       omega
      ·refine a49 (olds:=cur.toList.take (n*1)) (news:=Lib.strCells ⟨s.toArray⟩) hold (fun q hq=>?_) (holdr _ _ _ hkeep) (fun i hi j hj=>a5r s i hi j hj)
       rw [Array.getElem?_append_left (by simp only [Array.size_append,List.size_toArray,hold,hnl];omega)]
       simp only [List.append_toArray,List.getElem?_toArray]
end
section
variable {c:Ctx} {hp:Nat->Row} {nx:Nat} {η:Env} {w w':World}
theorem HS.sink (h:HS c hp nx η w) {p g:Nat} (hb:(hp p).blk η=some g) (hf:Fr (fun b=>b=g) w w') :
  HS c (a0S hp p .dead) nx η w'/\∀ x u,Rep w η (a0Y c η hp) x u->Rep w' η (a0Y c η (a0S hp p .dead)) x u:=by
 have hbk:∀ q b,(a0S hp p .dead q).blk η=some b->q≠p/\(hp q).blk η=some b:=fun q b hq=>by
  by_cases e:q=p
  ·subst e;rw [a0k] at hq;cases hq
  ·rw [a0f _ _ e] at hq;exact⟨e,hq⟩
 have hver:∀ q v,(a0S hp p .dead q).ver=some v->(hp q).ver=some v:=fun q v hq=>by
  by_cases e:q=p
  ·subst e;rw [a0k] at hq;cases hq
  ·rw [a0f _ _ e] at hq;exact hq
 have hL:∀ b,a0Y c η (a0S hp p .dead) b->a0Y c η hp b:=by
  rintro b (hl|⟨q,hq⟩)
  ·exact .inl hl
  ·exact .inr ⟨q,(hbk q b hq).2⟩
 have hO:∀ k,k<w.heap.size->k=g->a0Y c η hp k:=fun k _ e=>.inr ⟨p,by rw [e];exact hb⟩
 refine⟨⟨h.fr.trans' hf ?_,h.lx,fun q=>?_,fun q r v hq hr=>h.vers q r v (hver q v hq) (hver r v hr),fun q v hq=>h.bnd q v (hver q v hq),fun q r b hq hr=>h.disj q r b (hbk q b hq).2 (hbk r b hr).2,fun q b hq=>?_,h.fresh,h.env⟩,
  fun x u hx=>Rep.keep hf hO (fun k _ hl=>hL k hl) x η η u (Env.le_refl _) hx⟩
 ·intro k hk e
  subst e
  exact (h.own p k hb).1.resolve_right (by omega)
 ·by_cases e:q=p
  ·subst e;rw [a0k];trivial
  ·rw [a0f _ _ e]
   exact a13.keep hf (Env.le_refl _) hO (fun k _ hl=>hL k hl) (fun _ _=>rfl) (fun b hq=>by
    refine hf.block b (h.own q b hq).2.2 fun e'=>e ?_
    subst e'
    exact h.disj q p b hq hb) (h.rows q)
 ·have:=h.own q b (hbk q b hq).2
  exact⟨this.1,this.2.1,Nat.lt_of_lt_of_le this.2.2 hf.size⟩
end
end Go.Proofs.YthpjjjnbkfnghaaGreatDoor
namespace Go.Proofs.YthpjjjnbkfnghaaGreatDoor
open Go Go.ChangeShapes Go.WideShapes Go.ChangeAt Go.RowKit
def c3e {H:Type} (P:Program) (t:TypeId) (d:DataW H):Prop:=∀ n∈d.weights P t,n<=reachBytes
structure c3k (P:Program) (t:TypeId) {α:Type} (E:El α) (good:α->Prop):Prop where
 size:P.cellsOf t=E.sz
 read:∀ (H:Type) (enc:TypeId×Value->H) (w:World) (base:Nat) (spare:Nat->Bool) (held:Bool) (fuel:Nat) (cs:List Value) (x:DataW H×List MemPlace),
  DataW.trod enc P w base spare held fuel t cs=some x->c3e P t x.1->∃ a,good a/\∀ j,j<E.sz->∃ u,cs[j]?=some u/\u.oneCell'=true/\Rep w a1l (fun _=>False) (E.enc a j) u
def gI (n:Int):Prop:=-9223372036854775808<=n/\n<=9223372036854775807
def gB (_:Bool):Prop:=True
def gS (l:List UInt8):Prop:=l.length<=140737488351232
def gLs {α:Type} (g:α->Prop) (l:List α):Prop:=l.length<=140737488351232/\∀ a∈l,g a
section
variable {P:Program} {t e:TypeId}
theorem b2x {w:World} {α:Type} {E:El α} {a:α} {v:Value} (hs:E.sz=1) (h1:v.oneCell'=true) (hr:Rep w a1l (fun _=>False) (E.enc a 0) v) :
  ∀ j,j<E.sz->∃ u,[v][j]?=some u/\u.oneCell'=true/\Rep w a1l (fun _=>False) (E.enc a j) u:=fun j hj=>by
 obtain rfl:j=0:=by omega
 exact⟨v,rfl,h1,hr⟩
theorem opens_string (ht:P.underlying t=some .string) (hs:P.cellsOf t=1):c3k P t eS gS:=by
 refine⟨hs,fun H enc w base spare held fuel cs x h hz=>?_⟩
 cases fuel with
 | zero=>simp [DataW.trod] at h
 | succ n=>
   unfold DataW.trod at h
   rw [ht] at h
   split at h<;>simp only [reduceCtorEq,Option.some.injEq] at *
   rename_i s _
   split at h
   ·rename_i hm
    refine⟨s.data.toList,?_,b2x rfl rfl rfl⟩
    simp only [Option.some.injEq] at h
    subst h
    have h2:=hz s.data.toList.length (by simp [DataW.weights])
    unfold reachBytes at h2
    exact h2
   ·cases h
theorem b0s {H:Type} {d:DataW H}:∀ {l:List (DataW H)},d∈l->∀ n∈d.weights P e,n∈DataW.weightsAll P e l
 | x::l,h,n,hn=>by
   simp only [DataW.weightsAll,List.mem_append]
   rcases List.mem_cons.1 h with rfl|h
   ·exact .inl hn
   ·exact .inr (b0s h n hn)
theorem c0g (a:Addr) (k:Nat):(a.add k).block=a.block:=by unfold Addr.add;split<;>rfl
theorem b0V {α:Type} (d:α) (Q:Nat->α->Prop):∀ n,(∀ i,i<n->∃ a,Q i a)->∃ l:List α,l.length=n/\∀ i,i<n->Q i (l.getD i d)
 | 0,_=>⟨[],rfl,fun i hi=>absurd hi (Nat.not_lt_zero _)⟩
 | n+1,h=>by
   obtain⟨l,hl,hq⟩:=b0V d Q n fun i hi=>h i (by omega)
   obtain⟨a,ha⟩:=h n (by omega)
   refine⟨l++[a],by simp [hl],fun i hi=>?_⟩
   rcases Nat.lt_or_ge i n with h1|h1
   ·have:=hq i h1
    simpa [List.getD,List.getElem?_append_left (show i<l.length by omega)] using this
   ·obtain rfl:i=n:=by omega
    simpa [List.getD,List.getElem?_append_right (show l.length<=i by omega),hl] using ha
theorem c6p {α:Type} (d:α) {l:List α} {x:α} (h:x∈l):∃ i,i<l.length/\l.getD i d=x:=by
 obtain⟨i,hi,rfl⟩:=List.getElem_of_mem h
 exact⟨i,hi,by simp [List.getD,hi]⟩
theorem b45 {α:Type} {E:El α} {g:α->Prop} (ht:P.underlying t=some (.slice e)) (hs:P.cellsOf t=1) (he:c3k P e E g) (h0:0<E.sz) (hby:0<P.bytesOf e):c3k P t (eL E) (gLs g):=by
 refine⟨hs,fun H enc w base spare held fuel cs x h hz=>?_⟩
 rcases DataW.trod_slice ht h with⟨rfl,_⟩|⟨a,len,cap,elems,rest,n,_,rfl,hx,hb,hl,hm,hlen,hel,_,_⟩
 ·refine⟨[],⟨Nat.zero_le _,fun _ h=>by cases h⟩,b2x rfl rfl ?_⟩
  exact a3Q E w a1l _ _ ⟨_,rfl⟩
 ·subst hx
  have hw:∀ m∈(elems.map (·.1)).length.add (rest.map (·.1)).length*P.bytesOf e::(DataW.weightsAll P e (elems.map (·.1))++DataW.weightsAll P e (rest.map (·.1))),m<=reachBytes:=fun m hm=>hz m (by
   simp only [DataW.weights,ht]
   exact hm)
  have hlr:len<=140737488351232:=by
   have h1:=hw _ (List.mem_cons_self ..)
   have h2:(elems.map (·.1)).length.add (rest.map (·.1)).length<=(elems.map (·.1)).length.add (rest.map (·.1)).length*P.bytesOf e:=Nat.le_mul_of_pos_right _ hby
   have h3:(elems.map (·.1)).length.add (rest.map (·.1)).length=len+rest.length:=by simp [hlen]
   unfold reachBytes at h1
   omega
  have each:∀ i,i<len->∃ y,g y/\∀ j,j<E.sz->∃ u,w.cell? ((a.add (i*E.sz)).add j)=some u/\u.oneCell'=true/\Rep w a1l (fun _=>False) (E.enc y j) u:=by
   intro i hi
   have h1:=hel i hi
   rw [List.getElem?_eq_getElem (by omega)] at h1
   obtain⟨cs,hcs,htr⟩:=Option.bind_eq_some_iff.1 h1
   obtain⟨y,hy,hj⟩:=he.read H enc w base spare held n cs _ htr fun m hm=>hw m (List.mem_cons_of_mem _ (List.mem_append_left _ (b0s (List.mem_map_of_mem (List.getElem_mem _)) m hm)))
   refine⟨y,hy,fun j hjs=>?_⟩
   obtain⟨u,hu,r⟩:=hj j hjs
   refine⟨u,?_,r⟩
   unfold World.cells? at hcs
   rw [if_pos (by rw [c0g];exact hb)] at hcs
   have:=mapM_some_get hcs j j (by simp [he.size,hjs])
   rw [he.size] at this
   rw [this,hu]
  obtain⟨l,hl1,hl2⟩:=b0V E.dflt _ len each
  refine⟨l,⟨by omega,fun x hx=>?_⟩,b2x rfl rfl ?_⟩
  ·obtain⟨i,hi,rfl⟩:=c6p E.dflt hx
   exact (hl2 i (by omega)).1
  ·show Rep w a1l (fun _=>False) (sL E l) _
   refine⟨some a,cap,by rw [hl1],by omega,fun hp _=>?_⟩
   obtain⟨b,off,spot⟩:=a
   obtain⟨u,hu,_⟩:=(hl2 0 (by omega)).2 0 h0
   have hspot:spot=none:=by simpa [Addr.add] using World.cell?_spot hu
   subst hspot
   refine⟨b,off,rfl,not_false,fun i hi j hj=>?_⟩
   obtain⟨u,hu,r⟩:=(hl2 i (by omega)).2 j hj
   refine⟨u,?_,r⟩
   rwa [a3A,a3A,Nat.add_assoc] at hu
end
end Go.Proofs.YthpjjjnbkfnghaaGreatDoor
namespace Go.Proofs.YthpjjjnbkfnghaaGreatDoor
open Go Go.ChangeShapes Go.WideShapes Go.ChangeAt Go.RowKit
section
variable {P:Program}
def c06 (P:Program) (t:TypeId) {α:Type} (K:Kd α) (good:α->Prop):Prop:=
 ∀ (H:Type) (enc:TypeId×Value->H) (W:World) (base:Nat) (v:Value) (d:DataW H) (p:List MemPlace),Value.okWide P W .any base t v->DataW.Trod enc P W 0 (fun _=>true) true t v d p->c3e P t d->
  ∃ a,good a/\Rep W a1l (fun _=>False) (K.enc a) v
theorem b8a {t:TypeId} {α:Type} {E:El α} {g:α->Prop} {K:Kd α} (h:c3k P t E g) (hs:E.sz=1) (hK:∀ a,K.enc a=E.enc a 0) (hv:∀ (W:World) (base:Nat) (v:Value),Value.okWide P W .any base t v->v.cells=#[v]):c06 P t K g:=by
 intro H enc W base v d p hok ⟨fuel,htr⟩ hz
 obtain⟨a,ha,hj⟩:=h.read H enc W 0 _ _ fuel _ _ htr hz
 obtain⟨u,hu,_,hr⟩:=hj 0 (by omega)
 rw [hv W base v hok] at hu
 simp only [List.getElem?_cons_zero,Option.some.injEq] at hu
 subst hu
 exact⟨a,ha,by rw [hK];exact hr⟩
theorem opensK_slice {t e:TypeId} {α:Type} {E:El α} {g:α->Prop} (ht:P.underlying t=some (.slice e)) (hs:P.cellsOf t=1) (he:c3k P e E g) (h0:0<E.sz) (hby:0<P.bytesOf e):c06 P t (kL E) (gLs g):=
 b8a (b45 ht hs he h0 hby) rfl (fun _=>rfl) fun W base v h=>by obtain⟨_,_,_,rfl⟩:=okWide_slice ht h;rfl
def b19 (P:Program) (ts:List TypeId) (Q:List AV->Prop):Prop:=
 ∀ (H:Type) (enc:TypeId×Value->H) (W:World) (base:Nat) (vs:List Value) (ds:List (DataW H)) (ps:List MemPlace),DataW.TrodAll enc P W 0 (fun _=>true) true ts vs ds ps->
  (∀ (j:Nat) t v,ts[j]?=some t->vs[j]?=some v->Value.okWide P W .any base t v)->(∀ (j:Nat) t d,ts[j]?=some t->ds[j]?=some d->c3e P t d)->∃ avs,Q avs/\a4C (Rep W a1l fun _=>False) avs vs
theorem openAll_nil:b19 P [] (·=[]):=by
 intro H enc W base vs ds ps h _ _
 match vs,ds,h with
 | [],[],_=>exact⟨[],rfl,.nil⟩
theorem openAll_cons {t:TypeId} {ts:List TypeId} {α:Type} {K:Kd α} {g:α->Prop} {Q:List AV->Prop} (h:c06 P t K g) (k:b19 P ts Q):b19 P (t::ts) (fun avs=>∃ a r,avs=K.enc a::r/\g a/\Q r):=by
 intro H enc W base vs ds ps hA hok hz
 match vs,ds,hA with
 | v::vs,d::ds,⟨p,q,h1,h2,_⟩=>
   obtain⟨a,ha,hr⟩:=h H enc W base v d p (hok 0 t v rfl rfl) h1 (hz 0 t d rfl rfl)
   obtain⟨avs,hQ,hrs⟩:=k H enc W base vs ds q h2 (fun j t' v' ht hv=>hok (j+1) t' v' ht hv) fun j t' d' ht hd=>hz (j+1) t' d' ht hd
   exact⟨K.enc a::avs,⟨a,avs,rfl,ha,hQ⟩,.cons hr hrs⟩
theorem a7I {H:Type} {enc:TypeId×Value->H} (hl:laidOutB P=true) {W W':World} (hb:Below W.heap.size W W'):∀ (ts:List TypeId) (vs:List Value) (ds:List (DataW H)) (ps:List MemPlace),
  (∀ t∈ts,P.readableRec t=true/\t<P.types.size)->DataW.TrodAll enc P W 0 (fun _=>true) true ts vs ds ps->(∀ x∈ps,x.block<W.heap.size)->
  DataW.TrodAll enc P W' 0 (fun b=>decide (b<W.heap.size)) true ts vs ds ps
 | [],[],[],_,_,h,_=>h
 | t::ts,v::vs,d::ds,ps,ht,⟨p,q,h1,h2,e⟩,hlt=>by
   subst e
   exact⟨p,q,Below.trod hl (ht t (List.mem_cons_self ..)).1 (ht t (List.mem_cons_self ..)).2 h1 hb fun x hx=>hlt x (List.mem_append_left _ hx),
    a7I hl hb ts vs ds q (fun t h=>ht t (List.mem_cons_of_mem _ h)) h2 fun x hx=>hlt x (List.mem_append_right _ hx),rfl⟩
 | [],_::_,_,_,_,h,_=>h.elim
 | [],[],_::_,_,_,h,_=>h.elim
 | _::_,[],_,_,_,h,_=>h.elim
 | _::_,_::_,[],_,_,h,_=>h.elim
theorem law_calls {H:Type} {enc:TypeId×Value->H} {f:FuncId} {fn:Func} {s:ChangeSpec} {sp:a0s} {ts:List TypeId} {tb:TypeId} {Q:List AV->Prop} (hl:laidOutB P=true) (hs:a0d P f sp) (hp:fn.params.toList=ts) (hr:fn.resultTypes=#[tb])
  (hb:P.underlying tb=some .bool) (hopen:b19 P ts Q) (hts':ts.all (fun t=>P.readableRec t&&decide (t<P.types.size))=true) (hpre:∀ avs,Q avs->sp.pre avs/\sp.res avs=.val (.bool true))
  (hsv:s.vars=[]) (hsf:∀ ds:List (DataW H),ds.length=ts.length->(s.fn H ds).results=[.lit (.bool true)]/\(s.fn H ds).args=ds/\(s.fn H ds).vars=[])
  (W:World) (base:Nat) (args:Array Value) (ds gs:List (DataW H)) (before:List MemPlace) (hT:Tz W)
  (hval:∀ (j:Nat) t v,fn.params[j]?=some t->args[j]?=some v->Value.okWide P W .any base t v)
  (hW:DataW.Whole enc P fn.params.toList s.vars false W args.toList ds gs before) (hz:(DataW.weightsEach P (fn.params.toList++s.plain.varTypes P) (ds++gs)).all (·<=reachBytes)=true) :
  Calls P f args W fun e W'=>∃ v,e=.returned v/\s.post enc P fn false true false false W args v W':=by
 have hts:∀ t∈ts,P.readableRec t=true/\t<P.types.size:=fun t ht=>by simpa using List.all_eq_true.1 hts' t ht
 have hW':=hW
 obtain⟨p,q,hA,hV,hbe,hfz,hnd⟩:=hW
 rw [hsv] at hV
 obtain⟨rfl,rfl⟩:=trodVars_none hV
 rw [hp] at hA
 obtain⟨avs,hQ,hreps⟩:=hopen H enc W base args.toList ds p hA (fun j t v ht hv=>hval j t v (by
  have:fn.params.toList[j]?=some t:=by rw [hp];exact ht
  simpa using this) (by simpa using hv)) fun j t d ht hd n hn=>by
  have h1:(fn.params.toList++s.plain.varTypes P)[j]?=some t:=by
   rw [hp,List.getElem?_append_left (List.getElem?_eq_some_iff.1 ht).1]
   exact ht
  have h2:(ds++[])[j]?=some d:=by rw [List.append_nil];exact hd
  simpa using List.all_eq_true.1 hz n (DataW.weights_mem_each h1 h2 n hn)
 obtain⟨h1,h2⟩:=hpre avs hQ
 have hlen:ds.length=ts.length:=by
  have:∀ (ts:List TypeId) (vs:List Value) (ds:List (DataW H)) (ps:List MemPlace),DataW.TrodAll enc P W 0 (fun _=>true) true ts vs ds ps->ds.length=ts.length:=by
   intro ts
   induction ts with
   | nil=>
     intro vs ds ps h
     match vs,ds,h with
     | [],[],_=>rfl
   | cons t ts ih=>
     intro vs ds ps h
     match vs,ds,h with
     | v::vs,d::ds,⟨p,q,_,h2,_⟩=>simp [ih vs ds q h2]
  exact this ts _ _ _ hA
 have hlt:∀ x∈p,x.block<W.heap.size:=fun x hx=>by
  refine hW'.lt x ?_
  rw [hbe]
  exact List.mem_append_left _ hx
 have hc:=hs.2 avs h1 W (fun _=>False) args.toList hT (fun _ h=>h.elim) hreps
 refine (show Calls P f args W _ by simpa using hc).mono ?_
 rintro e W' ⟨v,rfl,hf,hr'⟩
 rw [h2] at hr'
 have hv:v=.bool true:=hr'
 subst hv
 obtain⟨e1,e2,e3⟩:=hsf ds hlen
 refine⟨_,rfl,ds,[],before,[],p,[],hW',?_,?_,?_,hf.below.frame _,fun h=>by cases h⟩
 ·rw [hr,List.append_nil,e1]
  exact trodAll_cons_mk (shut_bool hb _) trodAll_mk0
 ·rw [hp,List.append_nil,e2]
  exact a7I hl hf.below ts _ _ _ hts hA hlt
 ·rw [hsv,List.append_nil,e3]
  rfl
theorem pre_f1 {α:Type} {A:Kd α} {gA:α->Prop} {dom:α->Prop} {out:α->AV} (h:∀ a,gA a->dom a/\out a=.val (.bool true)) (avs:List AV) (hQ:∃ a r,avs=A.enc a::r/\gA a/\r=[]) :
  (a0s.f1 A dom out).pre avs/\(a0s.f1 A dom out).res avs=.val (.bool true):=by
 obtain⟨a,_,rfl,ha,rfl⟩:=hQ
 obtain⟨h1,h2⟩:=h a ha
 simp only [a0s.f1,A.law]
 exact⟨⟨A.ok_enc a,h1⟩,h2⟩
theorem pre_f2 {α β:Type} {A:Kd α} {B:Kd β} {gA:α->Prop} {gB:β->Prop} {dom:α->β->Prop} {out:α->β->AV} (h:∀ a b,gA a->gB b->dom a b/\out a b=.val (.bool true)) (avs:List AV)
  (hQ:∃ a r,avs=A.enc a::r/\gA a/\∃ b r',r=B.enc b::r'/\gB b/\r'=[]):(a0s.f2 A B dom out).pre avs/\(a0s.f2 A B dom out).res avs=.val (.bool true):=by
 obtain⟨a,_,rfl,ha,b,_,rfl,hb,rfl⟩:=hQ
 obtain⟨h1,h2⟩:=h a b ha hb
 simp only [a0s.f2,A.law,B.law]
 exact⟨⟨A.ok_enc a,B.ok_enc b,h1⟩,h2⟩
end
end Go.Proofs.YthpjjjnbkfnghaaGreatDoor
namespace Go.Proofs.YthpjjjnbkfnghaaGreatDoor
open Go Go.ChangeShapes Go.WideShapes Go.ChangeAt Go.RowKit
def eU:El Int:=⟨1,fun n _=>.val (.int .u8 n),fun c=>(c 0).int,0,fun _=>rfl,fun _ _ h=>by rw [h 0 Nat.one_pos]⟩
@[go_sem] theorem e08:eU.sz=1:=(rfl)
@[go_sem] theorem d81 (n:Int) (j:Nat):eU.enc n j=.val (.int .u8 n):=rfl
@[go_sem] theorem e2i:eU.dflt=0:=rfl
@[go_sem] theorem e1R (n:Int):eU.dec (fun _=>.val (.int .u8 n))=n:=rfl
@[go_sem] theorem d7O (x:Int) (j:Nat):(eU.enc x j).flat=true:=rfl
@[go_sem] theorem e0L (c:Nat->AV):eU.dec c=kU.dec (c 0):=rfl
@[go_sem] theorem d9R (c:Nat->AV):eU.okc c=kU.ok (c 0):=c2D rfl (fun _=>rfl) (fun _=>rfl) c
@[go_sem] theorem d7n (k:IntKind) (a b:Int):d07 (some (.int k)) (.val (.int .u8 a)) (.val (.int .u8 b))=some (decide (a=b)):=rfl
theorem d3U:a0e (.val (.slice none 0 0)) .em:=fun _ _ _ _ h=>⟨none,h⟩
section
variable {P:Program} {st:AS} {K:AS->Prop} {o:Oper}
theorem a7t {z:AV} (hd:a0N st.sz o.dst) (h:∀ (c:Ctx) (η:Env) (a:Act) (w:World),SR c st η a w->∃ v,(execOp a.eval o).run P w=.ok (.value v) w/\Rep w η (a0Y c η st.hp) z v)
  (hK:K ⟨a2b st.fr o.dst z,st.hp,st.sz,st.top,st.nx,st.df⟩):OpW P o st K:=by
 intro c η a w next Q hsr hnext
 obtain⟨v,e,hr⟩:=h c η a w hsr
 unfold Oper.wp
 rw [e]
 exact hnext _ η _ w (hsr.put hd hsr.hs hsr.dead (fun _ _ h=>h) hr) hK
theorem b3l {e:TypeId} {zl:List Value} (ho:o.op=.alloc e) (hz:a2g P e=some zl) (hd:a0N st.sz o.dst)
  (hK:K ⟨a2b st.fr o.dst (.pt st.top st.nx 0),a0S st.hp st.top (.box st.nx e zl.length fun j=>.val (zl.getD j undef)),st.sz,st.top+1,st.nx+1,st.df⟩):OpW P o st K:=by
 intro c η a w next Q hsr hnext
 obtain⟨hs',hL⟩:=hsr.hs.declare (p:=st.top) (row:=.box st.nx e zl.length fun j=>.val (zl.getD j undef)) rfl
 obtain⟨zv,hzr,hzc,hz1⟩:=a5I (w:=w) hz
 have hrow:a0S st.hp st.top (.box st.nx e zl.length fun j=>.val (zl.getD j undef)) st.top=.box st.nx e zl.length fun j=>.val (zl.getD j undef):=a0k ..
 have hlay:=hs'.lay (p:=st.top) (ver:=st.nx) (cap:=0) (by rw [hrow];rfl) (hsr.hs.fresh _ (Nat.le_refl _)) hsr.hs.env.2.1 (.cells zl.toArray e) (by
  rw [hrow]
  intro g cap he
  rw [a0Q] at he
  simp only [Option.some.injEq,Prod.mk.injEq] at he
  obtain⟨rfl,rfl⟩:=he
  refine⟨_,_,rfl,heap_alloc_new w _,by simp,fun j hj=>⟨zl[j],by simp [hj],List.all_eq_true.1 hz1 _ (List.getElem_mem hj),?_⟩⟩
  show zl[j]=zl.getD j undef
  simp [List.getD,hj])
 have run:(execOp a.eval o).run P w=.ok (.value (.pointer (some ⟨w.heap.size,0,none⟩))) (w.alloc (.cells zl.toArray e)):=by
  simp [execOp,ho,Instr.alloc,hzr,newVar,newRow,hzc]
 unfold Oper.wp
 rw [run]
 have hrep:Rep (w.alloc (.cells zl.toArray e)) (a1Q η st.nx (some w.heap.size,0)) (a0Y c (a1Q η st.nx (some w.heap.size,0)) (a0S st.hp st.top (.box st.nx e zl.length fun j=>.val (zl.getD j undef)))) (.pt st.top st.nx 0) (.pointer (some ⟨w.heap.size,0,none⟩)):=⟨w.heap.size,0,a0Q _ _ _,rfl⟩
 refine hnext _ (a1Q η st.nx (some w.heap.size,0)) _ _ (hsr.put hd hlay.1 (fun p hp=>?_) (fun x u hx=>hlay.2.rep (Rep.less (fun b _ hb=>hL b hb) hx)) hrep) hK
 rw [a0f _ _ (by omega)]
 exact hsr.dead p (by omega)
theorem c93 {s d:TypeId} {x:Operand} {k:IntKind} {n:Int} {l:List UInt8} (ho:o.op=.convert s d x) (hs:(P.underlying s).isSome=true) (hd:P.underlying d=some .string) (hx:st.ev x=.val (.int k n)) (hl:Utf8.encode n=⟨l.toArray⟩) (hdst:a0N st.sz o.dst)
  (hK:K ⟨a2b st.fr o.dst (.st l),st.hp,st.sz,st.top,st.nx,st.df⟩):OpW P o st K:=by
 refine a7t hdst (fun c η a w hsr=>?_) hK
 have hv:=a1X hsr.slots x
 unfold AS.ev at hx
 rw [hx] at hv
 have hv:a.eval x=.int k n:=hv
 refine⟨.string ⟨l.toArray⟩,?_,rfl⟩
 unfold execOp
 rw [ho]
 simp [hv,run_convert_int_string w s d k n hs hd,hl]
end
end Go.Proofs.YthpjjjnbkfnghaaGreatDoor
namespace Go.Proofs.YthpjjjnbkfnghaaGreatDoor
open Go
section
variable {P:Program} {Γ:Gam} {st:AS} {K:AS->Prop} {o:Oper}
def kF (f:FuncId):Kd Unit:=⟨fun _=>.val (.func (.func f) #[] #[]),fun _=>(),fun _=>rfl⟩
@[go_sem] theorem d9o (f:FuncId) (u:Unit):(kF f).enc u=.val (.func (.func f) #[] #[]):=rfl
@[go_sem] theorem e1l (f:FuncId):(kF f).ok (.val (.func (.func f) #[] #[]))=True:=eq_true ((kF f).ok_enc ())
@[go_sem] theorem d84 (f:FuncId) (x:AV):(kF f).dec x=():=rfl
theorem d3i (hΓ:GOK P Γ) {x:Operand} {f:FuncId} {xs:List Operand} {ts:Array TypeId} {pre:Prop} {z:AV} {row:Row} (ho:o.op=.call ⟨.value x,⟨xs⟩,ts⟩) (hx:st.ev x=.val (.func (.func f) #[] #[]))
  {args:List AV} (hxs:xs.map st.ev=args) (h:b42 Γ st.hp f args=some (pre,z,row)) (hp:pre) (hd:a0N st.sz o.dst) (hK:K ⟨a2b st.fr o.dst z,st.hp,st.sz,st.top,st.nx,st.df⟩):OpW P o st K:=by
 subst hxs
 intro c η a w next Q hsr hnext
 obtain⟨s,hsome,_,_,rfl⟩:=a5f h
 have henter:=(show a0d P f s from hΓ f _ hsome).1 (xs.map a.eval).toArray w
 have hv:=a1X hsr.slots x
 unfold AS.ev at hx
 rw [hx] at hv
 have hv:a.eval x=.func (.func f) #[] #[]:=hv
 have e:(execOp a.eval o).run P w=.ok (.enter f (xs.map a.eval).toArray) w:=by
  have e2:execOp a.eval o=callFunc f (#[]++(⟨xs⟩:Array Operand).map a.eval++#[]):=by
   unfold execOp
   rw [ho]
   simp only [resolve,hv,Deferred.ofValue,pure_bind]
   rfl
  rw [e2]
  simpa using henter
 unfold Oper.wp
 rw [e]
 simp only [Oper.upon]
 refine (c0W hΓ hsr.hs h hp (a6J (a1X hsr.slots) xs)).mono ?_
 rintro e w' ⟨v,rfl,h1,h2,h3⟩
 exact hnext _ η _ w' (hsr.put hd h1 hsr.dead (fun x u hx=>h2.rep hx) h3) hK
end
theorem AW.know {P:Program} {x:Code} {Q:Exit->AS->Prop} {st:AS} (h:(∀ p,st.top<=p->st.hp p=.dead)->AW P x Q st):AW P x Q st:=fun c η a w hsr=>h hsr.dead c η a w hsr
theorem a0i.or {P:Program} {f:FuncId} {S T:a0L} (h:a0i P f S) (k:a0i P f T):a0i P f fun args hp top nx K=>S args hp top nx K\/T args hp top nx K:=
 ⟨h.1,fun args hp top nx K hs=>hs.elim (h.2 args hp top nx K) (k.2 args hp top nx K)⟩
def c7m (S:a0L):a0L:=fun args hp top nx K=>∃ args',a4C a0e args args'/\S args' (fun _=>.dead) 0 nx fun r hp1 _ nx'=>∃ v n row,r=.ow 0 v n/\hp1 0=row/\row.ver=some v/\nx<=v/\K (.ow top v n) (a0S hp top row) (top+1) nx'
theorem a0i.fresh {P:Program} {f:FuncId} {S:a0L} (h:a0i P f S):a0i P f (c7m S):=by
 refine⟨h.1,fun args hp top nx K hS c η w vs hs hdead hargs=>?_⟩
 obtain⟨args',hle,hS⟩:=hS
 have hLb:∀ b,a0Y c η hp b->b<w.heap.size:=by
  rintro b (hl|⟨p,hb⟩)
  ·exact Nat.lt_of_lt_of_le (hs.lx.lt b hl) hs.fr.size
  ·exact (hs.own p b hb).2.2
 let c1:Ctx:=⟨w,η,fun _=>False,a0Y c η hp,nx⟩
 have hL1:∀ b,a0Y c1 η (fun _=>.dead) b->a0Y c η hp b:=by
  rintro b (hl|⟨p,hp⟩)
  ·exact hl
  ·cases hp
 have hs1:HS c1 (fun _=>.dead) nx η w:=⟨Fr.refl _ _,⟨hLb,fun b q hq=>⟨(hs.tab b q hq).1,not_false⟩⟩,fun _=>trivial,fun p q v h=>(by cases h),fun p v h=>(by cases h),fun p q b h=>(by cases h),fun p b h=>(by cases h),hs.fresh,Env.le_refl _,Nat.le_refl _,fun _ _ h=>h⟩
 refine (h.2 args' _ 0 nx _ hS c1 η w vs hs1 (fun _ _=>rfl) (a4C.le hL1 hle hargs)).mono ?_
 rintro e w' ⟨v,r,hp1,top1,nx',η',rfl,⟨vv,n,row,rfl,hrow0,hver,hge,hK⟩,hs',hdead',hrep⟩
 have hn0:∀ k,k<nx->η k=none->η' k=none:=hs'.env.2.2
 have heq:∀ p v,(hp p).ver=some v->η' v=η v:=fun p v hv=>by
  cases hη:η v with
  | none=>exact hn0 v (hs.bnd p v hv) hη
  | some x=>exact hs'.env.1 v x hη
 have hbo:∀ p b,(hp p).blk η'=some b->(hp p).blk η=some b:=fun p b hb=>by
  unfold Row.blk at hb ⊢
  cases hv:(hp p).ver with
  | none=>rw [hv] at hb;cases hb
  | some v=>rw [hv] at hb;simp only [Option.bind_some] at hb ⊢;rwa [heq p v hv] at hb
 have hcase:∀ p b,(a0S hp top row p).blk η'=some b->(p=top/\(hp1 0).blk η'=some b)\/(p≠top/\(hp p).blk η=some b):=fun p b hb=>by
  by_cases e:p=top
  ·subst e
   rw [a0k] at hb
   exact .inl ⟨rfl,by rw [hrow0];exact hb⟩
  ·rw [a0f _ _ e] at hb
   exact .inr ⟨e,hbo p b hb⟩
 have hL2:∀ b,a0Y c η' (a0S hp top row) b->a0Y c1 η' hp1 b:=by
  rintro b (hl|⟨p,hb⟩)
  ·exact .inl (.inl hl)
  ·rcases hcase p b hb with⟨_,g⟩|⟨_,g⟩
   ·exact .inr ⟨0,g⟩
   ·exact .inl (.inr ⟨p,g⟩)
 have hL3:∀ b,b<w.heap.size->a0Y c1 η' hp1 b->a0Y c η hp b:=by
  rintro b hlt (hl|⟨i,hi⟩)
  ·exact hl
  ·rcases (hs'.own i b hi).1 with g|hge
   ·exact g.elim
   ·exact absurd hlt (Nat.not_lt.2 hge)
 refine⟨v,.ow top vv n,a0S hp top row,top+1,nx',η',rfl,hK,?_,fun p hp'=>?_,hrep⟩
 ·refine⟨hs.fr.trans (hs'.fr.mono fun _ _ h=>h.elim),hs.lx,fun p=>?_,fun p q u hpu hqu=>?_,fun p u hpu=>?_,fun p q b hpb hqb=>?_,fun p b hb=>?_,hs'.fresh,Env.le_trans hs.env.1 hs'.env.1,Nat.le_trans hs.env.2.1 hs'.env.2.1,fun k hk h0=>hs'.env.2.2 k (Nat.lt_of_lt_of_le hk hs.env.2.1) (hs.env.2.2 k hk h0)⟩
  ·by_cases e:p=top
   ·subst e
    rw [a0k]
    have g:=hs'.rows 0
    rw [hrow0] at g
    exact a13.less hL2 g
   ·rw [a0f _ _ e]
    exact a13.keep hs'.fr hs'.env.1 (fun k _ hk=>hk.elim) (fun k hk hl=>hL3 k hk (hL2 k hl)) (fun v hv=>heq p v hv) (fun b hb=>hs'.fr.block b (hs.own p b hb).2.2 not_false) (hs.rows p)
  ·by_cases e1:p=top<;>by_cases e2:q=top
   ·rw [e1,e2]
   ·rw [e1,a0k,hver] at hpu
    rw [a0f _ _ e2] at hqu
    have:=hs.bnd q u hqu
    obtain rfl:=Option.some.inj hpu
    omega
   ·rw [e2,a0k,hver] at hqu
    rw [a0f _ _ e1] at hpu
    have:=hs.bnd p u hpu
    obtain rfl:=Option.some.inj hqu
    omega
   ·rw [a0f _ _ e1] at hpu
    rw [a0f _ _ e2] at hqu
    exact hs.vers p q u hpu hqu
  ·by_cases e:p=top
   ·rw [e,a0k,<-hrow0] at hpu
    exact hs'.bnd 0 u hpu
   ·rw [a0f _ _ e] at hpu
    exact Nat.lt_of_lt_of_le (hs.bnd p u hpu) hs'.env.2.1
  ·rcases hcase p b hpb with⟨e1,g1⟩|⟨e1,g1⟩<;>rcases hcase q b hqb with⟨e2,g2⟩|⟨e2,g2⟩
   ·rw [e1,e2]
   ·exact absurd (.inr ⟨q,g2⟩) (hs'.own 0 b g1).2.1
   ·exact absurd (.inr ⟨p,g1⟩) (hs'.own 0 b g2).2.1
   ·exact hs.disj p q b g1 g2
  ·rcases hcase p b hb with⟨_,g⟩|⟨_,g⟩
   ·obtain⟨h1,h2,h3⟩:=hs'.own 0 b g
    refine⟨.inr ?_,fun hl=>h2 (.inl hl),h3⟩
    rcases h1 with h1|h1
    ·exact h1.elim
    ·exact Nat.le_trans hs.fr.size h1
   ·exact⟨(hs.own p b g).1,(hs.own p b g).2.1,Nat.lt_of_lt_of_le (hs.own p b g).2.2 hs'.fr.size⟩
 ·rw [a0f _ _ (by omega)]
  exact hdead p (by omega)
end Go.Proofs.YthpjjjnbkfnghaaGreatDoor
namespace Go.Proofs
open Go.Shelf
def Tryz.lays156_ren:Go.Shelf.Ren:=⟨fun|156=>110|165=>167|166=>88|169=>92|240=>147|241=>206|276=>196|277=>233|n=>n,fun|31=>36|9=>9|3=>3|4=>4|0=>0|20=>20|72=>138|76=>141|70=>136|37=>102|75=>140|127=>206|164=>247|5=>5|80=>145|n=>n,fun|n=>n⟩
theorem Tryz.lays156:Go.Proofs.Lays.n156 Tryz.prog Tryz.lays156_ren:={
 mixed:=by kernel_rfl
 f156:=Tryz.func110.trans (congrArg some (by kernel_rfl))
 f165:=Tryz.func167.trans (congrArg some (by kernel_rfl))
 f166:=Tryz.func88.trans (congrArg some (by kernel_rfl))
 f169:=Tryz.func92.trans (congrArg some (by kernel_rfl))
 f240:=Tryz.func147.trans (congrArg some (by kernel_rfl))
 f241:=Tryz.func206.trans (congrArg some (by kernel_rfl))
 f276:=Tryz.func196.trans (congrArg some (by kernel_rfl))
 f277:=Tryz.func233.trans (congrArg some (by kernel_rfl))
 t0:=Tryz.underlying0
 a0:=Tryz.isAgg0
 z0:=Tryz.sizeOf0
 v0:=Tryz.zeroValue0
 t3:=Tryz.underlying3
 a3:=Tryz.isAgg3
 z3:=Tryz.sizeOf3
 v3:=Tryz.zeroValue3
 t4:=Tryz.underlying4
 a4:=Tryz.isAgg4
 z4:=Tryz.sizeOf4
 v4:=Tryz.zeroValue4
 t9:=Tryz.underlying9
 a9:=Tryz.isAgg9
 z9:=Tryz.sizeOf9
 v9:=Tryz.zeroValue9
 t20:=Tryz.underlying20
 a20:=Tryz.isAgg20
 z20:=Tryz.sizeOf20
 v20:=Tryz.zeroValue20
 t31:=Tryz.underlying36
 a31:=Tryz.isAgg36
 z31:=Tryz.sizeOf36
 v31:=Tryz.zeroValue36
 t37:=Tryz.underlying102
 a37:=Tryz.isAgg102
 z37:=Tryz.sizeOf102
 v37:=Tryz.zeroValue102
 t70:=Tryz.underlying136
 a70:=Tryz.isAgg136
 z70:=Tryz.sizeOf136
 v70:=Tryz.zeroValue136
 t72:=Tryz.underlying138
 a72:=Tryz.isAgg138
 z72:=Tryz.sizeOf138
 v72:=Tryz.zeroValue138
 t75:=Tryz.underlying140
 a75:=Tryz.isAgg140
 z75:=Tryz.sizeOf140
 v75:=Tryz.zeroValue140
 t76:=Tryz.underlying141
 a76:=Tryz.isAgg141
 z76:=Tryz.sizeOf141
 v76:=Tryz.zeroValue141
 t127:=Tryz.underlying206
 a127:=Tryz.isAgg206
 z127:=Tryz.sizeOf206
 v127:=Tryz.zeroValue206
 t164:=Tryz.underlying247
 a164:=Tryz.isAgg247
 z164:=Tryz.sizeOf247
 v164:=Tryz.zeroValue247 }
theorem Tryz.Builder_Extra_156:Builder.Extra Tryz.prog Tryz.lays156_ren:={
 sizeBuilder:=by kernel_rfl
 liesBuilder:=by kernel_rfl
 t5:=Tryz.underlying5
 a5:=Tryz.isAgg5
 z5:=Tryz.sizeOf5
 v5:=Tryz.zeroValue5
 infoByte:=by kernel_rfl
 cellsByte:=by kernel_rfl
 sizeByte:=by kernel_rfl
 neB5:=by decide }
open Go.RowKit in
theorem Tryz.strings_Join_none (a:Option Addr) (c:Nat) (sep:ByteArray) (w:World) :
  Calls Tryz.prog 110 #[.slice a 0 c,.string sep] w fun e w'=>e=.returned (.string ⟨#[]⟩)/\w'=w:=Any.strings_Join_none Tryz.lays156 Tryz.Builder_Extra_156 a c sep w
open Go.RowKit in
theorem Tryz.strings_Join (bk o c:Nat) (xs:List ByteArray) (sep:ByteArray) (w:World) (hcells:∀ (j:Nat) x,xs[j]?=some x->w.cell? ⟨bk,o+j,none⟩=some (.string x)) (hbk:bk<w.heap.size) (hN:xs.length<=140737488355328) (hcap:xs.length<=c) (hlen:(Lib.join (xs.map (·.data.toList)) sep.data.toList).length<=140737488355328) :
  Calls Tryz.prog 110 #[.slice (some ⟨bk,o,none⟩) xs.length c,.string sep] w fun e w'=>e=.returned (.string ⟨(Lib.join (xs.map (·.data.toList)) sep.data.toList).toArray⟩)/\Below w.heap.size w w':=Any.strings_Join Tryz.lays156 Tryz.Builder_Extra_156 bk o c xs sep w hcells hbk hN hcap hlen
def Tryz.lays137_ren:Go.Shelf.Ren:=⟨fun|137=>146|217=>195|266=>229|n=>n,fun|9=>9|5=>5|3=>3|n=>n,fun|n=>n⟩
theorem Tryz.lays137:Go.Proofs.Lays.n137 Tryz.prog Tryz.lays137_ren:={
 mixed:=by kernel_rfl
 f137:=Tryz.func146.trans (congrArg some (by kernel_rfl))
 f217:=Tryz.func195.trans (congrArg some (by kernel_rfl))
 f266:=Tryz.func229.trans (congrArg some (by kernel_rfl))
 t3:=Tryz.underlying3
 a3:=Tryz.isAgg3
 z3:=Tryz.sizeOf3
 v3:=Tryz.zeroValue3
 t5:=Tryz.underlying5
 a5:=Tryz.isAgg5
 z5:=Tryz.sizeOf5
 v5:=Tryz.zeroValue5
 t9:=Tryz.underlying9
 a9:=Tryz.isAgg9
 z9:=Tryz.sizeOf9
 v9:=Tryz.zeroValue9 }
open Go.RowKit in
theorem Tryz.strings_IndexByte (s:ByteArray) (c:Int) (w:World) :
  Calls Tryz.prog 146 #[.string s,.int .u8 c] w fun e w'=>e=.returned (.int .i64 (Lib.indexByte s.data.toList c.toNat.toUInt8))/\w'=w:=Any.strings_IndexByte Tryz.lays137 s c w
def Tryz.laysM171_ren:Go.Shelf.Ren:=⟨fun|171=>117|243=>170|246=>210|283=>235|284=>236|285=>237|286=>238|129=>250|317=>249|318=>251|319=>252|320=>253|337=>257|338=>258|n=>n,fun|3=>3|9=>9|2=>2|4=>4|171=>277|0=>0|53=>23|37=>102|5=>5|173=>280|212=>292|51=>258|20=>20|213=>293|46=>233|232=>300|233=>301|n=>n,fun|17=>5|18=>6|19=>7|n=>n⟩
theorem Tryz.laysM171:Go.Proofs.LaysM.n171 Tryz.prog Tryz.laysM171_ren:={
 mixed:=by kernel_rfl
 f129:=Tryz.func250.trans (congrArg some (by kernel_rfl))
 f171:=Tryz.func117.trans (congrArg some (by kernel_rfl))
 f243:=Tryz.func170.trans (congrArg some (by kernel_rfl))
 f246:=Tryz.func210.trans (congrArg some (by kernel_rfl))
 f283:=Tryz.func235.trans (congrArg some (by kernel_rfl))
 f284:=Tryz.func236.trans (congrArg some (by kernel_rfl))
 f285:=Tryz.func237.trans (congrArg some (by kernel_rfl))
 f286:=Tryz.func238.trans (congrArg some (by kernel_rfl))
 f317:=Tryz.func249.trans (congrArg some (by kernel_rfl))
 f318:=Tryz.func251.trans (congrArg some (by kernel_rfl))
 f319:=Tryz.func252.trans (congrArg some (by kernel_rfl))
 f320:=Tryz.func253.trans (congrArg some (by kernel_rfl))
 f337:=Tryz.func257.trans (congrArg some (by kernel_rfl))
 f338:=Tryz.func258.trans (congrArg some (by kernel_rfl))
 t0:=Tryz.underlying0
 a0:=Tryz.isAgg0
 z0:=Tryz.sizeOf0
 v0:=Tryz.zeroValue0
 t2:=Tryz.underlying2
 a2:=Tryz.isAgg2
 z2:=Tryz.sizeOf2
 v2:=Tryz.zeroValue2
 t3:=Tryz.underlying3
 a3:=Tryz.isAgg3
 z3:=Tryz.sizeOf3
 v3:=Tryz.zeroValue3
 t4:=Tryz.underlying4
 a4:=Tryz.isAgg4
 z4:=Tryz.sizeOf4
 v4:=Tryz.zeroValue4
 t5:=Tryz.underlying5
 a5:=Tryz.isAgg5
 z5:=Tryz.sizeOf5
 v5:=Tryz.zeroValue5
 t9:=Tryz.underlying9
 a9:=Tryz.isAgg9
 z9:=Tryz.sizeOf9
 v9:=Tryz.zeroValue9
 t20:=Tryz.underlying20
 a20:=Tryz.isAgg20
 z20:=Tryz.sizeOf20
 v20:=Tryz.zeroValue20
 t37:=Tryz.underlying102
 a37:=Tryz.isAgg102
 z37:=Tryz.sizeOf102
 v37:=Tryz.zeroValue102
 t46:=Tryz.underlying233
 a46:=Tryz.isAgg233
 z46:=Tryz.sizeOf233
 v46:=Tryz.zeroValue233
 t51:=Tryz.underlying258
 a51:=Tryz.isAgg258
 z51:=Tryz.sizeOf258
 v51:=Tryz.zeroValue258
 t53:=Tryz.underlying23
 a53:=Tryz.isAgg23
 z53:=Tryz.sizeOf23
 v53:=Tryz.zeroValue23
 t171:=Tryz.underlying277
 a171:=Tryz.isAgg277
 z171:=Tryz.sizeOf277
 v171:=Tryz.zeroValue277
 t173:=Tryz.underlying280
 a173:=Tryz.isAgg280
 z173:=Tryz.sizeOf280
 v173:=Tryz.zeroValue280
 t212:=Tryz.underlying292
 a212:=Tryz.isAgg292
 z212:=Tryz.sizeOf292
 v212:=Tryz.zeroValue292
 t213:=Tryz.underlying293
 a213:=Tryz.isAgg293
 z213:=Tryz.sizeOf293
 t232:=Tryz.underlying300
 a232:=Tryz.isAgg300
 z232:=Tryz.sizeOf300
 v232:=Tryz.zeroValue300
 t233:=Tryz.underlying301
 a233:=Tryz.isAgg301
 z233:=Tryz.sizeOf301
 v233:=Tryz.zeroValue301
 g17:=by kernel_rfl
 g18:=by kernel_rfl
 g19:=by kernel_rfl
 i0:=by kernel_rfl
 i2:=by kernel_rfl
 i3:=by kernel_rfl
 i4:=by kernel_rfl
 i5:=by kernel_rfl
 i9:=by kernel_rfl
 i20:=by kernel_rfl
 i37:=by kernel_rfl
 i46:=by kernel_rfl
 i51:=by kernel_rfl
 i53:=by kernel_rfl
 i171:=by kernel_rfl
 i173:=by kernel_rfl
 i212:=by kernel_rfl
 i232:=by kernel_rfl
 i233:=by kernel_rfl
 m17:=by kernel_rfl
 m18:=by kernel_rfl
 m19:=by kernel_rfl }
open Go.RowKit Go.Sort Go.Lib in
theorem Tryz.strconv_Itoa (n:Int) (h0:-9223372036854775808<=n) (h1:n<=9223372036854775807) (w:World) (htab:Lib.TabIs Tryz.prog w "internal/strconv.uint64pow10" .u64 Lib.pow10Tab) :
  Calls Tryz.prog 117 #[.int .i64 n] w fun e w'=>e=.returned (.string ⟨(Lib.itoa n).toArray⟩)/\∃ k os,w'=grow (w.drewN k) os:=Any.strconv_Itoa Tryz.laysM171 n h0 h1 w htab
def Tryz.laysC172_ren:Go.Shelf.Ren:=⟨fun|172=>144|244=>193|245=>194|247=>224|279=>225|280=>226|281=>227|282=>228|287=>244|316=>245|171=>117|205=>246|321=>254|322=>255|243=>170|246=>210|283=>235|284=>236|285=>237|286=>238|129=>250|317=>249|318=>251|319=>252|320=>253|337=>257|338=>258|n=>n,fun|9=>9|3=>3|75=>140|76=>141|4=>4|5=>5|167=>268|37=>102|0=>0|85=>269|2=>2|168=>271|53=>23|175=>282|46=>233|210=>285|127=>206|145=>298|143=>296|21=>21|171=>277|173=>280|212=>292|51=>258|20=>20|213=>293|232=>300|233=>301|80=>145|n=>n,fun|15=>1|16=>2|17=>5|18=>6|19=>7|n=>n⟩
theorem Tryz.laysC172:Go.Proofs.LaysC.n172 Tryz.prog Tryz.laysC172_ren:={
 mixed:=by kernel_rfl
 f129:=Tryz.func250.trans (congrArg some (by kernel_rfl))
 f171:=Tryz.func117.trans (congrArg some (by kernel_rfl))
 f172:=Tryz.func144.trans (congrArg some (by kernel_rfl))
 f205:=Tryz.func246.trans (congrArg some (by kernel_rfl))
 f243:=Tryz.func170.trans (congrArg some (by kernel_rfl))
 f244:=Tryz.func193.trans (congrArg some (by kernel_rfl))
 f245:=Tryz.func194.trans (congrArg some (by kernel_rfl))
 f246:=Tryz.func210.trans (congrArg some (by kernel_rfl))
 f247:=Tryz.func224.trans (congrArg some (by kernel_rfl))
 f279:=Tryz.func225.trans (congrArg some (by kernel_rfl))
 f280:=Tryz.func226.trans (congrArg some (by kernel_rfl))
 f281:=Tryz.func227.trans (congrArg some (by kernel_rfl))
 f282:=Tryz.func228.trans (congrArg some (by kernel_rfl))
 f283:=Tryz.func235.trans (congrArg some (by kernel_rfl))
 f284:=Tryz.func236.trans (congrArg some (by kernel_rfl))
 f285:=Tryz.func237.trans (congrArg some (by kernel_rfl))
 f286:=Tryz.func238.trans (congrArg some (by kernel_rfl))
 f287:=Tryz.func244.trans (congrArg some (by kernel_rfl))
 f316:=Tryz.func245.trans (congrArg some (by kernel_rfl))
 f317:=Tryz.func249.trans (congrArg some (by kernel_rfl))
 f318:=Tryz.func251.trans (congrArg some (by kernel_rfl))
 f319:=Tryz.func252.trans (congrArg some (by kernel_rfl))
 f320:=Tryz.func253.trans (congrArg some (by kernel_rfl))
 f321:=Tryz.func254.trans (congrArg some (by kernel_rfl))
 f322:=Tryz.func255.trans (congrArg some (by kernel_rfl))
 f337:=Tryz.func257.trans (congrArg some (by kernel_rfl))
 f338:=Tryz.func258.trans (congrArg some (by kernel_rfl))
 t0:=Tryz.underlying0
 a0:=Tryz.isAgg0
 z0:=Tryz.sizeOf0
 v0:=Tryz.zeroValue0
 t2:=Tryz.underlying2
 a2:=Tryz.isAgg2
 z2:=Tryz.sizeOf2
 v2:=Tryz.zeroValue2
 t3:=Tryz.underlying3
 a3:=Tryz.isAgg3
 z3:=Tryz.sizeOf3
 v3:=Tryz.zeroValue3
 t4:=Tryz.underlying4
 a4:=Tryz.isAgg4
 z4:=Tryz.sizeOf4
 v4:=Tryz.zeroValue4
 t5:=Tryz.underlying5
 a5:=Tryz.isAgg5
 z5:=Tryz.sizeOf5
 v5:=Tryz.zeroValue5
 t9:=Tryz.underlying9
 a9:=Tryz.isAgg9
 z9:=Tryz.sizeOf9
 v9:=Tryz.zeroValue9
 t20:=Tryz.underlying20
 a20:=Tryz.isAgg20
 z20:=Tryz.sizeOf20
 v20:=Tryz.zeroValue20
 t21:=Tryz.underlying21
 a21:=Tryz.isAgg21
 z21:=Tryz.sizeOf21
 v21:=Tryz.zeroValue21
 t37:=Tryz.underlying102
 a37:=Tryz.isAgg102
 z37:=Tryz.sizeOf102
 v37:=Tryz.zeroValue102
 t46:=Tryz.underlying233
 a46:=Tryz.isAgg233
 z46:=Tryz.sizeOf233
 v46:=Tryz.zeroValue233
 t51:=Tryz.underlying258
 a51:=Tryz.isAgg258
 z51:=Tryz.sizeOf258
 v51:=Tryz.zeroValue258
 t53:=Tryz.underlying23
 a53:=Tryz.isAgg23
 z53:=Tryz.sizeOf23
 v53:=Tryz.zeroValue23
 t75:=Tryz.underlying140
 a75:=Tryz.isAgg140
 z75:=Tryz.sizeOf140
 v75:=Tryz.zeroValue140
 t76:=Tryz.underlying141
 a76:=Tryz.isAgg141
 z76:=Tryz.sizeOf141
 v76:=Tryz.zeroValue141
 t85:=Tryz.underlying269
 a85:=Tryz.isAgg269
 z85:=Tryz.sizeOf269
 v85:=Tryz.zeroValue269
 t127:=Tryz.underlying206
 a127:=Tryz.isAgg206
 z127:=Tryz.sizeOf206
 v127:=Tryz.zeroValue206
 t143:=Tryz.underlying296
 a143:=Tryz.isAgg296
 z143:=Tryz.sizeOf296
 v143:=Tryz.zeroValue296
 t145:=Tryz.underlying298
 a145:=Tryz.isAgg298
 z145:=Tryz.sizeOf298
 v145:=Tryz.zeroValue298
 t167:=Tryz.underlying268
 a167:=Tryz.isAgg268
 z167:=Tryz.sizeOf268
 v167:=Tryz.zeroValue268
 t168:=Tryz.underlying271
 a168:=Tryz.isAgg271
 z168:=Tryz.sizeOf271
 v168:=Tryz.zeroValue271
 t171:=Tryz.underlying277
 a171:=Tryz.isAgg277
 z171:=Tryz.sizeOf277
 v171:=Tryz.zeroValue277
 t173:=Tryz.underlying280
 a173:=Tryz.isAgg280
 z173:=Tryz.sizeOf280
 v173:=Tryz.zeroValue280
 t175:=Tryz.underlying282
 a175:=Tryz.isAgg282
 z175:=Tryz.sizeOf282
 v175:=Tryz.zeroValue282
 t210:=Tryz.underlying285
 a210:=Tryz.isAgg285
 z210:=Tryz.sizeOf285
 v210:=Tryz.zeroValue285
 t212:=Tryz.underlying292
 a212:=Tryz.isAgg292
 z212:=Tryz.sizeOf292
 v212:=Tryz.zeroValue292
 t213:=Tryz.underlying293
 a213:=Tryz.isAgg293
 z213:=Tryz.sizeOf293
 t232:=Tryz.underlying300
 a232:=Tryz.isAgg300
 z232:=Tryz.sizeOf300
 v232:=Tryz.zeroValue300
 t233:=Tryz.underlying301
 a233:=Tryz.isAgg301
 z233:=Tryz.sizeOf301
 v233:=Tryz.zeroValue301
 g15:=by kernel_rfl
 g16:=by kernel_rfl
 g17:=by kernel_rfl
 g18:=by kernel_rfl
 g19:=by kernel_rfl
 t80:=Tryz.underlying145
 a80:=Tryz.isAgg145
 z80:=Tryz.sizeOf145
 v80:=Tryz.zeroValue145
 i0:=by kernel_rfl
 i2:=by kernel_rfl
 i3:=by kernel_rfl
 i4:=by kernel_rfl
 i5:=by kernel_rfl
 i9:=by kernel_rfl
 i20:=by kernel_rfl
 i21:=by kernel_rfl
 i37:=by kernel_rfl
 i46:=by kernel_rfl
 i51:=by kernel_rfl
 i53:=by kernel_rfl
 i75:=by kernel_rfl
 i76:=by kernel_rfl
 i80:=by kernel_rfl
 i85:=by kernel_rfl
 i127:=by kernel_rfl
 i143:=by kernel_rfl
 i145:=by kernel_rfl
 i167:=by kernel_rfl
 i168:=by kernel_rfl
 i171:=by kernel_rfl
 i173:=by kernel_rfl
 i175:=by kernel_rfl
 i210:=by kernel_rfl
 i212:=by kernel_rfl
 i232:=by kernel_rfl
 i233:=by kernel_rfl
 m15:=by kernel_rfl
 m16:=by kernel_rfl
 m17:=by kernel_rfl
 m18:=by kernel_rfl
 m19:=by kernel_rfl
 c0:=by kernel_rfl
 c2:=by kernel_rfl
 c3:=by kernel_rfl
 c4:=by kernel_rfl
 c5:=by kernel_rfl
 c9:=by kernel_rfl
 c20:=by kernel_rfl
 c21:=by kernel_rfl
 c37:=by kernel_rfl
 c46:=by kernel_rfl
 c51:=by kernel_rfl
 c53:=by kernel_rfl
 c75:=by kernel_rfl
 c76:=by kernel_rfl
 c80:=by kernel_rfl
 c85:=by kernel_rfl
 c127:=by kernel_rfl
 c143:=by kernel_rfl
 c145:=by kernel_rfl
 c167:=by kernel_rfl
 c168:=by kernel_rfl
 c171:=by kernel_rfl
 c173:=by kernel_rfl
 c175:=by kernel_rfl
 c210:=by kernel_rfl
 c212:=by kernel_rfl
 c213:=by kernel_rfl
 c232:=by kernel_rfl
 c233:=by kernel_rfl }
open Go.RowKit in
theorem Tryz.strconv_Atoi_ok (s:ByteArray) (hmax:s.size<=9223372036854775806) (v:Int) (h:Lib.atoiAll s.data.toList=.ok v) (w:World) :
  Calls Tryz.prog 144 #[.string s] w fun e w'=>e=.returned (.tuple #[.int .i64 v,.nilIface])/\(w'=w\/∃ t,w'=Lib.bytesWorld w 5 t):=Any.strconv_Atoi_ok Tryz.laysC172 s hmax v h w
open Go.RowKit in
theorem Tryz.strconv_Atoi_syntax (s:ByteArray) (hlim:s.size<=281474976710656) (h:Lib.atoiAll s.data.toList=Lib.atoiAll []) (ev:Value) (w:World) (hv:w.cell? ⟨1,0,none⟩=some ev) (hev:ev=.nilIface\/∃ te pe,ev=.iface te pe) :
  Calls Tryz.prog 144 #[.string s] w fun e w'=>∃ N,e=.returned (.tuple #[.int .i64 (0),.iface 271 (.pointer (some ⟨N,0,none⟩))])/\w.heap.size<=N/\w'.heap[N]?=some (.cells #[.string ⟨#[65,116,111,105]⟩,.string s,ev] 285 (0,0))/\Below w.heap.size w w':=Any.strconv_Atoi_syntax Tryz.laysC172 s hlim h ev w hv hev
open Go.RowKit in
theorem Tryz.strconv_Atoi_range (s:ByteArray) (hlim:s.size<=281474976710656) (h:Lib.atoiAll s.data.toList=.range) (ev:Value) (w:World) (hv:w.cell? ⟨2,0,none⟩=some ev) (hev:ev=.nilIface\/∃ te pe,ev=.iface te pe) :
  Calls Tryz.prog 144 #[.string s] w fun e w'=>∃ N,e=.returned (.tuple #[.int .i64 (Lib.atoiSat s.data.toList),.iface 271 (.pointer (some ⟨N,0,none⟩))])/\w.heap.size<=N/\w'.heap[N]?=some (.cells #[.string ⟨#[65,116,111,105]⟩,.string s,ev] 285 (0,0))/\Below w.heap.size w w':=Any.strconv_Atoi_range Tryz.laysC172 s hlim h ev w hv hev
def Tryz.lays143_ren:Go.Shelf.Ren:=⟨fun|143=>109|219=>166|217=>195|225=>203|224=>204|267=>205|266=>229|314=>232|n=>n,fun|9=>9|3=>3|4=>4|5=>5|46=>233|146=>259|51=>258|n=>n,fun|1=>0|n=>n⟩
theorem Tryz.lays143:Go.Proofs.Lays.n143 Tryz.prog Tryz.lays143_ren:={
 mixed:=by kernel_rfl
 f143:=Tryz.func109.trans (congrArg some (by kernel_rfl))
 f217:=Tryz.func195.trans (congrArg some (by kernel_rfl))
 f219:=Tryz.func166.trans (congrArg some (by kernel_rfl))
 f224:=Tryz.func204.trans (congrArg some (by kernel_rfl))
 f225:=Tryz.func203.trans (congrArg some (by kernel_rfl))
 f266:=Tryz.func229.trans (congrArg some (by kernel_rfl))
 f267:=Tryz.func205.trans (congrArg some (by kernel_rfl))
 f314:=Tryz.func232.trans (congrArg some (by kernel_rfl))
 t3:=Tryz.underlying3
 a3:=Tryz.isAgg3
 z3:=Tryz.sizeOf3
 v3:=Tryz.zeroValue3
 t4:=Tryz.underlying4
 a4:=Tryz.isAgg4
 z4:=Tryz.sizeOf4
 v4:=Tryz.zeroValue4
 t5:=Tryz.underlying5
 a5:=Tryz.isAgg5
 z5:=Tryz.sizeOf5
 v5:=Tryz.zeroValue5
 t9:=Tryz.underlying9
 a9:=Tryz.isAgg9
 z9:=Tryz.sizeOf9
 v9:=Tryz.zeroValue9
 t46:=Tryz.underlying233
 a46:=Tryz.isAgg233
 z46:=Tryz.sizeOf233
 v46:=Tryz.zeroValue233
 t51:=Tryz.underlying258
 a51:=Tryz.isAgg258
 z51:=Tryz.sizeOf258
 v51:=Tryz.zeroValue258
 t146:=Tryz.underlying259
 a146:=Tryz.isAgg259
 z146:=Tryz.sizeOf259
 v146:=Tryz.zeroValue259
 g1:=by kernel_rfl }
open Go.RowKit Go.Lib in
theorem Tryz.strings_Index_one (s:ByteArray) (c:UInt8) (w:World) :
  Calls Tryz.prog 109 #[.string s,.string ⟨#[c]⟩] w fun e w'=>e=.returned (.int .i64 (Lib.indexByte s.data.toList c))/\w'=w:=Any.strings_Index_one Tryz.lays143 s c w
def Tryz.lays138_ren:Go.Shelf.Ren:=⟨fun|138=>169|195=>207|218=>209|143=>109|219=>166|217=>195|225=>203|224=>204|267=>205|266=>229|314=>232|n=>n,fun|9=>9|3=>3|4=>4|5=>5|0=>0|46=>233|146=>259|51=>258|n=>n,fun|1=>0|n=>n⟩
theorem Tryz.lays138:Go.Proofs.Lays.n138 Tryz.prog Tryz.lays138_ren:={
 mixed:=by kernel_rfl
 f138:=Tryz.func169.trans (congrArg some (by kernel_rfl))
 f143:=Tryz.func109.trans (congrArg some (by kernel_rfl))
 f195:=Tryz.func207.trans (congrArg some (by kernel_rfl))
 f217:=Tryz.func195.trans (congrArg some (by kernel_rfl))
 f218:=Tryz.func209.trans (congrArg some (by kernel_rfl))
 f219:=Tryz.func166.trans (congrArg some (by kernel_rfl))
 f224:=Tryz.func204.trans (congrArg some (by kernel_rfl))
 f225:=Tryz.func203.trans (congrArg some (by kernel_rfl))
 f266:=Tryz.func229.trans (congrArg some (by kernel_rfl))
 f267:=Tryz.func205.trans (congrArg some (by kernel_rfl))
 f314:=Tryz.func232.trans (congrArg some (by kernel_rfl))
 t0:=Tryz.underlying0
 a0:=Tryz.isAgg0
 z0:=Tryz.sizeOf0
 v0:=Tryz.zeroValue0
 t3:=Tryz.underlying3
 a3:=Tryz.isAgg3
 z3:=Tryz.sizeOf3
 v3:=Tryz.zeroValue3
 t4:=Tryz.underlying4
 a4:=Tryz.isAgg4
 z4:=Tryz.sizeOf4
 v4:=Tryz.zeroValue4
 t5:=Tryz.underlying5
 a5:=Tryz.isAgg5
 z5:=Tryz.sizeOf5
 v5:=Tryz.zeroValue5
 t9:=Tryz.underlying9
 a9:=Tryz.isAgg9
 z9:=Tryz.sizeOf9
 v9:=Tryz.zeroValue9
 t46:=Tryz.underlying233
 a46:=Tryz.isAgg233
 z46:=Tryz.sizeOf233
 v46:=Tryz.zeroValue233
 t51:=Tryz.underlying258
 a51:=Tryz.isAgg258
 z51:=Tryz.sizeOf258
 v51:=Tryz.zeroValue258
 t146:=Tryz.underlying259
 a146:=Tryz.isAgg259
 z146:=Tryz.sizeOf259
 v146:=Tryz.zeroValue259
 g1:=by kernel_rfl }
open Go.RowKit Go.Lib in
theorem Tryz.strings_Count_one (s:ByteArray) (c:UInt8) (w:World) :
  Calls Tryz.prog 169 #[.string s,.string ⟨#[c]⟩] w fun e w'=>e=.returned (.int .i64 (Lib.countByte s.data.toList c))/\w'=w:=Any.strings_Count_one Tryz.lays138 s c w
def Tryz.lays100_ren:Go.Shelf.Ren:=⟨fun|100=>91|207=>149|n=>n,fun|9=>9|4=>4|3=>3|n=>n,fun|n=>n⟩
theorem Tryz.lays100:Go.Proofs.Lays.n100 Tryz.prog Tryz.lays100_ren:={
 mixed:=by kernel_rfl
 f100:=Tryz.func91.trans (congrArg some (by kernel_rfl))
 f207:=Tryz.func149.trans (congrArg some (by kernel_rfl))
 t3:=Tryz.underlying3
 a3:=Tryz.isAgg3
 z3:=Tryz.sizeOf3
 v3:=Tryz.zeroValue3
 t4:=Tryz.underlying4
 a4:=Tryz.isAgg4
 z4:=Tryz.sizeOf4
 v4:=Tryz.zeroValue4
 t9:=Tryz.underlying9
 a9:=Tryz.isAgg9
 z9:=Tryz.sizeOf9
 v9:=Tryz.zeroValue9 }
open Go.RowKit Go.Lib in
theorem Tryz.strings_HasSuffix (s p:ByteArray) (w:World) (hs:s.size<=9223372036854775807) :
  Calls Tryz.prog 91 #[.string s,.string p] w fun e w'=>e=.returned (.bool (Lib.hasSuffix s.data.toList p.data.toList))/\w'=w:=Any.strings_HasSuffix Tryz.lays100 s p w hs
def Tryz.lays146_ren:Go.Shelf.Ren:=⟨fun|146=>55|221=>111|268=>168|138=>169|143=>109|195=>207|197=>208|218=>209|219=>166|260=>234|217=>195|225=>203|224=>204|267=>205|266=>229|314=>232|n=>n,fun|9=>9|31=>36|3=>3|4=>4|0=>0|105=>254|21=>21|5=>5|46=>233|119=>287|139=>290|138=>289|146=>259|51=>258|n=>n,fun|1=>0|3=>3|4=>4|n=>n⟩
theorem Tryz.lays146:Go.Proofs.Lays.n146 Tryz.prog Tryz.lays146_ren:={
 mixed:=by kernel_rfl
 f138:=Tryz.func169.trans (congrArg some (by kernel_rfl))
 f143:=Tryz.func109.trans (congrArg some (by kernel_rfl))
 f146:=Tryz.func55.trans (congrArg some (by kernel_rfl))
 f195:=Tryz.func207.trans (congrArg some (by kernel_rfl))
 f197:=Tryz.func208.trans (congrArg some (by kernel_rfl))
 f217:=Tryz.func195.trans (congrArg some (by kernel_rfl))
 f218:=Tryz.func209.trans (congrArg some (by kernel_rfl))
 f219:=Tryz.func166.trans (congrArg some (by kernel_rfl))
 f221:=Tryz.func111.trans (congrArg some (by kernel_rfl))
 f224:=Tryz.func204.trans (congrArg some (by kernel_rfl))
 f225:=Tryz.func203.trans (congrArg some (by kernel_rfl))
 f260:=Tryz.func234.trans (congrArg some (by kernel_rfl))
 f266:=Tryz.func229.trans (congrArg some (by kernel_rfl))
 f267:=Tryz.func205.trans (congrArg some (by kernel_rfl))
 f268:=Tryz.func168.trans (congrArg some (by kernel_rfl))
 f314:=Tryz.func232.trans (congrArg some (by kernel_rfl))
 t0:=Tryz.underlying0
 a0:=Tryz.isAgg0
 z0:=Tryz.sizeOf0
 v0:=Tryz.zeroValue0
 t3:=Tryz.underlying3
 a3:=Tryz.isAgg3
 z3:=Tryz.sizeOf3
 v3:=Tryz.zeroValue3
 t4:=Tryz.underlying4
 a4:=Tryz.isAgg4
 z4:=Tryz.sizeOf4
 v4:=Tryz.zeroValue4
 t5:=Tryz.underlying5
 a5:=Tryz.isAgg5
 z5:=Tryz.sizeOf5
 v5:=Tryz.zeroValue5
 t9:=Tryz.underlying9
 a9:=Tryz.isAgg9
 z9:=Tryz.sizeOf9
 v9:=Tryz.zeroValue9
 t21:=Tryz.underlying21
 a21:=Tryz.isAgg21
 z21:=Tryz.sizeOf21
 v21:=Tryz.zeroValue21
 t31:=Tryz.underlying36
 a31:=Tryz.isAgg36
 z31:=Tryz.sizeOf36
 v31:=Tryz.zeroValue36
 t46:=Tryz.underlying233
 a46:=Tryz.isAgg233
 z46:=Tryz.sizeOf233
 v46:=Tryz.zeroValue233
 t51:=Tryz.underlying258
 a51:=Tryz.isAgg258
 z51:=Tryz.sizeOf258
 v51:=Tryz.zeroValue258
 t105:=Tryz.underlying254
 a105:=Tryz.isAgg254
 z105:=Tryz.sizeOf254
 v105:=Tryz.zeroValue254
 t119:=Tryz.underlying287
 a119:=Tryz.isAgg287
 z119:=Tryz.sizeOf287
 t138:=Tryz.underlying289
 a138:=Tryz.isAgg289
 z138:=Tryz.sizeOf289
 v138:=Tryz.zeroValue289
 t139:=Tryz.underlying290
 a139:=Tryz.isAgg290
 z139:=Tryz.sizeOf290
 v139:=Tryz.zeroValue290
 t146:=Tryz.underlying259
 a146:=Tryz.isAgg259
 z146:=Tryz.sizeOf259
 v146:=Tryz.zeroValue259
 g1:=by kernel_rfl
 g3:=by kernel_rfl
 g4:=by kernel_rfl }
open Go.RowKit Go.Lib in
theorem Tryz.strings_Split (s sep:ByteArray) (m:Int) (w:World) (hs:s.size<4294967281) (hm:w.cell? ⟨0,0,none⟩=some (.int .i64 m)) (h1:1<=sep.size) :
  Calls Tryz.prog 55 #[.string s,.string sep] w fun e w'=>
   e=.returned (.slice (some ⟨w.heap.size,0,none⟩) (Lib.countB s sep+1) (Lib.countB s sep+1))/\w'=w.alloc (.cells ((Lib.splitB sep 0 (Lib.countB s sep) s).map Value.string).toArray 9):=Any.strings_Split Tryz.lays146 (by kernel_rfl) s sep m w hs hm h1
def Tryz.lays147_ren:Go.Shelf.Ren:=⟨fun|147=>113|221=>111|268=>168|138=>169|143=>109|195=>207|197=>208|218=>209|219=>166|260=>234|217=>195|225=>203|224=>204|267=>205|266=>229|314=>232|n=>n,fun|9=>9|3=>3|31=>36|4=>4|0=>0|105=>254|21=>21|5=>5|46=>233|119=>287|139=>290|138=>289|146=>259|51=>258|n=>n,fun|1=>0|3=>3|4=>4|n=>n⟩
theorem Tryz.lays147:Go.Proofs.Lays.n147 Tryz.prog Tryz.lays147_ren:={
 mixed:=by kernel_rfl
 f138:=Tryz.func169.trans (congrArg some (by kernel_rfl))
 f143:=Tryz.func109.trans (congrArg some (by kernel_rfl))
 f147:=Tryz.func113.trans (congrArg some (by kernel_rfl))
 f195:=Tryz.func207.trans (congrArg some (by kernel_rfl))
 f197:=Tryz.func208.trans (congrArg some (by kernel_rfl))
 f217:=Tryz.func195.trans (congrArg some (by kernel_rfl))
 f218:=Tryz.func209.trans (congrArg some (by kernel_rfl))
 f219:=Tryz.func166.trans (congrArg some (by kernel_rfl))
 f221:=Tryz.func111.trans (congrArg some (by kernel_rfl))
 f224:=Tryz.func204.trans (congrArg some (by kernel_rfl))
 f225:=Tryz.func203.trans (congrArg some (by kernel_rfl))
 f260:=Tryz.func234.trans (congrArg some (by kernel_rfl))
 f266:=Tryz.func229.trans (congrArg some (by kernel_rfl))
 f267:=Tryz.func205.trans (congrArg some (by kernel_rfl))
 f268:=Tryz.func168.trans (congrArg some (by kernel_rfl))
 f314:=Tryz.func232.trans (congrArg some (by kernel_rfl))
 t0:=Tryz.underlying0
 a0:=Tryz.isAgg0
 z0:=Tryz.sizeOf0
 v0:=Tryz.zeroValue0
 t3:=Tryz.underlying3
 a3:=Tryz.isAgg3
 z3:=Tryz.sizeOf3
 v3:=Tryz.zeroValue3
 t4:=Tryz.underlying4
 a4:=Tryz.isAgg4
 z4:=Tryz.sizeOf4
 v4:=Tryz.zeroValue4
 t5:=Tryz.underlying5
 a5:=Tryz.isAgg5
 z5:=Tryz.sizeOf5
 v5:=Tryz.zeroValue5
 t9:=Tryz.underlying9
 a9:=Tryz.isAgg9
 z9:=Tryz.sizeOf9
 v9:=Tryz.zeroValue9
 t21:=Tryz.underlying21
 a21:=Tryz.isAgg21
 z21:=Tryz.sizeOf21
 v21:=Tryz.zeroValue21
 t31:=Tryz.underlying36
 a31:=Tryz.isAgg36
 z31:=Tryz.sizeOf36
 v31:=Tryz.zeroValue36
 t46:=Tryz.underlying233
 a46:=Tryz.isAgg233
 z46:=Tryz.sizeOf233
 v46:=Tryz.zeroValue233
 t51:=Tryz.underlying258
 a51:=Tryz.isAgg258
 z51:=Tryz.sizeOf258
 v51:=Tryz.zeroValue258
 t105:=Tryz.underlying254
 a105:=Tryz.isAgg254
 z105:=Tryz.sizeOf254
 v105:=Tryz.zeroValue254
 t119:=Tryz.underlying287
 a119:=Tryz.isAgg287
 z119:=Tryz.sizeOf287
 t138:=Tryz.underlying289
 a138:=Tryz.isAgg289
 z138:=Tryz.sizeOf289
 v138:=Tryz.zeroValue289
 t139:=Tryz.underlying290
 a139:=Tryz.isAgg290
 z139:=Tryz.sizeOf290
 v139:=Tryz.zeroValue290
 t146:=Tryz.underlying259
 a146:=Tryz.isAgg259
 z146:=Tryz.sizeOf259
 v146:=Tryz.zeroValue259
 g1:=by kernel_rfl
 g3:=by kernel_rfl
 g4:=by kernel_rfl }
open Go.RowKit Go.Lib in
theorem Tryz.strings_SplitN (s sep:ByteArray) (n:Nat) (m:Int) (w:World) (hs:s.size<4294967281) (hm:w.cell? ⟨0,0,none⟩=some (.int .i64 m)) (h1:1<=sep.size) (hn:1<=n) (hn63:n<=9223372036854775807) :
  Calls Tryz.prog 113 #[.string s,.string sep,.int .i64 n] w fun e w'=>
   e=.returned (.slice (some ⟨w.heap.size,0,none⟩) (Lib.splitB sep 0 (min n (s.size+1)-1) s).length (min n (s.size+1)))/\w'=w.alloc (.cells (Lib.cellsOf (Lib.splitB sep 0 (min n (s.size+1)-1) s) (min n (s.size+1))) 9):=Any.strings_SplitN Tryz.lays147 (by kernel_rfl) s sep n m w hs hm h1 hn hn63
def Tryz.lays155_ren:Go.Shelf.Ren:=⟨fun|155=>171|154=>211|138=>169|165=>167|143=>109|166=>88|197=>208|169=>92|195=>207|218=>209|240=>147|241=>206|219=>166|260=>234|276=>196|277=>233|217=>195|225=>203|224=>204|267=>205|266=>229|314=>232|n=>n,fun|9=>9|3=>3|4=>4|72=>138|0=>0|76=>141|105=>254|21=>21|5=>5|70=>136|20=>20|37=>102|75=>140|127=>206|164=>247|46=>233|119=>287|139=>290|138=>289|146=>259|51=>258|80=>145|n=>n,fun|1=>0|3=>3|4=>4|n=>n⟩
theorem Tryz.lays155:Go.Proofs.Lays.n155 Tryz.prog Tryz.lays155_ren:={
 mixed:=by kernel_rfl
 f138:=Tryz.func169.trans (congrArg some (by kernel_rfl))
 f143:=Tryz.func109.trans (congrArg some (by kernel_rfl))
 f154:=Tryz.func211.trans (congrArg some (by kernel_rfl))
 f155:=Tryz.func171.trans (congrArg some (by kernel_rfl))
 f165:=Tryz.func167.trans (congrArg some (by kernel_rfl))
 f166:=Tryz.func88.trans (congrArg some (by kernel_rfl))
 f169:=Tryz.func92.trans (congrArg some (by kernel_rfl))
 f195:=Tryz.func207.trans (congrArg some (by kernel_rfl))
 f197:=Tryz.func208.trans (congrArg some (by kernel_rfl))
 f217:=Tryz.func195.trans (congrArg some (by kernel_rfl))
 f218:=Tryz.func209.trans (congrArg some (by kernel_rfl))
 f219:=Tryz.func166.trans (congrArg some (by kernel_rfl))
 f224:=Tryz.func204.trans (congrArg some (by kernel_rfl))
 f225:=Tryz.func203.trans (congrArg some (by kernel_rfl))
 f240:=Tryz.func147.trans (congrArg some (by kernel_rfl))
 f241:=Tryz.func206.trans (congrArg some (by kernel_rfl))
 f260:=Tryz.func234.trans (congrArg some (by kernel_rfl))
 f266:=Tryz.func229.trans (congrArg some (by kernel_rfl))
 f267:=Tryz.func205.trans (congrArg some (by kernel_rfl))
 f276:=Tryz.func196.trans (congrArg some (by kernel_rfl))
 f277:=Tryz.func233.trans (congrArg some (by kernel_rfl))
 f314:=Tryz.func232.trans (congrArg some (by kernel_rfl))
 t0:=Tryz.underlying0
 a0:=Tryz.isAgg0
 z0:=Tryz.sizeOf0
 v0:=Tryz.zeroValue0
 t3:=Tryz.underlying3
 a3:=Tryz.isAgg3
 z3:=Tryz.sizeOf3
 v3:=Tryz.zeroValue3
 t4:=Tryz.underlying4
 a4:=Tryz.isAgg4
 z4:=Tryz.sizeOf4
 v4:=Tryz.zeroValue4
 t5:=Tryz.underlying5
 a5:=Tryz.isAgg5
 z5:=Tryz.sizeOf5
 v5:=Tryz.zeroValue5
 t9:=Tryz.underlying9
 a9:=Tryz.isAgg9
 z9:=Tryz.sizeOf9
 v9:=Tryz.zeroValue9
 t20:=Tryz.underlying20
 a20:=Tryz.isAgg20
 z20:=Tryz.sizeOf20
 v20:=Tryz.zeroValue20
 t21:=Tryz.underlying21
 a21:=Tryz.isAgg21
 z21:=Tryz.sizeOf21
 v21:=Tryz.zeroValue21
 t37:=Tryz.underlying102
 a37:=Tryz.isAgg102
 z37:=Tryz.sizeOf102
 v37:=Tryz.zeroValue102
 t46:=Tryz.underlying233
 a46:=Tryz.isAgg233
 z46:=Tryz.sizeOf233
 v46:=Tryz.zeroValue233
 t51:=Tryz.underlying258
 a51:=Tryz.isAgg258
 z51:=Tryz.sizeOf258
 v51:=Tryz.zeroValue258
 t70:=Tryz.underlying136
 a70:=Tryz.isAgg136
 z70:=Tryz.sizeOf136
 v70:=Tryz.zeroValue136
 t72:=Tryz.underlying138
 a72:=Tryz.isAgg138
 z72:=Tryz.sizeOf138
 v72:=Tryz.zeroValue138
 t75:=Tryz.underlying140
 a75:=Tryz.isAgg140
 z75:=Tryz.sizeOf140
 v75:=Tryz.zeroValue140
 t76:=Tryz.underlying141
 a76:=Tryz.isAgg141
 z76:=Tryz.sizeOf141
 v76:=Tryz.zeroValue141
 t105:=Tryz.underlying254
 a105:=Tryz.isAgg254
 z105:=Tryz.sizeOf254
 v105:=Tryz.zeroValue254
 t119:=Tryz.underlying287
 a119:=Tryz.isAgg287
 z119:=Tryz.sizeOf287
 t127:=Tryz.underlying206
 a127:=Tryz.isAgg206
 z127:=Tryz.sizeOf206
 v127:=Tryz.zeroValue206
 t138:=Tryz.underlying289
 a138:=Tryz.isAgg289
 z138:=Tryz.sizeOf289
 v138:=Tryz.zeroValue289
 t139:=Tryz.underlying290
 a139:=Tryz.isAgg290
 z139:=Tryz.sizeOf290
 v139:=Tryz.zeroValue290
 t146:=Tryz.underlying259
 a146:=Tryz.isAgg259
 z146:=Tryz.sizeOf259
 v146:=Tryz.zeroValue259
 t164:=Tryz.underlying247
 a164:=Tryz.isAgg247
 z164:=Tryz.sizeOf247
 v164:=Tryz.zeroValue247
 g1:=by kernel_rfl
 g3:=by kernel_rfl
 g4:=by kernel_rfl }
theorem Tryz.Builder_Extra_155:Builder.Extra Tryz.prog Tryz.lays155_ren:={
 sizeBuilder:=by kernel_rfl
 liesBuilder:=by kernel_rfl
 t5:=Tryz.underlying5
 a5:=Tryz.isAgg5
 z5:=Tryz.sizeOf5
 v5:=Tryz.zeroValue5
 infoByte:=by kernel_rfl
 cellsByte:=by kernel_rfl
 sizeByte:=by kernel_rfl
 neB5:=by decide }
open Go.RowKit Go.Lib in
theorem Tryz.strings_ReplaceAll (s old new:ByteArray) (m:Int) (w:World) (hs:s.size<4294967281) (hm:w.cell? ⟨0,0,none⟩=some (.int .i64 m)) (h1:1<=old.size) (hlen:s.size+Lib.countB s old*new.size<=140737488355328) :
  Calls Tryz.prog 171 #[.string s,.string old,.string new] w fun e w'=>
   e=.returned (.string ⟨(Lib.replaceAll s.data.toList old.data.toList new.data.toList).toArray⟩)/\Below w.heap.size w w':=Any.strings_ReplaceAll Tryz.lays155 Tryz.Builder_Extra_155 s old new m w hs hm h1 hlen
def Tryz.lays212_ren:Go.Shelf.Ren:=⟨fun|212=>177|263=>213|264=>214|n=>n,fun|46=>233|51=>258|146=>259|53=>23|148=>261|n=>n,fun|n=>n⟩
theorem Tryz.lays212:Go.Proofs.Lays.n212 Tryz.prog Tryz.lays212_ren:={
 mixed:=by kernel_rfl
 f212:=Tryz.func177.trans (congrArg some (by kernel_rfl))
 f263:=Tryz.func213.trans (congrArg some (by kernel_rfl))
 f264:=Tryz.func214.trans (congrArg some (by kernel_rfl))
 t46:=Tryz.underlying233
 a46:=Tryz.isAgg233
 z46:=Tryz.sizeOf233
 v46:=Tryz.zeroValue233
 t51:=Tryz.underlying258
 a51:=Tryz.isAgg258
 z51:=Tryz.sizeOf258
 v51:=Tryz.zeroValue258
 t53:=Tryz.underlying23
 a53:=Tryz.isAgg23
 z53:=Tryz.sizeOf23
 v53:=Tryz.zeroValue23
 t146:=Tryz.underlying259
 a146:=Tryz.isAgg259
 z146:=Tryz.sizeOf259
 v146:=Tryz.zeroValue259
 t148:=Tryz.underlying261
 a148:=Tryz.isAgg261
 z148:=Tryz.sizeOf261
 v148:=Tryz.zeroValue261 }
open Go.RowKit Go.Lib in
theorem Tryz.bits_Mul (x y:Nat) (hx:x<18446744073709551616) (hy:y<18446744073709551616) (w:World) :
  Calls Tryz.prog 177 #[.int .u64 x,.int .u64 y] w fun e w'=>e=.returned (.tuple #[.int .u64 ((x*y / 18446744073709551616:Nat):Int),.int .u64 ((x*y % 18446744073709551616:Nat):Int)])/\w'=w:=Any.bits_Mul Tryz.lays212 x y hx hy w
def Tryz.lays105_ren:Go.Shelf.Ren:=⟨fun|105=>212|212=>177|99=>85|165=>167|166=>88|170=>239|169=>92|263=>213|264=>214|206=>140|240=>147|241=>206|276=>196|277=>233|n=>n,fun|9=>9|3=>3|4=>4|20=>20|0=>0|46=>233|109=>234|5=>5|72=>138|76=>141|51=>258|146=>259|53=>23|148=>261|70=>136|37=>102|75=>140|127=>206|164=>247|80=>145|n=>n,fun|n=>n⟩
theorem Tryz.lays105:Go.Proofs.Lays.n105 Tryz.prog Tryz.lays105_ren:={
 mixed:=by kernel_rfl
 f99:=Tryz.func85.trans (congrArg some (by kernel_rfl))
 f105:=Tryz.func212.trans (congrArg some (by kernel_rfl))
 f165:=Tryz.func167.trans (congrArg some (by kernel_rfl))
 f166:=Tryz.func88.trans (congrArg some (by kernel_rfl))
 f169:=Tryz.func92.trans (congrArg some (by kernel_rfl))
 f170:=Tryz.func239.trans (congrArg some (by kernel_rfl))
 f206:=Tryz.func140.trans (congrArg some (by kernel_rfl))
 f212:=Tryz.func177.trans (congrArg some (by kernel_rfl))
 f240:=Tryz.func147.trans (congrArg some (by kernel_rfl))
 f241:=Tryz.func206.trans (congrArg some (by kernel_rfl))
 f263:=Tryz.func213.trans (congrArg some (by kernel_rfl))
 f264:=Tryz.func214.trans (congrArg some (by kernel_rfl))
 f276:=Tryz.func196.trans (congrArg some (by kernel_rfl))
 f277:=Tryz.func233.trans (congrArg some (by kernel_rfl))
 t0:=Tryz.underlying0
 a0:=Tryz.isAgg0
 z0:=Tryz.sizeOf0
 v0:=Tryz.zeroValue0
 t3:=Tryz.underlying3
 a3:=Tryz.isAgg3
 z3:=Tryz.sizeOf3
 v3:=Tryz.zeroValue3
 t4:=Tryz.underlying4
 a4:=Tryz.isAgg4
 z4:=Tryz.sizeOf4
 v4:=Tryz.zeroValue4
 t5:=Tryz.underlying5
 a5:=Tryz.isAgg5
 z5:=Tryz.sizeOf5
 v5:=Tryz.zeroValue5
 t9:=Tryz.underlying9
 a9:=Tryz.isAgg9
 z9:=Tryz.sizeOf9
 v9:=Tryz.zeroValue9
 t20:=Tryz.underlying20
 a20:=Tryz.isAgg20
 z20:=Tryz.sizeOf20
 v20:=Tryz.zeroValue20
 t37:=Tryz.underlying102
 a37:=Tryz.isAgg102
 z37:=Tryz.sizeOf102
 v37:=Tryz.zeroValue102
 t46:=Tryz.underlying233
 a46:=Tryz.isAgg233
 z46:=Tryz.sizeOf233
 v46:=Tryz.zeroValue233
 t51:=Tryz.underlying258
 a51:=Tryz.isAgg258
 z51:=Tryz.sizeOf258
 v51:=Tryz.zeroValue258
 t53:=Tryz.underlying23
 a53:=Tryz.isAgg23
 z53:=Tryz.sizeOf23
 v53:=Tryz.zeroValue23
 t70:=Tryz.underlying136
 a70:=Tryz.isAgg136
 z70:=Tryz.sizeOf136
 v70:=Tryz.zeroValue136
 t72:=Tryz.underlying138
 a72:=Tryz.isAgg138
 z72:=Tryz.sizeOf138
 v72:=Tryz.zeroValue138
 t75:=Tryz.underlying140
 a75:=Tryz.isAgg140
 z75:=Tryz.sizeOf140
 v75:=Tryz.zeroValue140
 t76:=Tryz.underlying141
 a76:=Tryz.isAgg141
 z76:=Tryz.sizeOf141
 v76:=Tryz.zeroValue141
 t109:=Tryz.underlying234
 a109:=Tryz.isAgg234
 z109:=Tryz.sizeOf234
 v109:=Tryz.zeroValue234
 t127:=Tryz.underlying206
 a127:=Tryz.isAgg206
 z127:=Tryz.sizeOf206
 v127:=Tryz.zeroValue206
 t146:=Tryz.underlying259
 a146:=Tryz.isAgg259
 z146:=Tryz.sizeOf259
 v146:=Tryz.zeroValue259
 t148:=Tryz.underlying261
 a148:=Tryz.isAgg261
 z148:=Tryz.sizeOf261
 v148:=Tryz.zeroValue261
 t164:=Tryz.underlying247
 a164:=Tryz.isAgg247
 z164:=Tryz.sizeOf247
 v164:=Tryz.zeroValue247 }
theorem Tryz.Builder_Extra_105:Builder.Extra Tryz.prog Tryz.lays105_ren:={
 sizeBuilder:=by kernel_rfl
 liesBuilder:=by kernel_rfl
 t5:=Tryz.underlying5
 a5:=Tryz.isAgg5
 z5:=Tryz.sizeOf5
 v5:=Tryz.zeroValue5
 infoByte:=by kernel_rfl
 cellsByte:=by kernel_rfl
 sizeByte:=by kernel_rfl
 neB5:=by decide }
open Go.RowKit Go.Lib in
theorem Tryz.strings_Repeat (s:ByteArray) (c:Nat) (w:World) (hc:c<=9223372036854775807) (hlen:s.size*c<=140737488355328) :
  Calls Tryz.prog 212 #[.string s,.int .i64 c] w fun e w'=>e=.returned (.string ⟨(Lib.repeatL s.data.toList c).toArray⟩)/\Below w.heap.size w w':=Any.strings_Repeat Tryz.lays105 Tryz.Builder_Extra_105 s c w hc hlen
end Go.Proofs
set_option maxRecDepth 100000
namespace Go.Proofs.YthpjjjnbkfnghaaGreatDoor
open Go
attribute [local irreducible] AW a0e a1g a0a
def a4p:a0s:=a0s.f2 kS kS (fun _ b=>b=[10]) (fun a _=>kI.enc (Lib.indexByte a 10))
theorem b2C:a0d Tryz.prog 109 a4p:=by
 refine a0d.ss Tryz.func109 rfl (by decide) fun a b hd w=>?_
 subst hd
 refine (Tryz.strings_Index_one ⟨a.toArray⟩ 10 w).mono ?_
 rintro e w' ⟨rfl,rfl⟩
 exact⟨_,rfl,Fr.refl _ _,fun _=>rfl⟩
def a9U:a0s:=a0s.f2 kS kS (fun _ b=>b=[10]) (fun a _=>kI.enc (a.count 10:Nat))
theorem c5E:a0d Tryz.prog 169 a9U:=by
 refine a0d.ss Tryz.func169 rfl (by decide) fun a b hd w=>?_
 subst hd
 refine (Tryz.strings_Count_one ⟨a.toArray⟩ 10 w).mono ?_
 rintro e w' ⟨rfl,rfl⟩
 exact⟨_,rfl,Fr.refl _ _,fun _=>rfl⟩
theorem c3Z {r:List UInt8} (h:(10:UInt8)∈r):∃ m:Nat,Lib.indexByte r 10=m/\m+1<=r.length/\spA r=r.take (m+1)::spA (r.drop (m+1))/\(r.drop (m+1)).count 10+1=r.count 10:=by
 rcases a6i r with⟨_,h'⟩|⟨p,q,rfl,hp,hm⟩
 ·exact absurd h h'
 ·have e0:p++10::q=(p++[10])++q:=by simp
  have el:p.length+1=(p++[10]).length:=by simp
  have e1:(p++10::q).take (p.length+1)=p++[10]:=by rw [e0,el,List.take_left]
  have e2:(p++10::q).drop (p.length+1)=q:=by rw [e0,el,List.drop_left]
  refine⟨p.length,hm,by simp,?_,?_⟩
  ·rw [e1,e2,c0t p q hp]
  ·rw [e2,List.count_append,List.count_eq_zero.2 hp]
   simp
def b0G:a0s:=a0s.f4 kS kS kI kI (fun s b k n=>s.length<=100000000/\b=[10]/\k=1/\n=-1) (fun s _ _ _=>sL eS (spA s))
theorem b8Y:a0d Tryz.prog 111 b0G:=by
 refine a0d.f4 Tryz.func111 rfl (by decide) Tryz.results111 Tryz.ntmps111 (by decide) fun s b k n ⟨hs,hb,hk,hn⟩=>?_
 have hΓ:GOK Tryz.prog (gam [(109,a4p),(169,a9U)]):=(.cons b2C (.cons c5E .nil))
 subst hb hk hn
 have hc:s.count 10<=s.length:=List.count_le_length
 have hn:min ((s.count 10:Int)+1) ((s.length:Int)+1)=(s.count 10:Nat)+1:=by omega
 refine AW.of hΓ mixed [99999] _ _ _ rfl ?_
 simp only [go_sem,a4p,a9U,hn]
 refine⟨by omega,by omega,by omega,by omega,?_⟩
 refine AW.round (α:={ x:List (List UInt8)×List UInt8 // x.1++spA x.2=spA s/\x.1.length+x.2.count 10=s.count 10/\x.2.length<=s.length })
  (fun x=>⟨[(0,.st x.1.2),(1,.st [10]),(2,.val (.int .i64 1)),(3,.val (.int .i64 (s.count 10:Nat))),(9,.ow 0 0 (s.count 10+1)),(10,.val (.int .i64 x.1.1.length))],
   [(0,a05 0 9 eS (x.1.1++List.replicate (x.1.2.count 10+1) []))],66,1,1,[]⟩) (fun x=>s.count 10-x.1.1.length) ⟨([],s),by simp,by simp,Nat.le_refl _⟩ ?_ ?_
 ·simp only [go_sem,a4p,a9U]
  exact c5M rfl rfl (by simp) e1m
 ·rintro⟨⟨acc,r⟩,h1,h2,h3⟩
  simp only at h1 h2 h3
  refine AW.of hΓ mixed [] _ _ _ rfl ?_
  simp only [go_sem,a4p,a9U]
  have hcr:r.count 10<=r.length:=List.count_le_length
  refine⟨fun hi=>?_,fun hi=>?_⟩
  ·obtain⟨m,hm1,hm2,hm3,hm4⟩:=c3Z (List.count_pos_iff.1 (by omega:0<r.count 10))
   rw [hm1,b8R]
   refine⟨fun h=>absurd h (by omega),fun _=>?_⟩
   refine⟨by omega,by omega,by omega,by omega,by omega,by omega,by omega,⟨(acc++[r.take (m+1)],r.drop (m+1)),?_,?_,?_⟩,⟨⟨rfl,?_⟩,?_⟩,?_⟩
   ·simp [<-h1,hm3]
   ·simp;omega
   ·simp;omega
   ·simp
   ·refine b2L (l:=acc++List.replicate (r.count 10+1) []) rfl ?_ (by simp) (by simp<;>omega) (fun j _=>a0e.refl _)
    have e:∀ x:List UInt8,(List.replicate (r.count 10+1) []).set 0 x=x::List.replicate (r.count 10) []:=fun x=>by rw [List.replicate_succ];rfl
    rw [List.set_append_right _ _ (Nat.le_refl _),Nat.sub_self,e,<-hm4]
    simp
   ·simp;omega
  ·have h0:r.count 10=0:=by omega
   have hno:(10:UInt8)∉r:=List.count_eq_zero.1 h0
   refine⟨by omega,by omega,by omega,by omega,⟨by omega,fun i _=>c6Q (fun _ _=>rfl) (fun _=>rfl) i 0⟩,?_⟩
   refine d3B rfl rfl ?_ (by simp<;>omega) (fun j _=>a0e.refl _)
   rw [<-h1,c2q r hno,h0,List.set_append_right _ _ (Nat.le_refl _),Nat.sub_self]
   exact (List.take_of_length_le (by simp)).symm
def a5n:a0s:=a0s.f2 kS kS (fun s b=>s.length<=100000000/\b=[10]) (fun s _=>sL eS (spA s))
theorem b3P:a0d Tryz.prog 80 a5n:=by
 refine a0d.f2 Tryz.func80 rfl (by decide) Tryz.results80 Tryz.ntmps80 (by decide) fun s b ⟨hs,hb⟩=>?_
 have hΓ:GOK Tryz.prog (gam [(111,b0G)]):=(.cons b8Y .nil)
 subst hb
 refine AW.of hΓ mixed [] _ _ _ rfl ?_
 simp only [go_sem,b0G]
 exact hs
def a0v:a0s:=a0s.f1 kS (fun s=>s.length<=100000000) (fun s=>sL eS (a0b s))
theorem b23:a0d Tryz.prog 26 a0v:=by
 refine a0d.f1 Tryz.func26 rfl (by decide) Tryz.results26 Tryz.ntmps26 (by decide) fun s hs=>?_
 have hΓ:GOK Tryz.prog (gam [(80,a5n)]):=(.cons b3P .nil)
 have hl:=a0M s
 rcases b4o s with e|⟨e,hn⟩
 ·refine AW.of hΓ mixed [99999] _ _ _ rfl ?_
  simp only [go_sem,a5n,e]
  have e1:(((a0b s).length+1:Nat):Int)-1=(a0b s).length:=by omega
  have e2:(a0b s++[[]]).getD (a0b s).length []=[]:=by simp [List.getD]
  rw [e1,Int.toNat_natCast]
  refine⟨hs,by omega,by omega,fun _=>⟨by omega,c7g rfl rfl (by simp) (by simp)⟩,fun h=>absurd e2 h⟩
 ·have hne:a0b s≠[]:=e▸d2S s
  have hpos:0<(a0b s).length:=List.length_pos_iff.2 hne
  refine AW.of hΓ mixed [99999] _ _ _ rfl ?_
  simp only [go_sem,a5n,e]
  have e1:(((a0b s).length:Nat):Int)-1=((a0b s).length-1:Nat):=by omega
  rw [e1,Int.toNat_natCast]
  refine⟨hs,by omega,by omega,fun h=>absurd h (hn _ ?_)⟩
  rw [a1e _ _ (by omega)]
  exact List.getElem_mem _
def b6H (l:List (List UInt8)):Prop:=l.length<=100000000/\l.flatten.length<=100000000000
theorem b7g (l:List (List UInt8)) (i:Nat):(l.getD i []).length<=l.flatten.length:=by
 rcases Nat.lt_or_ge i l.length with h|h
 ·rw [a1e _ _ h]
  exact (List.sublist_flatten_of_mem (List.getElem_mem h)).length_le
 ·simp [List.getD,List.getElem?_eq_none h]
theorem b7z (xs:List (List UInt8)):Lib.join xs []=xs.flatten:=by
 cases xs with
 | nil=>rfl
 | cons x r=>rw [Lib.join_cons];simp [Lib.joinTail]
def c2n:a0s:=a0s.f2 (kL eS) kS (fun l b=>l.length<=100000000/\l.flatten.length<=100000000000/\b=[]) (fun l _=>kS.enc l.flatten)
theorem c8j:a0d Tryz.prog 110 c2n:=by
 refine a0d.raw Tryz.func110 rfl (by decide) fun args hp w L vs hL ha=>?_
 match args,hp with
 | [x,y],hp=>
   obtain⟨h1,h2,h3,h4,h5⟩:=hp
   cases ha with
   | cons hx hr=>cases hr with
     | cons hy hr=>cases hr with
       | nil=>
         have ex:=b1j h1 hx
         have ey:=b1j h2 hy
         show Calls _ _ _ _ fun e w'=>∃ v,e=.returned v/\Fr (fun _=>False) w w'/\Rep w' a1l L (kS.enc ((kL eS).dec x).flatten) v
         generalize (kL eS).dec x=l at *
         rw [h5] at ey
         obtain⟨a,cap,rfl,hcap,hc⟩:=ex
         obtain rfl:=ey
         rcases Nat.eq_zero_or_pos l.length with h0|h0
         ·rw [h0]
          refine (Tryz.strings_Join_none a cap ⟨#[]⟩ w).mono ?_
          rintro e w' ⟨rfl,rfl⟩
          have:l=[]:=List.length_eq_zero_iff.1 h0
          subst this
          exact⟨_,rfl,Fr.refl _ _,rfl⟩
         ·obtain⟨b,off,rfl,hb,hcells⟩:=hc h0 (by decide)
          have hget:∀ (j:Nat) y,(l.map fun y=>(⟨y.toArray⟩:ByteArray))[j]?=some y->w.cell? ⟨b,off+j,none⟩=some (.string y):=fun j y hj=>by
           rw [List.getElem?_map] at hj
           cases hl:l[j]? with
           | none=>rw [hl] at hj;cases hj
           | some z=>
             rw [hl] at hj
             simp only [Option.map_some,Option.some.injEq] at hj
             subst hj
             obtain⟨hlt,_⟩:=List.getElem?_eq_some_iff.1 hl
             obtain⟨u,hu,_,hrep⟩:=hcells j hlt 0 (by decide)
             have e:l.getD j eS.dflt=z:=by simp [List.getD,hl]
             have hrep:Rep w a1l L (eS.enc (l.getD j eS.dflt) 0) u:=hrep
             rw [e] at hrep
             have:u=.string ⟨z.toArray⟩:=hrep
             subst this
             simpa [d3K] using hu
          have e1:(l.map fun y=>(⟨y.toArray⟩:ByteArray)).map (·.data.toList)=l:=by simp [Function.comp_def]
          have hbs:b<w.heap.size:=by
           obtain⟨u,hu,_⟩:=hcells 0 h0 0 (by decide)
           exact World.block_lt_of_cell? w _ hu
          have hJ:=Tryz.strings_Join b off cap (l.map fun y=>⟨y.toArray⟩) ⟨#[]⟩ w hget hbs (by simp;omega) (by simpa using hcap) (by rw [e1];show (Lib.join l []).length<=_;rw [b7z];omega)
          rw [e1,List.length_map] at hJ
          refine hJ.mono ?_
          rintro e w' ⟨rfl,hbel⟩
          refine⟨_,rfl,Fr.of_below hbel _,?_⟩
          show Value.string ⟨(Lib.join l []).toArray⟩=.string ⟨l.flatten.toArray⟩
          rw [b7z]
def a4L:a0s:=a0s.f1 (kL eS) b6H (fun l=>kS.enc l.flatten)
theorem c26:a0d Tryz.prog 53 a4L:=by
 refine a0d.f1 Tryz.func53 rfl (by decide) Tryz.results53 Tryz.ntmps53 (by decide) fun l ⟨h1,h2⟩=>?_
 have hΓ:GOK Tryz.prog (gam [(110,c2n)]):=(.cons c8j .nil)
 refine AW.of hΓ mixed [] _ _ _ rfl ?_
 simp only [go_sem,c2n]
 exact⟨h1,h2⟩
theorem b87 (l:List (List UInt8)) (i:Nat) (hi:i<l.length) :
  ((¬(0<=Lib.indexByte (l.getD i []) 10/\Lib.indexByte (l.getD i []) 10=((l.getD i []).length:Int)-1)/\¬(Lib.indexByte (l.getD i []) 10<0/\l.getD i []≠[]/\(i:Int)=(l.length:Int)-1))->a09 l=false)/\
  (((0<=Lib.indexByte (l.getD i []) 10/\Lib.indexByte (l.getD i []) 10=((l.getD i []).length:Int)-1)\/(Lib.indexByte (l.getD i []) 10<0/\l.getD i []≠[]/\(i:Int)=(l.length:Int)-1))->b51 (l.getD i [])=true/\(i+1<l.length->a1d (l.getD i [])=true)):=by
 have hw:=a3i l
 generalize hx:l.getD i []=x
 rcases a6i x with⟨h1,h2⟩|⟨p,r,rfl,h2,h1⟩
 ·rw [h1]
  refine⟨fun⟨_,h⟩=>?_,fun h=>?_⟩
  ·refine Bool.eq_false_iff.2 fun hh=>?_
   have:=hw.1 hh i hi
   rw [hx,b5G x h2,c3V x h2] at this
   exact h ⟨by omega,by simpa using this.1,by
    rcases Nat.lt_or_ge (i+1) l.length with h'|h'
    ·exact absurd (this.2 h') (by decide)
    ·omega⟩
  ·rcases h with h|⟨_,h3,h4⟩
   ·omega
   ·exact⟨by rw [b5G x h2];simpa using h3,fun h=>by omega⟩
 ·rw [h1]
  have e:((p++10::r).length:Int)=p.length+1+r.length:=by simp;omega
  refine⟨fun⟨h,_⟩=>?_,fun h=>?_⟩
  ·refine Bool.eq_false_iff.2 fun hh=>?_
   have:=hw.1 hh i hi
   rw [hx,b2q p r h2] at this
   obtain rfl:r=[]:=by simpa using this.1
   exact h ⟨by omega,by rw [e];simp⟩
  ·rcases h with⟨_,h⟩|⟨h,_⟩
   ·obtain rfl:r=[]:=List.length_eq_zero_iff.1 (by omega)
    exact⟨by rw [b2q p [] h2];rfl,fun _=>by simp [a1d]⟩
   ·omega
def b9y:a0s:=a0s.f1 (kL eS) b6H (fun l=>kB.enc (a09 l))
theorem c8a:a0d Tryz.prog 52 b9y:=by
 refine a0d.f1 Tryz.func52 rfl (by decide) Tryz.results52 Tryz.ntmps52 (by decide) fun l ⟨hl,hfl⟩=>?_
 have hΓ:GOK Tryz.prog (gam [(109,a4p)]):=(.cons b2C .nil)
 refine AW.of hΓ mixed [] _ _ _ rfl ?_
 simp only [go_sem,a4p]
 refine AW.round (α:={ i:Nat // i<=l.length/\∀ k,k<i->b51 (l.getD k [])=true/\(k+1<l.length->a1d (l.getD k [])=true) }) (fun i=>⟨[(0,sL eS l),(8,sL eS l),(9,.val (.int .i64 l.length)),(10,.val (.int .i64 i.1))],[],46,0,0,[]⟩) (fun i=>l.length-i.1) ⟨0,by simp⟩ ?_ ?_
 ·simp only [go_sem,a4p]
 ·rintro⟨i,hi,hk⟩
  refine AW.of hΓ mixed [99999] _ _ _ rfl ?_
  simp only [go_sem,a4p]
  refine⟨fun hil=>?_,fun hil=>?_⟩
  ·have hlt:i<l.length:=by omega
   obtain⟨w1,w2⟩:=b87 l i hlt
   have hxl:=b7g l i
   generalize hx:l.getD i []=x at *
   refine⟨by omega,fun _=>by omega,fun _=>by omega,fun⟨a,b⟩=>?_,fun h=>⟨by omega,⟨i+1,by omega,fun k hk'=>?_⟩,by simp,by simp;omega⟩⟩
   ·refine (w1 ?_).symm
    simp only [Bool.not_eq_true',Bool.and_eq_false_imp,decide_eq_true_eq,decide_eq_false_iff_not,Bool.and_eq_true] at a b
    exact⟨fun c=>a c.1 c.2,fun c=>b ⟨c.1,c.2.1⟩ c.2.2⟩
   ·rcases Nat.lt_or_ge k i with h'|h'
    ·exact hk k h'
    ·obtain rfl:k=i:=by omega
     rw [hx]
     refine w2 ?_
     simp only [Bool.not_eq_true',Bool.not_eq_false',Bool.and_eq_false_imp,decide_eq_true_eq,decide_eq_false_iff_not,Bool.and_eq_true] at h
     by_cases c:0<=Lib.indexByte x 10/\Lib.indexByte x 10=(x.length:Int)-1
     ·exact .inl c
     ·obtain⟨⟨h1,h2⟩,h3⟩:=h fun a b=>c ⟨a,b⟩
      exact .inr ⟨h1,h2,h3⟩
  ·refine ((a3i l).2 fun k hk'=>hk k (by omega)).symm
end Go.Proofs.YthpjjjnbkfnghaaGreatDoor
set_option maxRecDepth 100000
set_option maxHeartbeats 2000000
namespace Go.Proofs.YthpjjjnbkfnghaaGreatDoor
open Go
attribute [local irreducible] AW a0e a1g a0a
abbrev eHk:El Hk:=eP eI (eP eI (eL (eP eI (eL eS))))
def b2U:a0s:=a0s.f1 (kA (eP eI (eL eS))) (fun _=>True) (fun s=>kB.enc (decide (s.1≠0)))
theorem d3D:a0d Tryz.prog 164 b2U:=by
 refine a0d.f1 Tryz.func164 rfl (by decide) Tryz.results164 Tryz.ntmps164 (by decide) fun s _=>?_
 have hΓ:GOK Tryz.prog (gam []):=GOK.nil
 refine AW.of hΓ mixed [99999] _ _ _ rfl ?_
 simp only [go_sem,a1W,b8b,b9i,sp0,sp1,b05]
def c89 (l:List StE):Int:=match l.findIdx? (fun s=>decide (s.1≠0)) with
 | some i=>i
 | none=>-1
theorem c5I {l:List StE} {i:Nat} (hi:i<=l.length) (h:∀ k,k<i->(l.getD k (0,[])).1=0):(i<l.length->(l.getD i (0,[])).1≠0->c89 l=i)/\(i=l.length->c89 l=-1):=by
 have h':∀ k (hk:k<l.length),k<i->(l[k]).1=0:=fun k hk hki=>by rw [<-a1e l (0,[]) hk];exact h k hki
 constructor
 ·intro hlt hne
  have:l.findIdx? (fun s=>decide (s.1≠0))=some i:=by
   rw [List.findIdx?_eq_some_iff_getElem]
   refine⟨hlt,?_,fun j hj=>?_⟩
   ·rw [a1e l _ hlt] at hne
    simpa using hne
   ·simpa using h' j (by omega) hj
  unfold c89
  rw [this]
 ·intro e
  have:l.findIdx? (fun s=>decide (s.1≠0))=none:=by
   rw [List.findIdx?_eq_none_iff]
   intro s hs
   obtain⟨k,hk,rfl⟩:=List.mem_iff_getElem.1 hs
   simpa using h' k hk (by omega)
  unfold c89
  rw [this]
theorem c8g (l:List StE):decide (0<=c89 l)=b1l l:=by
 unfold c89 b1l
 cases h:l.findIdx? (fun s=>decide (s.1≠0)) with
 | none=>
   rw [List.findIdx?_eq_none_iff] at h
   have:l.any (fun s=>decide (s.1≠0))=false:=by
    rw [List.any_eq_false]
    intro s hs
    rw [h s hs];simp
   rw [this]
   simp
 | some i=>
   rw [List.findIdx?_eq_some_iff_getElem] at h
   obtain⟨hi,hp,_⟩:=h
   have:l.any (fun s=>decide (s.1≠0))=true:=List.any_eq_true.2 ⟨l[i],List.getElem_mem hi,hp⟩
   rw [this]
   simp
def b3f:a0s:=a0s.f2 (kL (eP eI (eL eS))) (kF 164) (fun l _=>l.length<100000000) (fun l _=>kI.enc (c89 l))
theorem c3g:a0d Tryz.prog 202 b3f:=by
 refine a0d.f2 Tryz.func202 rfl (by decide) Tryz.results202 Tryz.ntmps202 (by decide) fun l u hl=>?_
 have hΓ:GOK Tryz.prog (gam [(164,b2U)]):=(.cons d3D .nil)
 refine AW.of hΓ mixed [] _ _ _ rfl ?_
 simp only [go_sem,b2U,a1W]
 refine AW.round (α:={ i:Nat // i<=l.length/\∀ k,k<i->(l.getD k (0,[])).1=0 }) (fun x=>⟨[(0,sL (eP eI (eL eS)) l),(1,.val (.func (.func 164) #[] #[])),(6,sL (eP eI (eL eS)) l),(7,.val (.int .i64 l.length)),(8,.val (.int .i64 x.1))],[],19,0,0,[]⟩) (fun x=>l.length-x.1) ⟨0,Nat.zero_le _,fun k hk=>absurd hk (Nat.not_lt_zero _)⟩ ?_ ?_
 ·simp only [go_sem,b2U]
 ·rintro⟨i,hi,h0⟩
  obtain⟨f1,f2⟩:=c5I hi h0
  rcases Nat.lt_or_ge i l.length with hlt|hge
  ·have hlI:((i:Int)<(l.length:Nat))=True:=eq_true (by omega)
   refine AW.of hΓ mixed [3,200004] _ _ _ rfl ?_
   simp only [go_sem,b2U,a1W,hlI]
   refine AW.fork (AW.regionO hΓ [false,false,false,false,false,true] ?_)
   simp only [go_sem,b2U,a1W]
   refine⟨⟨by omega,by omega⟩,d3i hΓ (args:=[.ag 2 ((eP eI (eL eS)).enc (l.getD i (eP eI (eL eS)).dflt))]) rfl rfl rfl rfl ?_ (Nat.lt_of_lt_of_le (by decide:16<19) (Nat.le_refl _)) ?_⟩
   ·simp only [go_sem,b2U,a95,d2F]
   refine AW.of hΓ mixed [99999] _ _ _ rfl ?_
   simp only [go_sem,b2U,a1W,b05,a95]
   refine⟨fun h=>(f1 hlt h).symm,fun h=>⟨by omega,⟨i+1,by omega,fun k hk=>?_⟩,by dsimp only;omega,by dsimp only;omega⟩⟩
   rcases Nat.lt_or_ge k i with g|g
   ·exact h0 k g
   ·obtain rfl:k=i:=by omega
    exact Decidable.not_not.1 h
  ·obtain rfl:i=l.length:=by omega
   refine AW.of hΓ mixed [99999] _ _ _ rfl ?_
   simp only [go_sem,b2U]
   exact (f2 rfl).symm
def a7k:a0s:=a0s.f2 (kL (eP eI (eL eS))) (kF 164) (fun l _=>l.length<100000000) (fun l _=>kB.enc (b1l l))
theorem b3Y:a0d Tryz.prog 163 a7k:=by
 refine a0d.f2 Tryz.func163 rfl (by decide) Tryz.results163 Tryz.ntmps163 (by decide) fun l u hl=>?_
 have hΓ:GOK Tryz.prog (gam [(202,b3f)]):=(.cons c3g .nil)
 refine AW.of hΓ mixed [99999] _ _ _ rfl ?_
 simp only [go_sem,b3f]
 exact⟨hl,c8g l⟩
def a2s:a0s:=a0s.f1 (kL (eP eI (eL eS))) (fun l=>l.length<100000000) (fun l=>kB.enc (b1l l))
theorem b1U:a0d Tryz.prog 104 a2s:=by
 refine a0d.f1 Tryz.func104 rfl (by decide) Tryz.results104 Tryz.ntmps104 (by decide) fun l hl=>?_
 have hΓ:GOK Tryz.prog (gam [(163,a7k)]):=(.cons b3Y .nil)
 refine AW.of hΓ mixed [99999] _ _ _ rfl ?_
 simp only [go_sem,a7k]
 exact hl
def a1O:a0s:=a0s.f3 kI kI (kA (eP eI (eL eS))) (fun a b s=>(0<=a/\a<=1000000000)/\(0<=b/\b<=1000000000)/\s.2.length<=1000000000) (fun a b s=>tu2 (kI.enc (a+b6m s)) (kI.enc (b+b6t s)))
theorem d0p:a0d Tryz.prog 44 a1O:=by
 refine a0d.f3 Tryz.func44 rfl (by decide) Tryz.results44 Tryz.ntmps44 (by decide) fun a b s ⟨ha,hb,hs⟩=>?_
 have hΓ:GOK Tryz.prog (gam []):=GOK.nil
 refine AW.of hΓ mixed [99999] _ _ _ rfl ?_
 simp only [go_sem,a1W,b8b,b9i,sp0,sp1,b05]
 obtain⟨k,ts⟩:=s
 unfold b6m b6t
 dsimp only at hs ⊢
 refine⟨fun h=>⟨⟨by omega,by omega⟩,fun g=>⟨⟨by omega,by omega⟩,by rw [if_neg h],by rw [if_neg g]⟩,fun g=>⟨by rw [if_neg h],by rw [if_pos (Decidable.not_not.1 g),Int.add_zero]⟩⟩,fun h=>⟨fun g=>⟨⟨by omega,by omega⟩,by rw [if_pos (Decidable.not_not.1 h),Int.add_zero],by rw [if_neg g]⟩,fun g=>absurd (Decidable.not_not.1 h) (by have:=Decidable.not_not.1 g;omega)⟩⟩
def a0H:a0s:=a0s.f2 kS kS (fun a _=>a.length<=100000000000) (fun a b=>kB.enc (Lib.hasSuffix a b))
theorem b3Z:a0d Tryz.prog 91 a0H:=by
 refine a0d.ss Tryz.func91 rfl (by decide) fun a b hd w=>?_
 refine (Tryz.strings_HasSuffix ⟨a.toArray⟩ ⟨b.toArray⟩ w (by rw [Lib.size_eq];simp only [List.toList_toArray];omega)).mono ?_
 rintro e w' ⟨rfl,rfl⟩
 exact⟨_,rfl,Fr.refl _ _,fun L=>rfl⟩
theorem b69 (x:List UInt8):Lib.hasSuffix x [10]=a1d x:=by
 unfold Lib.hasSuffix a1d
 rw [Bool.eq_iff_iff,List.isSuffixOf_iff_suffix,decide_eq_true_eq]
 constructor
 ·rintro⟨t,rfl⟩
  simp
 ·intro h
  obtain⟨ys,rfl⟩:=List.getLast?_eq_some_iff.1 h
  exact⟨ys,rfl⟩
def b5p:a0s:=a0s.f1 (kL eS) (fun l=>l.length<=1000000000/\∀ s∈l,s.length<=100000000) (fun l=>kB.enc (b5y l))
theorem c4l:a0d Tryz.prog 165 b5p:=by
 refine a0d.f1 Tryz.func165 rfl (by decide) Tryz.results165 Tryz.ntmps165 (by decide) fun l ⟨hl,hs⟩=>?_
 have hΓ:GOK Tryz.prog (gam [(91,a0H)]):=(.cons b3Z .nil)
 refine AW.of hΓ mixed [99999] _ _ _ rfl ?_
 simp only [go_sem,a0H]
 have key:(decide ((l.length:Int)=0)||Lib.hasSuffix (l.getD ((l.length:Int)-1).toNat []) [10])=b5y l:=by
  unfold b5y
  rw [b69,show ((l.length:Int)-1).toNat=l.length-1 by omega]
  congr 1
  rw [decide_eq_decide]
  constructor
  ·intro h;exact List.length_eq_zero_iff.1 (by omega)
  ·intro h;subst h;rfl
 refine⟨fun _=>by omega,fun h=>?_,fun h=>?_,fun h=>by simpa using h,key⟩
 ·have:¬(l.length:Int)=0:=by simpa using h
  omega
 ·have:¬(l.length:Int)=0:=by simpa using h
  have hm:=hs (l.getD ((l.length:Int)-1).toNat []) (by rw [a1e l _ (by omega)];exact List.getElem_mem _)
  omega
def b0Z:a0s:=a0s.f2 kI (kL (eP eI (eL eS))) (fun k l=>l.length<10000/\(∀ s∈l,s.2.length<=10000)) (fun k l=>sL eS (a0O k l))
theorem b8j:a0d Tryz.prog 50 b0Z:=by
 refine a0d.f2 Tryz.func50 rfl (by decide) Tryz.results50 Tryz.ntmps50 (by decide) fun k l ⟨hl,hs⟩=>?_
 have hΓ:GOK Tryz.prog (gam []):=GOK.nil
 refine AW.of hΓ mixed [] _ _ _ rfl ?_
 simp only [go_sem]
 refine AW.adopt 5 9 1 (fun i=>eS.enc (([]:List (List UInt8)).getD i [])) rfl ?_
 refine AW.round (α:={ x:Nat×Nat×Nat // x.1<=l.length })
  (fun x=>⟨[(0,.val (.int .i64 k)),(5,.ow 0 x.1.2.1 (a0O k (l.take x.1.1)).length),(8,sL (eP eI (eL eS)) l),(9,.val (.int .i64 l.length)),(10,.val (.int .i64 x.1.1))],
   [(0,a05 x.1.2.1 9 eS (a0O k (l.take x.1.1)))],24,1,x.1.2.2,[]⟩) (fun x=>l.length-x.1.1) ⟨(0,0,1),Nat.zero_le _⟩ ?_ ?_
 ·simp only [go_sem]
  exact⟨rfl,a0a.refl _⟩
 ·rintro⟨⟨i,v,nx⟩,hi⟩
  simp only at hi
  have e:i<l.length->a0O k (l.take (i+1))=a0O k (l.take i)++if (l.getD i (0,[])).1=k then [] else (l.getD i (0,[])).2:=fun h=>by rw [a1h l (0,[]) h,a48]
  have hg:i<l.length->(l.getD i (0,[])).2.length<=10000:=fun h=>by
   rw [a1e l _ h]
   exact hs _ (List.getElem_mem _)
  have hb:(a0O k (l.take i)).length<=10000*10000:=Nat.le_trans (b7c (fun s h=>hs s (List.mem_of_mem_take h)) k) (Nat.mul_le_mul_right _ (by simp;omega))
  refine AW.of hΓ mixed [99999] _ _ _ rfl ?_
  simp only [go_sem,a1W,b8b,b9i,sp0,sp1,b05]
  generalize l.getD i (0,[])=g at *
  refine⟨fun hlt=>?_,fun hge=>?_⟩
  ·have hlt':i<l.length:=by omega
   have e1:=e hlt'
   have hg':=hg hlt'
   refine⟨by omega,fun h=>?_,fun h=>?_⟩
   ·rw [if_neg h] at e1
    refine⟨by omega,by omega,⟨(i+1,nx+1,nx+1+1),by dsimp only;omega⟩,⟨Nat.le_refl _,⟨⟨rfl,by dsimp only;rw [e1];simp⟩,rfl⟩,?_⟩,by dsimp only;omega⟩
    exact b3c (E:=eS) rfl e1 rfl rfl rfl (fun _ _ _ _=>a0e.refl _)
   ·rw [if_pos (Decidable.not_not.1 h),List.append_nil] at e1
    exact⟨by omega,⟨(i+1,v,nx+1),by dsimp only;omega⟩,⟨Nat.le_refl _,⟨⟨rfl,by dsimp only;rw [e1]⟩,rfl⟩,by dsimp only;rw [e1];exact a0a.refl _⟩,by dsimp only;omega⟩
  ·obtain rfl:i=l.length:=by omega
   rw [List.take_length]
   exact a0e.refl _
def b0t:a0s:=a0s.f2 (kL (eP eI (eL eS))) kB (fun l _=>(l.length<10000/\(∀ s∈l,s.2.length<=10000))/\(∀ s∈l,∀ t∈s.2,t.length<=100000000)/\∀ j,(a0O j l).flatten.length<=100000000000) (fun l b=>kB.enc (d00 l b))
theorem c4N:a0d Tryz.prog 107 b0t:=by
 refine a0d.f2 Tryz.func107 rfl (by decide) Tryz.results107 Tryz.ntmps107 (by decide) fun l b ⟨hl,ht,hflat⟩=>?_
 have hΓ:GOK Tryz.prog (gam [(50,b0Z),(52,b9y),(165,b5p)]):=(.cons b8j (.cons c8a (.cons c4l .nil)))
 refine AW.of hΓ mixed [99999] _ _ _ rfl ?_
 simp only [go_sem,b0Z,b9y,b5p]
 have hn:∀ j,(a0O j l).length<=10000*10000:=fun j=>Nat.le_trans (b7c hl.2 j) (Nat.mul_le_mul_right _ (by omega))
 have hm:∀ j,∀ s∈a0O j l,s.length<=100000000:=fun j s hs=>by
  unfold a0O at hs
  obtain⟨x,hx,hs⟩:=List.mem_flatMap.1 hs
  split at hs
  ·cases hs
  ·exact ht x hx s hs
 have hk:∀ j,b6H (a0O j l):=fun j=>⟨hn j,hflat j⟩
 have n1:=hn 1
 have n2:=hn 2
 refine⟨hl,hl,hk 2,fun _=>hk 1,fun _=>⟨by omega,hm 2⟩,fun _=>⟨by omega,hm 1⟩,fun h1 h2=>?_,fun h1 h2=>?_,?_⟩
 ·obtain⟨⟨a1,a2⟩,a3⟩:=h1
  rw [a1,a2,a3,h2];rfl
 ·obtain⟨a1,a2⟩:=h1
  rw [a1,a2,h2];rfl
 ·unfold d00
  rw [Bool.and_assoc]
end Go.Proofs.YthpjjjnbkfnghaaGreatDoor
set_option maxRecDepth 100000
set_option maxHeartbeats 4000000
namespace Go.Proofs.YthpjjjnbkfnghaaGreatDoor
open Go
attribute [local irreducible] AW a0e a1g a0a
theorem a3z:(eP eI (eP eI (eL (eP eI (eL eS))))).sz=3:=rfl
theorem b5H:(eP eI (eP eI (eL (eP eI (eL eS))))).dflt=((0:Int),(0:Int),([]:List StE)):=rfl
theorem hk0 (h:Hk):(eP eI (eP eI (eL (eP eI (eL eS))))).enc h 0=.val (.int .i64 h.1):=rfl
theorem hk1 (h:Hk):(eP eI (eP eI (eL (eP eI (eL eS))))).enc h 1=.val (.int .i64 h.2.1):=rfl
theorem hk2 (h:Hk):(eP eI (eP eI (eL (eP eI (eL eS))))).enc h 2=sL (eP eI (eL eS)) h.2.2:=rfl
theorem d3o (c d:Nat->AV):stC c 0 3 d 0=d 0:=rfl
theorem d11 (c d:Nat->AV):stC c 0 3 d 1=d 1:=rfl
theorem d1U (c d:Nat->AV):stC c 0 3 d 2=d 2:=rfl
theorem b7Y (hp:Nat->Row) (c:Nat->AV) (s:StE):(kA (eP eI (eL eS))).ok (.ag 2 fun j=>if j<2 then vw0 hp (stC c 0 2 ((eP eI (eL eS)).enc s) j) else .any)=True:=by
 have e:(fun j=>if j<2 then vw0 hp (stC c 0 2 ((eP eI (eL eS)).enc s) j) else AV.any)=fun j=>if j<2 then vw0 hp ((eP eI (eL eS)).enc s j) else AV.any:=by
  funext j
  by_cases h:j<2
  ·rw [if_pos h,if_pos h]
   match j,h with
   | 0,_=>rw [b8b]
   | 1,_=>rw [b9i]
  ·rw [if_neg h,if_neg h]
 rw [e]
 exact d74 hp s
def d8L (l:List StE):Prop:=(l.length<10000/\∀ s∈l,s.2.length<=10000)/\(∀ s∈l,∀ t∈s.2,t.length<=100000000)/\∀ j,(a0O j l).flatten.length<=100000000000
def d4j (l:List Hk):Prop:=l.length<10000/\∀ h∈l,d8L h.2.2
def a1a:a0s:=a0s.f1 (kL (eP eI (eP eI (eL (eP eI (eL eS)))))) d4j (fun l=>kB.enc (a2u l 0 0))
theorem c6j:a0d Tryz.prog 49 a1a:=by
 refine a0d.f1 Tryz.func49 rfl (by decide) Tryz.results49 Tryz.ntmps49 (by decide) fun l ⟨hl,ho⟩=>?_
 have hΓ:GOK Tryz.prog (gam [(42,a00),(104,a2s),(107,b0t),(108,a5L)]):=(.cons b65 (.cons b1U (.cons c4N (.cons b3C .nil))))
 refine AW.of hΓ mixed [] _ _ _ rfl ?_
 simp only [go_sem,a00,a2s,b0t,a5L,a3z]
 refine AW.round (α:={ x:Nat×Int×Int×Nat // x.1<=l.length/\a2u l 0 0=a2u (l.drop x.1) x.2.1 x.2.2.1/\(0<=x.2.1/\x.2.1<=300000000)/\(-(x.1*300000000:Int)<=x.2.2.1/\x.2.2.1<=x.1*300000000) })
  (fun x=>⟨[(0,sL (eP eI (eP eI (eL (eP eI (eL eS))))) l),(3,.val (.int .i64 x.1.2.1)),(4,.val (.int .i64 x.1.2.2.1)),(10,sL (eP eI (eP eI (eL (eP eI (eL eS))))) l),(11,.val (.int .i64 l.length)),(12,.val (.int .i64 x.1.1))],[],75,0,x.1.2.2.2,[]⟩) (fun x=>l.length-x.1.1) ⟨(0,0,0,0),Nat.zero_le _,rfl,by dsimp only;omega,by dsimp only;omega⟩ ?_ ?_
 ·simp only [go_sem,a00,a2s,b0t,a5L]
 ·rintro⟨⟨i,nxt,sh,nx⟩,hi,hr,hn,hs⟩
  simp only at hi hr hn hs
  refine AW.of hΓ mixed [99999] _ _ _ rfl ?_
  simp only [go_sem,a00,a2s,b0t,a5L,a3z,b5H,d3o,d11,d1U,hk0,hk1,hk2]
  refine⟨fun hlt=>?_,fun hge=>?_⟩
  ·have hlt':i<l.length:=by omega
   have hm:l.getD i (0,0,[])∈l:=by
    simp only [List.getD,List.getElem?_eq_getElem hlt',Option.getD_some]
    exact List.getElem_mem _
   have hd:l.drop i=l.getD i (0,0,[])::l.drop (i+1):=by
    rw [List.drop_eq_getElem_cons hlt']
    simp [List.getD,List.getElem?_eq_getElem hlt']
   have hk:=ho _ hm
   obtain⟨⟨k1,k2⟩,k3,k4⟩:=hk
   have hlast:decide ((i:Int)=(l.length:Int)-1)=decide (l.drop (i+1)=[]):=by
    rw [decide_eq_decide,List.drop_eq_nil_iff]
    omega
   rw [hd,a2u] at hr
   rw [hlast]
   generalize l.getD i (0,0,[])=g at *
   obtain⟨A,B,st⟩:=g
   dsimp only at k1 k2 k3 k4 hr ⊢
   have c0:=Nat.le_trans (a29 k2 0) (Nat.mul_le_mul_right _ (show st.length<=10000 by omega))
   have c1:=Nat.le_trans (a29 k2 1) (Nat.mul_le_mul_right _ (show st.length<=10000 by omega))
   have c2:=Nat.le_trans (a29 k2 2) (Nat.mul_le_mul_right _ (show st.length<=10000 by omega))
   unfold b5h at hr
   dsimp only at hr
   generalize decide (l.drop (i+1)=[])=last at *
   generalize hR:a0I (-1) st=R at *
   generalize hC:b1l st=C at *
   generalize hW:d00 st last=W at *
   generalize a0G 0 st=n0 at *
   generalize a0G 1 st=n1 at *
   generalize a0G 2 st=n2 at *
   refine⟨by omega,⟨k1,k2⟩,fun _=>by omega,fun h=>by rw [h];rfl,fun _=>by omega,fun _=>⟨⟨k1,k2⟩,k3,k4⟩,fun h=>by rw [h];rfl,fun h=>?_,fun h=>⟨fun g=>by rw [decide_eq_false g];rfl,fun g=>?_,fun g=>by rw [g];rfl,fun g=>?_,fun g=>?_⟩⟩
   ·rw [hr]
    cases R<;>cases C<;>cases W<;>simp at h ⊢
   ·simp only [Bool.not_eq_true',Bool.or_eq_false_iff,decide_eq_false_iff_not] at g
    omega
   ·rw [hr]
    have:¬(nxt<=A/\A<=999999/\B=A+sh):=by
     simp only [Bool.or_eq_true,decide_eq_true_eq] at g
     omega
    rw [decide_eq_false this]
    simp
   ·simp only [Bool.or_eq_false_iff,decide_eq_false_iff_not,Decidable.not_not] at g
    simp only [Bool.or_eq_false_iff,Bool.not_eq_false'] at h
    obtain⟨⟨g1,g2⟩,g3⟩:=g
    obtain⟨⟨h1,h2⟩,h3⟩:=h
    have:nxt<=A/\A<=999999/\B=A+sh:=⟨by omega,by omega,g3⟩
    rw [h1,h2,h3,decide_eq_true this] at hr
    refine⟨⟨k1,k2⟩,by omega,by omega,by omega,by omega,by omega,⟨(i+1,A+n0+n1,sh+((n2:Int)-n1),nx+1),by omega,?_,⟨by dsimp only;omega,by dsimp only;omega⟩,by dsimp only;omega,by dsimp only;omega⟩,⟨Nat.le_refl _,⟨rfl,rfl,rfl⟩⟩,by dsimp only;omega⟩
    simpa using hr
  ·obtain rfl:i=l.length:=by omega
   rw [List.drop_length,a2u] at hr
   exact hr.symm
end Go.Proofs.YthpjjjnbkfnghaaGreatDoor
set_option maxRecDepth 100000
set_option maxHeartbeats 2000000
namespace Go.Proofs.YthpjjjnbkfnghaaGreatDoor
open Go Go.RowKit
theorem b9w:(Tryz.prog.info? 138).map (·.size)=some 2:=by kernel_rfl
theorem d0D:liesAt Tryz.prog Tryz.prog.depth 138 (2 / Tryz.prog.cellsOf 138) 0 138 1=true:=by kernel_rfl
theorem b1s (b:Nat) (w:World) (h0:w.cell? ⟨b,0,none⟩=some (.pointer (some ⟨b,0,none⟩))) :
  Calls Tryz.prog 147 #[.pointer (some ⟨b,0,none⟩)] w fun e w'=>e=.returned (.tuple #[])/\w'=w:=by
 obtain⟨j,hj,_⟩:=Option.map_eq_some_iff.1 b9w
 go_enter Tryz.func147,Tryz.ntmps147
 go_wp2
 rw [Lib.run_neq_ptr_same w _ Tryz.underlying136 hj]
 go_wp2
 go_end0
 exact⟨rfl,rfl⟩
theorem b03 (b:Nat) (w:World) (h0:w.cell? ⟨b,0,none⟩=some (.pointer none)) (hsh:w.shape? b=some (138,2)) (hfz:w.frozen? ⟨b,0,none⟩=false) :
  Calls Tryz.prog 147 #[.pointer (some ⟨b,0,none⟩)] w fun e w'=>e=.returned (.tuple #[])/\w'=w.setCell ⟨b,0,none⟩ (.pointer (some ⟨b,0,none⟩)):=by
 obtain⟨j,hj,hjs⟩:=Option.map_eq_some_iff.1 b9w
 go_enter Tryz.func147,Tryz.ntmps147
 go_wp2
 rw [Lib.run_to_unsafe w ⟨b,0,none⟩ Tryz.underlying136 Tryz.underlying247 hj (by rw [hjs];decide) hsh (Nat.zero_lt_succ 1)]
 simp only [Result.andThen]
 rw [Oper.upon_value]
 go_wp2
 rw [run_callFunc_extern Tryz.func196 (by kernel_rfl) (by kernel_rfl) (by kernel_rfl) (e:=Extern.AbiNoEscape.same) (by kernel_rfl)]
 rw [Lib.run_noEscape]
 simp only [Result.andThen]
 rw [Oper.upon_value]
 go_wp2
 rw [Lib.run_from_unsafe w ⟨b,0,none⟩ Tryz.underlying247 Tryz.underlying136 hj hsh d0D]
 simp only [Result.andThen]
 rw [Oper.upon_value]
 go_wp2
 go_end0
 exact⟨rfl,rfl⟩
theorem c2b (w:World) (g n:Nat):Fr (fun b=>b=g) w (w.freeze ⟨g,0,none⟩ n):=by
 unfold World.freeze
 split
 ·exact Fr.refl _ _
 ·exact⟨rfl,rfl,rfl,by simp,fun k _ hk=>by simp [Array.getElem?_modify,Ne.symm hk]⟩
theorem c4U:Tryz.prog.cellsOf 5=1:=by kernel_rfl
theorem c5K (b g cap:Nat) (p:Value) (cur:Array Value) (l:List UInt8) (w:World) (hbk:w.heap[b]?=some (.cells #[p,.slice (some ⟨g,0,none⟩) l.length cap] 138 (0,0)))
  (hg:w.heap[g]?=some (.cells cur 5 (0,0))) (h0:l≠[]) (hn:l.length<=cur.size) (hcap:cap≠0) (h63:l.length<=9223372036854775807) (hc:∀ (j:Nat) (x:UInt8),l[j]?=some x->cur[j]?=some (Value.int .u8 x.toNat)) :
  Calls Tryz.prog 92 #[.pointer (some ⟨b,0,none⟩)] w fun e w'=>e=.returned (.string ⟨l.toArray⟩)/\Fr (fun k=>k=g) w w':=by
 have c1:w.drew.cell? ⟨b,1,none⟩=some (.slice (some ⟨g,0,none⟩) l.length cap):=by
  have:w.drew.heap[b]?=some (.cells #[p,.slice (some ⟨g,0,none⟩) l.length cap] 138 (0,0)):=hbk
  simp [World.cell?,this]
 have hSD:(Builtin.unsafeSliceData_ #[102] 206 #[.slice (some ⟨g,0,none⟩) l.length cap]).run Tryz.prog w.drew=.ok (.pointer (some ⟨g,0,none⟩)) w.drew:=
  Lib.run_unsafeSliceData_row _ _ _ _ _ _ hcap
 have hg':w.drew.heap[g]?=some (.cells cur 5 (0,0)):=hg
 have hUS:(Builtin.unsafeString_ #[206,3] 9 #[.pointer (some ⟨g,0,none⟩),.int .i64 l.length]).run Tryz.prog w.drew=.ok (.string ⟨l.toArray⟩) (w.drew.freeze ⟨g,0,none⟩ l.length):=by
  refine Lib.run_unsafeString_row w.drew 206 3 9 5 Tryz.underlying206 c4U g cur.size (by simp [World.shape?,hg']) l h0 hn h63 ?_
  intro j x hx
  have hj:=hc j x hx
  rw [a3A,Nat.zero_add]
  simp only [World.cell?,hg']
  exact hj
 go_enter Tryz.func92,Tryz.ntmps92
 go_wp2
 go_region
 all_goals (go_wp2;go_ret;exact⟨rfl,(Fr.refl _ w).drew.trans (c2b _ _ _)⟩)
theorem b7C (b:Nat) (p:Value) (w:World) (hbk:w.heap[b]?=some (.cells #[p,.slice none 0 0] 138 (0,0))) :
  Calls Tryz.prog 92 #[.pointer (some ⟨b,0,none⟩)] w fun e w'=>e=.returned (.string ⟨#[]⟩)/\Fr (fun _=>False) w w':=by
 have c1:w.drew.cell? ⟨b,1,none⟩=some (.slice none 0 0):=by
  have:w.drew.heap[b]?=some (.cells #[p,.slice none 0 0] 138 (0,0)):=hbk
  simp [World.cell?,this]
 have hSD:(Builtin.unsafeSliceData_ #[102] 206 #[.slice none 0 0]).run Tryz.prog w.drew=.ok (.pointer none) w.drew:=rfl
 have hUS:∀ (W:World) (q:Option Addr),(Builtin.unsafeString_ #[206,3] 9 #[.pointer q,.int .i64 0]).run Tryz.prog W=.ok (.string .empty) W:=fun W q=>Lib.run_unsafeString_none W _ _ _ q
 go_enter Tryz.func92,Tryz.ntmps92
 go_wp2
 go_region
 all_goals (go_wp2;go_ret;exact⟨rfl,(Fr.refl _ w).drew⟩)
end Go.Proofs.YthpjjjnbkfnghaaGreatDoor
set_option maxRecDepth 100000
set_option maxHeartbeats 2000000
namespace Go.Proofs.YthpjjjnbkfnghaaGreatDoor
open Go
def a7w (f:Bool) (q v r u n:Nat):Nat->AV:=fun j=>if j=0 then (if f=true then .pt q v 0 else .val (.pointer none)) else .ow r u n
def a77:a0L:=fun args hp top nx K=>∃ (f:Bool) (q v r u n:Nat),args=[.pt q v 0]/\hp q=.box v 138 2 (a7w f q v r u n)/\K (.val (.tuple #[])) (a0S hp q (.box v 138 2 (a7w true q v r u n))) top nx
theorem b1o (w:World) (g o:Nat) (x:Value):Fr (fun b=>b=g) w (w.setCell ⟨g,o,none⟩ x):=
 ⟨rfl,rfl,rfl,by simp [World.setCell],fun k _ hk=>by simp [World.setCell,Array.getElem?_modify,Ne.symm hk]⟩
theorem d0a:a0i Tryz.prog 147 a77:=by
 refine⟨a67 Tryz.func147 rfl (by decide),?_⟩
 rintro args hp top nx K ⟨f,q,v,r,u,n,rfl,hrow,hK⟩ c η w vs hs hdead hargs
 cases hargs with
 | cons hx hr=>cases hr with
   | nil=>
     obtain⟨g,cap,hη,rfl⟩:=hx
     have hr:=hs.rows q
     rw [hrow] at hr
     obtain⟨b,cur,hb,hh,hsz,hc⟩:=hr _ _ hη
     obtain rfl:g=b:=by simpa using hb
     obtain⟨x0,hx0,ho0,hr0⟩:=hc 0 (by decide)
     have hblk:(hp q).blk η=some g:=by rw [hrow];simp [Row.blk,Row.ver,hη]
     have hcell:w.cell? ⟨g,0,none⟩=some x0:=by rw [a0Z hh];exact hx0
     cases f with
     | true=>
       have hr0:∃ g' cap',η v=some (some g',cap')/\x0=.pointer (some ⟨g',0,none⟩):=hr0
       obtain⟨g',cap',h1,rfl⟩:=hr0
       rw [hη] at h1
       simp only [Option.some.injEq,Prod.mk.injEq] at h1
       obtain⟨rfl,rfl⟩:=h1
       refine (b1s g w hcell).mono ?_
       rintro e w' ⟨rfl,rfl⟩
       have e:a0S hp q (.box v 138 2 (a7w true q v r u n))=hp:=by
        rw [<-hrow]
        funext p
        unfold a0S
        split
        ·rename_i h;rw [h]
        ·rfl
       rw [e] at hK
       exact⟨_,_,_,_,_,η,rfl,hK,hs,hdead,rfl⟩
     | false=>
       have hr0:x0=.pointer none:=hr0
       subst hr0
       refine (b03 g w hcell (by simp [World.shape?,hh,hsz]) (by simp [World.frozen?,hh])).mono ?_
       rintro e w' ⟨rfl,rfl⟩
       have hf:=b1o w g 0 (.pointer (some ⟨g,0,none⟩))
       have hO:∀ k,k<w.heap.size->k=g->a0Y c η hp k:=fun k _ e=>.inr ⟨q,by rw [e];exact hblk⟩
       have hwr:=hs.write (row:=.box v 138 2 (a7w true q v r u n)) hblk (by rw [hrow];rfl) hf (by
        intro g' cap' he
        rw [hη] at he
        simp only [Option.some.injEq,Prod.mk.injEq] at he
        obtain⟨rfl,rfl⟩:=he
        refine⟨g,cur.setIfInBounds 0 (.pointer (some ⟨g,0,none⟩)),rfl,by simp [World.setCell,Array.getElem?_modify,hh],by simp [hsz],fun j hj=>?_⟩
        match j,hj with
        | 0,_=>exact⟨_,by simp [hsz],rfl,g,cap,hη,rfl⟩
        | 1,_=>
          obtain⟨x1,hx1,ho1,hr1⟩:=hc 1 (by decide)
          exact⟨x1,by rw [Array.getElem?_setIfInBounds_ne (by decide)];exact hx1,ho1,Rep.keep hf hO (fun _ _ h=>h) _ _ _ _ (Env.le_refl _) hr1⟩)
       refine⟨_,_,_,_,_,η,rfl,hK,hwr.1,fun p hp'=>?_,rfl⟩
       by_cases e:p=q
       ·subst e;rw [hdead p hp'] at hrow;cases hrow
       ·rw [a0f _ _ e];exact hdead p hp'
attribute [local irreducible] AW a0e a1g a0a
def a0m (u:Nat) (l:List UInt8):Row:=.sl u 5 1 l.length (a2j l)
theorem b2F {nx n m:Nat} {l s:List UInt8} (hn:n=l.length) (hm:m=n+s.length):a0a (.sl nx 5 1 m (apC n (a2j l) (a2j s))) (a0m nx (l++s)):=by
 subst hn hm
 refine a0a.sl (by simp) fun i hi j hj=>a0e.of_eq ?_
 unfold apC a2j
 by_cases h:i<l.length
 ·rw [if_pos h]
  simp [List.getD,List.getElem?_append_left h]
 ·rw [if_neg h]
  simp [List.getD,List.getElem?_append_right (Nat.le_of_not_lt h)]
theorem d17 (f:Bool) (q v r u n:Nat):a7w f q v r u n 1=.ow r u n:=rfl
def b6x:a0L:=fun args hp top nx K=>∃ (f:Bool) (v u:Nat) (l s:List UInt8),args=[.pt 0 v 0,.st s]/\hp=rws [(0,.box v 138 2 (a7w f 0 v 1 u l.length)),(1,a0m u l)]/\top=2/\l.length+s.length<=100000000000/\
 ∀ u' nx',(u'=u\/nx<=u')->nx<=nx'->K (tu2 (.val (.int .i64 s.length)) (.val .nilIface)) (rws [(0,.box v 138 2 (a7w true 0 v 1 u' (l++s).length)),(1,a0m u' (l++s))]) 2 nx'
theorem c0i:a0i Tryz.prog 88 b6x:=by
 refine a0i.mk Tryz.func88 rfl (by decide) Tryz.results88 Tryz.ntmps88 ?_
 rintro args hp top nx K ⟨f,v,u,l,s,rfl,rfl,rfl,hl,hK⟩
 have hΓ:GOK Tryz.prog (gam [(147,a77)]):=(.cons d0a .nil)
 refine⟨Nat.le_of_ble_eq_true rfl,AW.late ?_⟩
 refine AW.of hΓ mixed [1] _ _ _ rfl ?_
 simp only [go_sem,a77]
 refine⟨f,0,v,1,u,l.length,rfl,rfl,?_⟩
 refine AW.cut ⟨[(0,.pt 0 v 0),(1,.st s)],[(0,.box v 138 2 (a7w true 0 v 1 u l.length)),(1,a0m u l)],19,2,nx,[]⟩ ?_ ?_
 ·simp only [go_sem,a77]
  exact⟨a0a.refl _,a0a.refl _⟩
 refine AW.fork (AW.regionO hΓ [false,false,false,false,false,false,true] ?_)
 simp only [go_sem,a77,d17]
 refine a6m rfl Tryz.underlying102 Tryz.underlying9 rfl rfl rfl (Nat.lt_of_lt_of_le (by decide:14<19) (Nat.le_refl _)) ⟨a64,by decide,by rw [a3F];decide,by rw [a3F];omega,_,b2G,rfl⟩ ?_
 simp only [go_sem,a77,d17]
 refine AW.of hΓ mixed [] _ _ _ rfl ?_
 simp only [go_sem,a77]
 refine⟨_,a0g (fun p=>p) (l:=[(4,.val (.int .i64 s.length)),(5,.val .nilIface)]) (r:=[(0,.box v 138 2 (a7w true 0 v 1 nx (l++s).length)),(1,a0m nx (l++s))]) (sz:=19) (top:=2) (nx:=nx+1) (df:=[]) ?_,?_⟩
 ·simp only [go_sem,a77]
  refine⟨a0e.refl _,a0a.box fun j hj=>?_,b2F rfl rfl⟩
  match j,hj with
  | 0,_=>exact a0e.refl _
  | 1,_=>exact a0e.refl _
 ·simp only [go_sem,a77]
  have:=hK nx (nx+1) (.inr (Nat.le_refl _)) (by omega)
  rwa [List.length_append] at this
def a0B:a0L:=a1F b6x
theorem b2c:a0i Tryz.prog 88 a0B:=c0i.frame
theorem b4p {hp:Nat->Row} {p q:Nat} {r s:Row} (h:a0a (hp p) r) (h2:a0a (hp q) s):∀ (i o:Nat),[p,q][i]?=some o->a0a (hp o) (rws [(0,r),(1,s)] i):=by
 intro i o hq
 match i with
 | 0=>
   simp only [List.getElem?_cons_zero,Option.some.injEq] at hq
   subst hq
   exact h
 | 1=>
   simp only [List.getElem?_cons_succ,List.getElem?_cons_zero,Option.some.injEq] at hq
   subst hq
   exact h2
 | i+2=>simp at hq
theorem b7s (f:Bool) (p q p' q' v u n:Nat):a0a (.box v 138 2 (a7w f p v q u n)) (.box v 138 2 (a7w f p' v q' u n)):=a0a.box fun j hj=>by
 match j,hj with
 | 0,_=>
   cases f with
   | true=>exact a0e.pt
   | false=>exact a0e.refl _
 | 1,_=>exact a0e.ow
theorem a3K {f:Bool} {p q v u n:Nat} {l s:List UInt8} {hp:Nat->Row} {top nx:Nat} {K:AV->(Nat->Row)->Nat->Nat->Prop} (hn:n=l.length) (hpq:p≠q)
  (hr:a0a (hp p) (.box v 138 2 (a7w f p v q u n))) (hr2:a0a (hp q) (a0m u l)) (ht:p<top/\q<top) (hl:l.length+s.length<=100000000000)
  (hK:∀ u' nx',(u'=u\/nx<=u')->nx<=nx'->K (tu2 (.val (.int .i64 s.length)) (.val .nilIface)) (a0S (a0S hp p (.box v 138 2 (a7w true p v q u' (l++s).length))) q (a0m u' (l++s))) top nx') :
  a0B [.pt p v 0,.st s] hp top nx K:=by
 subst hn
 have e1:(hp p).ver=some v:=hr.vers.symm
 have e2:(hp q).ver=some u:=hr2.vers.symm
 refine⟨[p,q],[.pt 0 v 0,.st s],rws [(0,.box v 138 2 (a7w f 0 v 1 u l.length)),(1,a0m u l)],by simp [hpq],by simp;omega,.cons a0e.pt (.cons (a0e.refl _) .nil),b4p (hr.trans (b7s f p q 0 1 v u _)) hr2,fun i hi=>a1Y (top:=2) (by simp) i (by simpa using hi),f,v,u,l,s,rfl,rfl,rfl,hl,fun u' nx' h1 h3=>?_⟩
 refine⟨_,_,a0e.refl _,fun i o ho=>?_,fun o ho=>?_,fun o ho w hv=>?_,hK u' nx' h1 h3⟩
 ·match i with
  | 0=>
    simp only [List.getElem?_cons_zero,Option.some.injEq] at ho
    subst ho
    rw [a0f _ _ hpq,a0k]
    exact b7s true 0 1 p q v u' _
  | 1=>
    simp only [List.getElem?_cons_succ,List.getElem?_cons_zero,Option.some.injEq] at ho
    subst ho
    rw [a0k]
    exact a0a.refl _
  | i+2=>simp at ho
 ·simp only [List.mem_cons,List.not_mem_nil,or_false,not_or] at ho
  rw [a0f _ _ ho.2,a0f _ _ ho.1]
 ·simp only [List.mem_cons,List.not_mem_nil,or_false] at ho
  rcases ho with rfl|rfl
  ·rw [a0f _ _ hpq,a0k] at hv
   have:some v=some w:=hv
   obtain rfl:=Option.some.inj this
   exact .inl e1
  ·rw [a0k] at hv
   have:some u'=some w:=hv
   obtain rfl:=Option.some.inj this
   rcases h1 with rfl|h1
   ·exact .inl e2
   ·exact .inr h1
theorem a97 {f:Bool} {p v q u n m:Nat} (h:n=m):a0a (.box v 138 2 (a7w f p v q u n)) (.box v 138 2 (a7w f p v q u m)):=by
 subst h
 exact a0a.refl _
theorem b0Y {u:Nat} {l m:List UInt8} (h:l=m):a0a (a0m u l) (a0m u m):=by
 subst h
 exact a0a.refl _
def d8x:Nat->AV:=fun j=>if j=0 then .val (.pointer none) else .val (.slice none 0 0)
def b0A:a0L:=fun args hp top nx K=>(∃ (f:Bool) (p v q u:Nat) (l:List UInt8),args=[.pt p v 0]/\hp p=.box v 138 2 (a7w f p v q u l.length)/\hp q=a0m u l/\l≠[]/\l.length<=100000000000/\K (.st l) (a0S hp q .dead) top nx)\/
 ∃ (p v:Nat),args=[.pt p v 0]/\hp p=.box v 138 2 d8x/\K (.st []) hp top nx
theorem d29:a0i Tryz.prog 92 b0A:=by
 refine⟨a67 Tryz.func92 rfl (by decide),?_⟩
 intro args hp top nx K hS c η w vs hs hdead hargs
 rcases hS with⟨f,p,v,q,u,l,rfl,hrow,hrow2,h0,hlen,hK⟩|⟨p,v,rfl,hrow,hK⟩
 ·cases hargs with
  | cons hx hr=>cases hr with
    | nil=>
      obtain⟨b,cap,hη,rfl⟩:=hx
      have hr:=hs.rows p
      rw [hrow] at hr
      obtain⟨b',cur,hb,hh,hsz,hc⟩:=hr _ _ hη
      obtain rfl:b=b':=by simpa using hb
      obtain⟨x0,hx0,_,_⟩:=hc 0 (by decide)
      obtain⟨x1,hx1,_,hr1⟩:=hc 1 (by decide)
      obtain⟨g,cap',hη',hv⟩:=hr1
      have hr2:=hs.rows q
      rw [hrow2] at hr2
      have hr2:=hr2 g cap' hη'
      have hpos:0<l.length:=List.length_pos_iff.2 h0
      cases g with
      | none=>exact absurd hv.1 (by omega)
      | some g=>
        obtain⟨rfl,hcap⟩:=hv
        obtain⟨cur2,hh2,hsz2,hn2,hm2,hc2⟩:=hr2
        have hcur:cur=#[x0,.slice (some ⟨g,0,none⟩) l.length cap']:=by
         apply Array.ext
         ·simp [hsz]
         ·intro i h1 h2
          match i,h2 with
          | 0,_=>rw [Array.getElem?_eq_getElem h1] at hx0;exact Option.some.inj hx0
          | 1,_=>rw [Array.getElem?_eq_getElem h1] at hx1;exact Option.some.inj hx1
        have hblk:(hp q).blk η=some g:=by rw [hrow2];simp [a0m,Row.blk,Row.ver,hη']
        refine (c5K b g cap' x0 cur2 l w (by rw [hh,hcur]) hh2 h0 (by omega) (by omega) (by omega) fun j x hj=>?_).mono ?_
        ·obtain⟨hjl,rfl⟩:=List.getElem?_eq_some_iff.1 hj
         obtain⟨y,hy,_,hry⟩:=hc2 j hjl 0 (by decide)
         have hry:y=.int .u8 (l.getD j 0).toNat:=hry
         rw [Nat.mul_one,Nat.add_zero] at hy
         rw [hy,hry]
         simp [List.getD,hjl]
        ·rintro e w' ⟨rfl,hf⟩
         obtain⟨hs',_⟩:=hs.sink hblk hf
         refine⟨_,_,_,_,_,η,rfl,hK,hs',fun o ho=>?_,rfl⟩
         by_cases e:o=q
         ·subst e;rw [a0k]
         ·rw [a0f _ _ e];exact hdead o ho
 ·cases hargs with
  | cons hx hr=>cases hr with
    | nil=>
      obtain⟨b,cap,hη,rfl⟩:=hx
      have hr:=hs.rows p
      rw [hrow] at hr
      obtain⟨b',cur,hb,hh,hsz,hc⟩:=hr _ _ hη
      obtain rfl:b=b':=by simpa using hb
      obtain⟨x0,hx0,_,_⟩:=hc 0 (by decide)
      obtain⟨x1,hx1,_,hr1⟩:=hc 1 (by decide)
      have hr1:x1=.slice none 0 0:=hr1
      subst hr1
      have hcur:cur=#[x0,.slice none 0 0]:=by
       apply Array.ext
       ·simp [hsz]
       ·intro i h1 h2
        match i,h2 with
        | 0,_=>rw [Array.getElem?_eq_getElem h1] at hx0;exact Option.some.inj hx0
        | 1,_=>rw [Array.getElem?_eq_getElem h1] at hx1;exact Option.some.inj hx1
      refine (b7C b x0 w (by rw [hh,hcur])).mono ?_
      rintro e w' ⟨rfl,hf⟩
      exact⟨_,_,_,_,_,η,rfl,hK,hs.world hf,hdead,rfl⟩
end Go.Proofs.YthpjjjnbkfnghaaGreatDoor
set_option maxRecDepth 100000
set_option maxHeartbeats 2000000
namespace Go.Proofs.YthpjjjnbkfnghaaGreatDoor
open Go
attribute [local irreducible] AW a0e a1g a0a
theorem a4C.same:∀ (xs:List AV),a4C a0e xs xs
 | []=>.nil
 | x::xs=>.cons (a0e.refl x) (a4C.same xs)
def d8B (dom:List AV->List UInt8->AV->Prop):a0L:=fun args hp top nx K=>∃ (f:Bool) (v u:Nat) (l:List UInt8) (xs:List AV) (a:List UInt8) (r:AV),args=.pt 0 v 0::xs/\dom xs a r/\
 hp=rws [(0,.box v 138 2 (a7w f 0 v 1 u l.length)),(1,a0m u l)]/\top=2/\l.length+a.length<=100000000000/\
 ∀ u' nx',(u'=u\/nx<=u')->nx<=nx'->K r (rws [(0,.box v 138 2 (a7w true 0 v 1 u' (l++a).length)),(1,a0m u' (l++a))]) 2 nx'
theorem b1x {dom:List AV->List UInt8->AV->Prop} {xs:List AV} {a:List UInt8} {z:AV} {f:Bool} {p q v u n:Nat} {l:List UInt8} {hp:Nat->Row} {top nx:Nat} {K:AV->(Nat->Row)->Nat->Nat->Prop} (hd:dom xs a z) (hn:n=l.length) (hpq:p≠q)
  (hr:a0a (hp p) (.box v 138 2 (a7w f p v q u n))) (hr2:a0a (hp q) (a0m u l)) (ht:p<top/\q<top) (hl:l.length+a.length<=100000000000)
  (hK:∀ u' nx',(u'=u\/nx<=u')->nx<=nx'->K z (a0S (a0S hp p (.box v 138 2 (a7w true p v q u' (l++a).length))) q (a0m u' (l++a))) top nx') :
  a1F (d8B dom) (.pt p v 0::xs) hp top nx K:=by
 subst hn
 have e1:(hp p).ver=some v:=hr.vers.symm
 have e2:(hp q).ver=some u:=hr2.vers.symm
 refine⟨[p,q],.pt 0 v 0::xs,rws [(0,.box v 138 2 (a7w f 0 v 1 u l.length)),(1,a0m u l)],by simp [hpq],by simp;omega,.cons a0e.pt (a4C.same xs),b4p (hr.trans (b7s f p q 0 1 v u _)) hr2,fun i hi=>a1Y (top:=2) (by simp) i (by simpa using hi),f,v,u,l,xs,a,z,rfl,hd,rfl,rfl,hl,fun u' nx' h1 h3=>?_⟩
 refine⟨_,_,a0e.refl _,fun i o ho=>?_,fun o ho=>?_,fun o ho w hv=>?_,hK u' nx' h1 h3⟩
 ·match i with
  | 0=>
    simp only [List.getElem?_cons_zero,Option.some.injEq] at ho
    subst ho
    rw [a0f _ _ hpq,a0k]
    exact b7s true 0 1 p q v u' _
  | 1=>
    simp only [List.getElem?_cons_succ,List.getElem?_cons_zero,Option.some.injEq] at ho
    subst ho
    rw [a0k]
    exact a0a.refl _
  | i+2=>simp at ho
 ·simp only [List.mem_cons,List.not_mem_nil,or_false,not_or] at ho
  rw [a0f _ _ ho.2,a0f _ _ ho.1]
 ·simp only [List.mem_cons,List.not_mem_nil,or_false] at ho
  rcases ho with rfl|rfl
  ·rw [a0f _ _ hpq,a0k] at hv
   have:some v=some w:=hv
   obtain rfl:=Option.some.inj this
   exact .inl e1
  ·rw [a0k] at hv
   have:some u'=some w:=hv
   obtain rfl:=Option.some.inj this
   rcases h1 with rfl|h1
   ·exact .inl e2
   ·exact .inr h1
end Go.Proofs.YthpjjjnbkfnghaaGreatDoor
set_option maxRecDepth 100000
set_option maxHeartbeats 2000000
namespace Go.Proofs.YthpjjjnbkfnghaaGreatDoor
open Go
def b9p (f:Bool) (q v:Nat) (x:AV):Nat->AV:=fun j=>if j=0 then (if f=true then .pt q v 0 else .val (.pointer none)) else x
theorem b80 (f:Bool) (q v:Nat) (x:AV):b9p f q v x 1=x:=rfl
def a10:a0L:=fun args hp top nx K=>∃ (f:Bool) (q v:Nat) (x:AV),args=[.pt q v 0]/\hp q=.box v 138 2 (b9p f q v x)/\K (.val (.tuple #[])) (a0S hp q (.box v 138 2 (b9p true q v x))) top nx
theorem b7W:a0i Tryz.prog 147 a10:=by
 refine⟨a67 Tryz.func147 rfl (by decide),?_⟩
 rintro args hp top nx K ⟨f,q,v,x,rfl,hrow,hK⟩ c η w vs hs hdead hargs
 cases hargs with
 | cons hx hr=>cases hr with
   | nil=>
     obtain⟨g,cap,hη,rfl⟩:=hx
     have hr:=hs.rows q
     rw [hrow] at hr
     obtain⟨b,cur,hb,hh,hsz,hc⟩:=hr _ _ hη
     obtain rfl:g=b:=by simpa using hb
     obtain⟨x0,hx0,ho0,hr0⟩:=hc 0 (by decide)
     have hblk:(hp q).blk η=some g:=by rw [hrow];simp [Row.blk,Row.ver,hη]
     have hcell:w.cell? ⟨g,0,none⟩=some x0:=by rw [a0Z hh];exact hx0
     cases f with
     | true=>
       have hr0:∃ g' cap',η v=some (some g',cap')/\x0=.pointer (some ⟨g',0,none⟩):=hr0
       obtain⟨g',cap',h1,rfl⟩:=hr0
       rw [hη] at h1
       simp only [Option.some.injEq,Prod.mk.injEq] at h1
       obtain⟨rfl,rfl⟩:=h1
       refine (b1s g w hcell).mono ?_
       rintro e w' ⟨rfl,rfl⟩
       have e:a0S hp q (.box v 138 2 (b9p true q v x))=hp:=by
        rw [<-hrow]
        funext p
        unfold a0S
        split
        ·rename_i h;rw [h]
        ·rfl
       rw [e] at hK
       exact⟨_,_,_,_,_,η,rfl,hK,hs,hdead,rfl⟩
     | false=>
       have hr0:x0=.pointer none:=hr0
       subst hr0
       refine (b03 g w hcell (by simp [World.shape?,hh,hsz]) (by simp [World.frozen?,hh])).mono ?_
       rintro e w' ⟨rfl,rfl⟩
       have hf:=b1o w g 0 (.pointer (some ⟨g,0,none⟩))
       have hO:∀ k,k<w.heap.size->k=g->a0Y c η hp k:=fun k _ e=>.inr ⟨q,by rw [e];exact hblk⟩
       have hwr:=hs.write (row:=.box v 138 2 (b9p true q v x)) hblk (by rw [hrow];rfl) hf (by
        intro g' cap' he
        rw [hη] at he
        simp only [Option.some.injEq,Prod.mk.injEq] at he
        obtain⟨rfl,rfl⟩:=he
        refine⟨g,cur.setIfInBounds 0 (.pointer (some ⟨g,0,none⟩)),rfl,by simp [World.setCell,Array.getElem?_modify,hh],by simp [hsz],fun j hj=>?_⟩
        match j,hj with
        | 0,_=>exact⟨_,by simp [hsz],rfl,g,cap,hη,rfl⟩
        | 1,_=>
          obtain⟨x1,hx1,ho1,hr1⟩:=hc 1 (by decide)
          exact⟨x1,by rw [Array.getElem?_setIfInBounds_ne (by decide)];exact hx1,ho1,Rep.keep hf hO (fun _ _ h=>h) _ _ _ _ (Env.le_refl _) hr1⟩)
       refine⟨_,_,_,_,_,η,rfl,hK,hwr.1,fun p hp'=>?_,rfl⟩
       by_cases e:p=q
       ·subst e;rw [hdead p hp'] at hrow;cases hrow
       ·rw [a0f _ _ e];exact hdead p hp'
section
variable {P:Program} {st:AS} {K:AS->Prop} {o:Oper}
theorem c8d {t t' e:TypeId} {x y:Operand} {s:List UInt8} (ho:o.op=.call ⟨.builtin .append,⟨[x,y]⟩,⟨[t,t']⟩⟩) (hu:P.underlying t=some (.slice e)) (hu':P.underlying t'=some .string)
  (hxe:st.ev x=.val (.slice none 0 0)) (hye:st.ev y=.st s) (h0:s≠[]) (hd:a0N st.sz o.dst) (hok:a8M P e 1 s.length)
  (hK:K ⟨a2b st.fr o.dst (.ow st.top st.nx s.length),a0S st.hp st.top (.sl st.nx e 1 s.length (a2j s)),st.sz,st.top+1,st.nx+1,st.df⟩):OpW P o st K:=by
 intro c η a w next Q hsr hnext
 have hev:∀ x,Rep w η (a0Y c η st.hp) (st.ev x) (a.eval x):=a1X hsr.slots
 have hxv:a.eval x=.slice none 0 0:=by
  have hx:=hev x
  rw [hxe] at hx
  exact hx
 have hyv:a.eval y=.string ⟨s.toArray⟩:=by
  have hy:=hev y
  rw [hye] at hy
  exact hy
 have hnl:=a87 s
 obtain⟨hsz,hz0,hb0,hbytes,zl,hz,hzl⟩:=hok
 obtain⟨i,zv,hi,hiz,hzc,his,hib⟩:=b0c hz
 have hisz:i.size=1:=by rw [his,hsz]
 have hss:(⟨s.toArray⟩:ByteArray).size=s.length:=by simp [ByteArray.size]
 have hmb:s.length*1<=s.length*P.bytesOf e:=Nat.mul_le_mul_left _ hb0
 have hmx:s.length<=maxLen:=by simp only [maxLen];omega
 have hpos:0<s.length:=List.length_pos_iff.2 h0
 obtain⟨cap',hrun,hge,hle⟩:∃ cap',(Builtin.append_ #[t,t'] o.type #[a.eval x,a.eval y]).run P w=.ok (.slice (some ⟨w.heap.size,0,none⟩) s.length cap')
   (w.drew.alloc (.cells ((Lib.strCells ⟨s.toArray⟩).toArray++Builtin.zeroCells zv.cells (cap'-s.length)) e))/\s.length<=cap'/\cap'<=maxLen:=by
  refine⟨grownCap w s.length 0 e,?_,grownCap_ge _ _ _ _,grownCap_le_maxLen _ _ _ _ hmx⟩
  rw [hxv,hyv]
  have hr:=run_append_nil_string (P:=P) w t t' o.type e i zv hu hu' hi hiz ⟨s.toArray⟩ (by rw [hss];omega) (by rw [hss];omega) (by rw [hss,hib];omega)
  have e1:((⟨s.toArray⟩:ByteArray).data.map fun b=>Value.int .u8 b.toNat)=(Lib.strCells ⟨s.toArray⟩).toArray:=by
   apply Array.ext'
   simp [Lib.strCells]
  rw [hss] at hr
  rw [<-e1]
  exact hr
 generalize hw':w.drew.alloc (.cells ((Lib.strCells ⟨s.toArray⟩).toArray++Builtin.zeroCells zv.cells (cap'-s.length)) e)=w' at hrun
 obtain⟨hs',hL⟩:=hsr.hs.declare (p:=st.top) (row:=.sl st.nx e 1 s.length (a2j s)) rfl
 have hs'':HS c (a0S st.hp st.top (.sl st.nx e 1 s.length (a2j s))) (st.nx+1) η w.drew:=hs'.world (Fr.refl _ _).drew
 have hrow:a0S st.hp st.top (.sl st.nx e 1 s.length (a2j s)) st.top=.sl st.nx e 1 s.length (a2j s):=a0k ..
 have hlay:=hs''.lay (p:=st.top) (ver:=st.nx) (cap:=cap') (by rw [hrow];rfl) (hsr.hs.fresh _ (Nat.le_refl _)) hsr.hs.env.2.1 (.cells ((Lib.strCells ⟨s.toArray⟩).toArray++Builtin.zeroCells zv.cells (cap'-s.length)) e) (by
  rw [hrow]
  intro g cap he
  rw [a0Q] at he
  simp only [Option.some.injEq,Prod.mk.injEq] at he
  obtain⟨rfl,rfl⟩:=he
  refine⟨_,heap_alloc_new w.drew _,?_,hge,hle,fun i hi j hj=>?_⟩
  ·simp only [Array.size_append,List.size_toArray,size_zeroCells,hzc,hzl,hnl]
   omega
  ·obtain⟨u,hu1,hu2,hu3⟩:=a5r (η:=a1Q η st.nx (some w.drew.heap.size,cap')) (L:=a0Y c (a1Q η st.nx (some w.drew.heap.size,cap')) (a0S st.hp st.top (.sl st.nx e 1 s.length (a2j s)))) s i hi j hj
   refine⟨u,?_,hu2,?_⟩
   ·rw [Array.getElem?_append_left (by simp only [List.size_toArray,hnl];omega),List.getElem?_toArray]
    exact hu1
   ·exact hu3)
 rw [hw'] at hlay
 have hexec:(execOp a.eval o).run P w=.ok (.value (.slice (some ⟨w.heap.size,0,none⟩) s.length cap')) w':=by
  unfold execOp
  rw [ho]
  simp [resolve,invoke,builtin,hrun]
 unfold Oper.wp
 rw [hexec]
 have hrep:Rep w' (a1Q η st.nx (some w.drew.heap.size,cap')) (a0Y c (a1Q η st.nx (some w.drew.heap.size,cap')) (a0S st.hp st.top (.sl st.nx e 1 s.length (a2j s)))) (.ow st.top st.nx s.length) (.slice (some ⟨w.heap.size,0,none⟩) s.length cap'):=
  ⟨some w.drew.heap.size,cap',a0Q _ _ _,rfl,hge⟩
 refine hnext _ _ _ _ (hsr.put hd hlay.1 (fun p hp=>?_) (fun x u hx=>hlay.2.rep (Rep.keep (Fr.refl (fun _=>False) w).drew (fun _ _ h=>h.elim) (fun b _ hb=>hL b hb) _ _ _ _ (Env.le_refl _) hx)) hrep) hK
 rw [a0f _ _ (by omega)]
 exact hsr.dead p (by omega)
theorem c6y {t t' e:TypeId} {x y:Operand} (ho:o.op=.call ⟨.builtin .append,⟨[x,y]⟩,⟨[t,t']⟩⟩) (hu:P.underlying t=some (.slice e)) (hu':P.underlying t'=some .string) {k:Nat} (hk:P.cellsOf e=k) (h0:0<k)
  (hxe:st.ev x=.val (.slice none 0 0)) (hye:st.ev y=.st []) (hd:a0N st.sz o.dst)
  (hK:K ⟨a2b st.fr o.dst (.val (.slice none 0 0)),st.hp,st.sz,st.top,st.nx,st.df⟩):OpW P o st K:=by
 refine a7t hd (fun c η a w hsr=>?_) hK
 have hev:∀ x,Rep w η (a0Y c η st.hp) (st.ev x) (a.eval x):=a1X hsr.slots
 have hxv:a.eval x=.slice none 0 0:=by
  have hx:=hev x
  rw [hxe] at hx
  exact hx
 have hyv:a.eval y=.string ⟨#[]⟩:=by
  have hy:=hev y
  rw [hye] at hy
  exact hy
 refine⟨.slice none 0 0,?_,rfl⟩
 have hr:=a5R (P:=P) (w:=w) (ty:=o.type) hu hu' hk h0 (a:=none) (n:=0) (cap:=0) (Nat.le_refl _)
 unfold execOp
 rw [ho]
 simp [resolve,invoke,builtin,hxv,hyv,hr]
end
end Go.Proofs.YthpjjjnbkfnghaaGreatDoor
