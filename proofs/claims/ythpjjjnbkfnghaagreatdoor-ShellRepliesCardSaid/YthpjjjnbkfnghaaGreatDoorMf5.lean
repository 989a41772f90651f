/-
  Part 5 of what the proof rests on: values that are told, code that is walked, what comes out.
-/
import Derived.Test.YthpjjjnbkfnghaaGreatDoorMf4
set_option linter.all false
namespace Go.Proofs.YthpjjjnbkfnghaaGreatDoor
section
section
variable {a b:List Int}
theorem c9G:a9v a.length b.length=true↔(dst a b a.length b.length) % 2=1:=by
 unfold a9v;rw [decide_eq_true_eq]
 have h:((a.length:Int)-b.length).tmod 2≠0↔((a.length:Int)-b.length) % 2≠0:=by
  rw [ne_eq,ne_eq,<-Int.dvd_iff_tmod_eq_zero,<-Int.dvd_iff_emod_eq_zero]
 rw [h];simp only [dst];omega
theorem c9Q:dst a.reverse b.reverse a.length b.length=dst a b a.length b.length:=by
 have h1:=a6Q (a:=a) (b:=b) (nLR _) (nLR _);have h2:=a6Q (a:=a.reverse) (b:=b.reverse) (x:=a.length) (y:=b.length) (by simp) (by simp);rw [h1,h2,List.take_of_length_le (by simp),List.take_of_length_le (by simp),List.take_length,List.take_length,a73]
theorem a9W {d:Nat} {far:List Int} (h:a6n a b d far):b6E a b d (a7G d b.length) far:=by
 refine⟨h.1,fun k' h1 h2=>?_⟩;have:=h.2 k' h1 h2;have hl:=a3T d b.length;split
 ·rename_i c;rcases Int.lt_or_le k' (-(d:Int)) with g|g
  ·rw [b0X this (a6S (a:=a) (b:=b) (by omega))];exact a6S (by omega)
  ·rcases Int.lt_or_le k' (-(b.length:Int)) with g2|g2
   ·rw [b0X this (a6S (a:=a) (b:=b) (by omega))];exact a6S (by omega)
   ·have:=hl.2.2.2.1 k' c.1 g g2;omega
 ·exact this
theorem b6t:∀ (f d:Nat) (fwd bwd:List Int),a6n a b d fwd->a6n a.reverse b.reverse d bwd->
  ((dst a b a.length b.length) % 2=1->2*(d:Int)-1<=dst a b a.length b.length)->((dst a b a.length b.length) % 2=0->2*(d:Int)<=dst a b a.length b.length)->dst a b a.length b.length+1<2*((d:Int)+f)->
  ∃ p q:Nat,c6h a b f d fwd bwd=some ((p:Int),(q:Int))/\p<=a.length/\q<=b.length/\dst a b p q+b5g a b p q=dst a b a.length b.length/\dst a b p q<=b5g a b p q+1/\b5g a b p q<=dst a b p q
 | 0,d,fwd,bwd,hF,hB,ho,he,hf=>by omega
 | f+1,d,fwd,bwd,hF,hB,ho,he,hf=>by
   have hl:=a3T d b.length;have hh:=a3Z d a.length
   have hhge:-1<=a2d d a.length:=by
    unfold a2d;split
    ·rw [c1A _ (by omega)];omega
    ·omega
   have hodd:=c9G (a:=a) (b:=b)
   rcases a8C (d:=d) (chk:=a9v a.length b.length) (other:=bwd) (a.length+b.length+3) (a7G d b.length) fwd (a9W hF) hl.2.2.1 hl.1 hl.2.1 (by omega) (by omega) (fun k' _ _ h _=>by omega) with
    ⟨x,k',e,hc,ht,hx0,k1,k2,hm⟩|⟨fwd',e,hF',hno⟩
   ·
    have ho1:=hodd.1 hc;have hb:=hB.2 (a.length-b.length-k') (by simp only [a00];omega) (by simp only [a00];omega);simp only [a00] at hb;obtain⟨p,q,hp,hq,p1,q1,g1,g2⟩:=b89 ht hb hx0 hm;have hs:=b3X p1 q1;have:=ho ho1;refine⟨p,q,?_,p1,q1,by omega,by omega,by omega⟩;rw [c6h,e];simp only [hp,hq]
   ·have hlr:=a3T d b.reverse.length;have hhr:=a3Z d a.reverse.length;simp only [a00] at hlr hhr;have hl2:a7G d b.length=a7G d b.reverse.length:=by rw [a00]
    have hh2:a2d d a.length=a2d d a.reverse.length:=by rw [a00]
    rcases a8C (a:=a.reverse) (b:=b.reverse) (d:=d) (chk:=!a9v a.length b.length) (other:=fwd') (a.length+b.length+3) (a7G d b.reverse.length) bwd (a9W hB) (by simp only [a00];exact hlr.2.2.1) (by simp only [a00];exact hlr.1) (by simp only [a00];exact hlr.2.1)
      (by simp only [a00];omega) (by simp only [a00];omega) (fun k' _ _ h _=>by omega) with
     ⟨x,k',e2,hc,ht,hx0,k1,k2,hm⟩|⟨bwd',e2,hB',hno2⟩
    ·
     simp only [a00] at e2 k1 k2 hm;have hne:¬a9v a.length b.length=true:=by simpa using hc
     have ho1:¬(dst a b a.length b.length) % 2=1:=fun h=>hne (hodd.2 h)
     have hb:=hF'.2 (a.length-b.length-k') (by omega) (by omega)
     have ht2:a9Z a.reverse.reverse b.reverse.reverse (d+1) (a.reverse.length-b.reverse.length-k') (rch b.length fwd' (a.length-b.length-k')):=by
      simpa using hb
     obtain⟨p,q,hp,hq,p1,q1,g1,g2⟩:=b89 ht ht2 hx0 (by simp only [a00];exact hm);simp only [a00] at p1 q1
     have e3:b5g a.reverse b.reverse p q=dst a b (a.length-p) (b.length-q):=by
      unfold b5g;simp
     have e4:dst a.reverse b.reverse p q=b5g a b (a.length-p) (b.length-q):=by
      unfold b5g;rw [show a.length-(a.length-p)=p by omega,show b.length-(b.length-q)=q by omega]
     rw [e3] at g2;rw [e4] at g1;have hs:=b3X (a:=a) (b:=b) (x:=a.length-p) (y:=b.length-q) (by omega) (by omega);have:=he (by omega);refine⟨a.length-p,b.length-q,?_,by omega,by omega,by omega,by omega,by omega⟩;have e2':a4s a.reverse b.reverse (!a9v a.length b.length) fwd' (a2d d a.length) (a.length+b.length+3) (a7G d b.length) bwd=some (.inl (x,x-k')):=e2;rw [c6h,e];simp only;rw [e2'];simp only
     congr 2<;>omega
    ·
     simp only [a00] at e2;have hB2:a6n a.reverse b.reverse (d+1) bwd':=hB'
     have n1:a9v a.length b.length=true->dst a b a.length b.length≠d+d-1:=fun hc=>by
      have:=c16 (e2:=d) hF' hB (fun k' h1 h2 h3=>hno k' h1 h2 h3 hc) (.inl rfl);exact this
     have n2:a9v a.length b.length=false->dst a b a.length b.length≠d+(d+1)-1:=fun hc=>by
      have hFr:a6n a.reverse.reverse b.reverse.reverse (d+1) fwd':=by simpa using hF'
      have:=c16 (a:=a.reverse) (b:=b.reverse) (e2:=d+1) hB' hFr (fun k' h1 h2 h3=>hno2 k' h1 h2 h3 (by simp [hc])) (.inr rfl);simp only [a00] at this;rw [c9Q] at this;exact this
     obtain⟨p,q,g1,g2⟩:=b6t f (d+1) fwd' bwd' hF' hB' (fun h=>by
       have:=n1 (hodd.2 h);have:=ho h
       omega) (fun h=>by
       have:=n2 (by
        cases hc:a9v a.length b.length with
        | false=>rfl
        | true=>have:=hodd.1 hc;omega)
       have:=he h
       omega) (by omega)
     refine⟨p,q,?_,g2⟩;rw [c6h,e];simp only;rw [e2];exact g1
end
end
section
def prs (i j:Int) (n:Nat):List (Int×Int):=(List.range n).map fun r:Nat=>(i+(r:Int),j+(r:Int))
def shP (i j:Int) (l:List (Int×Int)):List (Int×Int):=l.map fun p=>(i+p.1,j+p.2)
def a1q (n:Nat):List Int:=List.replicate n (-1)
def bh (a b:List Int):Nat:=bhd (a.drop (ahd a b)) (b.drop (ahd a b))
def a4C (a b:List Int):List Int:=(a.drop (ahd a b)).take (a.length-ahd a b-bh a b)
def a1H (a b:List Int):List Int:=(b.drop (ahd a b)).take (b.length-ahd a b-bh a b)
def cutF (a b:List Int):Option (Int×Int):=c6h a b (a.length+b.length+1) 0 (a1q (a.length+b.length+3)) (a1q (a.length+b.length+3))
def b7J (g:List Int->List Int->List (Int×Int)) (a b:List Int):List (Int×Int):=
 if (a4C a b).length≠0/\(a1H a b).length≠0 then
  match cutF (a4C a b) (a1H a b) with
  | none=>[]
  | some pq=>
    shP (ahd a b) (ahd a b) (g ((a4C a b).take pq.1.toNat) ((a1H a b).take pq.2.toNat))++
    shP (ahd a b+pq.1) (ahd a b+pq.2) (g ((a4C a b).drop pq.1.toNat) ((a1H a b).drop pq.2.toNat))
 else []
def a6B:Nat->List Int->List Int->List (Int×Int)
 | 0,_,_=>[]
 | f+1,a,b=>prs 0 0 (ahd a b)++(b7J (a6B f) a b++prs ((a.length:Int)-bh a b) ((b.length:Int)-bh a b) (bh a b))
theorem a5c (f:Nat) (a b:List Int):a6B (f+1) a b=prs 0 0 (ahd a b)++(b7J (a6B f) a b++prs ((a.length:Int)-bh a b) ((b.length:Int)-bh a b) (bh a b)):=rfl
section
variable {a b:List Int}
theorem a9A:ahd a b+bh a b<=a.length/\ahd a b+bh a b<=b.length:=by
 have h1:=a5B a b;have h2:=c1u (a.drop (ahd a b)) (b.drop (ahd a b));simp only [List.length_drop] at h2;unfold bh;omega
theorem a78:(a4C a b).length=a.length-ahd a b-bh a b/\(a1H a b).length=b.length-ahd a b-bh a b:=by
 have:=a9A (a:=a) (b:=b);constructor<;>simp only [a4C,a1H,List.length_take,List.length_drop]<;>omega
theorem b0a:a=a.take (ahd a b)++(a4C a b++a.drop (a.length-bh a b)):=by
 have h:=a9A (a:=a) (b:=b);rw [show a.drop (a.length-bh a b)=(a.drop (ahd a b)).drop (a.length-ahd a b-bh a b) by rw [List.drop_drop];congr 1;omega];rw [a4C,List.take_append_drop,List.take_append_drop]
theorem a9p:b=b.take (ahd a b)++(a1H a b++b.drop (b.length-bh a b)):=by
 have h:=a9A (a:=a) (b:=b);rw [show b.drop (b.length-bh a b)=(b.drop (ahd a b)).drop (b.length-ahd a b-bh a b) by rw [List.drop_drop];congr 1;omega];rw [a1H,List.take_append_drop,List.take_append_drop]
theorem a11 (l:List Int) (i k:Nat):(l.drop i).getD k 0=l.getD (i+k) 0:=by simp [List.getD]
theorem a29 (l:List Int) {i k:Nat} (h:k<i):(l.take i).getD k 0=l.getD k 0:=by simp [List.getD,h]
theorem a9Q:a.take (ahd a b)=b.take (ahd a b):=by
 have h:=a9A (a:=a) (b:=b);refine a03 0 (by simp only [List.length_take];omega) fun k hk=>?_
 simp only [List.length_take] at hk;rw [a29 _ (by omega),a29 _ (by omega)];exact (a26 0 a b).1 k (by omega)
theorem b0r:a.drop (a.length-bh a b)=b.drop (b.length-bh a b):=by
 have h:=a9A (a:=a) (b:=b);refine a03 0 (by simp only [List.length_drop];omega) fun k hk=>?_
 simp only [List.length_drop] at hk;rw [a11,a11];have:=(b5p 0 (a.drop (ahd a b)) (b.drop (ahd a b))).1 (bh a b-1-k) (by unfold bh at *;omega);simp only [List.length_drop,a11] at this
 rw [show ahd a b+(a.length-ahd a b-1-(bh a b-1-k))=a.length-bh a b+k by omega,
  show ahd a b+(b.length-ahd a b-1-(bh a b-1-k))=b.length-bh a b+k by omega] at this
 exact this
theorem a8V (h1:(a4C a b).length≠0) (h2:(a1H a b).length≠0) :
  (a4C a b).getD 0 0≠(a1H a b).getD 0 0/\(a4C a b).getD ((a4C a b).length-1) 0≠(a1H a b).getD ((a1H a b).length-1) 0:=by
 have h:=a9A (a:=a) (b:=b);have hl:=a78 (a:=a) (b:=b);rw [hl.1] at h1;rw [hl.2] at h2;constructor
 ·rw [a4C,a1H,a29 _ (by omega),a29 _ (by omega),a11,a11];exact (a26 0 a b).2 (by omega) (by omega)
 ·rw [hl.1,hl.2,a4C,a1H,a29 _ (by omega),a29 _ (by omega),a11,a11];have:=(b5p 0 (a.drop (ahd a b)) (b.drop (ahd a b))).2 (by simp only [List.length_drop];unfold bh at *;omega) (by simp only [List.length_drop];unfold bh at *;omega);simp only [List.length_drop,a11] at this
  change a.getD (ahd a b+(a.length-ahd a b-1-bh a b)) 0≠b.getD (ahd a b+(b.length-ahd a b-1-bh a b)) 0 at this
  rw [show a.length-ahd a b-1-bh a b=a.length-ahd a b-bh a b-1 by omega,show b.length-ahd a b-1-bh a b=b.length-ahd a b-bh a b-1 by omega] at this;exact this
theorem c4y:a3t a b=ahd a b+a3t (a4C a b) (a1H a b)+bh a b:=by
 have h:=a9A (a:=a) (b:=b);have e1:=b0a (a:=a) (b:=b);have e2:=a9p (a:=a) (b:=b);rw [<-a9Q,<-b0r] at e2
 have:a3t a b=a3t (a.take (ahd a b)++(a4C a b++a.drop (a.length-bh a b))) (a.take (ahd a b)++(a1H a b++a.drop (a.length-bh a b))):=by
  rw [<-e1,<-e2]
 rw [this,a9V,a9e];simp only [List.length_take,List.length_drop];omega
end
theorem c9f {a b:List Int} (h:a.Sublist b) (hl:b.length=a.length+1):∃ u v z,a=u++v/\b=u++z::v:=by
 induction h with
 | slnil=>simp at hl
 | @cons l1 l2 x h ih=>
   simp only [lCo] at hl;have:=h.eq_of_length (by omega);subst this;exact⟨[],l1,x,rfl,rfl⟩
 | @cons_cons l1 l2 x h ih=>
   simp only [lCo] at hl;obtain⟨u,v,z,e1,e2⟩:=ih (by omega);exact⟨x::u,v,z,by rw [e1];rfl,by rw [e2];rfl⟩
theorem b8B {a b:List Int} (h:a.Sublist b) (hl:b.length=a.length+1) (h0:a.length≠0) :
  a.getD 0 0=b.getD 0 0\/a.getD (a.length-1) 0=b.getD (b.length-1) 0:=by
 obtain⟨u,v,z,rfl,rfl⟩:=c9f h hl;cases u with
 | cons x u=>left;rfl
 | nil=>
   right;simp only [List.nil_append,lCo] at h0 ⊢;rw [show v.length+1-1=(v.length-1)+1 by omega];rfl
theorem c2c {a b:List Int} (h1:a.length≠0) (h2:b.length≠0) (h3:a.getD 0 0≠b.getD 0 0) (h4:a.getD (a.length-1) 0≠b.getD (b.length-1) 0) :
  2<=dst a b a.length b.length:=by
 obtain⟨c,g1,g2,g3⟩:=a2N a b;have l1:=g1.length_le;have l2:=g2.length_le;have hd:dst a b a.length b.length=(a.length:Int)+b.length-2*c.length:=by rw [dst,g3];rfl
 rw [hd];by_cases e1:a.length=c.length
 ·have:=g1.eq_of_length e1.symm;subst this;by_cases e2:b.length=c.length
  ·have:=g2.eq_of_length e2.symm;subst this;exact absurd rfl h3
  ·by_cases e3:b.length=c.length+1
   ·rcases b8B g2 e3 h1 with g|g
    ·exact absurd g h3
    ·exact absurd g h4
   ·omega
 ·by_cases e2:b.length=c.length
  ·have:=g2.eq_of_length e2.symm;subst this;by_cases e3:a.length=c.length+1
   ·rcases b8B g1 e3 h2 with g|g
    ·exact absurd g.symm h3
    ·exact absurd g.symm h4
   ·omega
  ·omega
theorem b2S (a b:List Int):a6n a b 0 (a1q (a.length+b.length+3)):=by
 refine⟨by simp [a1q],fun k h1 h2=>.inl ⟨?_,fun x h=>?_⟩⟩
 ·unfold rch a1q;simp only [List.getD];rw [List.getElem?_replicate,if_pos (by omega)];rfl
 ·have:=h.2.2.2.2;have:=a9H (a:=a) (b:=b) x.toNat (x-k).toNat;omega
theorem b56 {a b:List Int} (h1:a.length≠0) (h2:b.length≠0) (h3:a.getD 0 0≠b.getD 0 0) (h4:a.getD (a.length-1) 0≠b.getD (b.length-1) 0) :
  ∃ p q:Nat,cutF a b=some ((p:Int),(q:Int))/\p<=a.length/\q<=b.length/\0<p+q/\p+q<a.length+b.length/\a3t (a.take p) (b.take q)+a3t (a.drop p) (b.drop q)=a3t a b:=by
 have ht:=c2c h1 h2 h3 h4;have hle:=(b0K (a:=a) (b:=b) a.length b.length);have hd:dst a b a.length b.length=(a.length:Int)+b.length-2*a3t a b:=rfl;have s2:=b2S a.reverse b.reverse;simp only [a00] at s2;obtain⟨p,q,e,p1,q1,g1,g2,g3⟩:=b6t (a:=a) (b:=b) (a.length+b.length+1) 0 _ _ (b2S a b) s2 (fun _=>by omega) (fun _=>by omega) (by omega);have e1:=a6Q (a:=a) (b:=b) p1 q1;have e2:=a7M (a:=a) (b:=b) p1 q1;refine⟨p,q,e,p1,q1,?_,?_,by omega⟩
 ·have:=(a2W (a.take p) (b.take q));omega
 ·have:¬(p=a.length/\q=b.length):=fun⟨x,y⟩=>by
   subst x;subst y;simp only [List.drop_length,b1C] at e2;omega
  omega
def inM (a b:List Int) (p:Int×Int):Prop:=0<=p.1/\p.1<a.length/\0<=p.2/\p.2<b.length/\a.getD p.1.toNat 0=b.getD p.2.toNat 0
def isM (a b:List Int) (l:List (Int×Int)):Prop:=l.Pairwise (fun p q=>p.1<q.1/\p.2<q.2)/\∀ p∈l,inM a b p
theorem c7j (a b:List Int):isM a b []:=⟨.nil,fun _ h=>nomatch h⟩
theorem b0U (i j:Int) (l:List (Int×Int)):(shP i j l).length=l.length:=by simp [shP]
theorem a5W (i j:Int) (n:Nat):(prs i j n).length=n:=by simp [prs]
theorem b8i (i j i' j':Int) (l:List (Int×Int)):shP i j (shP i' j' l)=shP (i+i') (j+j') l:=by
 simp only [shP,List.map_map];refine List.map_congr_left fun p _=>?_
 simp only [Function.comp]
 congr 1<;>omega
theorem b1f (i j:Int) (l l':List (Int×Int)):shP i j (l++l')=shP i j l++shP i j l':=by simp [shP]
theorem b4m (i j i' j':Int) (n:Nat):shP i j (prs i' j' n)=prs (i+i') (j+j') n:=by
 simp only [shP,prs,List.map_map];refine List.map_congr_left fun p _=>?_
 simp only [Function.comp]
 congr 1<;>omega
theorem d5C (l:List (Int×Int)):shP 0 0 l=l:=by
 simp only [shP,Int.zero_add];exact List.map_id l
theorem b3o {a b a' b':List Int} {l l':List (Int×Int)} (h:isM a b l) (h':isM a' b' l'):isM (a++a') (b++b') (l++shP a.length b.length l'):=by
 constructor
 ·refine List.pairwise_append.2 ⟨h.1,?_,fun p hp q hq=>?_⟩
  ·exact List.pairwise_map.2 (h'.1.imp fun {p q} hpq=>by dsimp only;omega)
  ·obtain⟨r,hr,rfl⟩:=List.mem_map.1 hq;have h1:=h.2 p hp;have h2:=h'.2 r hr;unfold inM at h1 h2;dsimp only;omega
 ·intro p hp;rcases List.mem_append.1 hp with hp|hp
  ·have h1:=h.2 p hp;unfold inM at *
   simp only [lAp];refine⟨by omega,by omega,by omega,by omega,?_⟩;simp only [List.getD];rw [List.getElem?_append_left (by omega),List.getElem?_append_left (by omega)];exact h1.2.2.2.2
  ·obtain⟨r,hr,rfl⟩:=List.mem_map.1 hp;have h1:=h'.2 r hr;unfold inM at *
   simp only [lAp];refine⟨by omega,by omega,by omega,by omega,?_⟩;simp only [List.getD];rw [List.getElem?_append_right (by omega),List.getElem?_append_right (by omega)];rw [show (a.length+r.1).toNat-a.length=r.1.toNat by omega,show (b.length+r.2).toNat-b.length=r.2.toNat by omega];exact h1.2.2.2.2
theorem c1d (a:List Int):isM a a (prs 0 0 a.length):=by
 constructor
 ·refine List.pairwise_map.2 (List.pairwise_lt_range.imp fun {p q} hpq=>by dsimp only;omega)
 ·intro p hp;obtain⟨r,hr,rfl⟩:=List.mem_map.1 hp;have:=List.mem_range.1 hr;unfold inM;dsimp only;refine⟨by omega,by omega,by omega,by omega,rfl⟩
theorem a3L:∀ (f:Nat) (a b:List Int),a.length+b.length<f->
  isM a b (a6B f a b)/\(a6B f a b).length=a3t a b/\∀ f',a.length+b.length<f'->a6B f' a b=a6B f a b
 | 0,a,b,h=>by omega
 | f+1,a,b,h=>by
   have hb:=a9A (a:=a) (b:=b);have hl:=a78 (a:=a) (b:=b);have e1:=b0a (a:=a) (b:=b);have e2:=a9p (a:=a) (b:=b);have hh:=a9Q (a:=a) (b:=b);have ht:=b0r (a:=a) (b:=b);have hc:=c4y (a:=a) (b:=b)
   have key:∀ m,isM (a4C a b) (a1H a b) m->isM a b (prs 0 0 (ahd a b)++(shP (ahd a b) (ahd a b) m++prs ((a.length:Int)-bh a b) ((b.length:Int)-bh a b) (bh a b))):=by
    intro m hm;have k1:=c1d (a.take (ahd a b));have k2:=c1d (a.drop (a.length-bh a b));have k3:=b3o k1 (b3o hm k2);simp only [List.length_take,List.length_drop,b1f,b4m] at k3;rw [Nat.min_eq_left (by omega),show a.length-(a.length-bh a b)=bh a b by omega] at k3;rw [show a.take (ahd a b)++(a1H a b++a.drop (a.length-bh a b))=b by rw [hh,ht];exact e2.symm] at k3;rw [<-e1] at k3;rw [show ((ahd a b:Nat):Int)+((a4C a b).length+0)=a.length-bh a b by omega,show ((ahd a b:Nat):Int)+((a1H a b).length+0)=b.length-bh a b by omega] at k3;exact k3
   by_cases c:(a4C a b).length≠0/\(a1H a b).length≠0
   ·have hce:=a8V c.1 c.2;obtain⟨p,q,e,p1,q1,g1,g2,g3⟩:=b56 c.1 c.2 hce.1 hce.2;have r1:=a3L f ((a4C a b).take p) ((a1H a b).take q) (by simp only [List.length_take];omega);have r2:=a3L f ((a4C a b).drop p) ((a1H a b).drop q) (by simp only [List.length_drop];omega)
    have ef:∀ f',a6B (f'+1) a b=prs 0 0 (ahd a b)++(shP (ahd a b) (ahd a b) (a6B f' ((a4C a b).take p) ((a1H a b).take q)++shP p q (a6B f' ((a4C a b).drop p) ((a1H a b).drop q)))++prs ((a.length:Int)-bh a b) ((b.length:Int)-bh a b) (bh a b)):=fun f'=>by
     rw [a5c,b7J,if_pos c,e];simp only [Int.toNat_natCast,b1f,b8i]
    rw [ef];refine⟨key _ ?_,?_,fun f' hf'=>?_⟩
    ·have:=b3o r1.1 r2.1;simp only [List.length_take] at this;rw [List.take_append_drop,List.take_append_drop,Nat.min_eq_left p1,Nat.min_eq_left q1] at this;exact this
    ·simp only [lAp,a5W,b0U,r1.2.1,r2.2.1];omega
    ·cases f' with
     | zero=>omega
     | succ f'=>
       rw [ef,r1.2.2 f' (by simp only [List.length_take];omega),r2.2.2 f' (by simp only [List.length_drop];omega)]
   ·have ef:∀ f',a6B (f'+1) a b=prs 0 0 (ahd a b)++(shP (ahd a b) (ahd a b) []++prs ((a.length:Int)-bh a b) ((b.length:Int)-bh a b) (bh a b)):=fun f'=>by
     rw [a5c,b7J,if_neg c];rfl
    rw [ef];refine⟨key _ (c7j _ _),?_,fun f' hf'=>?_⟩
    ·simp only [lAp,a5W,b0U,List.length_nil];rw [hc]
     have:a3t (a4C a b) (a1H a b)=0:=by
      have:=a2W (a4C a b) (a1H a b);omega
     omega
    ·cases f' with
     | zero=>omega
     | succ f'=>rw [ef]
end
section
def plc (q:Int->Bool):Int->List Int->List Int
 | _,[]=>[]
 | i,x::l=>if q x then i::plc q (i+1) l else plc q (i+1) l
def shI (a b:List Int):List Int:=a.filter fun x=>b.contains x
def shQ (a b:List Int):List Int:=plc (fun x=>b.contains x) 0 a
theorem b6y (q:Int->Bool) (x:Int):∀ (i:Int) (l:List Int),plc q i (l++[x])=plc q i l++(if q x then [i+l.length] else [])
 | i,[]=>by simp [plc]
 | i,y::l=>by
   have:=b6y q x (i+1) l;simp only [List.cons_append,plc,lCo];rw [this,show i+1+(l.length:Int)=i+((l.length+1:Nat):Int) by omega];split<;>rfl
theorem a2S (q:Int->Bool):∀ (i:Int) (l:List Int),(plc q i l).length=(l.filter q).length
 | i,[]=>rfl
 | i,y::l=>by
   have:=a2S q (i+1) l;simp only [plc,List.filter_cons];split<;>simp [this]
theorem a7d (q:Int->Bool):∀ (i:Int) (l:List Int),∀ p∈plc q i l,i<=p/\p<i+l.length
 | i,[],p,h=>nomatch h
 | i,y::l,p,h=>by
   have:=a7d q (i+1) l p;simp only [plc] at h;simp only [lCo];split at h
   ·rcases List.mem_cons.1 h with h|h
    ·omega
    ·have:=this h;omega
   ·have:=this h;omega
theorem b44 (q:Int->Bool):∀ (i:Int) (l:List Int),(plc q i l).Pairwise (·<·)
 | i,[]=>.nil
 | i,y::l=>by
   have:=b44 q (i+1) l;simp only [plc];split
   ·exact .cons (fun p hp=>by have:=a7d q (i+1) l p hp;omega) this
   ·exact this
theorem b52 (q:Int->Bool):∀ (i:Int) (l:List Int) (k:Nat),k<(l.filter q).length->l.getD ((plc q i l).getD k 0-i).toNat 0=(l.filter q).getD k 0
 | i,[],k,h=>by simp at h
 | i,y::l,k,h=>by
   simp only [plc,List.filter_cons] at h ⊢;split at h
   ·rename_i c;simp only [c,if_true];cases k with
    | zero=>simp
    | succ k=>
      simp only [lCo] at h;have:=b52 q (i+1) l k (by omega)
      have hm:=a7d q (i+1) l ((plc q (i+1) l).getD k 0) (by
       rw [a0F _ _ (by rw [a2S];omega)];exact List.getElem_mem _)
      simp only [List.getD_cons_succ];rw [show ((plc q (i+1) l).getD k 0-i).toNat=((plc q (i+1) l).getD k 0-(i+1)).toNat+1 by omega,List.getD_cons_succ];exact this
   ·rename_i c;simp only [c];have:=b52 q (i+1) l k h
    have hm:=a7d q (i+1) l ((plc q (i+1) l).getD k 0) (by
     rw [a0F _ _ (by rw [a2S];omega)];exact List.getElem_mem _)
    simp only [Bool.false_eq_true,if_false];rw [show ((plc q (i+1) l).getD k 0-i).toNat=((plc q (i+1) l).getD k 0-(i+1)).toNat+1 by omega,List.getD_cons_succ];exact this
theorem c6b {q:Int->Bool} {i:Int} {l:List Int} {k k':Nat} (h:k<k') (h':k'<(l.filter q).length):(plc q i l).getD k 0<(plc q i l).getD k' 0:=by
 have:=List.pairwise_iff_getElem.1 (b44 q i l) k k' (by rw [a2S];omega) (by rw [a2S];omega) h;rw [a0F _ _ (by rw [a2S];omega),a0F _ _ (by rw [a2S];omega)];exact this
def mapM (pa pb:List Int) (l:List (Int×Int)):List (Int×Int):=l.map fun p=>(pa.getD p.1.toNat 0,pb.getD p.2.toNat 0)
def a1V (a b:List Int):List (Int×Int):=mapM (shQ a b) (shQ b a) (a6B ((shI a b).length+(shI b a).length+1) (shI a b) (shI b a))
theorem b7L (a b:List Int):a3t (shI a b) (shI b a)=a3t a b:=by
 obtain⟨c,h1,h2,h3⟩:=a2N a b;refine a5R ⟨c,?_,?_,h3⟩ fun d g1 g2=>?_
 ·have:=h1.filter fun x=>b.contains x
  rwa [List.filter_eq_self.2 fun x hx=>by simpa using h2.subset hx] at this
 ·have:=h2.filter fun x=>a.contains x
  rwa [List.filter_eq_self.2 fun x hx=>by simpa using h1.subset hx] at this
 ·exact a5e (g1.trans List.filter_sublist) (g2.trans List.filter_sublist)
theorem a1u (a b:List Int):isM a b (a1V a b)/\(a1V a b).length=a3t a b:=by
 have h:=a3L ((shI a b).length+(shI b a).length+1) (shI a b) (shI b a) (by omega);refine⟨⟨?_,?_⟩,by simp only [a1V,mapM,List.length_map];rw [h.2.1,b7L]⟩
 ·refine List.pairwise_map.2 (h.1.1.imp_of_mem fun {p q} hp hq hpq=>?_);have h1:=h.1.2 p hp;have h2:=h.1.2 q hq;unfold inM shI at h1 h2;exact⟨c6b (by omega) (by omega),c6b (by omega) (by omega)⟩
 ·intro p hp;obtain⟨r,hr,rfl⟩:=List.mem_map.1 hp;have h1:=h.1.2 r hr;unfold inM shI at h1
  have ma:=a7d (fun x=>b.contains x) 0 a ((shQ a b).getD r.1.toNat 0) (by
   unfold shQ
   rw [a0F _ _ (by rw [a2S];omega)];exact List.getElem_mem _)
  have mb:=a7d (fun x=>a.contains x) 0 b ((shQ b a).getD r.2.toNat 0) (by
   unfold shQ
   rw [a0F _ _ (by rw [a2S];omega)];exact List.getElem_mem _)
  have ea:=b52 (fun x=>b.contains x) 0 a r.1.toNat (by omega);have eb:=b52 (fun x=>a.contains x) 0 b r.2.toNat (by omega);unfold inM;dsimp only;refine⟨by omega,by omega,by omega,by omega,?_⟩;rw [Int.sub_zero] at ea eb;unfold shQ;rw [ea,eb];exact h1.2.2.2.2
theorem b8L {a b:List Int}:∀ (l:List (Int×Int)) (u v:Int),isM a b l->(∀ p∈l,u<p.1/\v<p.2)->rgt a b u v l=true
 | [],_,_,_,_=>rfl
 | p::l,u,v,h,hu=>by
   have h1:=h.2 p (List.mem_cons_self ..);have h2:=hu p (List.mem_cons_self ..);unfold inM at h1;rw [rgt,Bool.and_eq_true,decide_eq_true_eq];refine⟨⟨h2.1,h2.2,h1.2.1,h1.2.2.2.1,h1.2.2.2.2⟩,b8L l _ _ ⟨(List.pairwise_cons.1 h.1).2,fun q hq=>h.2 q (List.mem_cons_of_mem _ hq)⟩ fun q hq=>(List.pairwise_cons.1 h.1).1 q hq⟩
theorem a2x (a b:List Int):rgt a b (-1) (-1) (a1V a b)=true:=
 b8L _ _ _ (a1u a b).1 fun p hp=>by have:=(a1u a b).1.2 p hp;unfold inM at this;omega
theorem b42:∀ (l:List (Int×Int)) (u n:Int),l.Pairwise (fun p q=>p.1<q.1/\p.2<q.2)->(∀ p∈l,u<=p.1/\p.1<n/\u<=p.2/\p.2<n)->n-u<=l.length->l=prs u u l.length
 | [],u,n,_,_,_=>rfl
 | p::l,u,n,h,hu,hn=>by
   have h1:=hu p (List.mem_cons_self ..);have ⟨g1,g2⟩:=List.pairwise_cons.1 h;simp only [lCo] at hn ⊢
   have ub:∀ (l:List (Int×Int)) (w:Int),l.Pairwise (fun p q=>p.1<q.1/\p.2<q.2)->(∀ q∈l,w<q.1/\q.1<n)->w<n->(l.length:Int)<=n-w-1:=by
    intro l
    induction l with
    | nil=>intro w _ _ hw;simp;omega
    | cons q l ih=>
      intro w hp hq hw;have ⟨k1,k2⟩:=List.pairwise_cons.1 hp;have:=hq q (List.mem_cons_self ..);have:=ih q.1 k2 (fun r hr=>⟨(k1 r hr).1,(hq r (List.mem_cons_of_mem _ hr)).2⟩) this.2;simp only [lCo];omega
   have ub2:∀ (l:List (Int×Int)) (w:Int),l.Pairwise (fun p q=>p.1<q.1/\p.2<q.2)->(∀ q∈l,w<q.2/\q.2<n)->w<n->(l.length:Int)<=n-w-1:=by
    intro l
    induction l with
    | nil=>intro w _ _ hw;simp;omega
    | cons q l ih=>
      intro w hp hq hw;have ⟨k1,k2⟩:=List.pairwise_cons.1 hp;have:=hq q (List.mem_cons_self ..);have:=ih q.2 k2 (fun r hr=>⟨(k1 r hr).2,(hq r (List.mem_cons_of_mem _ hr)).2⟩) this.2;simp only [lCo];omega
   have b1:=ub l p.1 g2 (fun q hq=>⟨(g1 q hq).1,(hu q (List.mem_cons_of_mem _ hq)).2.1⟩) h1.2.1;have b2:=ub2 l p.2 g2 (fun q hq=>⟨(g1 q hq).2,(hu q (List.mem_cons_of_mem _ hq)).2.2.2⟩) h1.2.2.2;have e1:p.1=u:=by omega
   have e2:p.2=u:=by omega
   have:=b42 l (u+1) n g2 (fun q hq=>by
    have k1:=g1 q hq;have k2:=hu q (List.mem_cons_of_mem _ hq)
    omega) (by omega)
   have hp:p=(u,u):=by cases p;simp only at e1 e2;rw [e1,e2]
   rw [hp];refine Eq.trans (congrArg ((u,u)::·) this) ?_;unfold prs;rw [List.range_succ_eq_map];simp only [List.map_cons,List.map_map,Int.natCast_zero,Int.add_zero]
   congr 1
   refine List.map_congr_left fun r _=>?_
   simp only [Function.comp]
   congr 1<;>omega
theorem b6V (a:List Int):a1V a a=prs 0 0 a.length:=by
 have h:=a1u a a;rw [c1r] at h;have:=b42 (a1V a a) 0 a.length h.1.1 (fun p hp=>by have:=h.1.2 p hp;unfold inM at this;omega) (by omega);rw [h.2] at this;exact this
end
set_option maxRecDepth 100000
section
def a8z (n:Int):Bool:=decide (n=1)||(decide (n=2)||decide (n=3))
def ofS (p:Pt) (n:Int):BS×Int:=if a8z n=false then ([],5) else if n=1 then (p.2.2.2.2.2.1,0) else if n=3 then (p.2.2.2.2.2.2.2.1,0) else if p.2.2.2.2.2.2.2.2=false then ([],1) else (p.2.2.2.2.2.2.1,0)
theorem b1o (p:Pt) (n:Int):(ofS p n).1.length<=p.2.2.2.2.2.1.length+p.2.2.2.2.2.2.1.length+p.2.2.2.2.2.2.2.1.length:=by
 unfold ofS;split
 ·simp
 ·split
  ·simp only;omega
  ·split
   ·simp only;omega
   ·split
    ·simp
    ·simp only;omega
def a4Z:List Pt->List Int->BS->BS×Int
 | [],_,acc=>(acc,0)
 | p::d,ss,acc=>if hkP p=true then (if (ofS p (ss.getD 0 0)).2≠0 then ([],(ofS p (ss.getD 0 0)).2) else a4Z d ss.tail (acc++(ofS p (ss.getD 0 0)).1)) else a4Z d ss (acc++p.2.2.2.2.1)
def a9B (d:List Pt) (n:Int):BS×Int:=if a2v d=false then ([],11) else if a8z n=false then ([],5) else a4Z d (List.replicate (a0k d) n) []
theorem a13 (p:Pt) (d:List Pt):a0k (p::d)=(if hkP p=true then 1 else 0)+a0k d:=by
 unfold a0k;rw [List.filter_cons];split
 ·rw [lCo];omega
 ·omega
def a1r:List Pt->Nat->Int->Int
 | [],_,_=>-1
 | p::d,i,n=>if hkP p=true then (if n=0 then (i:Int) else a1r d (i+1) (n-1)) else a1r d (i+1) n
theorem a6y:∀ (d:List Pt) (i:Nat) (n:Int),n<0->a1r d i n=-1
 | [],_,_,_=>rfl
 | p::d,i,n,h=>by
   rw [a1r];split
   ·rw [if_neg (by omega),a6y d _ _ (by omega)]
   ·exact a6y d _ _ h
theorem a3R:∀ (d:List Pt) (i:Nat) (n:Int),0<=n->((a0k d:Int)<=n->a1r d i n=-1)/\(n<a0k d->∃ k:Nat,a1r d i n=((i+k:Nat):Int)/\k<d.length/\hkP (d.getD k ePt.dflt)=true/\(a0k (d.take k):Int)=n)
 | [],i,n,h=>⟨fun _=>rfl,fun h2=>by simp [a0k] at h2;omega⟩
 | p::d,i,n,h=>by
   rw [a1r,a13];by_cases hk:hkP p=true
   ·rw [if_pos hk,if_pos hk];by_cases hn:n=0
    ·rw [if_pos hn];exact⟨fun h2=>by omega,fun _=>⟨0,by simp,by simp,by simpa using hk,by simp [a0k,hn]⟩⟩
    ·rw [if_neg hn];obtain⟨h1,h2⟩:=a3R d (i+1) (n-1) (by omega);refine⟨fun g=>h1 (by omega),fun g=>?_⟩;obtain⟨k,g1,g2,g3,g4⟩:=h2 (by omega);refine⟨k+1,by rw [g1];congr 1;omega,by simpa using g2,by simpa using g3,?_⟩;rw [List.take_succ_cons,a13,if_pos hk];omega
   ·rw [if_neg hk,if_neg hk];obtain⟨h1,h2⟩:=a3R d (i+1) n h;refine⟨fun g=>h1 (by omega),fun g=>?_⟩;obtain⟨k,g1,g2,g3,g4⟩:=h2 (by omega);refine⟨k+1,by rw [g1];congr 1;omega,by simpa using g2,by simpa using g3,?_⟩;rw [List.take_succ_cons,a13,if_neg hk];omega
def a38 (d:List Pt) (n side:Int):List Pt×Int:=
 if a2v d=false then ([],11) else if a1r d 0 n<0 then ([],1) else
 if (ofS (d.getD (a1r d 0 n).toNat ePt.dflt) side).2≠0 then ([],(ofS (d.getD (a1r d 0 n).toNat ePt.dflt) side).2) else
 if (ofS (d.getD (a1r d 0 n).toNat ePt.dflt) side).1≠[]/\a0C (ofS (d.getD (a1r d 0 n).toNat ePt.dflt) side).1=false/\a1r d 0 n<(d.length:Int)-1 then ([],11)
 else (ofD (d.set (a1r d 0 n).toNat (a0Q (ofS (d.getD (a1r d 0 n).toNat ePt.dflt) side).1)),0)
theorem b9H (a b:List BS):∃ φ:BS->Int,a7S a b=a.map φ/\a8a a b=b.map φ/\∀ x y,(x∈a\/x∈b)->(y∈a\/y∈b)->φ x=φ y->x=y:=by
 obtain⟨φ,e,inj⟩:=a6i a b [];simp only [a0X,List.map_nil,List.cons.injEq] at e;refine⟨φ,?_,?_,fun x y hx hy=>inj x y (hx.elim .inl fun h=>.inr (.inl h)) (hy.elim .inl fun h=>.inr (.inl h))⟩
 ·unfold a7S;simp only [a0X,List.getD_cons_zero];exact e.1
 ·unfold a8a;simp only [a0X,List.getD_cons_zero,List.getD_cons_succ];exact e.2.1
theorem b1q {x y:List BS} {φ ψ:BS->Int} (h:∀ u v,u∈x->v∈y->(φ u=φ v↔ψ u=ψ v)):∀ (n i k:Nat),i+k<=n->i<=x.length->k<=y.length->a2M (x.map φ) (y.map φ) i k=a2M (x.map ψ) (y.map ψ) i k
 | _,0,k,_,_,_=>by rw [a9O,a9O]
 | _,i+1,0,_,_,_=>by rw [a5H,a5H]
 | 0,i+1,k+1,hn,_,_=>by omega
 | n+1,i+1,k+1,hn,hi,hk=>by
   have e1:=b1q h n i k (by omega) (by omega) (by omega);have e2:=b1q h n i (k+1) (by omega) (by omega) hk;have e3:=b1q h n (i+1) k (by omega) hi (by omega);have hx:=a2n φ 0 (show i<x.length by omega);have hy:=a2n φ 0 (show k<y.length by omega);have hx':=a2n ψ 0 (show i<x.length by omega);have hy':=a2n ψ 0 (show k<y.length by omega);have hh:=h _ _ (a3v (show i<x.length by omega)) (a3v (show k<y.length by omega));by_cases c:φ (x.getD i [])=φ (y.getD k [])
   ·rw [a4p (by rw [hx,hy];exact c),a4p (by rw [hx',hy'];exact hh.1 c),e1]
   ·rw [a4Q (by rw [hx,hy];exact c),a4Q (by rw [hx',hy'];exact fun d=>c (hh.2 d)),e2,e3]
theorem c8F {x y:List BS} {φ ψ:BS->Int} (h:∀ u v,u∈x->v∈y->(φ u=φ v↔ψ u=ψ v)):a3t (x.map φ) (y.map φ)=a3t (x.map ψ) (y.map ψ):=by
 unfold a3t;simp only [List.length_map];exact b1q h _ _ _ (nLR _) (nLR _) (nLR _)
theorem c0V {x y:List BS} {φ ψ:BS->Int} (h:∀ u v,u∈x->v∈y->(φ u=φ v↔ψ u=ψ v)):∀ (l:List (Int×Int)) (u v:Int),-1<=u->-1<=v->rgt (x.map φ) (y.map φ) u v l=true->rgt (x.map ψ) (y.map ψ) u v l=true
 | [],_,_,_,_,_=>rfl
 | p::l,u,v,hu,hv,g=>by
   rw [rgt,Bool.and_eq_true,decide_eq_true_eq] at g ⊢;obtain⟨⟨g1,g2,g3,g4,g5⟩,g6⟩:=g;simp only [List.length_map] at g3 g4;have k1:p.1.toNat<x.length:=by omega
   have k2:p.2.toNat<y.length:=by omega
   rw [a2n φ 0 k1,a2n φ 0 k2] at g5;refine⟨⟨g1,g2,by simpa using g3,by simpa using g4,?_⟩,c0V h l _ _ (by omega) (by omega) g6⟩;rw [a2n ψ 0 k1,a2n ψ 0 k2];exact (h _ _ (a3v k1) (a3v k2)).1 g5
def a49 (x y:List BS):List (Int×Int):=a1V (a7S x y) (a8a x y)
theorem c6S {x y:List BS} {φ:BS->Int} (inj:∀ u v,u∈x->v∈y->φ u=φ v->u=v):rgt (x.map φ) (y.map φ) (-1) (-1) (a49 x y)=true/\(a49 x y).length=a3t (x.map φ) (y.map φ):=by
 obtain⟨ψ,e1,e2,i2⟩:=b9H x y;have h:∀ u v,u∈x->v∈y->(ψ u=ψ v↔φ u=φ v):=fun u v hu hv=>⟨fun e=>by rw [i2 u v (.inl hu) (.inr hv) e],fun e=>by rw [inj u v hu hv e]⟩
 unfold a49;rw [e1,e2];exact⟨c0V h _ _ _ (Int.le_refl _) (Int.le_refl _) (a2x _ _),by rw [(a1u _ _).2,c8F h]⟩
theorem b00 (x y:List BS):(a49 x y).length<=x.length/\(a49 x y).length<=y.length:=by
 unfold a49;rw [(a1u _ _).2];have:=a2W (a7S x y) (a8a x y);rw [a6r,a7H] at this;exact this
theorem a81 (f:Fl):c69 f (a49 f.1 f.2.1) (a49 f.1 f.2.2)/\(a49 f.1 f.2.1).length=a3t ((a0X [] [f.1,f.2.1,f.2.2]).getD 0 []) ((a0X [] [f.1,f.2.1,f.2.2]).getD 1 [])/\(a49 f.1 f.2.2).length=a3t ((a0X [] [f.1,f.2.1,f.2.2]).getD 0 []) ((a0X [] [f.1,f.2.1,f.2.2]).getD 2 []):=by
 obtain⟨φ,e,inj⟩:=a6i f.1 f.2.1 f.2.2;have h1:=c6S (x:=f.1) (y:=f.2.1) (φ:=φ) fun u v hu hv=>inj u v (.inl hu) (.inr (.inl hv))
 have h2:=c6S (x:=f.1) (y:=f.2.2) (φ:=φ) fun u v hu hv=>inj u v (.inl hu) (.inr (.inr hv))
 unfold c69;rw [e];simp only [List.getD_cons_zero,List.getD_cons_succ];exact⟨⟨h1.1,h2.1⟩,h1.2,h2.2⟩
def a3X (f:Fl):List Ck:=d10 f (a49 f.1 f.2.1) (a49 f.1 f.2.2)
theorem a93 (f:Fl):chF (0,0,0) none (a3X f) (c6o f):=d3D (a81 f).1
theorem b6d (f:Fl):∀ c∈a3X f,a9i f c:=c4p (a81 f).1
theorem b2K {l:List BS} {n:Nat} (h:∀ x∈l,a42 x<=n):a3r l<=n:=by
 unfold a3r
 have key:∀ (l:List BS) (m:Nat),m<=n->(∀ x∈l,a42 x<=n)->l.foldl (fun n x=>max n (a42 x)) m<=n:=by
  intro l
  induction l with
  | nil=>exact fun m hm _=>hm
  | cons x l ih=>
    intro m hm hl;rw [List.foldl_cons];exact ih _ (Nat.max_le.2 ⟨hm,hl x (List.mem_cons_self ..)⟩) fun y hy=>hl y (List.mem_cons_of_mem _ hy)
 exact key l 0 (nZL _) h
theorem b2k {l:List BS} {n:Nat} (h:∀ s∈l,a3r (a0a s)<=n):a4E l<=n:=by
 unfold a4E
 have key:∀ (l:List BS) (m:Nat),m<=n->(∀ x∈l,a3r (a0a x)<=n)->l.foldl (fun n s=>max n (a3r (a0a s))) m<=n:=by
  intro l
  induction l with
  | nil=>exact fun m hm _=>hm
  | cons x l ih=>
    intro m hm hl;rw [List.foldl_cons];exact ih _ (Nat.max_le.2 ⟨hm,hl x (List.mem_cons_self ..)⟩) fun y hy=>hl y (List.mem_cons_of_mem _ hy)
 exact key l 0 (nZL _) h
theorem b8q {l:List BS} {s:BS} (h:s∈l):a3r (a0a s)<=a4E l:=by
 unfold a4E
 have key:∀ (l:List BS) (m:Nat),m<=l.foldl (fun n s=>max n (a3r (a0a s))) m/\∀ s∈l,a3r (a0a s)<=l.foldl (fun n s=>max n (a3r (a0a s))) m:=by
  intro l
  induction l with
  | nil=>exact fun m=>⟨nLR _,fun s hs=>by simp at hs⟩
  | cons x l ih=>
    intro m;rw [List.foldl_cons];obtain⟨h1,h2⟩:=ih (max m (a3r (a0a x)));refine⟨by omega,fun s hs=>?_⟩;rcases List.mem_cons.1 hs with rfl|hs
    ·omega
    ·exact h2 s hs
 exact (key l 0).2 s h
def c4M (m:Nat) (s:BS):Prop:=∀ x∈a0a s,a42 x<m
def ftP (m:Nat) (p:Pt):Prop:=∀ s∈b20 p,c4M m s
theorem a6I (m:Nat):c4M m []:=fun x hx=>by simp [a0a] at hx
theorem b1D {m:Nat} {t:BS} (h:c4M m t):ftP m (a0Q t):=by
 intro s hs;simp only [b20,a0Q,List.mem_cons,List.not_mem_nil,or_false] at hs;rcases hs with rfl|rfl|rfl|rfl
 ·exact h
 ·exact a6I m
 ·exact a6I m
 ·exact a6I m
theorem d2M {m:Nat} {p:Pt} (h:ftP m p):c4M m (txP p):=h _ (by simp [b20,txP])
theorem c5P {m:Nat} {a b:BS} (ha:c4M m a) (hb:c4M m b) (he:a=[]\/a0C a=true):c4M m (a++b):=by
 intro x hx;rw [b71 b he] at hx;rcases List.mem_append.1 hx with hx|hx
 ·exact ha x hx
 ·exact hb x hx
theorem c7h {m:List Pt} {q:Pt} (h:SrP (m++[q])) (hq:a0n q=true):a0C (txP q)=true:=by
 have:=h m.length (by simp);unfold okS at this;rw [b0i] at this;simp only [Bool.and_eq_true,Bool.or_eq_true] at this;rcases this.2 with h1|h1
 ·rw [a9a h1] at hq;cases hq
 ·unfold a3Y at h1;simp only [Bool.and_eq_true,Bool.or_eq_true] at h1;simpa using h1.2.2
theorem c1G {m:Nat} {out:List Pt} {p:Pt} (h:∀ q∈out,ftP m q) (hs:SrP out) (hp:ftP m p):∀ q∈a2p out p,ftP m q:=by
 cases ht:a0n p with
 | false=>
   rw [a6Y ht];intro q hq;rcases List.mem_append.1 hq with hq|hq
   ·exact h q hq
   ·simp only [List.mem_singleton] at hq;subst hq;exact hp
 | true=>
   rcases a30 out p ht with⟨_,e⟩|⟨h0,⟨n,q,rfl,hq,e⟩|⟨hl,e⟩⟩
   ·rw [e];exact h
   ·rw [e];intro r hr;rcases List.mem_append.1 hr with hr|hr
    ·exact h r (List.mem_append_left _ hr)
    ·simp only [List.mem_singleton] at hr;subst hr;exact b1D (c5P (d2M (h q (by simp))) (d2M hp) (.inr (c7h hs hq)))
   ·rw [e];intro q hq;rcases List.mem_append.1 hq with hq|hq
    ·exact h q hq
    ·simp only [List.mem_singleton] at hq;subst hq;exact hp
theorem c1R {m:Nat}:∀ (l out:List Pt),SrP out->(∀ q∈out,ftP m q)->(∀ p∈l,a3f p=true\/(a0n p=true/\(txP p=[]\/a0C (txP p)=true)))->(∀ p∈l,ftP m p)->∀ q∈l.foldl a2p out,ftP m q
 | [],_,_,h,_,_=>h
 | p::l,out,hs,h,hl,hf=>c1R l _ (b3B hs (hl p (List.mem_cons_self ..))) (c1G h hs (hf p (List.mem_cons_self ..))) (fun q hq=>hl q (List.mem_cons_of_mem p hq)) fun q hq=>hf q (List.mem_cons_of_mem p hq)
theorem d6S {m:Nat} {l:List Pt} (h2:∀ p∈l.dropLast,a3f p=true\/(a0n p=true/\(txP p=[]\/a0C (txP p)=true))) (hf:∀ p∈l,ftP m p):∀ q∈ofD l,ftP m q:=by
 rw [b2A];rcases l.eq_nil_or_concat with rfl|⟨n,p,rfl⟩
 ·intro q hq;simp at hq
 ·rw [List.concat_eq_append] at *
  rw [List.dropLast_concat] at h2;rw [List.foldl_append];exact c1G (c1R n [] (fun i hi=>by simp at hi) (fun q hq=>by simp at hq) h2 fun q hq=>hf q (by simp [hq])) (b4G n [] (fun i hi=>by simp at hi) h2) (hf p (by simp))
theorem c8R {m:Nat} (hm:0<m) {d:List Pt} (h:∀ p∈d,ftP m p):a59 d m=true:=by
 unfold a59;rw [Bool.and_eq_true,decide_eq_true_eq,decide_eq_true_eq];refine⟨by omega,fun p hp=>?_⟩
 have:=b2k (l:=b20 p) (n:=m-1) fun s hs=>b2K fun x hx=>by
  have:=h p hp s hs x hx;omega
 omega
theorem a4K {l:List BS} (h:a0I l=true) (i j:Nat) (hj:j<=l.length):a0I (a06 l i j)=true:=by
 rw [a2t] at h ⊢;intro k hk;rw [a3e l hj] at hk ⊢;rw [a4H hk hj];obtain⟨h1,h2⟩:=h (i+k) (by omega);exact⟨h1,fun h3=>h2 (by omega)⟩
theorem b6X {l:List BS} (h:a0I l=true) {n:Nat} (hn:n<=l.length):a0I (l.take n)=true:=by
 have:=a4K h 0 n hn;simpa [a06] using this
theorem b6O {l:List BS} (h:a0I l=true) (n:Nat):a0I (l.drop n)=true:=by
 have:=a4K h n l.length (nLR _);simpa [a06] using this
theorem a60 {l:List BS} (h:a0I l=true) (s:Sp):a0I (a5v s l)=true:=by
 unfold a5v;split
 ·rfl
 ·rename_i hc;exact a4K h _ _ (by omega)
theorem b0A {l:List BS} {s:Sp} {x:BS} (h:x∈a5v s l):x∈l:=by
 unfold a5v at h;split at h
 ·simp at h
 ·exact List.mem_of_mem_take (List.mem_of_mem_drop h)
theorem a17 {m:Nat} {l:List BS} (hw:a0I l=true) (h:∀ x∈l,a42 x<m):c4M m l.flatten:=by
 unfold c4M;rw [a7y l hw];exact h
def shF (m:Nat) (f:Fl):Prop:=(∀ x∈f.1,a42 x<m)/\(∀ x∈f.2.1,a42 x<m)/\∀ x∈f.2.2,a42 x<m
theorem d0E {m:Nat} {f:Fl} (hw:a9c f) (hs:shF m f) (st:Int) (lb:BS×BS×BS) (v:Int) (c:Ck):∀ p∈a3p f st lb v c,ftP m p:=by
 have wB:a0I (a9j f c)=true:=a60 hw.1 _;have wO:a0I (a2e f c)=true:=a60 hw.2.1 _;have wT:a0I (a2R f c)=true:=a60 hw.2.2 _;have sB:∀ x∈a9j f c,a42 x<m:=fun x hx=>hs.1 x (b0A hx)
 have sO:∀ x∈a2e f c,a42 x<m:=fun x hx=>hs.2.1 x (b0A hx)
 have sT:∀ x∈a2R f c,a42 x<m:=fun x hx=>hs.2.2 x (b0A hx)
 unfold a3p;split
 ·have hh:=a7W st (a2e f c) (a2R f c);intro p hp;simp only [a57,List.mem_cons,List.not_mem_nil,or_false] at hp;rcases hp with rfl|rfl|rfl
  ·exact b1D (a17 (b6X wO (by omega)) fun x hx=>sO x (List.mem_of_mem_take hx))
  ·intro s hs;simp only [b20,b03,List.mem_cons,List.not_mem_nil,or_false] at hs;rcases hs with rfl|rfl|rfl|rfl
   ·exact a6I m
   ·exact a17 (a4K wO _ _ (by omega)) fun x hx=>sO x (List.mem_of_mem_take (List.mem_of_mem_drop hx))
   ·split
    ·exact a6I m
    ·exact a17 wB sB
   ·exact a17 (a4K wT _ _ (by omega)) fun x hx=>sT x (List.mem_of_mem_take (List.mem_of_mem_drop hx))
  ·exact b1D (a17 (b6O wO _) fun x hx=>sO x (List.mem_of_mem_drop hx))
 ·intro p hp;simp only [List.mem_singleton] at hp;subst hp;refine b1D ?_;unfold a6d;split
  ·exact a17 wB sB
  ·split
   ·exact a17 wT sT
   ·split
    ·exact a17 wT sT
    ·exact a17 wO sO
theorem c3n {m:Nat} (hm:0<m) {f:Fl} (hw:a9c f) (hs:shF m f) {L:List Ck} (hc:chF (0,0,0) none L (c6o f)) (hg:∀ c∈L,a9i f c) {st:Int} {lb:BS×BS×BS} {v:Int} (hp:a1i lb=true):a59 (ofD (L.flatMap (a3p f st lb v))) m=true:=by
 refine c8R hm (d6S (fun p h=>?_) fun p h=>?_)
 ·have hends:=b3z hw L (0,0,0) none hc (a5a _) hg;have hin:=c24 hc;rcases L.eq_nil_or_concat with rfl|⟨n,c,rfl⟩
  ·simp at h
  ·rw [List.concat_eq_append] at h hends hin;rw [List.flatMap_append,a7q _ _ (by simpa using b98 f st lb v c)] at h;rcases List.mem_append.1 h with h|h
   ·obtain⟨d,hd,hd2⟩:=List.mem_flatMap.1 h;exact b46 hp (hends d (by simpa using hd)) p hd2
   ·have h:p∈(a3p f st lb v c).dropLast:=by simpa using h
    exact b2E hw hp (hin c (by simp)) p h
 ·obtain⟨c,_,hc2⟩:=List.mem_flatMap.1 h;exact d0E hw hs st lb v c p hc2
theorem c4C (x:List BS):a49 x x=prs 0 0 x.length:=by
 unfold a49;obtain⟨φ,e1,e2,_⟩:=b9H x x;rw [e1,e2,b6V,List.length_map]
theorem d1K (f:Fl):((a3X f).map (a2e f)).flatten=f.2.1:=b1i d9b (a93 f) rfl
theorem d29 (f:Fl):((a3X f).map (a2R f)).flatten=f.2.2:=b1i d9y (a93 f) rfl
theorem d37 (f:Fl):((a3X f).map (a9j f)).flatten=f.1:=b1i d9f (a93 f) rfl
theorem d5F {O:List BS} {u j:Nat} (h:u<=j):(O.take u).flatten.length+(a06 O u j).flatten.length+(O.drop j).flatten.length=O.flatten.length:=by
 have e:O.take u++a06 O u j++O.drop j=O:=by
  have h1:O.take u=a06 O 0 u:=by simp [a06]
  have h2:a06 O 0 j=O.take j:=by simp [a06]
  rw [h1,b2w O (nZL _) h,h2,List.take_append_drop]
 have:=congrArg (fun l:List BS=>l.flatten.length) e;simp only [List.flatten_append,lAp] at this;exact this
theorem c9B {f:Fl} (st:Int) (lb:BS×BS×BS) (v:Int) (c:Ck):a24 (a3p f st lb v c)<=(a9j f c).flatten.length+(a2e f c).flatten.length+(a2R f c).flatten.length:=by
 unfold a3p;split
 ·have hh:=a7W st (a2e f c) (a2R f c)
  have e:a24 (a57 f c st lb)=((a2e f c).take (a1s st (a2e f c) (a2R f c)).1).flatten.length+((a2e f c).drop ((a2e f c).length-(a1s st (a2e f c) (a2R f c)).2)).flatten.length:=by
   unfold a24 a57;simp [a0Q,txP,b03]
  have e2:=d5F (O:=a2e f c) (u:=(a1s st (a2e f c) (a2R f c)).1) (j:=(a2e f c).length-(a1s st (a2e f c) (a2R f c)).2) (by omega);rw [e];omega
 ·rw [a10];show (a6d f c (a7P f c) v).flatten.length<=_;unfold a6d;split
  ·omega
  ·split
   ·omega
   ·split<;>omega
theorem c5B (f:Fl) (st:Int) (lb:BS×BS×BS) (v:Int):a24 ((a3X f).flatMap (a3p f st lb v))<=f.1.flatten.length+f.2.1.flatten.length+f.2.2.flatten.length:=by
 have key:∀ L:List Ck,a24 (L.flatMap (a3p f st lb v))<=(L.map (a9j f)).flatten.flatten.length+(L.map (a2e f)).flatten.flatten.length+(L.map (a2R f)).flatten.flatten.length:=by
  intro L
  induction L with
  | nil=>simp [a24]
  | cons c L ih=>
    have:=c9B (f:=f) st lb v c;simp only [List.flatMap_cons,a14,List.map_cons,List.flatten_cons,List.flatten_append,lAp];omega
 have:=key (a3X f);rw [d37,d1K,d29] at this;exact this
end
set_option maxHeartbeats 2000000
section
attribute [local irreducible] AW a0h a0H a0c
abbrev eFl:El Fl:=eP (eL eS) (eP (eL eS) (eL eS))
def c6L (f:Fl):Prop:=(f.1.length<=10000000/\f.1.flatten.length<=10000000)/\(f.2.1.length<=10000000/\f.2.1.flatten.length<=10000000)/\f.2.2.length<=10000000/\f.2.2.flatten.length<=10000000
@[go_sem] def d1Y:a0j:=a0j.f1 kI (fun _=>True) (fun n=>kB.enc (a6a n))
theorem c8d:a0b Tryz.prog 157 d1Y:=by
 refine a0b.f1 Tryz.func157 rfl (by decide) Tryz.results157 Tryz.ntmps157 (by decide) fun n _=>?_
 have hΓ:=gkN;refine awZ hΓ rfl ?_;simp only [go_sem];refine⟨fun h=>by rw [decide_eq_false h];rfl,fun h=>by rw [h];rfl,?_⟩;unfold a6a;rw [Bool.or_assoc]
@[go_sem] def d3Y:a0j:=a0j.f1 kI (fun _=>True) (fun n=>kB.enc (a6C n))
theorem c8w:a0b Tryz.prog 158 d3Y:=by
 refine a0b.f1 Tryz.func158 rfl (by decide) Tryz.results158 Tryz.ntmps158 (by decide) fun n _=>?_
 have hΓ:=gkN;refine awZ hΓ rfl ?_;simp only [go_sem];refine⟨fun h=>by rw [decide_eq_false h];rfl,fun h=>by rw [h];rfl,?_⟩;unfold a6C;rw [Bool.or_assoc]
@[go_sem] def d2U:a0j:=a0j.f1 (kL eS) b5m (fun l=>(kA ePt).enc (a0Q l.flatten))
theorem c00:a0b Tryz.prog 161 d2U:=by
 refine a0b.f1 Tryz.func161 rfl (by decide) Tryz.results161 Tryz.ntmps161 (by decide) fun l hl=>?_
 have hΓ:=gkC b86 gkN;refine awZ hΓ rfl ?_;simp only [go_sem];exact⟨hl,d6N rfl rfl rfl rfl rfl rfl rfl rfl rfl⟩
@[go_sem] def d3X:a0j:=a0j.f4 (kA eFl) (kA eCk) kI kI (fun f _ _ _=>c6L f) (fun f c k v=>sL eS (a6d f c k v))
theorem d0c:a0b Tryz.prog 162 d3X:=by
 refine a0b.f4 Tryz.func162 rfl (by decide) Tryz.results162 Tryz.ntmps162 (by decide) fun f c k v ⟨hf1,hf2,hf3⟩=>?_
 have hΓ:=gkC b9t gkN;obtain⟨fb,fl,fr⟩:=f;obtain⟨cs,⟨cb1,cb2⟩,⟨cl1,cl2⟩,cr1,cr2⟩:=c;dsimp only at hf1 hf2 hf3;unfold a6d a9j a2R a2e;refine awN hΓ rfl ?_;simp only [go_sem];refine⟨fun h=>⟨by omega,by rw [if_pos h];exact avR⟩,fun h=>⟨fun h2=>⟨by omega,by rw [if_neg h,if_pos h2];exact avR⟩,fun h2=>⟨fun h3=>⟨fun h4=>⟨by omega,by rw [if_neg h,if_neg h2,if_pos ⟨h3,h4⟩];exact avR⟩,fun h4=>⟨by omega,by rw [if_neg h,if_neg h2,if_neg fun e=>h4 e.2];exact avR⟩⟩,fun h3=>⟨by omega,by rw [if_neg h,if_neg h2,if_neg fun e=>h3 e.1];exact avR⟩⟩⟩⟩
@[go_sem] def c8u:a0j:=a0j.f2 (kL eS) (kL eS) (fun a b=>a.length<1000000000/\b.length<1000000000) (fun a b=>tu2 (kI.enc (ahd a b)) (kI.enc (bhd (a.drop (ahd a b)) (b.drop (ahd a b)))))
theorem c3R:a0b Tryz.prog 201 c8u:=by
 refine a0b.f2 Tryz.func201 rfl (by decide) Tryz.results201 Tryz.ntmps201 (by decide) fun a b ⟨ha,hb⟩=>?_
 have hΓ:=gkC c8z gkN;refine awZ hΓ rfl ?_;simp only [go_sem,c55];exact⟨ha,hb⟩
theorem a7Q {a b:List BS} (h:a.Sublist b):a.flatten.length<=b.flatten.length:=by
 induction h with
 | slnil=>exact nLR _
 | cons x _ ih=>rw [List.flatten_cons,lAp];omega
 | cons_cons x _ ih=>rw [List.flatten_cons,List.flatten_cons,lAp,lAp];omega
theorem a2B {a b:List BS} (h:a.Sublist b) (h1:b.length<=10000000) (h2:b.flatten.length<=10000000):b5m a:=by
 have:=h.length_le;have:=a7Q h;exact⟨by omega,by omega⟩
theorem a3y (s:Sp) (l:List BS):(a5v s l).Sublist l:=by
 unfold a5v;split
 ·exact List.nil_sublist _
 ·exact (List.drop_sublist _ _).trans (List.take_sublist _ _)
theorem c2g {ver ety:Nat} {ll bl rl:BS} {h:Bool} {t l b r:BS} {hb:Bool} {c:Nat->AV} (h0:c 0=.st ll) (h1:c 1=.st bl) (h2:c 2=.st rl) (h3:c 3=.val (.bool h)) (h4:c 4=.st t) (h5:c 5=.st l) (h6:c 6=.st b) (h7:c 7=.st r) (h8:c 8=.val (.bool hb)) :
  a0c (.box ver ety 9 c) (.box ver ety 9 (ePt.enc (ll,bl,rl,h,t,l,b,r,hb))):=
 a0c.box fun j hj=>a0h.of_eq (match j,hj with
  | 0,_=>h0
  | 1,_=>h1
  | 2,_=>h2
  | 3,_=>h3
  | 4,_=>h4
  | 5,_=>h5
  | 6,_=>h6
  | 7,_=>h7
  | 8,_=>h8)
theorem c4K {l:List (Nat->AV)} {L:List Pt} {n:Nat} (hn:n=L.length) (h:∀ i,i<n->∀ j,j<9->a0h (l.getD i (fun _=>.any) j) (ePt.enc (L.getD i ePt.dflt) j)):a0h (.sn n 9 fun i=>l.getD i fun _=>.any) (sL ePt L):=by
 subst hn;exact a0h.sn h
@[go_sem] def c7p:a0j:=a0j.f4 (kA eFl) (kA eCk) kI (kA eLb) (fun f _ _ _=>c6L f) (fun f c st lb=>sL ePt (a57 f c st lb))
theorem c40:a0b Tryz.prog 160 c7p:=by
 refine a0b.f4 Tryz.func160 rfl (by decide) Tryz.results160 Tryz.ntmps160 (by decide) fun f c st lb ⟨hf1,hf2,hf3⟩=>?_
 have hΓ:=gkC b9t (gkC c3R (gkC b86 (gkC c00 gkN)));obtain⟨fb,fl,fr⟩:=f;obtain⟨cs,⟨cb1,cb2⟩,⟨cl1,cl2⟩,cr1,cr2⟩:=c;obtain⟨lb1,lb2,lb3⟩:=lb;dsimp only at hf1 hf2 hf3;refine awL hΓ [0] rfl ?_;simp only [go_sem];refine AW.still 4 0 0 150 3 _ rfl rfl (fun j hj=>match j,hj with|0,_=>rfl|1,_=>rfl|2,_=>rfl) ?_;refine AW.still 5 1 1 216 7 _ rfl rfl (fun j hj=>match j,hj with|0,_=>rfl|1,_=>rfl|2,_=>rfl|3,_=>rfl|4,_=>rfl|5,_=>rfl|6,_=>rfl) ?_;refine AW.still 7 2 2 73 3 _ rfl rfl (fun j hj=>match j,hj with|0,_=>rfl|1,_=>rfl|2,_=>rfl) ?_;have g1:=a3y (cb1,cb2) fb;have g2:=a3y (cl1,cl2) fl;have g3:=a3y (cr1,cr2) fr;unfold a57 b03 a2e a2R a9j;refine awL hΓ [2] rfl ?_;simp only [go_sem];refine⟨by omega,by omega,?_⟩;generalize a5v (cl1,cl2) fl=O at *
 generalize a5v (cr1,cr2) fr=T at *
 have hO:=a2B g2 hf2.1 hf2.2;have hT:=a2B g3 hf3.1 hf3.2;have hB:=a2B g1 hf1.1 hf1.2;have hh:=a7W st O T;have i1:=g2.length_le;have i2:=g3.length_le;refine AW.cut ⟨[(2,.val (.int .i64 st)),(4,.ps 3 (eFl.enc (fb,fl,fr))),(5,.ps 7 (eCk.enc (cs,(cb1,cb2),(cl1,cl2),cr1,cr2))),(7,.ps 3 (eLb.enc (lb1,lb2,lb3))),(9,sL eS O),(10,sL eS T),(11,.val (.int .i64 0)),(12,.val (.int .i64 0))],[],74,3,3,[]⟩ ?_ ?_
 ·simp only [go_sem]
 refine AW.seqTo (fun _:Unit=>Sh.st ⟨[(2,.val (.int .i64 st)),(4,.ps 3 (eFl.enc (fb,fl,fr))),(5,.ps 7 (eCk.enc (cs,(cb1,cb2),(cl1,cl2),cr1,cr2))),(7,.ps 3 (eLb.enc (lb1,lb2,lb3))),(9,sL eS O),(10,sL eS T),(11,.val (.int .i64 (a1s st O T).1)),(12,.val (.int .i64 (a1s st O T).2))],[],74,3,3,[]⟩) ?_ fun _=>?_
 ·refine awN hΓ rfl ?_;simp only [go_sem];refine⟨fun h2=>⟨⟨by omega,by omega⟩,(),a0t ?_⟩,fun h2=>⟨(),a0t ?_⟩⟩
  ·unfold a1s;rw [if_pos h2];simp only [go_sem]
  ·unfold a1s;rw [if_neg h2];simp only [go_sem]
 generalize a1s st O T=h at *
 obtain⟨u,v⟩:=h;dsimp only at hh ⊢
 have eO:(List.range (((O.length:Int)-(v:Int)).toNat-u)).map (fun i=>O.getD (u+i) [])=a06 O u (O.length-v):=by
  rw [b4n (by omega),show ((O.length:Int)-(v:Int)).toNat-u=O.length-v-u by omega]
 have eT:(List.range (((T.length:Int)-(v:Int)).toNat-u)).map (fun i=>T.getD (u+i) [])=a06 T u (T.length-v):=by
  rw [b4n (by omega),show ((T.length:Int)-(v:Int)).toNat-u=T.length-v-u by omega]
 have sO:(a06 O u (O.length-v)).Sublist O:=(List.drop_sublist _ _).trans (List.take_sublist _ _);have sT:(a06 T u (T.length-v)).Sublist T:=(List.drop_sublist _ _).trans (List.take_sublist _ _);have kO:b5m (a06 O u (O.length-v)):=a2B (sO.trans g2) hf2.1 hf2.2;have kT:b5m (a06 T u (T.length-v)):=a2B (sT.trans g3) hf3.1 hf3.2;have kA1:b5m (O.take u):=a2B ((List.take_sublist _ _).trans g2) hf2.1 hf2.2;have kA2:b5m (O.drop (O.length-v)):=a2B ((List.drop_sublist _ _).trans g2) hf2.1 hf2.2;refine awL hΓ [6] rfl ?_;simp only [go_sem,eO,eT];refine⟨⟨by omega,by omega⟩,⟨by omega,by omega,by omega⟩,kO,⟨by omega,by omega⟩,⟨by omega,by omega,by omega⟩,kT,?_⟩;generalize (a06 O u (O.length-v)).flatten=X at *
 generalize (a06 T u (T.length-v)).flatten=Y at *
 refine AW.cut ⟨[(2,.val (.int .i64 st)),(4,.ps 3 (eFl.enc (fb,fl,fr))),(5,.ps 7 (eCk.enc (cs,(cb1,cb2),(cl1,cl2),cr1,cr2))),(9,sL eS O),(11,.val (.int .i64 u)),(12,.val (.int .i64 v)),(13,.val (.int .i64 ((O.length:Int)-v))),(14,.pt 3 3 0)],
  [(3,.box 3 179 9 (ePt.enc (lb1,lb2,lb3,true,[],X,[],Y,false)))],74,4,4,[]⟩ ?_ ?_
 ·simp only [go_sem];exact c2g rfl rfl rfl rfl rfl rfl rfl rfl rfl
 refine AW.seqTo (fun _:Unit=>Sh.st ⟨[(9,sL eS O),(11,.val (.int .i64 u)),(12,.val (.int .i64 v)),(13,.val (.int .i64 ((O.length:Int)-v))),(14,.pt 3 3 0)],
  [(3,.box 3 179 9 (ePt.enc (lb1,(if st=0 then [] else lb2),lb3,true,[],X,(if st=0 then [] else (a5v (cb1,cb2) fb).flatten),Y,decide (st≠0))))],74,4,4,[]⟩) ?_ fun _=>?_
 ·refine awN hΓ rfl ?_;simp only [go_sem];refine⟨fun h0=>⟨(),a0t ?_⟩,fun h0=>⟨by omega,hB,(),a0t ?_⟩⟩
  ·subst h0;simp only [go_sem];exact c2g rfl rfl rfl rfl rfl rfl rfl rfl rfl
  ·rw [if_neg h0,if_neg h0,decide_eq_true h0];simp only [go_sem];exact c2g rfl rfl rfl rfl rfl rfl rfl rfl rfl
 have eA1:(List.range (u-0)).map (fun i=>O.getD i [])=O.take u:=by
  refine a03 [] (by simp;omega) fun k hk=>?_
  have hk:k<u:=by simpa using hk
  simp [List.getD,List.getElem?_take,hk]
 have eA2:(List.range (O.length-((O.length:Int)-(v:Int)).toNat)).map (fun i=>O.getD (((O.length:Int)-(v:Int)).toNat+i) [])=O.drop (O.length-v):=by
  have e:((O.length:Int)-(v:Int)).toNat=O.length-v:=by omega
  rw [e];refine a03 [] (by simp) fun k hk=>?_
  have hk:k<O.length-(O.length-v):=by simpa using hk
  simp [List.getD,hk];rw [List.getElem?_eq_getElem (by omega)];rfl
 refine awZ hΓ rfl ?_;simp only [go_sem,eA1,eA2];refine⟨⟨by omega,by omega⟩,kA1,⟨by omega,by omega,by omega⟩,kA2,?_⟩
 exact c4K rfl fun i hi j hj=>match i,hi with
  | 0,_=>avR
  | 1,_=>avR
  | 2,_=>avR
theorem b8o (t:BS):a24 [a0Q t]=t.length:=by rw [a10];rfl
theorem b4c (s:Sp) {l:List BS} (h:l.flatten.length<=10000000):(a5v s l).flatten.length<=10000000:=Nat.le_trans (a7Q (a3y s l)) h
theorem b0E (f:Fl) (st:Int) (lb:BS×BS×BS) (v:Int) (c:Ck):(a3p f st lb v c).length<=3:=by
 unfold a3p;split
 ·exact nLR 3
 ·exact Nat.le_of_ble_eq_true rfl
theorem c44 {f:Fl} (hf:c6L f) (st:Int) (lb:BS×BS×BS) (v:Int) (c:Ck):a24 (a3p f st lb v c)<=20000000:=by
 obtain⟨h1,h2,h3⟩:=hf;have c1:(a9j f c).flatten.length<=10000000:=b4c _ h1.2;have c2:(a2e f c).flatten.length<=10000000:=b4c _ h2.2;have c3:(a2R f c).flatten.length<=10000000:=b4c _ h3.2;unfold a3p;split
 ·unfold a57
  have e1:∀ a b d:Pt,a24 [a,b,d]=(txP a).length+(txP b).length+(txP d).length:=fun a b d=>by
   rw [show [a,b,d]=[a]++([b]++[d]) from rfl,a14,a14,a10,a10,a10];omega
  rw [e1];have s1:=a7Q (List.take_sublist (a1s st (a2e f c) (a2R f c)).1 (a2e f c));have s2:=a7Q (List.drop_sublist ((a2e f c).length-(a1s st (a2e f c) (a2R f c)).2) (a2e f c));have z:(txP (b03 f c st lb)).length=0:=rfl;have z1:∀ t:BS,(txP (a0Q t)).length=t.length:=fun _=>rfl
  rw [z,z1,z1];omega
 ·rw [b8o];unfold a6d;split
  ·omega
  ·split
   ·omega
   ·split<;>omega
theorem b0J {f:Fl} (hf:c6L f) (st:Int) (lb:BS×BS×BS) (v:Int):∀ L:List Ck,a24 (L.flatMap (a3p f st lb v))<=20000000*L.length/\(L.flatMap (a3p f st lb v)).length<=3*L.length
 | []=>by simp [a24]
 | c::L=>by
   obtain⟨h1,h2⟩:=b0J hf st lb v L;have h3:=c44 hf st lb v c;have h4:=b0E f st lb v c;rw [List.flatMap_cons,a14,lAp,lCo];omega
def d5H (lb:BS×BS×BS):Prop:=lb.1.length<=100000000/\lb.2.1.length<=100000000/\lb.2.2.length<=100000000
@[go_sem] def d5J:a0j:=a0j.f5 (kA eFl) (kL eCk) kI (kA eLb) kI (fun f L st lb v=>(c6L f/\L.length<=10000/\a24 (L.flatMap (a3p f st lb v))<=1000000000)/\d5H lb) (fun f L st lb v=>tu2 (sL ePt (b6I f L st lb v).1) (kI.enc (b6I f L st lb v).2))
theorem c5V:a0b Tryz.prog 100 d5J:=by
 refine a0b.f5 Tryz.func100 rfl (by decide) Tryz.results100 Tryz.ntmps100 (by decide) fun f L st lb v ⟨⟨hf,hL,hsum⟩,hlb1,hlb2,hlb3⟩=>?_
 have hΓ:=gkC c8d (gkC c8w (gkC b1g (gkC b5k (gkC c40 (gkC d0c (gkC c00 (gkC c7V gkN)))))));have hff:=hf;obtain⟨fb,fl,fr⟩:=f;obtain⟨lb1,lb2,lb3⟩:=lb;obtain⟨hf1,hf2,hf3⟩:=hff;dsimp only at hf1 hf2 hf3 hlb1 hlb2 hlb3;have fs:=fun j=>b0J hf st (lb1,lb2,lb3) v (L.take j)
 have d5:(a6a st&&a6C v)=false->b6I (fb,fl,fr) L st (lb1,lb2,lb3) v=([],5):=fun h=>by unfold b6I;rw [if_pos h]
 have d3:(a6a st&&a6C v)=true->a1i (lb1,lb2,lb3)=false->b6I (fb,fl,fr) L st (lb1,lb2,lb3) v=([],3):=fun h h2=>by unfold b6I;rw [if_neg (by rw [h];simp),if_pos h2]
 have d0:(a6a st&&a6C v)=true->a1i (lb1,lb2,lb3)=true->b6I (fb,fl,fr) L st (lb1,lb2,lb3) v=(ofD (L.flatMap (a3p (fb,fl,fr) st (lb1,lb2,lb3) v)),0):=fun h h2=>by unfold b6I;rw [if_neg (by rw [h];simp),if_neg (by rw [h2];simp)]
 refine awL hΓ [0] rfl ?_;simp only [go_sem];refine AW.still 5 0 0 150 3 _ rfl rfl (fun j hj=>match j,hj with|0,_=>rfl|1,_=>rfl|2,_=>rfl) ?_;refine AW.still 8 1 1 73 3 _ rfl rfl (fun j hj=>match j,hj with|0,_=>rfl|1,_=>rfl|2,_=>rfl) ?_;cases h1:a6a st with
 | false=>
   rw [d5 (by rw [h1];rfl)];refine awZ hΓ rfl ?_;simp only [go_sem,h1];exact a2K _
 | true=>
   cases h2:a6C v with
   | false=>
     rw [d5 (by rw [h1,h2];rfl)];refine awZ hΓ rfl ?_;simp only [go_sem,h1,h2];exact a2K _
   | true=>
     cases hp:a1i (lb1,lb2,lb3) with
     | false=>
       rw [d3 (by rw [h1,h2];rfl) hp];unfold a1i at hp;dsimp only at hp;refine awZ hΓ rfl ?_;simp only [go_sem,h1,h2,hp];exact⟨⟨by omega,by omega,by omega⟩,a2K _⟩
     | true=>
       rw [d0 (by rw [h1,h2];rfl) hp];unfold a1i at hp;dsimp only at hp;refine awL hΓ [5] rfl ?_;simp only [go_sem,h1,h2,hp];refine⟨⟨by omega,by omega,by omega⟩,?_⟩;refine AW.adopt 12 179 9 (fun i=>ePt.enc (([]:List Pt).getD i ePt.dflt)) rfl ?_;refine AW.seqTo (fun x:Nat×Nat=>Sh.st ⟨[(12,.ow 2 x.1 (L.flatMap (a3p (fb,fl,fr) st (lb1,lb2,lb3) v)).length)],[(2,a0G x.1 179 ePt (L.flatMap (a3p (fb,fl,fr) st (lb1,lb2,lb3) v)))],66,3,x.2,[]⟩) ?_ fun⟨u,nx⟩=>?_
       rotate_left
       ·have fL:=b0J hf st (lb1,lb2,lb3) v L;generalize L.flatMap (a3p (fb,fl,fr) st (lb1,lb2,lb3) v)=S at *
        refine AW.freeze 2 u 179 9 S.length (fun i=>ePt.enc (S.getD i ePt.dflt)) rfl (fun _ _ j hj=>match j,hj with|0,_=>rfl|1,_=>rfl|2,_=>rfl|3,_=>rfl|4,_=>rfl|5,_=>rfl|6,_=>rfl|7,_=>rfl|8,_=>rfl) ?_;refine AW.cut ⟨[(12,sL ePt S)],[],66,3,nx,[]⟩ ?_ ?_
        ·simp only [go_sem];exact a3A (E:=ePt) rfl rfl rfl
        refine awZ hΓ rfl ?_;simp only [go_sem];exact⟨by omega,by omega⟩
       refine awZ hΓ rfl ?_;simp only [go_sem]
       refine AW.round (α:={ x:Nat×List Pt×Nat×Nat // x.1<=L.length/\x.2.1=(L.take x.1).flatMap (a3p (fb,fl,fr) st (lb1,lb2,lb3) v) })
        (fun x=>⟨[(2,.val (.int .i64 st)),(4,.val (.int .i64 v)),(5,.ps 3 (eFl.enc (fb,fl,fr))),(8,.ps 3 (eLb.enc (lb1,lb2,lb3))),(12,.ow 2 x.1.2.2.1 x.1.2.1.length),(27,sL eCk L),(28,.val (.int .i64 L.length)),(29,.val (.int .i64 x.1.1))],
         [(2,a0G x.1.2.2.1 179 ePt x.1.2.1)],66,3,x.1.2.2.2,[]⟩) (fun x=>L.length-x.1.1) ⟨(0,[],2,3),nZL _,rfl⟩ ?_ ?_
       ·simp only [go_sem];exact rlR
       ·rintro⟨⟨i,S,u,nx⟩,hi,hS⟩;simp only at hi hS;have fi:=fs i;rw [<-hS,List.length_take] at fi;refine awL hΓ [8,99999] rfl ?_;simp only [go_sem];refine⟨fun hlt=>⟨by omega,?_⟩,fun hge=>?_⟩
        ·have hlt':i<L.length:=by omega
         have hsn:(L.take (i+1)).flatMap (a3p (fb,fl,fr) st (lb1,lb2,lb3) v)=S++a3p (fb,fl,fr) st (lb1,lb2,lb3) v (L.getD i eCk.dflt):=by
          rw [a1U L eCk.dflt hlt',List.flatMap_append,<-hS];simp
         generalize L.getD i eCk.dflt=c at *
         obtain⟨cs,⟨cb1,cb2⟩,⟨cl1,cl2⟩,cr1,cr2⟩:=c;have hcl:=b0E (fb,fl,fr) st (lb1,lb2,lb3) v (cs,(cb1,cb2),(cl1,cl2),cr1,cr2);have hcs:a3p (fb,fl,fr) st (lb1,lb2,lb3) v (cs,(cb1,cb2),(cl1,cl2),cr1,cr2)=if a7P (fb,fl,fr) (cs,(cb1,cb2),(cl1,cl2),cr1,cr2)=4/\v=0 then a57 (fb,fl,fr) (cs,(cb1,cb2),(cl1,cl2),cr1,cr2) st (lb1,lb2,lb3) else [a0Q (a6d (fb,fl,fr) (cs,(cb1,cb2),(cl1,cl2),cr1,cr2) (a7P (fb,fl,fr) (cs,(cb1,cb2),(cl1,cl2),cr1,cr2)) v).flatten]:=rfl
         have hsd:b5m (a6d (fb,fl,fr) (cs,(cb1,cb2),(cl1,cl2),cr1,cr2) (a7P (fb,fl,fr) (cs,(cb1,cb2),(cl1,cl2),cr1,cr2)) v):=by
          unfold a6d;split
          ·exact a2B (a3y _ _) hf1.1 hf1.2
          ·split
           ·exact a2B (a3y _ _) hf3.1 hf3.2
           ·split
            ·exact a2B (a3y _ _) hf3.1 hf3.2
            ·exact a2B (a3y _ _) hf2.1 hf2.2
         have hcc:a91 (cs,(cb1,cb2),(cl1,cl2),cr1,cr2) fb fl fr=a7P (fb,fl,fr) (cs,(cb1,cb2),(cl1,cl2),cr1,cr2):=rfl;generalize a7P (fb,fl,fr) (cs,(cb1,cb2),(cl1,cl2),cr1,cr2)=k at *
         refine AW.cut ⟨[(2,.val (.int .i64 st)),(4,.val (.int .i64 v)),(5,.ps 3 (eFl.enc (fb,fl,fr))),(8,.ps 3 (eLb.enc (lb1,lb2,lb3))),(12,.ow 2 u S.length),(14,.pt 3 nx 0),(27,sL eCk L),(28,.val (.int .i64 L.length)),(29,.val (.int .i64 i))],
          [(2,a0G u 179 ePt S),(3,.box nx 216 7 (eCk.enc (cs,(cb1,cb2),(cl1,cl2),cr1,cr2)))],66,4,nx+1,[]⟩ ?_ ?_
         ·simp only [go_sem];exact⟨rlR,a9M⟩
         refine AW.still 14 3 nx 216 7 _ rfl rfl (fun j hj=>match j,hj with|0,_=>rfl|1,_=>rfl|2,_=>rfl|3,_=>rfl|4,_=>rfl|5,_=>rfl|6,_=>rfl) ?_;refine awN hΓ rfl ?_;simp only [go_sem,hcc];refine⟨⟨by omega,by omega,by omega⟩,fun hk=>?_,fun hk=>?_⟩
         ·rw [if_pos hk] at hcs;rw [hcs] at hsn hcl;refine⟨hf,by omega,⟨by omega,by omega⟩,⟨(i+1,S++a57 (fb,fl,fr) (cs,(cb1,cb2),(cl1,cl2),cr1,cr2) st (lb1,lb2,lb3),nx+1,nx+2),by dsimp only;omega,hsn.symm⟩,⟨nLR _,⟨⟨rfl,by dsimp only;rw [lAp]⟩,by dsimp only;omega⟩,?_⟩,by dsimp only;omega⟩;exact b1l (E:=ePt) rfl rfl rfl rfl (by simp) fun i _ j _=>avR
         ·rw [if_neg (fun e=>hk e.1 e.2)] at hcs;rw [hcs] at hsn hcl;refine⟨hf,hsd,by omega,⟨by omega,by omega⟩,⟨(i+1,S++[a0Q (a6d (fb,fl,fr) (cs,(cb1,cb2),(cl1,cl2),cr1,cr2) k v).flatten],nx+1,nx+2),by dsimp only;omega,hsn.symm⟩,⟨nLR _,⟨⟨rfl,by simp⟩,by dsimp only;omega⟩,?_⟩,by dsimp only;omega⟩;exact a02 (E:=ePt) rfl rfl rfl rfl (by simp) fun j _=>avR
        ·obtain rfl:i=L.length:=by omega
         rw [List.take_length] at hS;refine⟨(u,nx),a0t ?_⟩;rw [<-hS];simp only [go_sem];exact rlR
theorem b6C (f:Fl) (L:List Ck):b10 f L<=L.length:=List.length_filter_le _ _
@[go_sem] def c74:a0j:=a0j.f2 (kA eFl) (kL eCk) (fun f L=>c6L f/\L.length<=10000) (fun f L=>kI.enc (b10 f L))
theorem c4u:a0b Tryz.prog 101 c74:=by
 refine a0b.f2 Tryz.func101 rfl (by decide) Tryz.results101 Tryz.ntmps101 (by decide) fun f L ⟨hf,hL⟩=>?_
 have hΓ:=gkC b5k gkN;have hff:=hf;obtain⟨fb,fl,fr⟩:=f;obtain⟨hf1,hf2,hf3⟩:=hff;dsimp only at hf1 hf2 hf3;refine awL hΓ [0] rfl ?_;simp only [go_sem];refine AW.still 2 0 0 150 3 _ rfl rfl (fun j hj=>match j,hj with|0,_=>rfl|1,_=>rfl|2,_=>rfl) ?_;refine awZ hΓ rfl ?_;simp only [go_sem]
 refine AW.round (α:={ x:Nat×Nat // x.1<=L.length })
  (fun x=>⟨[(2,.ps 3 (eFl.enc (fb,fl,fr))),(5,.val (.int .i64 (b10 (fb,fl,fr) (L.take x.1.1)))),(8,sL eCk L),(9,.val (.int .i64 L.length)),(10,.val (.int .i64 x.1.1))],[],27,1,x.1.2,[]⟩) (fun x=>L.length-x.1.1) ⟨(0,1),nZL _⟩ ?_ ?_
 ·simp only [go_sem];rfl
 ·rintro⟨⟨i,nx⟩,hi⟩;simp only at hi;have hcn:=b6C (fb,fl,fr) (L.take i);rw [List.length_take] at hcn;refine awL hΓ [4,99999] rfl ?_;simp only [go_sem];refine⟨fun hlt=>⟨by omega,?_⟩,fun hge=>?_⟩
  ·have hlt':i<L.length:=by omega
   have hsn:=c4I (fb,fl,fr) (L.getD i eCk.dflt) (L.take i);rw [<-a1U L eCk.dflt hlt'] at hsn;generalize L.getD i eCk.dflt=c at *
   obtain⟨cs,⟨cb1,cb2⟩,⟨cl1,cl2⟩,cr1,cr2⟩:=c;have hcc:a91 (cs,(cb1,cb2),(cl1,cl2),cr1,cr2) fb fl fr=a7P (fb,fl,fr) (cs,(cb1,cb2),(cl1,cl2),cr1,cr2):=rfl;generalize a7P (fb,fl,fr) (cs,(cb1,cb2),(cl1,cl2),cr1,cr2)=k at *
   refine AW.cut ⟨[(2,.ps 3 (eFl.enc (fb,fl,fr))),(5,.val (.int .i64 (b10 (fb,fl,fr) (L.take i)))),(7,.pt 1 nx 0),(8,sL eCk L),(9,.val (.int .i64 L.length)),(10,.val (.int .i64 i))],
    [(1,.box nx 216 7 (eCk.enc (cs,(cb1,cb2),(cl1,cl2),cr1,cr2)))],27,2,nx+1,[]⟩ ?_ ?_
   ·simp only [go_sem];exact a9M
   refine AW.still 7 1 nx 216 7 _ rfl rfl (fun j hj=>match j,hj with|0,_=>rfl|1,_=>rfl|2,_=>rfl|3,_=>rfl|4,_=>rfl|5,_=>rfl|6,_=>rfl) ?_;refine awN hΓ rfl ?_;simp only [go_sem,hcc];refine⟨⟨by omega,by omega,by omega⟩,fun hk=>⟨⟨by omega,by omega⟩,⟨by omega,by omega⟩,⟨(i+1,nx+1),by dsimp only;omega⟩,⟨nLR _,?_,by dsimp only;omega⟩,by dsimp only;omega⟩,fun hk=>⟨⟨by omega,by omega⟩,⟨(i+1,nx+1),by dsimp only;omega⟩,⟨nLR _,?_,by dsimp only;omega⟩,by dsimp only;omega⟩⟩
   ·dsimp only;rw [hsn,if_pos hk];omega
   ·dsimp only;rw [hsn,if_neg hk];omega
  ·obtain rfl:i=L.length:=by omega
   rw [List.take_length]
end
set_option maxHeartbeats 4000000
section
attribute [local irreducible] AW a0h a0H a0c
def lbP (p:Pt):BS×BS×BS:=(p.1,p.2.1,p.2.2.1)
end
set_option maxHeartbeats 2000000
section
attribute [local irreducible] AW a0h a0H a0c
theorem c5U {α:Type} {E:El α} {l:List α} {n s:Nat} {f:Nat->Nat->AV} (hs:s=E.sz) (hn:n=l.length) (h:∀ i,i<n->∀ j,j<s->a0h (f i j) (E.enc (l.getD i E.dflt) j)):a0h (.sn n s f) (sL E l):=by
 subst hs hn;exact a0h.sn h
end
section
theorem a4q (a b:List Pt):a2z (a++b)=a2z a+a2z b:=by simp [a2z]
theorem a3u (p:Pt):a2z [p]=a2X p:=by simp [a2z]
theorem a6L (t:BS):a2X (a0Q t)=t.length:=by
 show t.length+0+0+0+0+0+0=_;omega
theorem b9j (out:List Pt) (p:Pt):a2z (a2p out p)<=a2z out+a2X p:=by
 cases hp:a0n p with
 | false=>rw [a6Y hp,a4q,a3u];exact nLR _
 | true=>
   rcases a30 out p hp with⟨_,e⟩|⟨_,⟨m,q,rfl,hq,e⟩|⟨_,e⟩⟩
   ·rw [e];omega
   ·rw [e,a4q,a4q,a3u,a3u,a6L,lAp];have h1:(txP q).length<=a2X q:=by unfold a2X txP;omega
    have h2:(txP p).length<=a2X p:=by unfold a2X txP;omega
    omega
   ·rw [e,a4q,a3u];exact nLR _
theorem b2v:∀ (l out:List Pt),a2z (l.foldl a2p out)<=a2z out+a2z l
 | [],_=>by simp [a2z]
 | p::l,out=>by
   have h1:=b2v l (a2p out p);have h2:=b9j out p;have h3:a2z (p::l)=a2X p+a2z l:=by simp [a2z]
   rw [List.foldl_cons];omega
theorem b3E (l:List Pt):a2z (ofD l)<=a2z l:=by
 rw [b2A];have:=b2v l [];have e:a2z []=0:=rfl;omega
theorem b5x {d:List Pt} (h:a2z d<=100000000):∀ p∈d,b22 p:=fun p hp=>by
 have:=c3k hp;unfold a2X at this;unfold b22 txP;omega
end
set_option maxHeartbeats 4000000
section
attribute [local irreducible] AW a0h a0H a0c
theorem c3a {α:Type} {E:El α} {l:List α} {j i:Nat} {row:Row} {r:List (Nat×AV×Row)} {st:AS}:a9f j ((i,sL E l,row)::r) st=a9f j r st:=rfl
def a0z (a b c:BS):Fl:=(a0a a,a0a b,a0a c)
end
section
theorem b8y (a5A:Pl):∀ (M:List Pl) (s:List Ck) (t:Pl),(ofK a5A M s t).length<=s.length+2*M.length+1
 | [],s,t=>by
   rw [ofK];split
   ·omega
   ·simp
 | p::M,s,t=>by
   rw [ofK];have h1:=a8v (if p=t then s else s++[btw t p]) p
   have h2:(if p=t then s else s++[btw t p]).length<=s.length+1:=by
    split
    ·omega
    ·simp
   have h3:=b8y a5A M (a08 (if p=t then s else s++[btw t p]) p) (a9z p);simp only [lCo];omega
theorem c5E (f:Fl):(a3X f).length<=2*f.1.length+1/\(a3X f).length<=2*f.2.1.length+1:=by
 have h1:=b8y (f.1.length,f.2.1.length,f.2.2.length) (a2E (a49 f.1 f.2.1) (a49 f.1 f.2.2)) [] (0,0,0);have h2:=a6F _ (a49 f.1 f.2.1) (a49 f.1 f.2.2) (nLR _);have h3:=b00 f.1 f.2.1;unfold a3X d10;simp only [List.length_nil] at h1;omega
def lbN (lb:BS×BS×BS):Nat:=lb.1.length+lb.2.1.length+lb.2.2.length
theorem c8E {f:Fl} (st:Int) (lb:BS×BS×BS) (v:Int) (c:Ck):a2z (a3p f st lb v c)<=(a9j f c).flatten.length+(a2e f c).flatten.length+(a2R f c).flatten.length+lbN lb:=by
 unfold a3p;split
 ·have hh:=a7W st (a2e f c) (a2R f c)
  have e1:∀ a b d:Pt,a2z [a,b,d]=a2X a+a2X b+a2X d:=fun a b d=>by
   rw [show [a,b,d]=[a]++([b]++[d]) from rfl,a4q,a4q,a3u,a3u,a3u];omega
  have e2:=d5F (O:=a2e f c) (u:=(a1s st (a2e f c) (a2R f c)).1) (j:=(a2e f c).length-(a1s st (a2e f c) (a2R f c)).2) (by omega);have e3:=d5F (O:=a2R f c) (u:=(a1s st (a2e f c) (a2R f c)).1) (j:=(a2R f c).length-(a1s st (a2e f c) (a2R f c)).2) (by omega)
  have s5:(if st=0 then [] else (a9j f c).flatten).length<=(a9j f c).flatten.length:=by
   split
   ·exact nZL _
   ·exact nLR _
  have s6:(if st=0 then [] else lb.2.1).length<=lb.2.1.length:=by
   split
   ·exact nZL _
   ·exact nLR _
  unfold a57;rw [e1,a6L,a6L];unfold a2X b03 lbN;dsimp only;simp only [List.length_nil];omega
 ·rw [a3u,a6L];unfold a6d;split
  ·omega
  ·split
   ·omega
   ·split<;>omega
theorem c4d (f:Fl) (st:Int) (lb:BS×BS×BS) (v:Int):a2z ((a3X f).flatMap (a3p f st lb v))<=f.1.flatten.length+f.2.1.flatten.length+f.2.2.flatten.length+(a3X f).length*lbN lb:=by
 have key:∀ L:List Ck,a2z (L.flatMap (a3p f st lb v))<=(L.map (a9j f)).flatten.flatten.length+(L.map (a2e f)).flatten.flatten.length+(L.map (a2R f)).flatten.flatten.length+L.length*lbN lb:=by
  intro L
  induction L with
  | nil=>simp [a2z]
  | cons c L ih=>
    have:=c8E (f:=f) st lb v c;simp only [List.flatMap_cons,a4q,List.map_cons,List.flatten_cons,List.flatten_append,lAp,lCo,Nat.succ_mul];omega
 have:=key (a3X f);rw [d37,d1K,d29] at this;exact this
theorem b0q (f:Fl) (st:Int) (lb:BS×BS×BS) (v:Int):∀ L:List Ck,(L.flatMap (a3p f st lb v)).length<=3*L.length
 | []=>by simp
 | c::L=>by
   have h1:=b0q f st lb v L;have h4:=b0E f st lb v c;rw [List.flatMap_cons,lAp,lCo];omega
def a5Y (w:Int) (a b c:BS):Int:=max w ((a4E [a,b,c]:Nat)+1)
def a68 (a b c:BS) (st:Int) (lb:BS×BS×BS) (v:Int):List Pt:=ofD ((a3X (a0z a b c)).flatMap (a3p (a0z a b c) st lb v))
def okM (a b c:BS):Prop:=(a.length<=3000000/\b.length<=3000000/\c.length<=3000000/\((a0a a).length<=300\/(a0a b).length<=300))\/(a.length<=20000/\b.length<=20000/\c.length<=20000/\((a0a a).length<=4700\/(a0a b).length<=4700))
theorem c0x {a b c:BS} (h:okM a b c):a.length<=3000000/\b.length<=3000000/\c.length<=3000000:=by
 rcases h with⟨h1,h2,h3,_⟩|⟨h1,h2,h3,_⟩
 ·exact⟨h1,h2,h3⟩
 ·exact⟨by omega,by omega,by omega⟩
theorem c0I {d:List Pt} {m w:Int} (h:a59 d m=true) (hw:m<=w):a59 d w=true:=by
 unfold a59 at h ⊢;rw [Bool.and_eq_true,decide_eq_true_eq,decide_eq_true_eq] at h ⊢;exact⟨by omega,fun p hp=>by have:=h.2 p hp;omega⟩
theorem c0L (a b c:BS):a9c (a0z a b c):=⟨a18 _ a (nLR _),a18 _ b (nLR _),a18 _ c (nLR _)⟩
theorem c3q (a b c:BS):shF (a4E [a,b,c]+1) (a0z a b c):=by
 have key:∀ s∈[a,b,c],∀ x∈a0a s,a42 x<a4E [a,b,c]+1:=fun s hs x hx=>by
  have h1:=b9i hx;have h2:=b8q hs;omega
 exact⟨key a (by simp),key b (by simp),key c (by simp)⟩
theorem b6Z (a b c:BS):(a0z a b c).1.flatten=a/\(a0z a b c).2.1.flatten=b/\(a0z a b c).2.2.flatten=c:=⟨a0L a,a0L b,a0L c⟩
theorem a8K {a b c:BS} {n:Nat} (ha:a.length<=n) (hb:b.length<=n) (hc:c.length<=n):a4E [a,b,c]<=n:=by
 refine b2k fun s hs=>b2K fun x hx=>?_
 have h1:=b0V x
 have h2:x.length<=s.length:=by
  have h3:x.length<=(a0a s).flatten.length:=by
   have:=List.sublist_flatten_of_mem hx;exact this.length_le
  rw [a0L] at h3;exact h3
 simp only [List.mem_cons,List.not_mem_nil,or_false] at hs;rcases hs with rfl|rfl|rfl<;>omega
structure d8L (a b c:BS) (w st:Int) (lb:BS×BS×BS) (v:Int):Prop where
 ok:c6L (a0z a b c)
 len:(a3X (a0z a b c)).length<=9401
 sum:a24 ((a3X (a0z a b c)).flatMap (a3p (a0z a b c) st lb v))<=1000000000
 right:a2v (a68 a b c st lb v)=true
 fits:a59 (a68 a b c st lb v) (a5Y w a b c)=true
 wide:a4i (a5Y w a b c)=true
 wle:a5Y w a b c<=3000001
 dlen:(a68 a b c st lb v).length<=28203
 sump:a2z (a68 a b c st lb v)<=40000000
 pr:(a07 (a5Y w a b c) (a68 a b c st lb v)).length<=90000000000
 confl:v=0->a0k (a68 a b c st lb v)=b10 (a0z a b c) (a3X (a0z a b c))
theorem a52 {a b c:BS} (h:okM a b c) {w:Int} (hw:7<=w/\w<=64) (st:Int) {lb:BS×BS×BS} (hl:lbN lb<=3000) (hp:a1i lb=true) (v:Int):d8L a b c w st lb v:=by
 obtain⟨h1,h2,h3⟩:=c0x h;have l1:=a0l a;have l2:=a0l b;have l3:=a0l c;have e1:=c5E (a0z a b c);have e2:(a0z a b c).1.length=(a0a a).length:=rfl;have e3:(a0z a b c).2.1.length=(a0a b).length:=rfl;obtain⟨f1,f2,f3⟩:=b6Z a b c
 have hk2:((a3X (a0z a b c)).length<=601)\/((a3X (a0z a b c)).length<=9401/\a.length<=20000/\b.length<=20000/\c.length<=20000):=by
  rcases h with⟨_,_,_,g⟩|⟨g1,g2,g3,g⟩
  ·exact .inl (by omega)
  ·exact .inr ⟨by omega,g1,g2,g3⟩
 have hk:(a3X (a0z a b c)).length<=9401:=by omega
 have hT:=c5B (a0z a b c) st lb v;have hS:=c4d (a0z a b c) st lb v;have h3':=b0q (a0z a b c) st lb v (a3X (a0z a b c));have hD:=(b3K ((a3X (a0z a b c)).flatMap (a3p (a0z a b c) st lb v))).2;have hE:=b3E ((a3X (a0z a b c)).flatMap (a3p (a0z a b c) st lb v));have hm:(a3X (a0z a b c)).length*lbN lb<=9401*3000:=Nat.mul_le_mul hk hl;rw [f1,f2,f3] at hT hS;have hlT:=a8K h1 h2 h3;have hW:1<=a5Y w a b c/\a5Y w a b c<=3000001:=by unfold a5Y;omega
 have hdl:(a68 a b c st lb v).length<=28203:=by unfold a68;omega
 have hdl2:((a68 a b c st lb v).length<=1803)\/a5Y w a b c<=20001:=by
  rcases hk2 with g|⟨_,g1,g2,g3⟩
  ·exact .inl (by unfold a68;omega)
  ·have:=a8K g1 g2 g3;exact .inr (by unfold a5Y;omega)
 have hsp:a2z (a68 a b c st lb v)<=40000000:=by unfold a68;omega
 have hfit:=c3n (m:=a4E [a,b,c]+1) (Nat.succ_pos _) (c0L a b c) (c3q a b c) (a93 _) (b6d _) (st:=st) (v:=v) hp;refine⟨⟨⟨by omega,?_⟩,⟨by omega,?_⟩,?_,?_⟩,hk,by omega,b8C (c0L a b c) (a93 _) (b6d _) hp,c0I hfit (by unfold a5Y;omega),?_,hW.2,hdl,hsp,?_,fun hv=>?_⟩
 ·rw [f1];omega
 ·rw [f2];omega
 ·show (a0a c).length<=_;omega
 ·rw [f3];omega
 ·rw [a5h];omega
 ·have q1:=a66 (a5Y w a b c) (a68 a b c st lb v)
  have q2:(a68 a b c st lb v).length*(4*(a5Y w a b c).toNat+15)<=1803*(4*3000001+15):=by
   rcases hdl2 with g|g
   ·exact Nat.mul_le_mul g (by omega)
   ·exact Nat.le_trans (Nat.mul_le_mul hdl (show 4*(a5Y w a b c).toNat+15<=80019 by omega)) (by decide)
  omega
 ·subst hv;unfold a68;rw [b1v,b2U]
theorem c34 {a b c:BS} {w st:Int} {lb:BS×BS×BS} {v:Int} (h:d8L a b c w st lb v):printR (a68 a b c st lb v) (a5Y w a b c)=(a07 (a5Y w a b c) (a68 a b c st lb v),0):=by
 unfold printR;rw [if_neg (by rw [h.wide];simp),if_neg (by rw [h.right];simp),if_neg (by rw [h.fits];simp)]
theorem c8h {a b c:BS} {st:Int} {lb:BS×BS×BS} {v:Int} (h1:(a6a st&&a6C v)=true) (h2:a1i lb=true):b6I (a0z a b c) (a3X (a0z a b c)) st lb v=(a68 a b c st lb v,0):=by
 unfold b6I;rw [if_neg (by rw [h1];simp),if_neg (by rw [h2];simp)];rfl
end
set_option maxHeartbeats 2000000
section
attribute [local irreducible] AW a0h a0H a0c
def wAV (x y z:AV):AV:=.ag 3 fun j=>if j=0 then x else if j=1 then y else z
def kW:Kd (List Int×List Int×List Int) where
 enc w:=wAV (sL eI w.1) (sL eI w.2.1) (sL eI w.2.2)
 dec|.ag _ c=>(gL eI (c 0),gL eI (c 1),gL eI (c 2))
     | _=>([],[],[])
 law w:=by simp only [wAV,Nat.one_ne_zero,if_true,if_false,(by decide:(2:Nat)≠0),(by decide:(2:Nat)≠1),a4r]
theorem c5A {a b f:List Int} {c:Nat->AV} (h0:a0h (c 0) (sL eI a)) (h1:a0h (c 1) (sL eI b)) (h2:a0h (c 2) (sL eI f)) (e0:gL eI (c 0)=a) (e1:gL eI (c 1)=b) (e2:gL eI (c 2)=f):kW.ok (.ag 3 c):=by
 subst e0 e1 e2;refine a0h.ag fun j hj=>?_
 match j,hj with
 | 0,_=>exact h0
 | 1,_=>exact h1
 | 2,_=>exact h2
theorem b8G (c:Nat->AV):kW.dec (.ag 3 c)=(gL eI (c 0),gL eI (c 1),gL eI (c 2)):=rfl
def big (n:Int):Prop:=0<=n/\n<1000000000
@[go_sem] def b7f:a0j:=a0j.f3 kI kI kI (fun d n m=>big d/\big n/\big m) (fun d n m=>tu2 (kI.enc (a7G d.toNat m.toNat)) (kI.enc (a2d d.toNat n.toNat)))
theorem b4z:a0b Tryz.prog 221 b7f:=by
 refine a0b.f3 Tryz.func221 rfl (by decide) Tryz.results221 Tryz.ntmps221 (by decide) fun d n m hd=>?_
 have hΓ:=gkN;obtain⟨⟨h1,h2⟩,⟨h3,h4⟩,h5,h6⟩:=hd
 have hl:a7G d.toNat m.toNat=if m<d then -m+(d-m).tmod 2 else -d:=by
  unfold a7G;rw [Int.toNat_of_nonneg h1,Int.toNat_of_nonneg h5]
 have hh:a2d d.toNat n.toNat=if n<d then n-(d-n).tmod 2 else d:=by
  unfold a2d;rw [Int.toNat_of_nonneg h1,Int.toNat_of_nonneg h3]
 have t1:m<d->(d-m).tmod 2=(d-m) % 2:=fun h=>c1A _ (by omega)
 have t2:n<d->(d-n).tmod 2=(d-n) % 2:=fun h=>c1A _ (by omega)
 have b1:m<d->0<=(d-m).tmod 2/\(d-m).tmod 2<=1:=fun h=>by rw [t1 h];omega
 have b2:n<d->0<=(d-n).tmod 2/\(d-n).tmod 2<=1:=fun h=>by rw [t2 h];omega
 rw [hl,hh];refine awN hΓ rfl ?_;simp only [go_sem];clear hl hh t1 t2;generalize (d-m).tmod 2=r1 at *
 generalize (d-n).tmod 2=r2 at *
 refine⟨by omega,fun g1=>?_,fun g1=>?_⟩
 ·have:=b1 g1;simp only [if_pos g1];refine⟨by omega,by omega,by omega,fun g2=>?_,fun g2=>?_⟩
  ·have:=b2 g2;simp only [if_pos g2];exact⟨by omega,by omega,by trivial,by trivial⟩
  ·simp only [if_neg g2];exact⟨by trivial,by trivial⟩
 ·simp only [if_neg g1];refine⟨fun g2=>?_,fun g2=>?_⟩
  ·have:=b2 g2;simp only [if_pos g2];exact⟨by omega,by omega,by trivial,by trivial⟩
  ·simp only [if_neg g2];exact⟨by trivial,by trivial⟩
@[go_sem] def c4b:a0j:=a0j.f2 kW kI (fun w k=>-(w.2.1.length:Int)-1<=k/\k<=w.1.length+1/\w.2.2.length=w.1.length+w.2.1.length+3/\w.2.2.length<1000000000) (fun w k=>kI.enc (rch w.2.1.length w.2.2 k))
theorem b2P:a0b Tryz.prog 223 c4b:=by
 refine a0b.f2 Tryz.func223 rfl (by decide) Tryz.results223 Tryz.ntmps223 (by decide) fun w k hd=>?_
 have hΓ:=gkN;obtain⟨a,b,far⟩:=w;simp only at hd;refine awN hΓ rfl ?_;simp only [go_sem,kW,wAV];exact⟨by omega,by omega,by omega,rfl⟩
def a9D (far:List Int):Prop:=∀ y∈far,-1<=y/\y<1000000000
theorem a8P (l r:List Int):gL eI (.sn l.length 1 fun i=>eI.enc ((l++r).getD i 0))=l:=by
 unfold gL;simp only [eI.law];apply List.ext_getElem
 ·simp
 ·intro i h1 h2;simp [List.getD,List.getElem?_append_left h2,List.getElem?_eq_getElem h2]
theorem b0Z (l r:List Int):a0h (.sn l.length 1 fun i=>eI.enc ((l++r).getD i 0)) (sL eI l):=
 c6i (E:=eI) rfl rfl (by simp) (by simp)
def b2F:a0p:=fun args hp top nx K=>∃ a b far rest k ver x far',args=[wAV (sL eI a) (sL eI b) (.ow 0 ver far.length),kI.enc k]/\hp=rws [(0,a0G ver 3 eI (far++rest))]/\top=1/\
 a9D far/\a.length<100000000/\b.length<100000000/\c2o a b far k=some (x,far')/\∀ hp' top' nx',a0c (hp' 0) (a0G ver 3 eI (far'++rest))->nx<=nx'->K (kI.enc x) hp' top' nx'
theorem b7K:a0f Tryz.prog 222 b2F:=by
 refine a0f.mk Tryz.func222 rfl (by decide) Tryz.results222 Tryz.ntmps222 ?_;rintro args hp top nx K ⟨a,b,far,rest,k,ver,x,far',rfl,rfl,rfl,hfar,ha,hb,hadv,hK⟩;have hΓ:=gkC b2P gkN;refine⟨Nat.le_of_ble_eq_true rfl,?_⟩;unfold c2o at hadv;split at hadv
 ·rename_i hc;obtain⟨c1,c2,c3,c4,c5⟩:=hc
  have hr:∀ j:Int,-(b.length:Int)-1<=j->j<=a.length+1->-1<=rch b.length far j/\rch b.length far j<1000000000:=fun j h1 h2=>by
   unfold rch;rw [a0F _ _ (by omega)];exact hfar _ (List.getElem_mem _)
  have hu:=hr (k-1) (by omega) (by omega);have hv:=hr (k+1) (by omega) (by omega);have hs:a0S a b (rch b.length far (k-1)) (rch b.length far (k+1)) k=min (min (max (rch b.length far (k-1)+1) (rch b.length far (k+1))) ↑a.length) (↑b.length+k):=rfl;simp only [oSI,pMI] at hadv;obtain⟨hx,hfar'⟩:=hadv;generalize hsg:a0S a b (rch b.length far (k-1)) (rch b.length far (k+1)) k=s at *
  have s1:s<=a.length:=by omega
  have s2:s<=b.length+k:=by omega
  have hal:=a5B (a.drop s.toNat) (b.drop (s-k).toNat);have has:=a26 0 (a.drop s.toNat) (b.drop (s-k).toNat);simp only [List.length_drop,a11] at hal has;refine awZ hΓ rfl ?_;simp only [go_sem,b8G,wAV,a4r,a8P];refine⟨by omega,⟨by omega,c5A (a:=a) (b:=b) (f:=far)  avR   avR  (b0Z far rest) (a4r _ _) (a4r _ _) (a8P far rest),by omega,by omega,by omega,by omega⟩,by omega,by omega,⟨by omega,c5A (a:=a) (b:=b) (f:=far)  avR   avR  (b0Z far rest) (a4r _ _) (a4r _ _) (a8P far rest),by omega,by omega,by omega,by omega⟩,by omega,?_⟩;rw [<-hs]
  refine AW.round (α:={ i:Nat // i<=ahd (a.drop s.toNat) (b.drop (s-k).toNat) })
   (fun i=>⟨[(1,.val (.int .i64 k)),(2,.pt 1 nx 0),(5,.val (.int .i64 (s+i.1)))],[(0,a0G ver 3 eI (far++rest)),(1,.box nx 265 3 fun j=>if j=0 then sL eI a else if j=1 then sL eI b else .ow 0 ver far.length)],68,2,nx+1,[]⟩) (fun i=>a.length-i.1) ⟨0,nZL _⟩ ?_ ?_
  ·simp only [go_sem];exact⟨by omega,rlR,rlR⟩
  ·rintro⟨i,hi⟩;refine awN hΓ rfl ?_;simp only [go_sem];have t1:(s+i).toNat=s.toNat+i:=by omega
   have t2:(s+i-k).toNat=(s-k).toNat+i:=by omega
   refine⟨fun _=>by omega,fun h=>by omega,fun _=>by omega,fun h=>by omega,fun⟨⟨h1,h2⟩,h3⟩=>⟨by omega,⟨i+1,?_⟩,⟨by dsimp only;omega,rlR,rlR⟩,by dsimp only;omega⟩,fun hno=>⟨by omega,by omega,by omega,by omega,?_⟩⟩
   ·rcases Nat.lt_or_ge i (ahd (a.drop s.toNat) (b.drop (s-k).toNat)) with g|g
    ·exact g
    ·have e:ahd (a.drop s.toNat) (b.drop (s-k).toNat)=i:=by omega
     rw [e] at has;rw [t1,t2] at h3;exact absurd h3 (has.2 (by omega) (by omega))
   ·have e:s+(i:Int)=x:=by
     rcases Nat.lt_or_ge i (ahd (a.drop s.toNat) (b.drop (s-k).toNat)) with g|g
     ·refine absurd ?_ (hno ⟨by omega,by omega⟩);rw [t1,t2];exact has.1 i g
     ·omega
    rw [e];refine hK _ _ _ ?_ (by omega);exact b1I (E:=eI) rfl (by rw [<-hfar',hx,List.set_append_left _ _ (by omega)]) (by simp) (by simp) (fun _ _=>avR)
 ·cases hadv
theorem b7j (far:List Int) {i:Nat} (h:i<far.length):a1q (i+1)++far.drop (i+1)=(a1q i++far.drop i).set i (-1):=by
 rw [List.set_append_right _ _ (by simp [a1q]),List.drop_eq_getElem_cons h,show i-(a1q i).length=0 by simp [a1q]];simp only [a1q,List.replicate_succ',List.append_assoc,List.set_cons_zero,List.cons_append,List.nil_append]
def b3g:a0p:=fun args hp top nx K=>∃ a b far ver,args=[sL eI a,sL eI b,.ow 0 ver far.length]/\hp=rws [(0,a0G ver 3 eI far)]/\top=1/\
 a.length<100000000/\b.length<100000000/\a.length+b.length+3<=far.length/\far.length<1000000000/\
 ∀ r hp' top' nx',a0h r (wAV (sL eI a) (sL eI b) (.ow 0 ver (a.length+b.length+3)))->a0c (hp' 0) (a0G ver 3 eI (a1q (a.length+b.length+3)++far.drop (a.length+b.length+3)))->nx<=nx'->K r hp' top' nx'
theorem b7w:a0f Tryz.prog 220 b3g:=by
 refine a0f.mk Tryz.func220 rfl (by decide) Tryz.results220 Tryz.ntmps220 ?_;rintro args hp top nx K ⟨a,b,far,ver,rfl,rfl,rfl,ha,hb,hf,hl,hK⟩;have hΓ:=gkN;refine⟨Nat.le_of_ble_eq_true rfl,?_⟩;refine awZ hΓ rfl ?_;simp only [go_sem];have en:((a.length:Int)+b.length+3).toNat=a.length+b.length+3:=by omega
 have ez:∀ i,i<=a.length+b.length+3->(a1q i++far.drop i).length=far.length:=fun i hi=>by simp [a1q];omega
 rw [en];refine⟨by omega,by omega,by omega,?_⟩
 refine AW.round (α:={ i:Nat // i<=a.length+b.length+3 })
  (fun i=>⟨[(0,sL eI a),(1,sL eI b),(6,.pt 1 nx 0),(7,.ow 0 ver (a.length+b.length+3)),(18,.val (.int .i64 (a.length+b.length+3:Nat))),(19,.val (.int .i64 i.1))],[(0,a0G ver 3 eI (a1q i.1++far.drop i.1)),(1,.box nx 265 3 (zC [Value.slice none 0 0,Value.slice none 0 0,Value.slice none 0 0]))],30,2,nx+1,[]⟩) (fun i=>a.length+b.length+3-i.1) ⟨0,nZL _⟩ ?_ ?_
 ·simp only [go_sem];exact⟨a0c.sl (by simp [a1q]) fun i hi j hj=>a0h.of_eq (by simp [a1q]),rlR⟩
 ·rintro⟨i,hi⟩;refine awN hΓ rfl ?_;simp only [go_sem];refine⟨fun hlt=>⟨by omega,by simp [a1q];omega,by omega,⟨i+1,by omega⟩,⟨by dsimp only;omega,?_,rlR⟩,by dsimp only;omega⟩,fun hge=>?_⟩
  ·exact b1I (E:=eI) (l:=a1q i++far.drop i) rfl (b7j far (by omega)) (by simp) (by simp) (fun _ _=>avR)
  ·have hn:i=a.length+b.length+3:=by omega
   subst hn;refine hK _ _ _ _ ?_ ?_ (by omega)
   ·refine a0h.ag fun j hj=>?_
    match j,hj with
    | 0,_=>exact avR
    | 1,_=>exact avR
    | 2,_=>exact avR
   ·show a0c (Row.sl ver 3 1 ((a1q (a.length+b.length+3)).length+(far.length-(a.length+b.length+3))) fun i=>eI.enc ((a1q (a.length+b.length+3)++far.drop (a.length+b.length+3)).getD i 0)) _;exact a0c.sl (by simp) fun _ _ _ _=>avR
@[go_sem] def b6j:a0p:=a0U b3g
theorem b88:a0f Tryz.prog 220 b6j:=b7w.frame
theorem a9U {a b far:List Int} {ver p n:Nat} {x y:AV} {hp:Nat->Row} {top nx:Nat} {K:AV->(Nat->Row)->Nat->Nat->Prop} (hx:a0h x (sL eI a)) (hy:a0h y (sL eI b)) (hn:n=far.length) (hr:a0c (hp p) (a0G ver 3 eI far)) (hp0:p<top)
  (ha:a.length<100000000) (hb:b.length<100000000) (hf:a.length+b.length+3<=far.length) (hl:far.length<1000000000)
  (hK:∀ nx',nx<=nx'->K (wAV (sL eI a) (sL eI b) (.ow p ver (a.length+b.length+3))) (a0y hp p (a0G ver 3 eI (a1q (a.length+b.length+3)++far.drop (a.length+b.length+3)))) top nx') :
  b6j [x,y,.ow p ver n] hp top nx K:=by
 subst hn;have hver:(hp p).ver=some ver:=hr.vers.symm;refine⟨[p],[sL eI a,sL eI b,.ow 0 ver far.length],rws [(0,a0G ver 3 eI far)],by simp,by simpa using hp0,.cons hx (.cons hy (.cons a0h.ow .nil)),a7a hr,fun i hi=>a1b (top:=1) (by simp) i (by simpa using hi),a,b,far,ver,rfl,rfl,rfl,ha,hb,hf,hl,fun r hp' top' nx' h1 h2 h3=>?_⟩;refine⟨wAV (sL eI a) (sL eI b) (.ow p ver (a.length+b.length+3)),a0y hp p (a0G ver 3 eI (a1q (a.length+b.length+3)++far.drop (a.length+b.length+3))),h1.trans ?_,fun i q hq=>?_,fun q hq=>?_,fun q hq v hv=>?_,hK nx' h3⟩
 ·refine a0h.ag fun j hj=>?_
  match j,hj with
  | 0,_=>exact avR
  | 1,_=>exact avR
  | 2,_=>exact a0h.ow
 ·cases i with
  | zero=>
    simp only [gCZ,oSI] at hq;subst hq;rw [a0g];exact h2
  | succ i=>simp at hq
 ·rw [a0d _ _ (by simpa using hq)]
 ·simp only [List.mem_singleton] at hq;subst hq;rw [a0g] at hv;exact .inl (hver.trans hv)
@[go_sem] def b5a:a0p:=a0U b2F
theorem b95:a0f Tryz.prog 222 b5a:=b7K.frame
theorem b0j {a b far far' rest:List Int} {k x:Int} {ver p:Nat} {w:AV} {hp:Nat->Row} {top nx:Nat} {K:AV->(Nat->Row)->Nat->Nat->Prop} (hw:a0h w (wAV (sL eI a) (sL eI b) (.ow p ver far.length))) (hr:a0c (hp p) (a0G ver 3 eI (far++rest))) (hp0:p<top)
  (hfar:a9D far) (ha:a.length<100000000) (hb:b.length<100000000) (hadv:c2o a b far k=some (x,far'))
  (hK:∀ nx',nx<=nx'->K (kI.enc x) (a0y hp p (a0G ver 3 eI (far'++rest))) top nx'):b5a [w,kI.enc k] hp top nx K:=by
 have hver:(hp p).ver=some ver:=hr.vers.symm;refine⟨[p],[wAV (sL eI a) (sL eI b) (.ow 0 ver far.length),kI.enc k],rws [(0,a0G ver 3 eI (far++rest))],by simp,by simpa using hp0,.cons (hw.trans ?_) (.cons  avR  .nil),a7a hr,fun i hi=>a1b (top:=1) (by simp) i (by simpa using hi),a,b,far,rest,k,ver,x,far',rfl,rfl,rfl,hfar,ha,hb,hadv,fun hp' top' nx' h2 h3=>?_⟩
 ·refine a0h.ag fun j hj=>?_
  match j,hj with
  | 0,_=>exact avR
  | 1,_=>exact avR
  | 2,_=>exact a0h.ow
 refine⟨kI.enc x,a0y hp p (a0G ver 3 eI (far'++rest)),avR,fun i q hq=>?_,fun q hq=>?_,fun q hq v hv=>?_,hK nx' h3⟩
 ·cases i with
  | zero=>
    simp only [gCZ,oSI] at hq;subst hq;rw [a0g];exact h2
  | succ i=>simp at hq
 ·rw [a0d _ _ (by simpa using hq)]
 ·simp only [List.mem_singleton] at hq;subst hq;rw [a0g] at hv;exact .inl (hver.trans hv)
end
section
def a0T (l:List Int) (i j:Nat):List Int:=(l.drop i).take (j-i)
theorem a1P {l:List Int} {i j:Nat} (h:j<=l.length):(a0T l i j).length=j-i:=by
 simp only [a0T,List.length_take,List.length_drop];omega
theorem b2g {l:List Int} {i j:Nat} (h1:i<=j) (h:j<=l.length):a0T l.reverse (l.length-j) (l.length-i)=(a0T l i j).reverse:=by
 refine a03 0 (by rw [a1P (by simp),List.length_reverse,a1P h];omega) fun k hk=>?_
 rw [a1P (by simp)] at hk;have h1:k<(l.drop i).length:=by simp;omega
 unfold a0T;simp only [List.getD];rw [List.getElem?_take,if_pos (by omega),List.getElem?_drop,List.getElem?_reverse (by omega),List.getElem?_reverse (by simp;omega),List.getElem?_take,if_pos (by simp;omega),List.getElem?_drop]
 congr 2
 have h2:(List.take (j-i) (List.drop i l)).length=j-i:=by simp;omega
 omega
theorem a48 {l:List Int} {i j k:Nat}:(a0T l i j).drop k=a0T l (i+k) j:=by
 unfold a0T;rw [List.drop_take,List.drop_drop,Nat.sub_sub]
theorem a5m {l:List Int} {i j k:Nat} (h:i+k<=j):(a0T l i j).take k=a0T l i (i+k):=by
 unfold a0T;rw [List.take_take]
 congr 1
 omega
theorem b2t (l:List Int):a0T l 0 l.length=l:=by
 unfold a0T;simp
def a2q (a b:List Int):List (Int×Int):=a6B (a.length+b.length+1) a b
theorem b9n {a b:List Int} {f:Nat} (h:a.length+b.length<f):a6B f a b=a2q a b:=(a3L (a.length+b.length+1) a b (by omega)).2.2 f h
theorem a8L (a b:List Int):(a2q a b).length=a3t a b:=(a3L (a.length+b.length+1) a b (by omega)).2.1
theorem b7I {a b:List Int} (h:¬((a4C a b).length≠0/\(a1H a b).length≠0)):a2q a b=prs 0 0 (ahd a b)++prs ((a.length:Int)-bh a b) ((b.length:Int)-bh a b) (bh a b):=by
 unfold a2q;rw [a5c,b7J,if_neg h];rfl
theorem b6G {a b:List Int} (h1:(a4C a b).length≠0) (h2:(a1H a b).length≠0):∃ p q:Nat,cutF (a4C a b) (a1H a b)=some ((p:Int),(q:Int))/\p<=(a4C a b).length/\q<=(a1H a b).length/\0<p+q/\p+q<(a4C a b).length+(a1H a b).length/\
  a2q a b=prs 0 0 (ahd a b)++((shP (ahd a b) (ahd a b) (a2q ((a4C a b).take p) ((a1H a b).take q))++shP (ahd a b+p) (ahd a b+q) (a2q ((a4C a b).drop p) ((a1H a b).drop q)))++prs ((a.length:Int)-bh a b) ((b.length:Int)-bh a b) (bh a b)):=by
 have hb:=a9A (a:=a) (b:=b);have hl:=a78 (a:=a) (b:=b);obtain⟨p,q,e,p1,q1,g1,g2,g3⟩:=b56 h1 h2 (a8V h1 h2).1 (a8V h1 h2).2;refine⟨p,q,e,p1,q1,g1,g2,?_⟩;rw [a2q,a5c,b7J,if_pos ⟨h1,h2⟩,e];simp only [Int.toNat_natCast];rw [b9n (by simp only [List.length_take];omega),b9n (by simp only [List.length_drop];omega)]
end
section
attribute [local irreducible] AW a0h a0H a0c
def fAV (a b:List Int) (u v z:AV):Nat->AV
 | 0=>sL eI a
 | 1=>sL eI b
 | 2=>sL eI a.reverse
 | 3=>sL eI b.reverse
 | 4=>u
 | 5=>v
 | _=>z
section
variable (a b:List Int) (u v z:AV)
theorem c3P:fAV a b u v z 0=sL eI a:=rfl
theorem c2G:fAV a b u v z 1=sL eI b:=rfl
theorem c9j:fAV a b u v z 2=sL eI a.reverse:=rfl
theorem c9r:fAV a b u v z 3=sL eI b.reverse:=rfl
theorem c7B:fAV a b u v z 4=u:=rfl
theorem c9d:fAV a b u v z 5=v:=rfl
theorem b7s:fAV a b u v z 6=z:=rfl
end
theorem b2Q {a b far far':List Int} {k x:Int} (h:c2o a b far k=some (x,far')) (hf:a9D far):far'.length=far.length/\(a.length<1000000000->a9D far')/\0<=x/\x<=a.length/\k<=x/\x-k<=b.length/\-(b.length:Int)<=k/\k<=a.length:=by
 unfold c2o at h;split at h
 ·rename_i hc;obtain⟨c1,c2,c3,c4,c5⟩:=hc;have hs:a0S a b (rch b.length far (k-1)) (rch b.length far (k+1)) k=min (min (max (rch b.length far (k-1)+1) (rch b.length far (k+1))) ↑a.length) (↑b.length+k):=rfl;simp only [oSI,pMI] at h;obtain⟨hx,hfar'⟩:=h;generalize a0S a b (rch b.length far (k-1)) (rch b.length far (k+1)) k=s at *
  have hal:=a5B (a.drop s.toNat) (b.drop (s-k).toNat);simp only [List.length_drop] at hal;rw [hx] at hfar';subst hfar';refine⟨by simp,fun hl y hy=>?_,by omega,by omega,by omega,by omega,c3,c4⟩;rcases List.mem_or_eq_of_mem_set hy with hy|rfl
  ·exact hf y hy
  ·omega
 ·cases h
theorem c5X {far:List Int} {n m:Nat} {j:Int} (h:a9D far) (hl:far.length=n+m+3) (h1:-(m:Int)-1<=j) (h2:j<=n+1):-1<=rch m far j/\rch m far j<1000000000:=by
 unfold rch;rw [a0F _ _ (by omega)];exact h _ (List.getElem_mem _)
theorem a6X {v t n:Nat} {l:List Int} (h:n=l.length):a0c (.sl v t 1 n fun i=>eI.enc (l.getD i 0)) (a0G v t eI l):=by
 subst h;exact rlR
theorem a82 (n:Nat):a9D (a1q n):=fun y hy=>by
 have:=(List.mem_replicate.1 hy).2;omega
def b6f:a0p:=fun args hp top nx K=>∃ a b f1 f2 z fv v1 v2 fa ta fb tb p q,args=[.pt 0 fv 0,kI.enc (fa:Nat),kI.enc (ta:Nat),kI.enc (fb:Nat),kI.enc (tb:Nat)]/\
 hp=rws [(0,.box fv 198 7 (fAV a b (.ow 1 v1 f1.length) (.ow 2 v2 f2.length) z)),(1,a0G v1 3 eI f1),(2,a0G v2 3 eI f2)]/\top=3/\
 fa<=ta/\ta<=a.length/\fb<=tb/\tb<=b.length/\a.length<100000000/\b.length<100000000/\a.length+b.length+3<=f1.length/\a.length+b.length+3<=f2.length/\f1.length<1000000000/\f2.length<1000000000/\
 cutF (a0T a fa ta) (a0T b fb tb)=some (p,q)/\
 ∀ g1 g2 hp' top' nx',g1.length=f1.length->g2.length=f2.length->a0c (hp' 0) (.box fv 198 7 (fAV a b (.ow 1 v1 f1.length) (.ow 2 v2 f2.length) z))->a0c (hp' 1) (a0G v1 3 eI g1)->a0c (hp' 2) (a0G v2 3 eI g2)->nx<=nx'->
  K (tu2 (kI.enc p) (kI.enc q)) hp' top' nx'
theorem b8J:a0f Tryz.prog 189 b6f:=by
 refine a0f.mk Tryz.func189 rfl (by decide) Tryz.results189 Tryz.ntmps189 ?_;rintro args hp top nx K ⟨a,b,f1,f2,z,fv,v1,v2,fa,ta,fb,tb,p,q,rfl,rfl,rfl,hfa,hta,hfb,htb,ha,hb,hr1,hr2,hl1,hl2,hcut,hK⟩;have hΓ:=gkM b88 (gkM b95 (gkC b2P (gkC b4z gkN)));refine⟨Nat.le_of_ble_eq_true rfl,?_⟩;refine awL hΓ [200002,200003] rfl ?_;simp only [go_sem,c3P,c2G,c9j,c9r,c7B,c9d,b7s];refine⟨by omega,by omega,?_⟩;refine AW.drawT hΓ mixed 18 [19] (by decide +kernel) ?_;simp only [go_sem,c3P,c2G,c9j,c9r,c7B,c9d,b7s];have lA:(a0T a fa ta).length=ta-fa:=a1P hta;have lB:(a0T b fb tb).length=tb-fb:=a1P htb;refine⟨by omega,by omega,a9U (a:=a0T a fa ta) (b:=a0T b fb tb) (far:=f1) (b51 eI a (by omega)) (b51 eI b (by omega)) rfl ?_ (by decide) (by omega) (by omega) (by omega) (by omega) fun n1 hn1=>?_⟩
 ·exact rlR
 simp only [go_sem,a0W,wAV];refine AW.drawT hΓ mixed 42 [43] (by decide +kernel) ?_;simp only [go_sem,c3P,c2G,c9j,c9r,c7B,c9d,b7s];have hAe:(ta:Int)-fa=((a0T a fa ta).length:Int):=by omega
 have hBe:(tb:Int)-fb=((a0T b fb tb).length:Int):=by omega
 have hAr:=b2g hfa hta;have hBr:=b2g hfb htb;have t1:((a.length:Int)-ta).toNat=a.length-ta:=by omega
 have t2:((a.length:Int)-fa).toNat=a.length-fa:=by omega
 have t3:((b.length:Int)-tb).toNat=b.length-tb:=by omega
 have t4:((b.length:Int)-fb).toNat=b.length-fb:=by omega
 have l1:a.reverse.length=a.length:=List.length_reverse;have l2:b.reverse.length=b.length:=List.length_reverse;rw [t1,t2,t3,t4];refine⟨by omega,by omega,by omega,by omega,by omega,by omega,a9U (a:=(a0T a fa ta).reverse) (b:=(a0T b fb tb).reverse) (far:=f2) ?_ ?_ rfl ?_ (by decide) (by simp;omega) (by simp;omega) (by simp;omega) (by omega) fun n2 hn2=>?_⟩
 ·rw [<-hAr];exact b51 eI a.reverse (by omega)
 ·rw [<-hBr];exact b51 eI b.reverse (by omega)
 ·exact rlR
 generalize a0T a fa ta=A at *
 generalize a0T b fb tb=B at *
 simp only [go_sem,a0W,wAV,hAe,hBe,a00];have hod:decide (¬((A.length:Int)-B.length).tmod 2=0)=a9v A.length B.length:=rfl;rw [hod];refine⟨by omega,?_⟩;obtain⟨N,hN⟩:∃ N,A.length+B.length+3=N:=⟨_,rfl⟩;unfold cutF at hcut;rw [hN] at hcut ⊢
 refine AW.round (α:={ x:Nat×List Int×List Int×Nat // c6h A B (A.length+B.length+1-x.1) x.1 x.2.1 x.2.2.1=some (p,q)/\x.2.1.length=N/\x.2.2.1.length=N/\a9D x.2.1/\a9D x.2.2.1/\n2<=x.2.2.2 })
  (fun x=>⟨[(12,.val (.int .i64 A.length)),(13,.val (.int .i64 B.length)),(14,.pt 3 nx 0),(15,.pt 4 n1 0),(16,.val (.bool (a9v A.length B.length))),(17,.val (.int .i64 x.1.1))],
   [(0,.box fv 198 7 (fAV a b (.ow 1 v1 f1.length) (.ow 2 v2 f2.length) z)),(1,a0G v1 3 eI (x.1.2.1++f1.drop N)),(2,a0G v2 3 eI (x.1.2.2.1++f2.drop N)),
    (3,.box nx 265 3 fun j=>if j=0 then sL eI A else if j=1 then sL eI B else .ow 1 v1 N),(4,.box n1 265 3 fun j=>if j=0 then sL eI A.reverse else if j=1 then sL eI B.reverse else .ow 2 v2 N)],165,5,x.1.2.2.2,[]⟩)
  (fun x=>A.length+B.length+1-x.1.1) ⟨(0,a1q N,a1q N,n2),hcut,by simp [a1q],by simp [a1q],a82 N,a82 N,nLR _⟩ ?_ ?_
 ·simp only [go_sem];exact⟨rlR,rlR,rlR,a9M,a9M⟩
 ·rintro⟨⟨d,F1,F2,n3⟩,hmid,hF1,hF2,ho1,ho2,hn3⟩;simp only at hmid hF1 hF2 ho1 ho2 hn3;refine awZ hΓ rfl ?_;simp only [go_sem,Int.toNat_natCast];have hl:=a3T d B.length;have hh:=a3Z d A.length
  have hf:∃ f,A.length+B.length+1-d=f+1:=by
   cases h0:A.length+B.length+1-d with
   | zero=>rw [h0] at hmid;cases hmid
   | succ f=>exact⟨f,rfl⟩
  obtain⟨f,hf⟩:=hf;rw [hf,c6h,hN] at hmid;generalize hR:a4s A B (a9v A.length B.length) F2 (a2d d A.length) N (a7G d B.length) F1=R at hmid;have hRn:R≠none:=by rintro rfl;cases hmid
  refine⟨⟨⟨by omega,by omega⟩,⟨by omega,by omega⟩,by omega,by omega⟩,?_⟩;have gF2:=a8P F2 (f2.drop N);have pF2:=b0Z F2 (f2.drop N);rw [hF2] at gF2 pF2
  refine AW.round (α:={ x:Nat×Int×List Int×Nat // a4s A B (a9v A.length B.length) F2 (a2d d A.length) x.1 x.2.1 x.2.2.1=R/\-(B.length:Int)<=x.2.1/\x.2.2.1.length=N/\a9D x.2.2.1/\n2<=x.2.2.2 })
   (fun x=>⟨[(12,.val (.int .i64 A.length)),(13,.val (.int .i64 B.length)),(14,.pt 3 nx 0),(15,.pt 4 n1 0),(16,.val (.bool (a9v A.length B.length))),(17,.val (.int .i64 d)),(18,.val (.int .i64 (a7G d B.length))),(19,.val (.int .i64 (a2d d A.length))),(20,.val (.int .i64 x.1.2.1))],
    [(0,.box fv 198 7 (fAV a b (.ow 1 v1 f1.length) (.ow 2 v2 f2.length) z)),(1,a0G v1 3 eI (x.1.2.2.1++f1.drop N)),(2,a0G v2 3 eI (F2++f2.drop N)),
     (3,.box nx 265 3 fun j=>if j=0 then sL eI A else if j=1 then sL eI B else .ow 1 v1 N),(4,.box n1 265 3 fun j=>if j=0 then sL eI A.reverse else if j=1 then sL eI B.reverse else .ow 2 v2 N)],165,5,x.1.2.2.2,[]⟩)
   (fun x=>x.1.1) ⟨(N,a7G d B.length,F1,n3),hR,hl.2.1,hF1,ho1,hn3⟩ ?_ ?_
  ·simp only [go_sem];exact⟨rlR,rlR,rlR,rlR,rlR⟩
  ·rintro⟨⟨g,k,F,n4⟩,hs,hk0,hF,hoF,hn4⟩;simp only at hs hk0 hF hoF hn4;by_cases hkh:k<=a2d d A.length
   ·cases g with
    | zero=>exact absurd hs.symm hRn
    | succ g=>
      rw [a4s,if_pos hkh] at hs;cases hadv:c2o A B F k with
      | none=>rw [hadv] at hs;exact absurd hs.symm hRn
      | some xf=>
        obtain⟨x,F'⟩:=xf;rw [hadv] at hs;simp only at hs;have af:=b2Q hadv hoF;have hrc:=c5X (far:=F2) (n:=A.length) (m:=B.length) (j:=A.length-B.length-k) ho2 (by omega) (by omega) (by omega);refine awL hΓ [11] rfl ?_;simp only [go_sem,hkh];refine b0j (far:=F) (far':=F') (x:=x) (rest:=f1.drop N) (p:=1) (by rw [hF];exact avR) (a6X (by simp)) (by decide) hoF (by omega) (by omega) hadv fun n5 hn5=>?_
        simp only [go_sem];refine awN hΓ rfl ?_;simp only [go_sem,b8G,a4r,gF2,a00,hF2];have hmeet:a9v A.length B.length=true/\(A.length:Int)<=x+rch B.length F2 (A.length-B.length-k)\/¬(a9v A.length B.length=true/\(A.length:Int)<=x+rch B.length F2 (A.length-B.length-k)):=Classical.em _;refine⟨fun _=>by omega,fun _=>by omega,fun _=>⟨by omega,c5A (a:=A.reverse) (b:=B.reverse) (f:=F2)  avR   avR  pF2 (a4r _ _) (a4r _ _) gF2,by omega,by omega,by omega,by omega⟩,fun _=>by omega,fun hm=>⟨by omega,?_⟩,fun hm=>⟨by omega,⟨(g,k+2,F',n5),?_,by dsimp only;omega,by dsimp only;omega,af.2.1 (by omega),by dsimp only;omega⟩,⟨nLR _,rfl,rlR,rlR,rlR,rlR,rlR⟩,Nat.lt_succ_self _⟩⟩
        ·rw [if_pos hm] at hs;subst hs;simp only [oSI,pMI] at hmid;obtain⟨e1,e2⟩:=hmid;rw [e2,e1];exact hK (F'++f1.drop N) (F2++f2.drop N) _ _ _ (by simp;omega) (by simp;omega)  rlR  (a6X (by simp)) (a6X (by simp;omega)) (by omega)
        ·rw [if_neg (fun h=>hm h.1 h.2)] at hs;exact hs
   ·cases g with
    | zero=>exact absurd hs.symm hRn
    | succ g=>
      rw [a4s,if_neg hkh] at hs;subst hs;simp only at hmid;refine awZ hΓ rfl ?_;simp only [go_sem,hkh];generalize hR2:a4s A.reverse B.reverse (!a9v A.length B.length) F (a2d d A.length) N (a7G d B.length) F2=R2 at hmid;have hRn2:R2≠none:=by rintro rfl;cases hmid
      have gF:=a8P F (f1.drop N);have pF:=b0Z F (f1.drop N);rw [hF] at gF pF
      refine AW.round (α:={ x:Nat×Int×List Int×Nat // a4s A.reverse B.reverse (!a9v A.length B.length) F (a2d d A.length) x.1 x.2.1 x.2.2.1=R2/\-(B.length:Int)<=x.2.1/\x.2.2.1.length=N/\a9D x.2.2.1/\n2<=x.2.2.2 })
       (fun x=>⟨[(12,.val (.int .i64 A.length)),(13,.val (.int .i64 B.length)),(14,.pt 3 nx 0),(15,.pt 4 n1 0),(16,.val (.bool (a9v A.length B.length))),(17,.val (.int .i64 d)),(19,.val (.int .i64 (a2d d A.length))),(22,.val (.int .i64 x.1.2.1))],
        [(0,.box fv 198 7 (fAV a b (.ow 1 v1 f1.length) (.ow 2 v2 f2.length) z)),(1,a0G v1 3 eI (F++f1.drop N)),(2,a0G v2 3 eI (x.1.2.2.1++f2.drop N)),
         (3,.box nx 265 3 fun j=>if j=0 then sL eI A else if j=1 then sL eI B else .ow 1 v1 N),(4,.box n1 265 3 fun j=>if j=0 then sL eI A.reverse else if j=1 then sL eI B.reverse else .ow 2 v2 N)],165,5,x.1.2.2.2,[]⟩)
       (fun x=>x.1.1) ⟨(N,a7G d B.length,F2,n4),hR2,hl.2.1,hF2,ho2,hn4⟩ ?_ ?_
      ·simp only [go_sem];exact⟨rlR,rlR,rlR,rlR,rlR⟩
      ·rintro⟨⟨h,k2,G,n5⟩,hs,hk0,hG,hoG,hn5⟩;simp only at hs hk0 hG hoG hn5;by_cases hkh:k2<=a2d d A.length
       ·cases h with
        | zero=>exact absurd hs.symm hRn2
        | succ h=>
          rw [a4s,if_pos hkh] at hs;cases hadv:c2o A.reverse B.reverse G k2 with
          | none=>rw [hadv] at hs;exact absurd hs.symm hRn2
          | some xf=>
            obtain⟨x,G'⟩:=xf;rw [hadv] at hs;simp only [a00] at hs;have af:=b2Q hadv hoG;simp only [a00] at af;have hrc:=c5X (far:=F) (n:=A.length) (m:=B.length) (j:=A.length-B.length-k2) hoF (by omega) (by omega) (by omega);refine awL hΓ [17] rfl ?_;simp only [go_sem,hkh];refine b0j (far:=G) (far':=G') (x:=x) (rest:=f2.drop N) (p:=2) (by rw [hG];exact avR) (a6X (by simp)) (by decide) hoG (by simp;omega) (by simp;omega) hadv fun n6 hn6=>?_
            simp only [go_sem];refine awN hΓ rfl ?_;simp only [go_sem,b8G,a4r,gF,a00,hF];refine⟨fun _=>by omega,fun _=>by omega,fun _=>⟨by omega,c5A (a:=A) (b:=B) (f:=F)  avR   avR  pF (a4r _ _) (a4r _ _) gF,by omega,by omega,by omega,by omega⟩,fun _=>by omega,fun hm=>?_,fun hm=>⟨by omega,⟨(h,k2+2,G',n6),?_,by dsimp only;omega,by dsimp only;omega,af.2.1 (by omega),by dsimp only;omega⟩,⟨nLR _,rfl,rlR,rlR,rlR,rlR,rlR⟩,Nat.lt_succ_self _⟩⟩
            ·rw [if_pos ⟨by simp [hm.1],hm.2⟩] at hs;subst hs;simp only [oSI,pMI] at hmid;obtain⟨e1,e2⟩:=hmid;refine⟨by omega,by omega,by omega,?_⟩;rw [e2,e1];exact hK (F++f1.drop N) (G'++f2.drop N) _ _ _ (by simp;omega) (by simp;omega)  rlR  (a6X (by simp;omega)) (a6X (by simp)) (by omega)
            ·rw [if_neg (fun hh=>hm (by simpa using hh.1) hh.2)] at hs;exact hs
       ·cases h with
        | zero=>exact absurd hs.symm hRn2
        | succ h=>
          rw [a4s,if_neg hkh] at hs;subst hs;simp only at hmid;refine awZ hΓ rfl ?_;simp (maxSteps:=2000000) only [go_sem,hkh];refine⟨by omega,⟨(d+1,F,G,n5),?_,hF,hG,hoF,hoG,hn5⟩,⟨nLR _,rfl,rlR,rlR,rlR,rlR,rlR⟩,by dsimp only;omega⟩;dsimp only;rw [show A.length+B.length+1-(d+1)=f by omega];exact hmid
end
section
attribute [local irreducible] AW a0h a0H a0c
def b3U:a0p:=a0U b6f
theorem c3x:a0f Tryz.prog 189 b3U:=b8J.frame
theorem c6E {a b:List Int} {u v z u' v' z':AV} (h1:a0h u u') (h2:a0h v v') (h3:a0h z z'):∀ j,a0h (fAV a b u v z j) (fAV a b u' v' z' j)
 | 0=>avR
 | 1=>avR
 | 2=>avR
 | 3=>avR
 | 4=>h1
 | 5=>h2
 | _+6=>h3
def d30:a0p:=fun args hp top nx K=>∃ a b u v l fv pv i j n,args=[.pt 0 fv 0,kI.enc (i:Nat),kI.enc (j:Nat),kI.enc (n:Nat)]/\
 hp=rws [(0,.box fv 198 7 (fAV a b u v (.ow 1 pv l.length))),(1,a0G pv 129 (eP eI eI) l)]/\top=2/\pv<nx/\
 i<1000000000/\j<1000000000/\n<1000000000/\l.length+n<1000000000/\
 ∀ pv' hp' top' nx',(pv'=pv\/nx<=pv')->pv'<nx'->a0c (hp' 0) (.box fv 198 7 (fAV a b u v (.ow 1 pv' (l++prs i j n).length)))->a0c (hp' 1) (a0G pv' 129 (eP eI eI) (l++prs i j n))->nx<=nx'->
  K (.val (.tuple #[])) hp' top' nx'
theorem d3s:a0f Tryz.prog 188 d30:=by
 refine a0f.mk Tryz.func188 rfl (by decide) Tryz.results188 Tryz.ntmps188 ?_;rintro args hp top nx K ⟨a,b,u,v,l,fv,pv,i,j,n,rfl,rfl,rfl,hpv,hi,hj,hn,hl,hK⟩;have hΓ:=gkN;refine⟨Nat.le_of_ble_eq_true rfl,?_⟩;refine awZ hΓ rfl ?_;simp only [go_sem,b7s]
 refine AW.round (α:={ x:Nat×Nat×Nat // x.1<=n/\(x.2.1=pv\/nx<=x.2.1)/\nx<=x.2.2/\x.2.1<x.2.2 })
  (fun x=>⟨[(0,.pt 0 fv 0),(1,.val (.int .i64 i)),(2,.val (.int .i64 j)),(9,.val (.int .i64 n)),(10,.val (.int .i64 x.1.1))],
   [(0,.box fv 198 7 (fAV a b u v (.ow 1 x.1.2.1 (l++prs i j x.1.1).length))),(1,a0G x.1.2.1 129 (eP eI eI) (l++prs i j x.1.1))],30,2,x.1.2.2,[]⟩) (fun x=>n-x.1.1) ⟨(0,pv,nx),by simp,.inl rfl,nLR _,hpv⟩ ?_ ?_
 ·simp only [go_sem];exact⟨a0c.of_eq (by simp [prs]),a0c.of_eq (by simp [prs])⟩
 ·rintro⟨⟨k,w,m⟩,hk,hw,hm,hwm⟩;simp only at hk hw hm hwm;refine awN hΓ rfl ?_;simp only [go_sem,b7s,a5w]
  have hps:prs i j (k+1)=prs i j k++[((i:Int)+(k:Int),(j:Int)+(k:Int))]:=by
   unfold prs;rw [List.range_succ,List.map_append];rfl
  have hpl:(prs i j k).length=k:=a5W _ _ _;refine⟨fun hlt=>⟨by omega,by omega,by omega,by omega,⟨(k+1,m,m+1),by dsimp only;omega,.inr hm,by dsimp only;omega,Nat.lt_succ_self _⟩,⟨nLR _,rfl,?_,?_⟩,by dsimp only;omega⟩,fun hge=>?_⟩
  ·refine a0c.box fun j' hj'=>?_
   match j',hj' with
   | 0,_=>exact avR
   | 1,_=>exact avR
   | 2,_=>exact avR
   | 3,_=>exact avR
   | 4,_=>exact avR
   | 5,_=>exact avR
   | 6,_=>exact a0h.of_eq (by dsimp only;rw [hps];simp [stC,fAV,Nat.add_assoc])
  ·refine a02 (E:=eP eI eI) (l:=l++prs i j k) (x:=((i:Int)+(k:Int),(j:Int)+(k:Int))) rfl (by dsimp only;rw [hps,List.append_assoc]) (by simp) (by simp) (by dsimp only;rw [hps];simp) fun j' hj'=>?_
   match j',hj' with
   | 0,_=>exact avR
   | 1,_=>exact avR
  ·obtain rfl:k=n:=by omega
   exact hK w _ _ _ hw hwm (a0c.of_eq (by rw [lAp];rfl)) (d9c rfl rfl (by simp)) hm
def d7d:a0p:=a0U d30
theorem d5K:a0f Tryz.prog 188 d7d:=d3s.frame
theorem b8k {a b:List Int} {u v:AV} {l:List (Int×Int)} {fv pv i j n:Nat} {x y z:Int} {hp:Nat->Row} {top nx:Nat} {K:AV->(Nat->Row)->Nat->Nat->Prop} (hx:x=(i:Nat)) (hy:y=(j:Nat)) (hz:z=(n:Nat))
  (h0:a0c (hp 0) (.box fv 198 7 (fAV a b u v (.ow 3 pv l.length)))) (h3:a0c (hp 3) (a0G pv 129 (eP eI eI) l)) (ht:3<top) (hpv:pv<nx)
  (hi:i<1000000000) (hj:j<1000000000) (hn:n<1000000000) (hl:l.length+n<1000000000)
  (hK:∀ pv' nx',(pv'=pv\/nx<=pv')->pv'<nx'->nx<=nx'->K (.val (.tuple #[])) (a0y (a0y hp 0 (.box fv 198 7 (fAV a b u v (.ow 3 pv' (l++prs i j n).length)))) 3 (a0G pv' 129 (eP eI eI) (l++prs i j n))) top nx') :
  d7d [.pt 0 fv 0,.val (.int .i64 x),.val (.int .i64 y),.val (.int .i64 z)] hp top nx K:=by
 subst hx hy hz;have v0:=h0.vers;have v3:=h3.vers
 refine⟨[0,3],[.pt 0 fv 0,kI.enc (i:Nat),kI.enc (j:Nat),kI.enc (n:Nat)],rws [(0,.box fv 198 7 (fAV a b u v (.ow 1 pv l.length))),(1,a0G pv 129 (eP eI eI) l)],
  by decide,fun p hp=>?_,.cons  avR  (.cons  avR  (.cons  avR  (.cons  avR  .nil))),fun k q hk=>?_,fun k hk=>a1b (top:=2) (by simp) k (by simpa using hk),a,b,u,v,l,fv,pv,i,j,n,rfl,rfl,rfl,hpv,hi,hj,hn,hl,fun pv' hp' top' nx' e1 e2 e3 e4 e5=>?_⟩
 ·rcases List.mem_cons.1 hp with rfl|hp
  ·omega
  ·rw [List.mem_singleton.1 hp];exact ht
 ·match k,hk with
  | 0,hk=>
    obtain rfl:0=q:=oJI hk;exact h0.trans (a0c.box fun j' hj'=>c6E  avR   avR  a0h.ow j')
  | 1,hk=>
    obtain rfl:3=q:=oJI hk;exact h3
 ·refine⟨_,_,avR,fun k q hk=>?_,fun q hq=>?_,fun q hq w hw=>?_,hK pv' nx' e1 e2 e5⟩
  ·match k,hk with
   | 0,hk=>
     obtain rfl:0=q:=oJI hk;exact e3.trans (a0c.box fun j' hj'=>c6E  avR   avR  a0h.ow j')
   | 1,hk=>
     obtain rfl:3=q:=oJI hk;exact e4
  ·simp only [List.mem_cons,List.mem_nil_iff,or_false,not_or] at hq;rw [a0d _ _ hq.2,a0d _ _ hq.1]
  ·rcases List.mem_cons.1 hq with rfl|hq
   ·exact .inl (v0.symm.trans hw)
   ·obtain rfl:=List.mem_singleton.1 hq;obtain rfl:pv'=w:=oJI hw;rcases e1 with rfl|e1
    ·exact .inl v3.symm
    ·exact .inr e1
theorem b9h {a b f1 f2:List Int} {z:AV} {fv v1 v2 fa ta fb tb:Nat} {p q x y r s:Int} {hp:Nat->Row} {top nx:Nat} {K:AV->(Nat->Row)->Nat->Nat->Prop} (hx:x=(fa:Nat)) (hy:y=(ta:Nat)) (hr:r=(fb:Nat)) (hs:s=(tb:Nat))
  (h0:a0c (hp 0) (.box fv 198 7 (fAV a b (.ow 1 v1 f1.length) (.ow 2 v2 f2.length) z))) (h1:a0c (hp 1) (a0G v1 3 eI f1)) (h2:a0c (hp 2) (a0G v2 3 eI f2)) (ht:2<top)
  (hfa:fa<=ta) (hta:ta<=a.length) (hfb:fb<=tb) (htb:tb<=b.length) (ha:a.length<100000000) (hb:b.length<100000000) (hr1:a.length+b.length+3<=f1.length) (hr2:a.length+b.length+3<=f2.length) (hl1:f1.length<1000000000) (hl2:f2.length<1000000000)
  (hcut:cutF (a0T a fa ta) (a0T b fb tb)=some (p,q))
  (hK:∀ g1 g2 nx',g1.length=f1.length->g2.length=f2.length->nx<=nx'->
   K (tu2 (kI.enc p) (kI.enc q)) (a0y (a0y (a0y hp 0 (.box fv 198 7 (fAV a b (.ow 1 v1 f1.length) (.ow 2 v2 f2.length) z))) 1 (a0G v1 3 eI g1)) 2 (a0G v2 3 eI g2)) top nx') :
  b3U [.pt 0 fv 0,.val (.int .i64 x),.val (.int .i64 y),.val (.int .i64 r),.val (.int .i64 s)] hp top nx K:=by
 subst hx hy hr hs;have w0:=h0.vers;have w1:=h1.vers;have w2:=h2.vers
 refine⟨[0,1,2],[.pt 0 fv 0,kI.enc (fa:Nat),kI.enc (ta:Nat),kI.enc (fb:Nat),kI.enc (tb:Nat)],rws [(0,.box fv 198 7 (fAV a b (.ow 1 v1 f1.length) (.ow 2 v2 f2.length) z)),(1,a0G v1 3 eI f1),(2,a0G v2 3 eI f2)],
  by decide,fun p hp=>?_,.cons  avR  (.cons  avR  (.cons  avR  (.cons  avR  (.cons  avR  .nil)))),fun k q hk=>?_,fun k hk=>a1b (top:=3) (by simp) k (by simpa using hk),a,b,f1,f2,z,fv,v1,v2,fa,ta,fb,tb,p,q,rfl,rfl,rfl,hfa,hta,hfb,htb,ha,hb,hr1,hr2,hl1,hl2,hcut,fun g1 g2 hp' top' nx' e1 e2 e3 e4 e5 e6=>?_⟩
 ·simp only [List.mem_cons,List.mem_nil_iff,or_false] at hp;omega
 ·match k,hk with
  | 0,hk=>obtain rfl:0=q:=oJI hk;exact h0
  | 1,hk=>obtain rfl:1=q:=oJI hk;exact h1
  | 2,hk=>obtain rfl:2=q:=oJI hk;exact h2
 ·refine⟨_,_,avR,fun k q hk=>?_,fun q hq=>?_,fun q hq w hw=>?_,hK g1 g2 nx' e1 e2 e6⟩
  ·match k,hk with
   | 0,hk=>obtain rfl:0=q:=oJI hk;exact e3
   | 1,hk=>obtain rfl:1=q:=oJI hk;exact e4
   | 2,hk=>obtain rfl:2=q:=oJI hk;exact e5
  ·simp only [List.mem_cons,List.mem_nil_iff,or_false,not_or] at hq;rw [a0d _ _ hq.2.2,a0d _ _ hq.2.1,a0d _ _ hq.1]
  ·simp only [List.mem_cons,List.mem_nil_iff,or_false] at hq;rcases hq with rfl|rfl|rfl
   ·exact .inl (w0.symm.trans hw)
   ·exact .inl (w1.symm.trans hw)
   ·exact .inl (w2.symm.trans hw)
def a2U (a b:List Int) (fv v1 v2 pv:Nat) (g1 g2:List Int) (l:List (Int×Int)):List (Nat×Row):=
 [(0,.box fv 198 7 (fAV a b (.ow 1 v1 g1.length) (.ow 2 v2 g2.length) (.ow 3 pv l.length))),(1,a0G v1 3 eI g1),(2,a0G v2 3 eI g2),(3,a0G pv 129 (eP eI eI) l)]
def d2g (N:Nat):a0p:=fun args hp top nx K=>∃ a b f1 f2 l fv v1 v2 pv fa ta fb tb,args=[.pt 0 fv 0,kI.enc (fa:Nat),kI.enc (ta:Nat),kI.enc (fb:Nat),kI.enc (tb:Nat)]/\
 hp=rws (a2U a b fv v1 v2 pv f1 f2 l)/\top=4/\pv<nx/\
 fa<=ta/\ta<=a.length/\fb<=tb/\tb<=b.length/\a.length<100000000/\b.length<100000000/\a.length+b.length+3<=f1.length/\a.length+b.length+3<=f2.length/\f1.length<1000000000/\f2.length<1000000000/\
 l.length+(ta-fa)<500000000/\(ta-fa)+(tb-fb)<N/\
 ∀ g1 g2 pv' hp' top' nx',g1.length=f1.length->g2.length=f2.length->(pv'=pv\/nx<=pv')->pv'<nx'->(∀ i,i<4->a0c (hp' i) (rws (a2U a b fv v1 v2 pv' g1 g2 (l++shP fa fb (a2q (a0T a fa ta) (a0T b fb tb)))) i))->nx<=nx'->
  K (.val (.tuple #[])) hp' top' nx'
def b2H (N:Nat):a0p:=a0U (d2g N)
theorem b8r {N:Nat} {a b f1 f2:List Int} {l:List (Int×Int)} {fv v1 v2 pv fa ta fb tb:Nat} {x y r s:Int} {hp:Nat->Row} {top nx:Nat} {K:AV->(Nat->Row)->Nat->Nat->Prop} (hx:x=(fa:Nat)) (hy:y=(ta:Nat)) (hr:r=(fb:Nat)) (hs:s=(tb:Nat))
  (h0:∀ i,i<4->a0c (hp i) (rws (a2U a b fv v1 v2 pv f1 f2 l) i)) (ht:3<top) (hpv:pv<nx)
  (hfa:fa<=ta) (hta:ta<=a.length) (hfb:fb<=tb) (htb:tb<=b.length) (ha:a.length<100000000) (hb:b.length<100000000) (hr1:a.length+b.length+3<=f1.length) (hr2:a.length+b.length+3<=f2.length) (hl1:f1.length<1000000000) (hl2:f2.length<1000000000)
  (hl:l.length+(ta-fa)<500000000) (hN:(ta-fa)+(tb-fb)<N)
  (hK:∀ g1 g2 pv' hp' nx',g1.length=f1.length->g2.length=f2.length->(pv'=pv\/nx<=pv')->pv'<nx'->nx<=nx'->(∀ i,i<4->hp' i=rws (a2U a b fv v1 v2 pv' g1 g2 (l++shP fa fb (a2q (a0T a fa ta) (a0T b fb tb)))) i)->(∀ i,4<=i->hp' i=hp i)->K (.val (.tuple #[])) hp' top nx') :
  b2H N [.pt 0 fv 0,.val (.int .i64 x),.val (.int .i64 y),.val (.int .i64 r),.val (.int .i64 s)] hp top nx K:=by
 subst hx hy hr hs;have w:=fun i hi=>(h0 i hi).vers
 have lt4:∀ (k q:Nat),[0,1,2,3][k]?=some q->k=q/\k<4:=fun k q hk=>by
  match k,hk with
  | 0,hk=>exact⟨oJI hk,by decide⟩
  | 1,hk=>exact⟨oJI hk,by decide⟩
  | 2,hk=>exact⟨oJI hk,by decide⟩
  | 3,hk=>exact⟨oJI hk,by decide⟩
 have mem4:∀ q,q∈[0,1,2,3]↔q<4:=fun q=>by simp;omega
 refine⟨[0,1,2,3],[.pt 0 fv 0,kI.enc (fa:Nat),kI.enc (ta:Nat),kI.enc (fb:Nat),kI.enc (tb:Nat)],rws (a2U a b fv v1 v2 pv f1 f2 l),
  by decide,fun p hp=>?_,.cons  avR  (.cons  avR  (.cons  avR  (.cons  avR  (.cons  avR  .nil)))),fun k q hk=>?_,fun k hk=>a1b (top:=4) (by simp [a2U]) k (by simpa using hk),a,b,f1,f2,l,fv,v1,v2,pv,fa,ta,fb,tb,rfl,rfl,rfl,hpv,hfa,hta,hfb,htb,ha,hb,hr1,hr2,hl1,hl2,hl,hN,fun g1 g2 pv' hp' top' nx' e1 e2 e3 e4 e5 e6=>?_⟩
 ·have:=(mem4 p).1 hp;omega
 ·obtain⟨rfl,h⟩:=lt4 k q hk;exact h0 k h
 ·refine⟨_,fun i=>if i<4 then rws (a2U a b fv v1 v2 pv' g1 g2 (l++shP fa fb (a2q (a0T a fa ta) (a0T b fb tb)))) i else hp i,avR,fun k q hk=>?_,fun q hq=>?_,fun q hq u hu=>?_,hK g1 g2 pv' _ nx' e1 e2 e3 e4 e6 (fun i hi=>if_pos hi) (fun i hi=>if_neg (by omega))⟩
  ·obtain⟨rfl,h⟩:=lt4 k q hk;simp only [if_pos h];exact e5 k h
  ·rw [mem4] at hq;exact if_neg hq
  ·rw [mem4] at hq;simp only [if_pos hq] at hu;have:=w q hq
   match q,hq with
   | 0,_=>exact .inl (this.symm.trans hu)
   | 1,_=>exact .inl (this.symm.trans hu)
   | 2,_=>exact .inl (this.symm.trans hu)
   | 3,_=>
     obtain rfl:pv'=u:=oJI hu;rcases e3 with rfl|e3
     ·exact .inl this.symm
     ·exact .inr e3
theorem AW.cutF {P:Program} {x:Code} {Q:Exit->AS->Prop} {st:AS} (fr:List (Nat×AV)) (a b:List Int) (fv v1 v2 pv:Nat) (g1 g2:List Int) (l:List (Int×Int)) (hr:∀ i,i<4->a0c (st.hp i) (rws (a2U a b fv v1 v2 pv g1 g2 l) i)) (nx:Nat) (hz:st.sz=91) (hd:st.df=[]) (hnx:st.nx=nx)
  (hfr:∀ p∈fr,a0h (st.fr p.1) p.2) (k:AW P x Q (Sh.st ⟨fr,a2U a b fv v1 v2 pv g1 g2 l,91,4,nx,[]⟩)):AW P x Q st:=by
 refine AW.cut ⟨fr,a2U a b fv v1 v2 pv g1 g2 l,91,4,nx,[]⟩ ⟨⟨⟨hz.symm,hd.symm⟩,Nat.le_of_eq hnx⟩,hfr,?_,?_⟩ k
 ·rintro p hp;simp only [a2U,List.mem_cons,List.mem_nil_iff,or_false] at hp;rcases hp with rfl|rfl|rfl|rfl
  ·exact hr 0 (by decide)
  ·exact hr 1 (by decide)
  ·exact hr 2 (by decide)
  ·exact hr 3 (by decide)
 ·rintro p hp;simp only [a2U,List.mem_cons,List.mem_nil_iff,or_false] at hp;rcases hp with rfl|rfl|rfl|rfl<;>simp
theorem d45 {p:Nat->Prop} (h0:p 0) (h1:p 1) (h2:p 2) (h3:p 3):∀ i,i<4->p i
 | 0,_=>h0
 | 1,_=>h1
 | 2,_=>h2
 | 3,_=>h3
 | i+4,h=>by omega
theorem c9c:a0f Tryz.prog 139 (b2H 0):=by
 refine a0f.frame ?_;refine a0f.mk Tryz.func139 rfl (by decide) Tryz.results139 Tryz.ntmps139 ?_;rintro args hp top nx K ⟨_,_,_,_,_,_,_,_,_,_,_,_,_,_,_,_,_,_,_,_,_,_,_,_,_,_,_,_,h,_⟩;omega
theorem c9p (N:Nat) (ih:a0f Tryz.prog 139 (b2H N)):a0f Tryz.prog 139 (b2H (N+1)):=by
 refine a0f.frame ?_;refine a0f.mk Tryz.func139 rfl (by decide) Tryz.results139 Tryz.ntmps139 ?_;rintro args hp top nx K ⟨a,b,f1,f2,l,fv,v1,v2,pv,fa,ta,fb,tb,rfl,rfl,rfl,hpv,hfa,hta,hfb,htb,ha,hb,hr1,hr2,hl1,hl2,hl,hN,hK⟩;have hΓ:GOK Tryz.prog (gam [(187,c1t),(188,d7d),(189,b3U),(139,(Con.meth (b2H N)))]):=.cons c9X (.cons d5K (.cons c3x (.cons ih .nil)));refine⟨Nat.le_of_ble_eq_true rfl,?_⟩;have pA:(List.range (ta-fa)).map (fun i=>a.getD (fa+i) 0)=a0T a fa ta:=by rw [a6T a 0 (by omega)];rfl
 have pB:(List.range (tb-fb)).map (fun i=>b.getD (fb+i) 0)=a0T b fb tb:=by rw [a6T b 0 (by omega)];rfl
 have lA:(a0T a fa ta).length=ta-fa:=a1P hta;have lB:(a0T b fb tb).length=tb-fb:=a1P htb;obtain⟨A,hA⟩:∃ A,a0T a fa ta=A:=⟨_,rfl⟩;obtain⟨B,hB⟩:∃ B,a0T b fb tb=B:=⟨_,rfl⟩;have hbh:bhd (A.drop (ahd A B)) (B.drop (ahd A B))=bh A B:=rfl;rw [hA] at pA lA;rw [hB] at pB lB;refine awL hΓ [1,99999] rfl ?_;simp only [go_sem,a2U,c3P,c2G,c1t,pA,pB,hbh];have hbl:=a9A (a:=A) (b:=B);have hcl:=a78 (a:=A) (b:=B);obtain⟨h,hh⟩:∃ h,ahd A B=h:=⟨_,rfl⟩;obtain⟨e,he⟩:∃ e,bh A B=e:=⟨_,rfl⟩;rw [hh,he] at hbl hcl ⊢;refine⟨by omega,by omega,by omega,b8k (l:=l) (pv:=pv) (i:=fa) (j:=fb) (n:=h) rfl rfl rfl  rlR   rlR  (by decide) hpv (by omega) (by omega) (by omega) (by omega) fun p1 n1 hp1 hpn1 hn1=>?_⟩;simp only [a4W,a4U,a6D,a9d]
 refine AW.cutF [(0,.pt 0 fv 0),(1,.val (.int .i64 fa)),(2,.val (.int .i64 ta)),(3,.val (.int .i64 fb)),(4,.val (.int .i64 tb)),(10,.val (.int .i64 h)),(11,.val (.int .i64 e))] a b fv v1 v2 p1 f1 f2 (l++prs fa fb h)
  (d45  rlR   rlR   rlR   rlR ) n1 rfl rfl rfl ?_ ?_
 ·simp only [go_sem]
 have eG:∀ m,A.length=m->True:=fun _ _=>trivial
 by_cases hc:(a4C A B).length≠0/\(a1H A B).length≠0
 ·obtain⟨p,q,hcut,hpl,hql,hpq,hpq2,hG⟩:=b6G hc.1 hc.2;have c1:(fa:Int)+h<ta-e:=by omega
  have c2:(fb:Int)+h<tb-e:=by omega
  refine awL hΓ [5,99999] rfl ?_;simp only [go_sem,c1,c2]
  have eC:a4C A B=a0T a (fa+h) (ta-e):=by
   rw [a4C,hh,he,lA,<-hA,a48,a5m (by omega)]
   congr 1
   omega
  have eD:a1H A B=a0T b (fb+h) (tb-e):=by
   rw [a1H,hh,he,lB,<-hB,a48,a5m (by omega)]
   congr 1
   omega
  refine⟨by omega,by omega,by omega,by omega,b9h (a:=a) (b:=b) (f1:=f1) (f2:=f2) (fv:=fv) (v1:=v1) (v2:=v2) (fa:=fa+h) (ta:=ta-e) (fb:=fb+h) (tb:=tb-e) (p:=p) (q:=q) (by omega) (by omega) (by omega) (by omega)  rlR   rlR   rlR  (by decide)
   (by omega) (by omega) (by omega) (by omega) ha hb hr1 hr2 hl1 hl2 (by rw [<-eC,<-eD];exact hcut) fun g1 g2 n2 hg1 hg2 hn2=>?_⟩
  simp only [go_sem,tu2]
  refine AW.cutF [(0,.pt 0 fv 0),(1,.val (.int .i64 ((fa+h:Nat):Int))),(2,.val (.int .i64 ((ta-e:Nat):Int))),(3,.val (.int .i64 ((fb+h:Nat):Int))),(4,.val (.int .i64 ((tb-e:Nat):Int))),(10,.val (.int .i64 h)),(11,.val (.int .i64 e)),(12,.val (.int .i64 p)),(13,.val (.int .i64 q))] a b fv v1 v2 p1 g1 g2 (l++prs fa fb h)
   (d45 (a0c.of_eq (by show Row.box fv 198 7 (fAV a b (.ow 1 v1 f1.length) (.ow 2 v2 f2.length) (.ow 3 p1 (l.length+(prs fa fb h).length)))=_;rw [<-hg1,<-hg2,<-lAp];rfl))  rlR   rlR   rlR ) n2 rfl rfl rfl ?_ ?_
  ·simp only [go_sem];exact⟨by omega,by omega,by omega,by omega⟩
  have eP1:(a4C A B).take p=a0T a (fa+h) (fa+h+p):=by rw [eC];exact a5m (by omega)
  have eP2:(a1H A B).take q=a0T b (fb+h) (fb+h+q):=by rw [eD];exact a5m (by omega)
  have eP3:(a4C A B).drop p=a0T a (fa+h+p) (ta-e):=by rw [eC];exact a48
  have eP4:(a1H A B).drop q=a0T b (fb+h+q) (tb-e):=by rw [eD];exact a48
  rw [eP1,eP2,eP3,eP4] at hG
  have hG1:(a2q (a0T a (fa+h) (fa+h+p)) (a0T b (fb+h) (fb+h+q))).length<=p:=by
   have:=a2W (a0T a (fa+h) (fa+h+p)) (a0T b (fb+h) (fb+h+q));rw [a8L];rw [a1P (by omega),a1P (by omega)] at this;omega
  have hG2:(a2q (a0T a (fa+h+p) (ta-e)) (a0T b (fb+h+q) (tb-e))).length<=ta-e-(fa+h+p):=by
   have:=a2W (a0T a (fa+h+p) (ta-e)) (a0T b (fb+h+q) (tb-e));rw [a8L];rw [a1P (by omega),a1P (by omega)] at this;omega
  refine awL hΓ [6,99999] rfl ?_;simp only [go_sem]
  refine⟨by omega,by omega,b8r (a:=a) (b:=b) (f1:=g1) (f2:=g2) (fv:=fv) (v1:=v1) (v2:=v2) (pv:=p1) (l:=l++prs fa fb h) (fa:=fa+h) (ta:=fa+h+p) (fb:=fb+h) (tb:=fb+h+q) (by omega) (by omega) (by omega) (by omega) (fun i _=>rlR) (by decide) (by omega)
   (by omega) (by omega) (by omega) (by omega) ha hb (by omega) (by omega) (by omega) (by omega) (by rw [lAp,a5W];omega) (by omega) fun g3 g4 p2 hp2 n3 hg3 hg4 hpp2 hpn2 hn3 hE _=>?_⟩
  simp only [a4W,a4U,a6D,a9d]
  refine AW.cutF [(0,.pt 0 fv 0),(1,.val (.int .i64 ((fa+h:Nat):Int))),(2,.val (.int .i64 ((ta-e:Nat):Int))),(3,.val (.int .i64 ((fb+h:Nat):Int))),(4,.val (.int .i64 ((tb-e:Nat):Int))),(11,.val (.int .i64 e)),(12,.val (.int .i64 p)),(13,.val (.int .i64 q))] a b fv v1 v2 p2 g3 g4 _
   (fun i hi=>a0c.of_eq (hE i hi)) n3 rfl rfl rfl ?_ ?_
  ·simp only [go_sem]
  refine awL hΓ [7,99999] rfl ?_;simp only [go_sem]
  refine⟨by omega,by omega,b8r (a:=a) (b:=b) (f1:=g3) (f2:=g4) (fv:=fv) (v1:=v1) (v2:=v2) (pv:=p2) (fa:=fa+h+p) (ta:=ta-e) (fb:=fb+h+q) (tb:=tb-e) (by omega) (by omega) (by omega) (by omega) (fun i _=>rlR) (by decide) (by omega)
   (by omega) (by omega) (by omega) (by omega) ha hb (by omega) (by omega) (by omega) (by omega) (by simp only [lAp,a5W,b0U];omega) (by omega) fun g5 g6 p3 hp3 n4 hg5 hg6 hpp3 hpn3 hn4 hE2 _=>?_⟩
  simp only [go_sem];refine b8k (i:=ta-e) (j:=tb-e) (n:=e) rfl rfl rfl (a0c.of_eq (hE2 0 (by decide))) (a0c.of_eq (hE2 3 (by decide))) (by decide) (by omega) (by omega) (by omega) (by omega) (by simp only [lAp,a5W,b0U];omega) fun p4 n5 hp4 hpn4 hn5=>?_
  have hfin:l++shP fa fb (a2q A B)=l++prs fa fb h++shP ((fa+h:Nat):Int) ((fb+h:Nat):Int) (a2q (a0T a (fa+h) (fa+h+p)) (a0T b (fb+h) (fb+h+q)))++shP ((fa+h+p:Nat):Int) ((fb+h+q:Nat):Int) (a2q (a0T a (fa+h+p) (ta-e)) (a0T b (fb+h+q) (tb-e)))++prs ((ta-e:Nat):Int) ((tb-e:Nat):Int) e:=by
   rw [hG,hh,he];simp only [b1f,b4m,b8i,List.append_assoc,Int.add_zero]
   rw [show (fa:Int)+((A.length:Int)-e)=((ta-e:Nat):Int) by omega,show (fb:Int)+((B.length:Int)-e)=((tb-e:Nat):Int) by omega,show (fa:Int)+h=((fa+h:Nat):Int) by omega,show (fb:Int)+h=((fb+h:Nat):Int) by omega,
    show (fa:Int)+((h:Int)+p)=((fa+h+p:Nat):Int) by omega,show (fb:Int)+((h:Int)+q)=((fb+h+q:Nat):Int) by omega]
  simp only [a4W,a4U,a6D,a8Z,c3J,true_and];refine hK g5 g6 p4 _ _ _ (by omega) (by omega) (by omega) hpn4 ?_ (by omega);rw [hA,hB,hfin];refine d45  rlR  (a0c.of_eq (hE2 1 (by decide))) (a0c.of_eq (hE2 2 (by decide)))  rlR
 ·have c12:¬((fa:Int)+h<ta-e/\(fb:Int)+h<tb-e):=by omega
  refine awL hΓ [8,99999] rfl ?_;simp only [go_sem,c12,false_implies,not_false_eq_true,true_implies];refine⟨by omega,by omega,by omega,by omega,fun _=>?_⟩;refine b8k (i:=ta-e) (j:=tb-e) (n:=e) (by omega) (by omega) rfl  rlR   rlR  (by decide) (by omega) (by omega) (by omega) (by omega) (by simp only [lAp,a5W];omega) fun p4 n5 hp4 hpn4 hn5=>?_
  have hfin:l++shP fa fb (a2q A B)=l++prs fa fb h++prs ((ta-e:Nat):Int) ((tb-e:Nat):Int) e:=by
   rw [b7I hc,hh,he];simp only [b1f,b4m,List.append_assoc,Int.add_zero];rw [show (fa:Int)+((A.length:Int)-e)=((ta-e:Nat):Int) by omega,show (fb:Int)+((B.length:Int)-e)=((tb-e:Nat):Int) by omega]
  simp only [a4W,a4U,a6D,a8Z,c3J,true_and];refine hK f1 f2 p4 _ _ _ rfl rfl (by omega) hpn4 ?_ (by omega);rw [hA,hB,hfin];refine d45  rlR   rlR   rlR   rlR
theorem d1y (N:Nat):a0f Tryz.prog 139 (b2H N):=by
 induction N with
 | zero=>exact c9c
 | succ N ih=>exact c9p N ih
def c2v (ks:List Int):Key->Option Value
 | .i n=>if n∈ks then some (.bool true) else none
 | .s _=>none
theorem d3H (ks:List Int) (n:Int):c2v ks (.i n)=if n∈ks then some (.bool true) else none:=rfl
theorem b8Q (ks:List Int) (n:Int):a4y (c2v ks) (.i n) (.bool true)=c2v (ks++[n]):=by
 funext k
 cases k with
 | i m=>
   simp only [a4y,c2v];by_cases h:m=n
   ·subst h;simp
   ·rw [if_neg (fun e=>h (by injection e))];simp [h]
 | s x=>simp [a4y,c2v]
theorem c2R:c2v []=fun _=>none:=by
 funext k
 cases k<;>simp [c2v]
@[go_sem] def c7s:a0j:=a0j.f2 (kL eI) (kL eI) (fun a b=>a.length<100000000/\b.length<100000000) (fun a b=>tu2 (sL eI (shI a b)) (sL eI (shQ a b)))
theorem c5c:a0b Tryz.prog 83 c7s:=by
 refine a0b.f2 Tryz.func83 rfl (by decide) Tryz.results83 Tryz.ntmps83 (by decide) fun a b ⟨ha,hb⟩=>?_
 have hΓ:=gkN;refine awZ hΓ rfl ?_;simp only [go_sem]
 refine AW.round (α:={ x:Nat×Nat // x.1<=b.length })
  (fun x=>⟨[(0,sL eI a),(6,.mp 0 0),(16,sL eI b),(17,.val (.int .i64 b.length)),(18,.val (.int .i64 x.1.1))],[(0,.mp 0 false x.1.2 (c2v (b.take x.1.1)))],46,1,1,[]⟩) (fun x=>b.length-x.1.1) ⟨(0,0),nZL _⟩ ?_ ?_
 ·simp only [go_sem];exact a0c.of_eq (by rw [List.take_zero,c2R])
 ·rintro⟨⟨i,n⟩,hi⟩;simp only at hi;refine awN hΓ rfl ?_;simp only [go_sem];refine⟨fun hlt=>⟨by omega,by omega,⟨(i+1,if (c2v (b.take i) (Key.i (b.getD i 0))).isSome=true then n else n+1),by dsimp only;omega⟩,⟨by dsimp only;omega,a0c.of_eq (by rw [b8Q,<-a1z (by omega)])⟩,by dsimp only;omega⟩,fun hge=>?_⟩;obtain rfl:i=b.length:=by omega
  rw [List.take_length];refine AW.adopt 9 3 1 (fun _ _=>.any) rfl ?_;refine AW.adopt 10 3 1 (fun _ _=>.any) rfl ?_
  refine AW.round (α:={ x:Nat×Nat×Nat×Nat // x.1<=a.length })
   (fun x=>⟨[(6,.mp 0 0),(9,.ow 1 x.1.2.1 ((a.take x.1.1).filter fun y=>b.contains y).length),(10,.ow 2 x.1.2.2.1 (plc (fun y=>b.contains y) 0 (a.take x.1.1)).length),(25,sL eI a),(26,.val (.int .i64 a.length)),(27,.val (.int .i64 x.1.1))],
    [(0,.mp 0 false n (c2v b)),(1,a0G x.1.2.1 3 eI ((a.take x.1.1).filter fun y=>b.contains y)),(2,a0G x.1.2.2.1 3 eI (plc (fun y=>b.contains y) 0 (a.take x.1.1)))],46,3,x.1.2.2.2,[]⟩) (fun x=>a.length-x.1.1) ⟨(0,1,2,3),nZL _⟩ ?_ ?_
  ·simp only [go_sem];exact⟨⟨rfl,rfl⟩,rlR,a62 (E:=eI) rfl,a62 (E:=eI) rfl⟩
  ·rintro⟨⟨j,v1,v2,nx⟩,hj⟩;simp only at hj;refine awN hΓ rfl ?_;simp only [go_sem,d3H];have l1:((a.take j).filter fun y=>b.contains y).length<=j:=Nat.le_trans (List.length_filter_le _ _) (by simp;omega);have l2:=a2S (fun y=>b.contains y) 0 (a.take j);refine⟨fun hlt=>⟨by omega,?_⟩,fun hge=>?_⟩
   ·have ht:a.take (j+1)=a.take j++[a.getD j 0]:=a1z (by omega);have hp:=b6y (fun y=>b.contains y) (a.getD j 0) 0 (a.take j);have hk:(0:Int)+((a.take j).length:Int)=j:=by simp;omega
    by_cases hm:a.getD j 0∈b
    ·have hc:b.contains (a.getD j 0)=true:=by simpa using hm
     have e1:((a.take (j+1)).filter fun y=>b.contains y)=((a.take j).filter fun y=>b.contains y)++[a.getD j 0]:=by
      rw [ht,List.filter_append,List.filter_cons_of_pos hc];rfl
     have e2:plc (fun y=>b.contains y) 0 (a.take (j+1))=plc (fun y=>b.contains y) 0 (a.take j)++[(j:Int)]:=by
      rw [ht,hp,if_pos hc,hk]
     rw [if_pos hm];simp only [go_sem,Option.getD_some];refine⟨by omega,by omega,by omega,⟨(j+1,nx,nx+1,nx+2),by dsimp only;omega⟩,⟨by dsimp only;omega,⟨⟨rfl,by dsimp only;rw [e1];simp⟩,⟨rfl,by dsimp only;rw [e2];simp⟩,by dsimp only;omega⟩,rlR,?_,?_⟩,by dsimp only;omega⟩
     ·exact a02 (E:=eI) rfl e1 rfl rfl rfl (fun _ _=>avR)
     ·exact a02 (E:=eI) rfl e2 rfl rfl rfl (fun _ _=>avR)
    ·have hc:¬b.contains (a.getD j 0)=true:=by simpa using hm
     have e1:((a.take (j+1)).filter fun y=>b.contains y)=((a.take j).filter fun y=>b.contains y):=by
      rw [ht,List.filter_append,List.filter_cons_of_neg hc];simp
     have e2:plc (fun y=>b.contains y) 0 (a.take (j+1))=plc (fun y=>b.contains y) 0 (a.take j):=by
      rw [ht,hp,if_neg hc];simp
     rw [if_neg hm];simp only [go_sem,Option.getD_none];refine⟨by omega,⟨(j+1,v1,v2,nx),by dsimp only;omega⟩,⟨nLR _,⟨⟨rfl,by dsimp only;rw [e1]⟩,⟨rfl,by dsimp only;rw [e2]⟩,by dsimp only;omega⟩,rlR,by dsimp only;rw [e1];exact rlR,by dsimp only;rw [e2];exact rlR⟩,by dsimp only;omega⟩
   ·obtain rfl:j=a.length:=by omega
    rw [List.take_length];exact⟨a3A (E:=eI) (l:=shI a b) rfl rfl rfl,a3A (E:=eI) (l:=shQ a b) rfl rfl rfl⟩
@[go_sem] def c9R:a0p:=fun args hp top nx K=>∃ x l,args=[x]/\a0h x (sL eI l)/\l.length<1000000000/\∀ ver nx',nx<=ver->ver<nx'->K (.ow top ver l.length) (a0y hp top (a0G ver 3 eI l)) (top+1) nx'
theorem c3I:a0f Tryz.prog 185 c9R:=by
 refine a0f.mk Tryz.func185 rfl (by decide) Tryz.results185 Tryz.ntmps185 ?_;rintro args hp top nx K ⟨x,l,rfl,hx,hl,hK⟩;have hΓ:=gkN;refine⟨Nat.le_of_ble_eq_true rfl,?_⟩;refine AW.le (a7o (.cons hx .nil)) ?_;refine awL hΓ [2,99999] rfl ?_;simp only [go_sem];refine⟨fun h0=>?_,?_⟩
 ·refine AW.adopt 2 3 1 (fun i=>eI.enc (l.getD i 0)) rfl ?_;refine awZ hΓ rfl ?_;simp only [go_sem];obtain rfl:=List.length_eq_zero_iff.1 h0;exact hK nx (nx+1) (nLR _) (Nat.lt_succ_self _)
 ·exact⟨by omega,hK nx (nx+1) (nLR _) (Nat.lt_succ_self _)⟩
def a9I:a0p:=fun args hp top nx K=>∃ l ver,args=[.ow 0 ver l.length]/\hp=rws [(0,a0G ver 3 eI l)]/\top=1/\l.length<1000000000/\
 ∀ hp' top' nx',a0c (hp' 0) (a0G ver 3 eI l.reverse)->nx<=nx'->K (.val (.tuple #[])) hp' top' nx'
theorem b4N:a0f Tryz.prog 186 a9I:=by
 refine a0f.mk Tryz.func186 rfl (by decide) Tryz.results186 Tryz.ntmps186 ?_;rintro args hp top nx K ⟨l,ver,rfl,rfl,rfl,hl,hK⟩;have hΓ:=gkN;refine⟨Nat.le_of_ble_eq_true rfl,?_⟩;refine awL hΓ [200003] rfl ?_;simp only [go_sem];refine⟨by omega,?_⟩
 refine AW.round (α:={ x:Nat×List Int // 2*x.1<=l.length+1/\x.2.length=l.length/\∀ k,k<l.length->x.2.getD k 0=if k<x.1\/l.length-1-x.1<k then l.getD (l.length-1-k) 0 else l.getD k 0 })
  (fun x=>⟨[(0,.ow 0 ver l.length),(2,.val (.int .i64 x.1.1)),(3,.val (.int .i64 ((l.length:Int)-1-x.1.1)))],[(0,a0G ver 3 eI x.1.2)],28,1,nx,[]⟩) (fun x=>l.length-x.1.1) ⟨(0,l),by simp,rfl,fun k hk=>by simp;omega⟩ ?_ ?_
 ·simp only [go_sem];exact⟨by omega,rlR⟩
 ·rintro⟨⟨i,m⟩,hi,hm,hk⟩;simp only at hi hm hk;refine awL hΓ [200003,99999] rfl ?_;simp only [go_sem];refine⟨fun hlt=>?_,fun hge=>?_⟩
  ·refine AW.drawT hΓ mixed 13 [] (by decide +kernel) ?_;simp only [go_sem];have e1:((l.length:Int)-1-i).toNat=l.length-1-i:=by omega
   rw [e1];refine⟨by omega,by omega,by omega,by omega,by omega,by omega,by omega,by omega,by omega,by omega,⟨(i+1,(m.set i (m.getD (l.length-1-i) 0)).set (l.length-1-i) (m.getD i 0)),by dsimp only;omega,by simp [hm],fun k hk'=>?_⟩,⟨⟨by dsimp only;omega,by dsimp only;omega⟩,a0c.sl (by simp) fun k hk' j hj=>?_⟩,by dsimp only;omega⟩
   ·have h1:=hk i (by omega);have h2:=hk (l.length-1-i) (by omega);rw [if_neg (by omega)] at h1 h2;dsimp only;rw [h1,h2];by_cases c2:k=l.length-1-i
    ·subst c2;rw [if_pos (by omega)];simp only [List.getD];rw [List.getElem?_set_self (by simp;omega),show l.length-1-(l.length-1-i)=i by omega];rfl
    ·by_cases c1:k=i
     ·subst c1;rw [if_pos (by omega)];simp only [List.getD];rw [List.getElem?_set_ne (by omega),List.getElem?_set_self (by omega)];rfl
     ·have e2:((m.set i (l.getD (l.length-1-i) 0)).set (l.length-1-i) (l.getD i 0)).getD k 0=m.getD k 0:=by
       simp only [List.getD];rw [List.getElem?_set_ne (by omega),List.getElem?_set_ne (by omega)]
      rw [e2,hk k hk'];by_cases c:k<i\/l.length-1-i<k
      ·rw [if_pos c,if_pos (by omega)]
      ·rw [if_neg c,if_neg (by omega)]
   ·exact c0n (E:=eI) (n:=m.length) (by simp;omega) (c0n (E:=eI) (n:=m.length) (by omega) (fun _ _ _ _=>avR) (fun _ _=>avR)) (fun _ _=>avR) k hk' j hj
  ·have e:m=l.reverse:=by
    refine a03 0 (by simp [hm]) fun k hk'=>?_
    rw [hk k (by omega)];simp only [List.getD];rw [List.getElem?_reverse (by omega)];by_cases c:k<i\/l.length-1-i<k
    ·rw [if_pos c]
    ·rw [if_neg c,show l.length-1-k=k by omega]
   exact hK _ _ _ (by rw [<-e];exact rlR) (nLR _)
@[go_sem] def b3j:a0p:=a0U a9I
theorem b7Z:a0f Tryz.prog 186 b3j:=b4N.frame
theorem b4s {l:List Int} {ver p n:Nat} {hp:Nat->Row} {top nx:Nat} {K:AV->(Nat->Row)->Nat->Nat->Prop} (hn:n=l.length) (h0:a0c (hp p) (a0G ver 3 eI l)) (ht:p<top) (hl:l.length<1000000000)
  (hK:∀ nx',nx<=nx'->K (.val (.tuple #[])) (a0y hp p (a0G ver 3 eI l.reverse)) top nx'):b3j [.ow p ver n] hp top nx K:=by
 subst hn;have hv:=h0.vers;refine⟨[p],[.ow 0 ver l.length],rws [(0,a0G ver 3 eI l)],by simp,by simpa using ht,.cons a0h.ow .nil,a7a h0,fun i hi=>a1b (top:=1) (by simp) i (by simpa using hi),l,ver,rfl,rfl,rfl,hl,fun hp' top' nx' e1 e2=>?_⟩;refine⟨_,_,avR,fun k q hk=>?_,fun q hq=>?_,fun q hq u hu=>?_,hK nx' e2⟩
 ·cases k with
  | zero=>
    simp only [gCZ,oSI] at hk;subst hk;rw [a0g];exact e1
  | succ k=>simp at hk
 ·rw [a0d _ _ (by simpa using hq)]
 ·simp only [List.mem_singleton] at hq;subst hq;rw [a0g] at hu;exact .inl (hv.symm.trans hu)
def b4q:a0j:=a0j.f1 (kL eI) (fun l=>l.length<100000000) (fun l=>sL eI l.reverse)
theorem c25:a0b Tryz.prog 138 b4q:=by
 refine a0b.f1 Tryz.func138 rfl (by decide) Tryz.results138 Tryz.ntmps138 (by decide) fun l hl=>?_
 have hΓ:=gkM c3I (gkM b7Z gkN);refine awL hΓ [1,99999] rfl ?_;simp only [go_sem];refine⟨_,l,rfl,avR,by omega,fun ver nx' hv hv'=>?_⟩;refine awL hΓ [2,99999] rfl ?_;simp only [go_sem];refine b4s (l:=l) (p:=0) rfl  rlR  (by decide) (by omega) fun n2 hn2=>?_
 simp only [go_sem];refine awZ hΓ rfl ?_;simp only [go_sem,List.length_reverse];exact a3A (E:=eI) rfl rfl (by simp)
theorem b8R {N:Nat} {a b f1 f2:List Int} {l:List (Int×Int)} {fv v1 v2 pv:Nat} {x y r s:Int} {hp:Nat->Row} {top nx:Nat} {K:AV->(Nat->Row)->Nat->Nat->Prop} {π:List Nat} {p0 p1 p2 p3:Nat} (hπ:π=[p0,p1,p2,p3]) (hnd:π.Nodup) (ht:∀ p∈π,p<top) (hx:x=0) (hy:y=a.length) (hr:r=0) (hs:s=b.length)
  (h0:a0c (hp p0) (rws (a2U a b fv v1 v2 pv f1 f2 l) 0)) (h1:a0c (hp p1) (rws (a2U a b fv v1 v2 pv f1 f2 l) 1)) (h2:a0c (hp p2) (rws (a2U a b fv v1 v2 pv f1 f2 l) 2)) (h3:a0c (hp p3) (rws (a2U a b fv v1 v2 pv f1 f2 l) 3)) (hpv:pv<nx)
  (ha:a.length<100000000) (hb:b.length<100000000) (hr1:a.length+b.length+3<=f1.length) (hr2:a.length+b.length+3<=f2.length) (hl1:f1.length<1000000000) (hl2:f2.length<1000000000)
  (hl:l.length+a.length<500000000) (hN:a.length+b.length<N)
  (hK:∀ g1 g2 pv' hp' nx',g1.length=f1.length->g2.length=f2.length->(pv'=pv\/nx<=pv')->pv'<nx'->nx<=nx'->hp' p0=rws (a2U a b fv v1 v2 pv' g1 g2 (l++a2q a b)) 0->hp' p3=rws (a2U a b fv v1 v2 pv' g1 g2 (l++a2q a b)) 3->(∀ i,¬i∈π->hp' i=hp i)->K (.val (.tuple #[])) hp' top nx') :
  b2H N [.pt p0 fv 0,.val (.int .i64 x),.val (.int .i64 y),.val (.int .i64 r),.val (.int .i64 s)] hp top nx K:=by
 subst hx hy hr hs hπ;have w0:=h0.vers;have w1:=h1.vers;have w2:=h2.vers;have w3:=h3.vers;have hfin:shP ((0:Nat):Int) ((0:Nat):Int) (a2q (a0T a 0 a.length) (a0T b 0 b.length))=a2q a b:=by rw [b2t,b2t];exact d5C _
 have hmem:∀ q,q∈[p0,p1,p2,p3]↔q=p0\/q=p1\/q=p2\/q=p3:=fun q=>by simp
 have n01:p1≠p0:=fun e=>by simp [e] at hnd
 have n02:p2≠p0:=fun e=>by simp [e] at hnd
 have n03:p3≠p0:=fun e=>by simp [e] at hnd
 have n12:p2≠p1:=fun e=>by simp [e] at hnd
 have n13:p3≠p1:=fun e=>by simp [e] at hnd
 have n23:p3≠p2:=fun e=>by simp [e] at hnd
 refine⟨[p0,p1,p2,p3],[.pt 0 fv 0,kI.enc ((0:Nat):Int),kI.enc (a.length:Nat),kI.enc ((0:Nat):Int),kI.enc (b.length:Nat)],rws (a2U a b fv v1 v2 pv f1 f2 l),
  hnd,ht,.cons a0h.pt (.cons  avR  (.cons  avR  (.cons  avR  (.cons  avR  .nil)))),fun k q hk=>?_,fun k hk=>a1b (top:=4) (by simp [a2U]) k (by simpa using hk),a,b,f1,f2,l,fv,v1,v2,pv,0,a.length,0,b.length,rfl,rfl,rfl,hpv,nZL _,nLR _,nZL _,nLR _,ha,hb,hr1,hr2,hl1,hl2,by omega,by omega,fun g1 g2 pv' hp' top' nx' e1 e2 e3 e4 e5 e6=>?_⟩
 ·match k,hk with
  | 0,hk=>obtain rfl:=oJI hk;exact h0
  | 1,hk=>obtain rfl:=oJI hk;exact h1
  | 2,hk=>obtain rfl:=oJI hk;exact h2
  | 3,hk=>obtain rfl:=oJI hk;exact h3
 rw [hfin] at e5;refine⟨_,a0y (a0y (a0y (a0y hp p0 (rws (a2U a b fv v1 v2 pv' g1 g2 (l++a2q a b)) 0)) p1 (rws (a2U a b fv v1 v2 pv' g1 g2 (l++a2q a b)) 1)) p2 (rws (a2U a b fv v1 v2 pv' g1 g2 (l++a2q a b)) 2)) p3 (rws (a2U a b fv v1 v2 pv' g1 g2 (l++a2q a b)) 3),avR,fun k q hk=>?_,fun q hq=>?_,fun q hq u hu=>?_,hK g1 g2 pv' _ nx' e1 e2 e3 e4 e6 ?_ ?_ fun q hq=>?_⟩
 ·match k,hk with
  | 0,hk=>obtain rfl:=oJI hk;rw [a0d _ _ n03.symm,a0d _ _ n02.symm,a0d _ _ n01.symm,a0g];exact e5 0 (by decide)
  | 1,hk=>obtain rfl:=oJI hk;rw [a0d _ _ n13.symm,a0d _ _ n12.symm,a0g];exact e5 1 (by decide)
  | 2,hk=>obtain rfl:=oJI hk;rw [a0d _ _ n23.symm,a0g];exact e5 2 (by decide)
  | 3,hk=>obtain rfl:=oJI hk;rw [a0g];exact e5 3 (by decide)
 ·rw [hmem] at hq;simp only [not_or] at hq;rw [a0d _ _ hq.2.2.2,a0d _ _ hq.2.2.1,a0d _ _ hq.2.1,a0d _ _ hq.1]
 ·rw [hmem] at hq;rcases hq with rfl|rfl|rfl|rfl
  ·rw [a0d _ _ n03.symm,a0d _ _ n02.symm,a0d _ _ n01.symm,a0g] at hu;exact .inl (w0.symm.trans hu)
  ·rw [a0d _ _ n13.symm,a0d _ _ n12.symm,a0g] at hu;exact .inl (w1.symm.trans hu)
  ·rw [a0d _ _ n23.symm,a0g] at hu;exact .inl (w2.symm.trans hu)
  ·rw [a0g] at hu;obtain rfl:pv'=u:=oJI hu;rcases e3 with rfl|e3
   ·exact .inl w3.symm
   ·exact .inr e3
 ·rw [a0d _ _ n03.symm,a0d _ _ n02.symm,a0d _ _ n01.symm,a0g]
 ·rw [a0g]
 ·rw [hmem] at hq;simp only [not_or] at hq;rw [a0d _ _ hq.2.2.2,a0d _ _ hq.2.2.1,a0d _ _ hq.2.1,a0d _ _ hq.1]
@[go_sem] def d0m:a0p:=fun args hp top nx K=>∃ x y a b,args=[x,y]/\a0h x (sL eI a)/\a0h y (sL eI b)/\hp=rws []/\top=0/\a.length<100000000/\b.length<100000000/\
 ∀ ver hp' nx',hp' 3=a0G ver 129 (eP eI eI) (a2q a b)->ver<nx'->nx<=nx'->(∀ i,4<=i->hp' i=.dead)->K (.ow 3 ver (a2q a b).length) hp' 4 nx'
theorem c2O:a0f Tryz.prog 84 d0m:=by
 refine a0f.mk Tryz.func84 rfl (by decide) Tryz.results84 Tryz.ntmps84 ?_;rintro args hp top nx K ⟨x,y,a,b,rfl,hx,hy,rfl,rfl,ha,hb,hK⟩;have hΓ:GOK Tryz.prog (gam [(138,b4q),(139,(Con.meth (b2H (a.length+b.length+1))))]):=.cons c25 (.cons (d1y _) .nil);refine⟨Nat.le_of_ble_eq_true rfl,?_⟩;refine AW.le (a7o (.cons hx (.cons hy .nil))) ?_;refine awL hΓ [2,99999] rfl ?_;simp only [go_sem,b4q];have eN:((a.length:Int)+b.length+3).toNat=a.length+b.length+3:=by omega
 rw [eN];refine⟨by omega,by omega,ha,hb,by omega,by omega,?_⟩;refine AW.adoptB (q:=2) 6 129 2 (fun i=>(eP eI eI).enc (([]:List (Int×Int)).getD i (0,0))) rfl rfl ?_;refine awL hΓ [3,99999] rfl ?_;simp only [go_sem];refine b8R (a:=a) (b:=b) (f1:=List.replicate (a.length+b.length+3) 0) (f2:=List.replicate (a.length+b.length+3) 0) (l:=[]) (fv:=nx+1+1) (v1:=nx) (v2:=nx+1) (pv:=nx+1+1+1) (π:=[2,0,1,3]) rfl (by decide) (by decide) rfl rfl rfl rfl ?_ ?_ ?_ ?_ (by omega) ha hb (by simp) (by simp) (by simp;omega) (by simp;omega) (by simp;omega) (by omega) ?_
 ·refine a0c.box fun j hj=>?_
  match j,hj with
  | 0,_=>exact avR
  | 1,_=>exact avR
  | 2,_=>exact avR
  | 3,_=>exact avR
  | 4,_=>show a0h (.ow 0 nx (a.length+b.length+3)) (.ow 1 nx (List.replicate (a.length+b.length+3) (0:Int)).length);rw [List.length_replicate];exact a0h.ow
  | 5,_=>show a0h (.ow 1 (nx+1) (a.length+b.length+3)) (.ow 2 (nx+1) (List.replicate (a.length+b.length+3) (0:Int)).length);rw [List.length_replicate];exact a0h.ow
  | 6,_=>exact avR
 ·refine a0c.sl (by simp) fun i hi j hj=>a0h.of_eq ?_
  match j,hj with
  | 0,_=>simp [List.getD,List.getElem?_replicate,hi,zC];rfl
 ·refine a0c.sl (by simp) fun i hi j hj=>a0h.of_eq ?_
  match j,hj with
  | 0,_=>simp [List.getD,List.getElem?_replicate,hi,zC];rfl
 ·exact rlR
 intro g1 g2 pv' hp' nx' e1 e2 e3 e4 e5 e6 e7 e8;have e6':hp' 2=.box (nx+1+1) 198 7 (fAV a b (.ow 1 nx g1.length) (.ow 2 (nx+1) g2.length) (.ow 3 pv' (a2q a b).length)):=e6;simp only [go_sem];refine awZ hΓ rfl ?_;simp only [go_sem,e6',b7s]
 exact hK pv' hp' nx' e7 e4 (by omega) fun i hi=>(e8 i (by simp;omega)).trans (by
  rw [a0d _ _ (by omega),a0d _ _ (by omega),a0d _ _ (by omega),a0d _ _ (by omega),a0d _ _ (by omega)]
  rfl)
@[go_sem] def d2O:a0j:=a0j.f2 (kL eI) (kL eI) (fun a b=>a.length<100000000/\b.length<100000000) (fun a b=>sL (eP eI eI) (a1V a b))
theorem b37:a0b Tryz.prog 30 d2O:=by
 refine a0b.f2 Tryz.func30 rfl (by decide) Tryz.results30 Tryz.ntmps30 (by decide) fun a b ⟨ha,hb⟩=>?_
 have hΓ:=gkC c5c (gkM c2O gkN);have hA:=a2S (fun y=>b.contains y) 0 a;have hB:=a2S (fun y=>a.contains y) 0 b;have hsp:=(a3L ((shI a b).length+(shI b a).length+1) (shI a b) (shI b a) (by omega)).1;have hm:a1V a b=mapM (shQ a b) (shQ b a) (a2q (shI a b) (shI b a)):=rfl;have lA:(shI a b).length<=a.length:=List.length_filter_le _ _;have lB:(shI b a).length<=b.length:=List.length_filter_le _ _;have lG:=a8L (shI a b) (shI b a);have lG2:=a2W (shI a b) (shI b a);refine awL hΓ [3,99999] rfl ?_;simp only [go_sem];refine⟨⟨ha,hb⟩,⟨hb,ha⟩,_,_,shI a b,shI b a,rfl,avR,avR,rfl,by omega,by omega,fun ver hp' nx' h1 h2 h3 h4=>?_⟩;have eA:(shQ a b).length=(shI a b).length:=hA;have eB:(shQ b a).length=(shI b a).length:=hB
 change isM (shI a b) (shI b a) (a2q (shI a b) (shI b a)) at hsp
 generalize hG:a2q (shI a b) (shI b a)=G at *
 refine AW.cut ⟨[(6,sL eI (shQ a b)),(8,sL eI (shQ b a)),(9,.ow 3 ver G.length)],[(3,a0G ver 129 (eP eI eI) G)],50,4,nx',[]⟩ ?_ ?_
 ·simp only [go_sem,h1];exact rlR
 generalize hqa:shQ a b=qa at *
 generalize hqb:shQ b a=qb at *
 refine awZ hΓ rfl ?_;simp only [go_sem]
 refine AW.round (α:={ x:Nat×Nat // x.1<=G.length })
  (fun x=>⟨[(6,sL eI qa),(8,sL eI qb),(9,.ow 3 ver G.length),(27,.ow 3 ver G.length),(28,.val (.int .i64 G.length)),(29,.val (.int .i64 x.1.1))],[(3,a0G ver 129 (eP eI eI) (mapM qa qb (G.take x.1.1)++G.drop x.1.1))],50,4,x.1.2,[]⟩) (fun x=>G.length-x.1.1) ⟨(0,nx'),nZL _⟩ ?_ ?_
 ·simp only [go_sem];exact a0c.of_eq (by simp [mapM])
 ·rintro⟨⟨i,nx⟩,hi⟩;simp only at hi;have hmap:(mapM qa qb (G.take i)).length=i:=by simp only [mapM,List.length_map,List.length_take];omega
  refine awL hΓ [6,99999] rfl ?_;simp only [go_sem,a5w];refine⟨fun hlt=>?_,fun hge=>?_⟩
  ·have hel:(mapM qa qb (G.take i)++G.drop i).getD i (0,0)=G.getD i (0,0):=by
    simp only [List.getD];rw [List.getElem?_append_right (by omega),List.getElem?_drop,hmap]
    congr 2
    omega
   obtain⟨u,v,huv⟩:∃ u v,G.getD i (0,0)=(u,v):=⟨_,_,rfl⟩;have hin:=hsp.2 (G.getD i (0,0)) (by rw [a0F _ _ (by omega)];exact List.getElem_mem _);rw [huv] at hin;unfold inM at hin;simp only at hin;refine⟨by omega,by omega,?_⟩
   refine AW.cut ⟨[(6,sL eI qa),(8,sL eI qb),(9,.ow 3 ver G.length),(10,.val (.int .i64 i)),(11,.pt 4 nx 0),(27,.ow 3 ver G.length),(28,.val (.int .i64 G.length)),(29,.val (.int .i64 i))],
    [(3,a0G ver 129 (eP eI eI) (mapM qa qb (G.take i)++G.drop i)),(4,.box nx 129 2 fun j=>if j=0 then .val (.int .i64 u) else .val (.int .i64 v))],50,5,nx+1,[]⟩ ?_ ?_
   ·simp only [go_sem];refine⟨rlR,a0c.box fun j hj=>a0h.of_eq ?_⟩
    match j,hj with
    | 0,_=>show (eP eI eI).enc ((mapM qa qb (G.take i)++G.drop i).getD i (0,0)) 0=_;rw [hel,huv];rfl
    | 1,_=>show (eP eI eI).enc ((mapM qa qb (G.take i)++G.drop i).getD i (0,0)) 1=_;rw [hel,huv];rfl
   ·refine awZ hΓ rfl ?_;simp only [go_sem,a5w]
    have hset:mapM qa qb (G.take (i+1))++G.drop (i+1)=(mapM qa qb (G.take i)++G.drop i).set i (qa.getD u.toNat 0,qb.getD v.toNat 0):=by
     have hi':i<G.length:=by omega
     have hgi:G[i]=(u,v):=by rw [<-huv,a0F _ _ hi']
     rw [List.set_append_right _ _ (by omega),hmap,Nat.sub_self,List.drop_eq_getElem_cons hi',List.set_cons_zero,List.take_succ_eq_append_getElem hi',hgi];simp only [mapM,List.map_append,List.map_cons,List.map_nil,List.append_assoc,List.singleton_append]
    refine⟨by omega,by omega,by omega,by omega,by omega,⟨(i+1,nx+1),by dsimp only;omega⟩,⟨nLR _,rfl,?_⟩,by dsimp only;omega⟩;refine b1I (E:=eP eI eI) rfl hset (by simp) (by simp) fun j hj=>?_
    match j,hj with
    | 0,_=>exact avR
    | 1,_=>exact avR
  ·obtain rfl:i=G.length:=by omega
   rw [List.take_length,List.drop_length,List.append_nil,hm]
   first
    | exact⟨⟨by simp [mapM],fun i hi=>⟨rfl,rfl⟩⟩,a3A (E:=eP eI eI) rfl rfl (by simp [mapM])⟩
    | exact⟨by simp [mapM],a3A (E:=eP eI eI) rfl rfl (by simp [mapM])⟩
end
section
theorem a0h.ps {m:Nat} {c d:Nat->AV} (h:∀ j,j<m->a0h (c j) (d j)):a0h (.ps m c) (.ps m d):=by
 rintro w η L v ⟨g,o,hv,hl,hc⟩;refine⟨g,o,hv,hl,fun j hj=>?_⟩;obtain⟨u,hu,h1,hr⟩:=hc j hj;exact⟨u,hu,h1,h j hj _ _ _ _ hr⟩
end
set_option maxHeartbeats 4000000
section
attribute [local irreducible] AW a0h a0H a0c
@[go_sem] theorem d3M:a5X (.slice none 0 0)=.em:=rfl
@[go_sem] def c96:a0j:=a0j.f2 (kL eS) (kL eS) (fun a b=>a.length<=10000000/\b.length<=10000000) (fun a b=>sL (eP eI eI) (a49 a b))
theorem c3v:a0b Tryz.prog 97 c96:=by
 refine a0b.f2 Tryz.func97 rfl (by decide) Tryz.results97 Tryz.ntmps97 (by decide) fun a b ⟨ha,hb⟩=>?_
 have hΓ:=gkC a77 (gkC b37 gkN);have n0:=a6r a b;have n1:=a7H a b;have n2:(a0X [] [a,b]).length=2:=rfl;unfold a49;unfold a7S a8a at *
 refine awZ hΓ rfl ?_;simp only [go_sem];exact⟨⟨by omega,by omega⟩,by omega,by omega,by omega,by omega⟩
abbrev Op:=(BS×BS×BS)×Int×Int×Int
abbrev eOp:El Op:=eP eLb (eP eI (eP eI eI))
def a5E (o:Op):Int:=if a1i o.1=false then 3 else if o.2.2.1<7\/64<o.2.2.1 then 4 else if (a6a o.2.1&&a6C o.2.2.2)=false then 5 else 0
@[go_sem] def c9E:a0j:=a0j.f1 (kA eOp) (fun o=>lbN o.1<=3000) (fun o=>kI.enc (a5E o))
theorem c2T:a0b Tryz.prog 96 c9E:=by
 refine a0b.f1 Tryz.func96 rfl (by decide) Tryz.results96 Tryz.ntmps96 (by decide) fun o ho=>?_
 have hΓ:=gkC b1g (gkC c5V gkN);obtain⟨⟨l1,l2,l3⟩,st,w,v⟩:=o;unfold lbN at ho;dsimp only at ho;refine awL hΓ [0] rfl ?_;simp only [go_sem];refine AW.still 1 0 0 75 6 _ rfl rfl (fun j hj=>match j,hj with|0,_=>rfl|1,_=>rfl|2,_=>rfl|3,_=>rfl|4,_=>rfl|5,_=>rfl) ?_;cases hp:a1i (l1,l2,l3) with
 | false=>
   have e:a5E ((l1,l2,l3),st,w,v)=3:=by unfold a5E;rw [if_pos hp]
   unfold a1i at hp;dsimp only at hp;rw [e];refine awN hΓ rfl ?_;simp only [go_sem,hp];exact⟨by omega,by omega,by omega⟩
 | true=>
   have hd:b6I ([],[],[]) [] st (l1,l2,l3) v=([],if (a6a st&&a6C v)=false then 5 else 0):=by
    unfold b6I;by_cases h:(a6a st&&a6C v)=false
    ·rw [if_pos h,if_pos h]
    ·rw [if_neg h,if_neg h,if_neg (by rw [hp];simp)];rfl
   have e:a5E ((l1,l2,l3),st,w,v)=if w<7\/64<w then 4 else if (a6a st&&a6C v)=false then 5 else 0:=by unfold a5E;rw [if_neg (by rw [hp];simp)]
   rw [e];unfold a1i at hp;dsimp only at hp;refine awN hΓ rfl ?_;simp only [go_sem,hp,hd];refine⟨⟨by omega,by omega,by omega⟩,fun h=>by simp [h],fun h=>?_,fun h=>⟨⟨⟨by unfold c6L;simp,by simp [a24]⟩,by unfold d5H;dsimp only;omega⟩,?_⟩⟩
   ·simp only [Bool.or_eq_true,decide_eq_true_eq] at h;rw [if_pos h]
   ·simp only [Bool.or_eq_false_iff,decide_eq_false_iff_not] at h;rw [if_neg (show ¬(w<7\/64<w) by omega)]
def lb3 (o:Op):BS×BS×BS:=o.1
abbrev Rt:=List Pt×List (Int×Int)×List (Int×Int)×List Ck×BS×Int×Int
abbrev eRt:El Rt:=eP (eL ePt) (eP (eL (eP eI eI)) (eP (eL (eP eI eI)) (eP (eL eCk) (eP eS (eP eI eI)))))
def rt0:Rt:=([],[],[],[],[],0,0)
def d2f (a b c:BS) (w st:Int) (lb:BS×BS×BS) (v:Int):Rt:=
 (a68 a b c st lb v,a49 (a0a a) (a0a b),a49 (a0a a) (a0a c),a3X (a0z a b c),a07 (a5Y w a b c) (a68 a b c st lb v),a5Y w a b c,(b10 (a0z a b c) (a3X (a0z a b c)):Int))
def a7s (a b c:BS) (o:Op):Rt:=if a5E o=0 then d2f a b c o.2.2.1 o.2.1 o.1 o.2.2.2 else rt0
@[go_sem] def d1W:a0j:=a0j.f4 kS kS kS (kA eOp) (fun a b c o=>okM a b c/\lbN o.1<=3000) (fun a b c o=>tu2 ((kA eRt).enc (a7s a b c o)) (kI.enc (a5E o)))
theorem c4w {o:Op} (h:a5E o=0):a1i o.1=true/\(7<=o.2.2.1/\o.2.2.1<=64)/\(a6a o.2.1&&a6C o.2.2.2)=true:=by
 unfold a5E at h;split at h
 ·omega
 ·rename_i h1;split at h
  ·omega
  ·rename_i h2;split at h
   ·omega
   ·rename_i h3;exact⟨by simpa using h1,by omega,by simpa using h3⟩
theorem d3I {c:Nat->AV} {d:List Pt} {l r:List (Int×Int)} {k:List Ck} {t:BS} {w n:Int} (h0:a0h (c 0) (sL ePt d)) (h1:a0h (c 1) (sL (eP eI eI) l)) (h2:a0h (c 2) (sL (eP eI eI) r)) (h3:a0h (c 3) (sL eCk k)) (h4:c 4=.st t) (h5:c 5=.val (.int .i64 w)) (h6:c 6=.val (.int .i64 n)):a0h (.ag 7 c) (.ag 7 (eRt.enc (d,l,r,k,t,w,n))):=
 a0h.ag fun j hj=>match j,hj with
  | 0,_=>h0
  | 1,_=>h1
  | 2,_=>h2
  | 3,_=>h3
  | 4,_=>a0h.of_eq h4
  | 5,_=>a0h.of_eq h5
  | 6,_=>a0h.of_eq h6
theorem c6H {ver ety:Nat} {c:Nat->AV} {d:List Pt} {l r:List (Int×Int)} {k:List Ck} {t:BS} {w n:Int} (h0:a0h (c 0) (sL ePt d)) (h1:a0h (c 1) (sL (eP eI eI) l)) (h2:a0h (c 2) (sL (eP eI eI) r)) (h3:a0h (c 3) (sL eCk k)) (h4:c 4=.st t) (h5:c 5=.val (.int .i64 w)) (h6:c 6=.val (.int .i64 n)):a0c (.box ver ety 7 c) (.box ver ety 7 (eRt.enc (d,l,r,k,t,w,n))):=
 a0c.box fun j hj=>match j,hj with
  | 0,_=>h0
  | 1,_=>h1
  | 2,_=>h2
  | 3,_=>h3
  | 4,_=>a0h.of_eq h4
  | 5,_=>a0h.of_eq h5
  | 6,_=>a0h.of_eq h6
theorem c0G:a0b Tryz.prog 40 d1W:=by
 refine a0b.f4 Tryz.func40 rfl (by decide) Tryz.results40 Tryz.ntmps40 (by decide) fun a b c o ⟨hM,hl⟩=>?_
 have hΓ:=gkC c2T (gkC a8Y (gkC c3v (gkC c4D (gkC d7t (gkC c5V (gkC b1A (gkC c4u gkN)))))));obtain⟨h1,h2,h3⟩:=c0x hM;by_cases he:a5E o=0
 ·obtain⟨p1,p2,p3⟩:=c4w he;have e:a7s a b c o=d2f a b c o.2.2.1 o.2.1 o.1 o.2.2.2:=by unfold a7s;rw [if_pos he]
  have hF:=a52 (a:=a) (b:=b) (c:=c) hM p2 o.2.1 hl p1 o.2.2.2;rw [e,he];obtain⟨⟨l1,l2,l3⟩,st,w,v⟩:=o;dsimp only at p1 p2 p3 hF hl;refine awL hΓ [0,200007] rfl ?_;simp only [go_sem];refine AW.still 7 0 0 75 6 _ rfl rfl (fun j hj=>match j,hj with|0,_=>rfl|1,_=>rfl|2,_=>rfl|3,_=>rfl|4,_=>rfl|5,_=>rfl) ?_;refine awL hΓ [6,200007] rfl ?_;simp only [go_sem,he];refine⟨⟨by omega,by omega⟩,⟨by omega,by omega⟩,fun h=>absurd h (by omega),fun _=>⟨hl,by omega,by omega,by omega,?_⟩⟩;refine AW.still 11 2 2 150 3 _ rfl rfl (fun j hj=>match j,hj with|0,_=>rfl|1,_=>rfl|2,_=>rfl) ?_;refine AW.fork ?_;refine AW.drawZ hΓ mixed 19 [] [] [] (by kernel_rfl) ?_;simp only [go_sem,c3a];have la:=a0l a;have lb:=a0l b;have lc:=a0l c;refine⟨⟨by omega,by omega⟩,⟨by omega,by omega⟩,⟨by omega,by omega,by omega⟩,?_⟩;refine AW.cut ⟨[(7,.ps 6 (eOp.enc ((l1,l2,l3),st,w,v))),(8,.pt 1 1 0),(11,.ps 3 (eFl.enc (a0a a,a0a b,a0a c))),(12,.pt 3 3 0)],[(1,.box 1 48 7 (eRt.enc rt0)),(3,.box 3 48 7 (eRt.enc ([],a49 (a0a a) (a0a b),a49 (a0a a) (a0a c),[],[],a5Y w a b c,0)))],114,4,4,[]⟩ ?_ ?_
  ·simp only [go_sem];exact⟨a0h.ps fun j hj=>a0h.of_eq (match j,hj with|0,_=>rfl|1,_=>rfl|2,_=>rfl),c6H (a2K _) (a2K _) (a2K _) (a2K _) rfl rfl rfl,c6H (a2K _)  avR   avR  (a2K _) rfl rfl rfl⟩
  have hfit:c0d (a0a a).length (a0a b).length (a0a c).length (a49 (a0a a) (a0a b)) (a49 (a0a a) (a0a c))=true:=b1p (a81 (a0z a b c)).1;have hK:ofK (((a0a a).length:Int),((a0a b).length:Int),((a0a c).length:Int)) (a2E (a49 (a0a a) (a0a b)) (a49 (a0a a) (a0a c))) [] (0,0,0)=a3X (a0z a b c):=rfl;have hdoc:b6I (a0a a,a0a b,a0a c) (a3X (a0z a b c)) st (l1,l2,l3) v=(a68 a b c st (l1,l2,l3) v,0):=c8h p3 p1;have hpr:=c34 hF;have hok:=hF.ok;have hlen:=hF.len;have hsum:=hF.sum;have hdl:=hF.dlen;have hpL:=hF.pr;have hps:=b5x (Nat.le_trans hF.sump (by decide));have hcn:=b6C (a0z a b c) (a3X (a0z a b c));have p1:=b00 (a0a a) (a0a b);have p2:=b00 (a0a a) (a0a c);unfold d2f;unfold a0z at *
  generalize a68 a b c st (l1,l2,l3) v=D at *
  generalize a5Y w a b c=W at *
  generalize hKe:a3X (a0a a,a0a b,a0a c)=K at *
  generalize a49 (a0a a) (a0a b)=lp at *
  generalize a49 (a0a a) (a0a c)=rp at *
  generalize a0a a=x at *
  generalize a0a b=y at *
  generalize a0a c=z at *
  refine awN hΓ rfl ?_;simp only [go_sem,hfit,hK,hdoc,hpr];unfold lbN at hl;exact⟨⟨by omega,by omega,by omega,by omega,by omega⟩,⟨⟨hok,by omega,hsum⟩,by unfold d5H;dsimp only at *;omega⟩,⟨⟨by omega,hps⟩,fun _=>hpL⟩,⟨hok,by omega⟩,d3I  avR   avR   avR   avR  rfl rfl rfl⟩
 ·have e:a7s a b c o=rt0:=by unfold a7s;rw [if_neg he]
  rw [e];obtain⟨⟨l1,l2,l3⟩,st,w,v⟩:=o;refine awL hΓ [0] rfl ?_;simp only [go_sem];refine AW.still 7 0 0 75 6 _ rfl rfl (fun j hj=>match j,hj with|0,_=>rfl|1,_=>rfl|2,_=>rfl|3,_=>rfl|4,_=>rfl|5,_=>rfl) ?_;refine awN hΓ rfl ?_;simp only [go_sem,he];exact⟨⟨by omega,by omega⟩,⟨by omega,by omega⟩,fun h=>absurd h (by omega),fun _=>⟨hl,d3I (a2K _) (a2K _) (a2K _) (a2K _) rfl rfl rfl⟩⟩
theorem d6U {c:Nat->AV} {l1 l2 l3:BS} {a b d:Int} (h0:c 0=.st l1) (h1:c 1=.st l2) (h2:c 2=.st l3) (h3:c 3=.val (.int .i64 a)) (h4:c 4=.val (.int .i64 b)) (h5:c 5=.val (.int .i64 d)):a0h (.ag 6 c) (.ag 6 (eOp.enc ((l1,l2,l3),a,b,d))):=
 a0h.ag fun j hj=>a0h.of_eq (match j,hj with
  | 0,_=>h0
  | 1,_=>h1
  | 2,_=>h2
  | 3,_=>h3
  | 4,_=>h4
  | 5,_=>h5)
def a9o:a0j:=a0j.f0 ((kA eOp).enc (([],[],[]),0,7,0))
theorem b66:a0b Tryz.prog 54 a9o:=by
 refine a0b.f0 Tryz.func54 rfl (by decide) Tryz.results54 Tryz.ntmps54 ?_;have hΓ:=gkN;refine awZ hΓ rfl ?_;simp only [go_sem];exact d6U rfl rfl rfl rfl rfl rfl
@[go_sem] def c7L:a0j:=a0j.f4 (kA ePt) kI kI kI (fun p _ _ _=>lbN (lbP p)<=3000) (fun p st w v=>kI.enc (a5E (lbP p,st,w,v)))
theorem c3V:a0b Tryz.prog 70 c7L:=by
 refine a0b.f4 Tryz.func70 rfl (by decide) Tryz.results70 Tryz.ntmps70 (by decide) fun p st w v hp=>?_
 have hΓ:=gkC b7c gkN;obtain⟨l1,l2,l3,ph,pt,pl,pb,pr,phb⟩:=p;unfold lbN lbP at hp;dsimp only at hp;refine awN hΓ rfl ?_;simp only [go_sem,b2s];have e:b0h (l1,l2,l3,ph,pt,pl,pb,pr,phb)=a1i (l1,l2,l3):=rfl;rw [e];unfold a5E lbP a6a a6C;dsimp only;generalize a1i (l1,l2,l3)=P;refine⟨⟨by omega,by omega,by omega⟩,fun h=>?_,fun h=>⟨fun h2=>by simp [h2],fun h2=>?_,fun h2=>⟨fun h3=>by simp [h3],fun h3 h4=>?_,fun h3 h4=>?_,fun h3=>by simpa using h3,fun h5=>?_,fun h5=>?_⟩⟩⟩
 ·have h:P=false:=by simpa using h
  rw [if_pos h]
 ·have h:P=true:=by simpa using h
  simp only [Bool.or_eq_true,decide_eq_true_eq] at h2;rw [if_neg (by rw [h];simp),if_pos h2]
 ·simp [h4];omega
 ·simp [h4];omega
 ·have h:P=true:=by simpa using h
  simp only [Bool.or_eq_false_iff,decide_eq_false_iff_not] at h2;simp only [Bool.or_eq_true,Bool.and_eq_true,decide_eq_true_eq] at h5;rw [if_neg (by rw [h];simp),if_neg (by omega),if_pos];simp only [Bool.and_eq_false_iff,Bool.or_eq_false_iff,decide_eq_false_iff_not];omega
 ·have h:P=true:=by simpa using h
  simp only [Bool.or_eq_false_iff,decide_eq_false_iff_not] at h2;simp only [Bool.or_eq_false_iff,Bool.and_eq_false_iff,decide_eq_false_iff_not] at h5;rw [if_neg (by rw [h];simp),if_neg (by omega),if_neg];simp only [Bool.and_eq_false_iff,Bool.or_eq_false_iff,decide_eq_false_iff_not];omega
end
set_option maxHeartbeats 8000000
section
abbrev Mg:=List Pt×BS×Int×List Ck
abbrev eMg:El Mg:=eP (eL ePt) (eP eS (eP eI (eL eCk)))
abbrev Ss:=(BS×BS×BS)×Op×Option Mg
def shC (p1 p2 p3 p4 v1 v2 v3 v4:Nat) (x:Ss):Nat->AV:=fun j=>
 if j=0 then .ow p1 v1 x.1.1.length else if j=1 then .ow p2 v2 x.1.2.1.length else if j=2 then .ow p3 v3 x.1.2.2.length else if j<9 then eOp.enc x.2.1 (j-3) else if x.2.2.isSome=true then .pt p4 v4 0 else .val (.pointer none)
def mgR (v:Nat):Option Mg->Row
 | none=>.dead
 | some m=>.box v 173 4 (eMg.enc m)
section
variable (p1 p2 p3 p4 v1 v2 v3 v4:Nat) (x:Ss)
@[go_sem] theorem e0n:shC p1 p2 p3 p4 v1 v2 v3 v4 x 0=.ow p1 v1 x.1.1.length:=rfl
@[go_sem] theorem e0l:shC p1 p2 p3 p4 v1 v2 v3 v4 x 1=.ow p2 v2 x.1.2.1.length:=rfl
@[go_sem] theorem e0w:shC p1 p2 p3 p4 v1 v2 v3 v4 x 2=.ow p3 v3 x.1.2.2.length:=rfl
@[go_sem] theorem e0I:shC p1 p2 p3 p4 v1 v2 v3 v4 x 3=.st x.2.1.1.1:=rfl
@[go_sem] theorem d99:shC p1 p2 p3 p4 v1 v2 v3 v4 x 4=.st x.2.1.1.2.1:=rfl
@[go_sem] theorem e0F:shC p1 p2 p3 p4 v1 v2 v3 v4 x 5=.st x.2.1.1.2.2:=rfl
@[go_sem] theorem e0G:shC p1 p2 p3 p4 v1 v2 v3 v4 x 6=.val (.int .i64 x.2.1.2.1):=rfl
@[go_sem] theorem e0i:shC p1 p2 p3 p4 v1 v2 v3 v4 x 7=.val (.int .i64 x.2.1.2.2.1):=rfl
@[go_sem] theorem e0s:shC p1 p2 p3 p4 v1 v2 v3 v4 x 8=.val (.int .i64 x.2.1.2.2.2):=rfl
theorem b72:shC p1 p2 p3 p4 v1 v2 v3 v4 x 9=if x.2.2.isSome=true then .pt p4 v4 0 else .val (.pointer none):=rfl
end
theorem d4n (p1 p2 p3 p4 q1 q2 q3 q4 v v1 v2 v3 v4:Nat) (x:Ss):a0c (.box v 106 10 (shC p1 p2 p3 p4 v1 v2 v3 v4 x)) (.box v 106 10 (shC q1 q2 q3 q4 v1 v2 v3 v4 x)):=a0c.box fun j hj=>by
 unfold shC
 repeat' split
 all_goals first|exact a0h.ow|exact a0h.pt|exact avR
theorem a0c.less {ver ety sz n n':Nat} {c d:Nat->Nat->AV} (hn:n'<=n) (h:∀ i,i<n'->∀ j,j<sz->a0h (c i j) (d i j)):a0c (.sl ver ety sz n c) (.sl ver ety sz n' d):=by
 refine⟨rfl,fun w η L hr g cap he=>?_⟩;have:=hr g cap he;cases g with
 | none=>
   have:n=0:=this;show n'=0;omega
 | some b=>
   obtain⟨cur,hh,hs,hn',hm,hc⟩:=this;refine⟨cur,hh,hs,by omega,hm,fun i hi j hj=>?_⟩;obtain⟨u,hu,h1,hrep⟩:=hc i (by omega) j hj;exact⟨u,hu,h1,h i hi j hj _ _ _ _ hrep⟩
theorem b0y {u:Nat} {l:List UInt8} (k:Nat):a0c (a0i u l) (a0i u (l.take k)):=by
 refine a0c.less (by rw [List.length_take];omega) fun i hi j hj=>a0h.of_eq ?_
 unfold a1y;rw [List.length_take] at hi;rw [show (l.take k).getD i 0=l.getD i 0 by simp [List.getD,List.getElem?_take,show i<k by omega]]
def sSh (R:List AV->Ss->AV->Ss->Prop):a0p:=fun args hp top nx K=>∃ (v v1 v2 v3 v4:Nat) (xs:List AV) (a:Ss) (r:AV) (b:Ss),args=.pt 0 v 0::xs/\R xs a r b/\
 hp=rws [(0,.box v 106 10 (shC 1 2 3 4 v1 v2 v3 v4 a)),(1,a0i v1 a.1.1),(2,a0i v2 a.1.2.1),(3,a0i v3 a.1.2.2),(4,mgR v4 a.2.2)]/\top=5/\
 ∀ u1 u2 u3 u4 nx',(u1=v1\/nx<=u1)->(u2=v2\/nx<=u2)->(u3=v3\/nx<=u3)->((a.2.2.isSome=true/\u4=v4)\/nx<=u4)->nx<=nx'->
  K r (rws [(0,.box v 106 10 (shC 1 2 3 4 u1 u2 u3 u4 b)),(1,a0i u1 b.1.1),(2,a0i u2 b.1.2.1),(3,a0i u3 b.1.2.2),(4,mgR u4 b.2.2)]) 5 nx'
theorem d4i {hp:Nat->Row} {p q s t u:Nat} {a b c d e:Row} (h:a0c (hp p) a) (h2:a0c (hp q) b) (h3:a0c (hp s) c) (h4:a0c (hp t) d) (h5:a0c (hp u) e):∀ (i o:Nat),[p,q,s,t,u][i]?=some o->a0c (hp o) (rws [(0,a),(1,b),(2,c),(3,d),(4,e)] i):=by
 intro i o hq
 match i with
 | 0=>simp only [gCZ,oSI] at hq;subst hq;exact h
 | 1=>simp only [gCS,gCZ,oSI] at hq;subst hq;exact h2
 | 2=>simp only [gCS,gCZ,oSI] at hq;subst hq;exact h3
 | 3=>simp only [gCS,gCZ,oSI] at hq;subst hq;exact h4
 | 4=>simp only [gCS,gCZ,oSI] at hq;subst hq;exact h5
 | i+5=>simp at hq
theorem d2B {v:Nat} {o:Option Mg} {w:Nat} (h:(mgR v o).ver=some w):o.isSome=true/\w=v:=by
 cases o with
 | none=>cases h
 | some m=>exact⟨rfl,(oJI (show some v=some w from h)).symm⟩
end
section
attribute [local irreducible] AW a0h a0H a0c a3o
theorem d2Q {s:List UInt8} {a:Nat} (h3:∀ k,a<=k->k<s.length->s.getD k 0≠32):wdL (s.drop a)=[s.drop a]:=by
 refine a4X _ fun hm=>?_
 obtain⟨k,hk,hx⟩:=List.mem_iff_getElem.1 hm;simp only [List.length_drop] at hk;rw [List.getElem_drop] at hx;exact h3 (a+k) (by omega) (by omega) (by rw [a0F _ _ (by omega)];exact hx)
theorem c7U {s:List UInt8} {a i:Nat} (h1:a<=i) (h2:i<s.length) (h3:∀ k,a<=k->k<i->s.getD k 0≠32) (h4:s.getD i 0=32) :
  wdL (s.drop a)=(s.take i).drop a::wdL (s.drop (i+1)):=by
 have e1:s.drop a=(s.take i).drop a++s.getD i 0::s.drop (i+1):=by
  have:s=s.take i++s.getD i 0::s.drop (i+1):=by
   rw [a0F _ _ h2,<-List.drop_eq_getElem_cons h2,List.take_append_drop]
  conv=>lhs;rw [this]
  rw [List.drop_append_of_le_length (by simp;omega)]
 have hno:(32:UInt8)∉(s.take i).drop a:=by
  intro hm;obtain⟨k,hk,hx⟩:=List.mem_iff_getElem.1 hm;simp only [List.length_drop,List.length_take] at hk;rw [List.getElem_drop,List.getElem_take] at hx;exact h3 (a+k) (by omega) (by omega) (by rw [a0F _ _ (by omega)];exact hx)
 rw [e1,h4,a4b _ _ hno]
@[go_sem] def b9v:a0j:=a0j.f1 kS (fun l=>l.length<=100000000) (fun l=>sL eS (wdL l))
theorem a92:a0b Tryz.prog 66 b9v:=by
 refine a0b.f1 Tryz.func66 rfl (by decide) Tryz.results66 Tryz.ntmps66 (by decide) fun s hs=>?_
 have hΓ:=gkN;refine awZ hΓ rfl ?_;simp only [go_sem];refine AW.adopt 3 9 1 (fun _ _=>.any) rfl ?_
 refine AW.round (α:={ x:Nat×Nat×List (List UInt8)×Nat×Nat // x.2.1<=x.1/\x.1<=s.length+1/\(x.1<=s.length->x.2.2.1++wdL (s.drop x.2.1)=wdL s/\∀ k,x.2.1<=k->k<x.1->s.getD k 0≠32)/\(x.1=s.length+1->x.2.2.1=wdL s)/\x.2.2.1.length<=x.1 })
  (fun x=>⟨[(0,.st s),(3,.ow 0 x.1.2.2.2.1 x.1.2.2.1.length),(4,.val (.int .i64 x.1.2.1)),(5,.val (.int .i64 x.1.1))],[(0,a0G x.1.2.2.2.1 9 eS x.1.2.2.1)],32,1,x.1.2.2.2.2,[]⟩) (fun x=>s.length+1-x.1.1) ⟨(0,0,[],0,1),nZL _,by omega,fun _=>⟨rfl,fun k _ h=>absurd h (Nat.not_lt_zero k)⟩,fun h=>by simp at h,nZL _⟩ ?_ ?_
 ·simp only [go_sem];exact a62 rfl
 ·rintro⟨⟨i,from_,out,v,nx⟩,h1,h2,h3,h4,h5⟩;simp only at h1 h2 h3 h4 h5;rcases Nat.lt_or_ge s.length i with hge|hle
  ·obtain rfl:i=s.length+1:=by omega
   obtain rfl:=h4 rfl;have hlI:(((s.length+1:Nat):Int)<=(s.length:Nat))=False:=eq_false (by omega);refine awN hΓ rfl ?_;simp only [go_sem,hlI];exact avR
  ·obtain⟨g3,h6⟩:=h3 hle;have hlI:((i:Int)<=(s.length:Nat))=True:=eq_true (by omega);refine awN hΓ rfl ?_;simp only [go_sem,hlI];refine⟨fun h=>?_,fun h=>by simp [h],fun hb=>?_,fun hb=>?_⟩
   ·simp only [Bool.not_eq_true',decide_eq_false_iff_not] at h;omega
   ·refine⟨by omega,by omega,by omega,by omega,⟨(i+1,i+1,out++[(s.take i).drop from_],nx,nx+1),nLR _,by dsimp only;omega,fun h=>?_,fun h=>?_,by simp;omega⟩,⟨nLR _,⟨⟨rfl,by simp⟩,by dsimp only;omega,by dsimp only;omega⟩,a02 rfl rfl rfl rfl (by simp) fun _ _=>avR⟩,by dsimp only;omega⟩
    ·dsimp only at h ⊢
     have hc:s.getD i 0=32:=by
      simp only [Bool.or_eq_true,decide_eq_true_eq] at hb;rcases hb with hb|hb
      ·omega
      ·exact hb
     refine⟨?_,fun k a b=>by omega⟩;rw [<-g3,c7U h1 (by omega) h6 hc];simp
    ·dsimp only at h ⊢;obtain rfl:i=s.length:=by omega
     rw [<-g3,d2Q h6,List.take_length]
   ·simp only [Bool.or_eq_false_iff,decide_eq_false_iff_not] at hb;refine⟨by omega,⟨(i+1,from_,out,v,nx),by dsimp only;omega,by dsimp only;omega,fun h=>⟨g3,fun k a b=>?_⟩,fun h=>?_,by dsimp only;omega⟩,⟨nLR _,⟨⟨rfl,rfl⟩,rfl,by dsimp only;omega⟩,rlR⟩,by dsimp only;omega⟩
    ·dsimp only at a b;rcases Nat.lt_or_ge k i with h'|h'
     ·exact h6 k a h'
     ·obtain rfl:k=i:=by omega
      exact hb.2
    ·dsimp only at h;omega
@[go_sem] noncomputable def c5Q:a0j:=a0j.f1 kS (fun _=>True) (fun w=>kI.enc (a1J w))
theorem b2M:a0b Tryz.prog 24 c5Q:=by
 refine a0b.f1 Tryz.func24 rfl (by decide) Tryz.results24 Tryz.ntmps24 (by decide) fun w _=>?_
 have hΓ:=gkC b1O gkN;by_cases hs1:w.length<1
 ·have hI1:((w.length:Int)<1)=True:=eq_true (by omega);rw [b0k (.inl hs1)];refine awN hΓ rfl ?_;simp only [go_sem,hI1]
 by_cases hs2:7<w.length
 ·have hI1:((w.length:Int)<1)=False:=eq_false (by omega);have hI2:(7<(w.length:Int))=True:=eq_true (by omega);rw [b0k (.inr hs2)];refine awN hΓ rfl ?_;simp only [go_sem,hI1,hI2]
 ·have hI1:((w.length:Int)<1)=False:=eq_false (by omega);have hI2:(7<(w.length:Int))=False:=eq_false (by omega);generalize hg:a1J w=r;refine awZ hΓ rfl ?_;simp only [go_sem,hI1,hI2];refine AW.round (α:={ i:Nat // i<=w.length/\∀ c∈w.take i,48<=c.toNat/\c.toNat<=57 }) (fun i=>⟨[(0,.st w),(3,.val (.int .i64 (a9k (w.take i.1) 0))),(4,.val (.int .i64 i.1))],[],46,0,0,[]⟩) (fun i=>w.length-i.1) ⟨0,nZL _,by simp⟩ ?_ ?_
  ·simp only [go_sem];rfl
  ·rintro⟨i,hi,hd⟩;have hv:a9k (w.take i) 0<10 ^ (0+(w.take i).length):=c04 _ 0 0 hd (by decide);have hv2:a9k (w.take i) 0<100000000:=Nat.lt_of_lt_of_le hv (Nat.le_trans (Nat.pow_le_pow_right (by decide) (by rw [List.length_take];omega:0+(w.take i).length<=8)) (by decide));rcases Nat.lt_or_ge i w.length with hlt|hge
   ·have hlI:((i:Int)<(w.length:Nat))=True:=eq_true (by omega);have hm:w.getD i 0∈w:=by rw [a0F _ _ hlt];exact List.getElem_mem ..
    have hw:48<=(w.getD i 0).toNat->(w.getD i 0).toNat<=57->IntKind.u8.wrap (((w.getD i 0).toNat:Int)-48)=(((w.getD i 0).toNat-48:Nat):Int):=fun a b=>by
     have:∀ k:Nat,48<=k->k<=57->IntKind.u8.wrap ((k:Int)-48)=((k-48:Nat):Int):=fun k a b=>by
      have hk:k=48\/k=49\/k=50\/k=51\/k=52\/k=53\/k=54\/k=55\/k=56\/k=57:=by omega
      rcases hk with rfl|rfl|rfl|rfl|rfl|rfl|rfl|rfl|rfl|rfl<;>rfl
     exact this _ a b
    refine awN hΓ rfl ?_;simp only [go_sem,hlI];refine⟨by omega,fun _=>by omega,fun h=>by simp only [Bool.not_eq_true',decide_eq_false_iff_not];exact h,fun hb=>?_,fun hb=>?_⟩
    ·simp only [Bool.or_eq_true,decide_eq_true_eq] at hb;rw [<-hg,c23 hm (by omega)]
    ·simp only [Bool.or_eq_false_iff,decide_eq_false_iff_not] at hb;have b1:48<=(w.getD i 0).toNat:=by omega
     have b2:(w.getD i 0).toNat<=57:=by omega
     rw [hw b1 b2];refine⟨by omega,by omega,by omega,by omega,by omega,⟨i+1,hlt,fun c hc=>?_⟩,⟨?_,by dsimp only;omega⟩,by dsimp only;omega⟩
     ·rw [a0K w 0 hlt,List.mem_append,List.mem_singleton] at hc;rcases hc with hc|rfl
      ·exact hd c hc
      ·exact⟨b1,b2⟩
     ·dsimp only;rw [a0K w 0 hlt,b09,a9k,a9k];omega
   ·obtain rfl:i=w.length:=by omega
    have hlI:((w.length:Int)<(w.length:Nat))=False:=eq_false (by omega);rw [List.take_length] at hv2;have hr:=(hg.symm.trans (c41 w)).symm;refine awN hΓ rfl ?_;simp only [go_sem,hlI,a19];refine⟨⟨⟨by omega,by omega⟩,by omega⟩,fun h=>by simpa using h,fun hb=>?_,fun hb=>?_⟩
    ·simp only [Bool.or_eq_true,decide_eq_true_eq] at hb;rw [<-hr,if_pos (hb.imp id (fun h=>by omega))]
    ·simp only [Bool.or_eq_false_iff,decide_eq_false_iff_not,Decidable.not_not] at hb;rw [<-hr,if_neg];rintro (h|h)
     ·exact h hb.1
     ·omega
def a0M (w:List UInt8):Int:=if w=[98,97,115,101] then 0 else if w=[108,101,102,116] then 1 else if w=[114,105,103,104,116] then 2 else -1
def d2Z:AV:=.sn 3 1 fun i=>([fun _=>AV.st [98,97,115,101],fun _=>AV.st [108,101,102,116],fun _=>AV.st [114,105,103,104,116]]:List (Nat->AV)).getD i fun _=>AV.any
@[go_sem] def b8f:a0j:=a0j.f1 kS (fun _=>True) (fun w=>kI.enc (a0M w))
theorem a65:a0b Tryz.prog 67 b8f:=by
 refine a0b.f1 Tryz.func67 rfl (by decide) Tryz.results67 Tryz.ntmps67 (by decide) fun w _=>?_
 have hΓ:=gkN;have p0:w=[98,97,115,101]->a0M w=0:=fun h=>by subst h;rfl
 have p1:w=[108,101,102,116]->a0M w=1:=fun h=>by subst h;rfl
 have p2:w=[114,105,103,104,116]->a0M w=2:=fun h=>by subst h;rfl
 have p3:w≠[98,97,115,101]->w≠[108,101,102,116]->w≠[114,105,103,104,116]->a0M w=-1:=fun h1 h2 h3=>by
  unfold a0M;rw [if_neg h1,if_neg h2,if_neg h3]
 generalize a0M w=r at *
 refine awZ hΓ rfl ?_;simp only [go_sem];refine AW.round (α:={ i:Nat // i<=3/\(1<=i->w≠[98,97,115,101])/\(2<=i->w≠[108,101,102,116])/\(3<=i->w≠[114,105,103,104,116]) }) (fun i=>⟨[(0,.st w),(3,d2Z),(4,.val (.int .i64 i.1))],[],17,0,0,[]⟩) (fun i=>3-i.1) ⟨0,nZL _,by omega,by omega,by omega⟩ ?_ ?_
 ·simp only [go_sem];exact avR
 ·rintro⟨i,hi,h1,h2,h3⟩;have hc:i=0\/i=1\/i=2\/i=3:=by omega
  rcases hc with rfl|rfl|rfl|rfl
  ·refine awN hΓ rfl ?_;simp only [go_sem,d2Z];exact⟨fun h=>(p0 h.symm).symm,fun h=>⟨⟨1,by omega,fun _=>Ne.symm h,by omega,by omega⟩,rfl,by dsimp only;omega⟩⟩
  ·refine awN hΓ rfl ?_;simp only [go_sem,d2Z];exact⟨fun h=>(p1 h.symm).symm,fun h=>⟨⟨2,by omega,fun _=>h1 (by omega),fun _=>Ne.symm h,by omega⟩,rfl,by dsimp only;omega⟩⟩
  ·refine awN hΓ rfl ?_;simp only [go_sem,d2Z];exact⟨fun h=>(p2 h.symm).symm,fun h=>⟨⟨3,by omega,fun _=>h1 (by omega),fun _=>h2 (by omega),fun _=>Ne.symm h⟩,rfl,by dsimp only;omega⟩⟩
  ·refine awN hΓ rfl ?_;simp only [go_sem,d2Z];exact (p3 (h1 (by omega)) (h2 (by omega)) (h3 (by omega))).symm
@[go_sem] def c0i:a0j:=a0j.f1 kS (fun _=>True) (fun w=>kI.enc (a0B w).1)
theorem a9S:a0b Tryz.prog 72 c0i:=by
 refine a0b.f1 Tryz.func72 rfl (by decide) Tryz.results72 Tryz.ntmps72 (by decide) fun w _=>?_
 have hΓ:=gkC a65 gkN
 have hc:(a0M w=0/\(a0B w).1=2)\/(a0M w=1/\(a0B w).1=1)\/(a0M w=2/\(a0B w).1=3)\/(a0M w=-1/\(a0B w).1=0):=by
  by_cases h1:w=[98,97,115,101]
  ·subst h1;exact .inl ⟨rfl,rfl⟩
  by_cases h2:w=[108,101,102,116]
  ·subst h2;exact .inr (.inl ⟨rfl,rfl⟩)
  by_cases h3:w=[114,105,103,104,116]
  ·subst h3;exact .inr (.inr (.inl ⟨rfl,rfl⟩))
  unfold a0M a0B;rw [if_neg h1,if_neg h2,if_neg h3,if_neg h2,if_neg h1,if_neg h3];exact .inr (.inr (.inr ⟨rfl,rfl⟩))
 refine awN hΓ rfl ?_;simp only [go_sem];rcases hc with⟨h1,h2⟩|⟨h1,h2⟩|⟨h1,h2⟩|⟨h1,h2⟩<;>rw [h1,h2]<;>exact⟨by omega,by omega,rfl,avR⟩
def wdE:List (List UInt8):=[[111,107],[97,114,103,117,109,101,110,116],[115,105,122,101],[108,97,98,101,108],[119,105,100,116,104],[115,116,121,108,101],[109,97,108,102,111,114,109,101,100],[110,101,115,116,101,100],[115,116,114,97,121],[102,108,97,103],[117,110,99,108,111,115,101,100],[102,111,114,109],[109,97,116,99,104],[119,111,114,100]]
def a7t (e:Int):List UInt8:=wdE.getD e.toNat []
@[go_sem] def c1j:a0j:=a0j.f1 kI (fun e=>0<=e/\e<14) (fun e=>kS.enc (a7t e))
theorem a64:a0b Tryz.prog 71 c1j:=by
 refine a0b.f1 Tryz.func71 rfl (by decide) Tryz.results71 Tryz.ntmps71 (by decide) fun e he=>?_
 have hΓ:=gkN;obtain⟨k,rfl⟩:=Int.eq_ofNat_of_zero_le he.1;have hk:k=0\/k=1\/k=2\/k=3\/k=4\/k=5\/k=6\/k=7\/k=8\/k=9\/k=10\/k=11\/k=12\/k=13:=by omega
 refine awN hΓ rfl ?_;simp only [go_sem];rcases hk with rfl|rfl|rfl|rfl|rfl|rfl|rfl|rfl|rfl|rfl|rfl|rfl|rfl|rfl<;>exact⟨by omega,rfl,avR⟩
@[go_sem] def c9S:a0j:=a0j.f1 kI (fun e=>0<=e/\e<14) (fun e=>kS.enc (a7t e))
theorem a7N:a0b Tryz.prog 116 c9S:=by
 refine a0b.f1 Tryz.func116 rfl (by decide) Tryz.results116 Tryz.ntmps116 (by decide) fun e he=>?_
 have hΓ:=gkN;obtain⟨k,rfl⟩:=Int.eq_ofNat_of_zero_le he.1;have hk:k=0\/k=1\/k=2\/k=3\/k=4\/k=5\/k=6\/k=7\/k=8\/k=9\/k=10\/k=11\/k=12\/k=13:=by omega
 have hI1:((k:Int)<0)=False:=eq_false (by omega);have hI2:(14<=(k:Int))=False:=eq_false (by omega);refine awN hΓ rfl ?_;simp only [go_sem,hI1,hI2];rcases hk with rfl|rfl|rfl|rfl|rfl|rfl|rfl|rfl|rfl|rfl|rfl|rfl|rfl|rfl<;>exact⟨by omega,by decide,rfl,avR⟩
def a1G (t:List UInt8) (e:Int):List UInt8:=if e=0 then a2P t else a7t e
@[go_sem] def d0h:a0j:=a0j.f2 kS kI (fun t e=>t.length<=4000000000/\0<=e/\e<14) (fun t e=>kS.enc (a1G t e))
theorem b1y:a0b Tryz.prog 120 d0h:=by
 refine a0b.f2 Tryz.func120 rfl (by decide) Tryz.results120 Tryz.ntmps120 (by decide) fun t e ⟨ht,he⟩=>?_
 have hΓ:=gkC a7N (gkC b9y gkN);refine awN hΓ rfl ?_;simp only [go_sem];unfold a1G;exact⟨fun h=>⟨he,by rw [if_neg h]⟩,fun h=>⟨ht,by rw [if_pos (Decidable.not_not.1 h)]⟩⟩
@[go_sem] def d2o:a0j:=a0j.f2 kS kI (fun t e=>t.length<=4000000000/\0<=e/\e<14) (fun t e=>kS.enc (a1G t e))
theorem c8P:a0b Tryz.prog 74 d2o:=by
 refine a0b.f2 Tryz.func74 rfl (by decide) Tryz.results74 Tryz.ntmps74 (by decide) fun t e ⟨ht,he⟩=>?_
 have hΓ:=gkC a64 (gkC b0o gkN);refine awN hΓ rfl ?_;simp only [go_sem];unfold a1G;exact⟨fun h=>⟨he,by rw [if_neg h]⟩,fun h=>⟨ht,by rw [if_pos (Decidable.not_not.1 h)]⟩⟩
def c2w (p v:Nat) (w:List UInt8):AV:=if a0M w=-1 then .val (.pointer none) else .pt p v (a0M w).toNat
def c2e:a0p:=fun args hp top nx K=>∃ (v:Nat) (c:Nat->AV) (w:List UInt8),args=[.pt 0 v 0,.st w]/\hp=rws [(0,.box v 106 10 c)]/\top=1/\
 ∀ nx',nx<=nx'->K (tu2 (c2w 0 v w) (kB.enc (decide (0<=a0M w)))) (rws [(0,.box v 106 10 c)]) 1 nx'
theorem c4c:a0f Tryz.prog 112 c2e:=by
 refine a0f.mk Tryz.func112 rfl (by decide) Tryz.results112 Tryz.ntmps112 ?_;rintro args hp top nx K ⟨v,c,w,rfl,rfl,rfl,hK⟩;have hΓ:=gkN;refine⟨Nat.le_of_ble_eq_true rfl,AW.late ?_⟩;by_cases h1:w=[98,97,115,101]
 ·subst h1;refine awN hΓ rfl ?_;simp only [go_sem];refine⟨_,a0e (fun p=>p) (l:=[(4,.pt 0 v 0),(5,.val (.bool true))]) (r:=[(0,.box v 106 10 c)]) (sz:=25) (top:=1) (nx:=nx) (df:=[]) ?_,?_⟩
  ·simp only [go_sem];exact rlR
  ·simp only [go_sem];exact hK nx (nLR _)
 by_cases h2:w=[108,101,102,116]
 ·subst h2;refine awN hΓ rfl ?_;simp only [go_sem];refine⟨fun h=>absurd h h1,fun _=>?_⟩;refine⟨_,a0e (fun p=>p) (l:=[(4,.pt 0 v 1),(5,.val (.bool true))]) (r:=[(0,.box v 106 10 c)]) (sz:=25) (top:=1) (nx:=nx) (df:=[]) ?_,?_⟩
  ·simp only [go_sem];exact rlR
  ·simp only [go_sem];exact hK nx (nLR _)
 by_cases h3:w=[114,105,103,104,116]
 ·subst h3;refine awN hΓ rfl ?_;simp only [go_sem];refine⟨fun h=>absurd h h1,fun _=>⟨fun h=>absurd h h2,fun _=>?_⟩⟩;refine⟨_,a0e (fun p=>p) (l:=[(4,.pt 0 v 2),(5,.val (.bool true))]) (r:=[(0,.box v 106 10 c)]) (sz:=25) (top:=1) (nx:=nx) (df:=[]) ?_,?_⟩
  ·simp only [go_sem];exact rlR
  ·simp only [go_sem];exact hK nx (nLR _)
 refine awN hΓ rfl ?_;simp only [go_sem,h1,h2,h3];have hf:a0M w=-1:=by unfold a0M;rw [if_neg h1,if_neg h2,if_neg h3]
 rw [show c2w 0 v w=.val (.pointer none) by unfold c2w;rw [if_pos hf],hf] at hK;refine⟨_,a0e (fun p=>p) (l:=[(4,.val (.pointer none)),(5,.val (.bool false))]) (r:=[(0,.box v 106 10 c)]) (sz:=25) (top:=1) (nx:=nx) (df:=[]) ?_,?_⟩
 ·simp only [go_sem];exact⟨a0h.of_eq rfl,rlR⟩
 ·simp only [go_sem];exact hK nx (nLR _)
@[go_sem] def c6f:a0p:=a0U c2e
theorem b4v:a0f Tryz.prog 112 c6f:=c4c.frame
theorem b4d {w:List UInt8} {p0 v:Nat} {c:Nat->AV} {hp:Nat->Row} {top nx:Nat} {K:AV->(Nat->Row)->Nat->Nat->Prop} (ht:p0<top) (h0:a0c (hp p0) (.box v 106 10 c))
  (hK:∀ nx',nx<=nx'->K (tu2 (c2w p0 v w) (kB.enc (decide (0<=a0M w)))) (a0y hp p0 (.box v 106 10 c)) top nx'):c6f [.pt p0 v 0,.st w] hp top nx K:=by
 have w0:(hp p0).ver=some v:=h0.vers.symm;refine⟨[p0],[.pt 0 v 0,.st w],rws [(0,.box v 106 10 c)],by simp,by simpa using ht,.cons a0h.pt (a3q.same _),fun i o hq=>?_,fun i hi=>a1b (top:=1) (by simp) i (by simpa using hi),v,c,w,rfl,rfl,rfl,fun nx' hn=>?_⟩
 ·match i with
  | 0=>
    simp only [gCZ,oSI] at hq;subst hq;exact h0
  | i+1=>simp at hq
 ·refine⟨_,_,?_,fun i o ho=>?_,fun o ho=>?_,fun o ho w hv=>?_,hK nx' hn⟩
  ·refine a0h.tu fun j hj=>?_
   split
   case isFalse=>exact avR
   unfold c2w;split
   ·exact avR
   ·exact a0h.pt
  ·match i with
   | 0=>
     simp only [gCZ,oSI] at ho;subst ho;rw [a0g];exact rlR
   | i+1=>simp at ho
  ·simp only [List.mem_cons,List.not_mem_nil,or_false] at ho;rw [a0d _ _ ho]
  ·simp only [List.mem_cons,List.not_mem_nil,or_false] at ho;subst ho;rw [a0g] at hv;have:some v=some w:=hv;obtain rfl:=oJI this;exact .inl w0
def txt (a:Ss) (k:Int):List UInt8:=if k=0 then a.1.1 else if k=1 then a.1.2.1 else a.1.2.2
def b2n (a:Ss) (k:Int) (t:List UInt8):Ss:=if k=0 then ((t,a.1.2.1,a.1.2.2),a.2) else if k=1 then ((a.1.1,t,a.1.2.2),a.2) else ((a.1.1,a.1.2.1,t),a.2)
abbrev okT:List UInt8:=[111,107]
abbrev a0q:List UInt8:=[119,104,97,116]
def a1Q (line:List UInt8) (a:Ss):List UInt8×Ss:=if 3<=(wdL line).length/\0<=a0M ((wdL line).getD 1 []) then (okT,b2n a (a0M ((wdL line).getD 1 [])) (txt a (a0M ((wdL line).getD 1 []))++a4B 2 line++[10])) else (a0q,a)
def c6q (a:Ss):Prop:=a.1.1.length<=100000000/\a.1.2.1.length<=100000000/\a.1.2.2.length<=100000000
theorem a0A {K:AV->(Nat->Row)->Nat->Nat->Prop} {r:AV} {v v1 v2 v3 v4 nx:Nat} {a b:Ss}
  (hK:∀ u1 u2 u3 u4 nx',(u1=v1\/nx<=u1)->(u2=v2\/nx<=u2)->(u3=v3\/nx<=u3)->((a.2.2.isSome=true/\u4=v4)\/nx<=u4)->nx<=nx'->
   K r (rws [(0,.box v 106 10 (shC 1 2 3 4 u1 u2 u3 u4 b)),(1,a0i u1 b.1.1),(2,a0i u2 b.1.2.1),(3,a0i u3 b.1.2.2),(4,mgR u4 b.2.2)]) 5 nx') (hb:b.2.2=a.2.2) :
  ∀ u1 u2 u3 nx',(u1=v1\/nx<=u1)->(u2=v2\/nx<=u2)->(u3=v3\/nx<=u3)->nx<=nx'->
   K r (rws [(0,.box v 106 10 (shC 1 2 3 4 u1 u2 u3 v4 b)),(1,a0i u1 b.1.1),(2,a0i u2 b.1.2.1),(3,a0i u3 b.1.2.2),(4,mgR v4 b.2.2)]) 5 nx':=by
 intro u1 u2 u3 nx' h1 h2 h3 hn;cases hm:a.2.2 with
 | some m=>exact hK u1 u2 u3 v4 nx' h1 h2 h3 (.inl ⟨by rw [hm];rfl,rfl⟩) hn
 | none=>
   have:=hK u1 u2 u3 nx nx' h1 h2 h3 (.inr (nLR _)) hn
   have e:shC 1 2 3 4 u1 u2 u3 v4 b=shC 1 2 3 4 u1 u2 u3 nx b:=by
    funext j
    unfold shC;rw [hb,hm];rfl
   rw [e,show mgR v4 b.2.2=mgR nx b.2.2 by rw [hb,hm];rfl];exact this
def c6l (xs:List AV) (a:Ss) (r:AV) (b:Ss):Prop:=∃ line:List UInt8,xs=[.st line,sL eS (wdL line).tail]/\line.length<=1000/\c6q a/\r=.st (a1Q line a).1/\b=(a1Q line a).2
def c6U:a0p:=sSh c6l
theorem b0u (w:List UInt8):(a0M w=-1/\∀ p v,c2w p v w=.val (.pointer none))\/(a0M w=0/\∀ p v,c2w p v w=.pt p v 0)\/(a0M w=1/\∀ p v,c2w p v w=.pt p v 1)\/(a0M w=2/\∀ p v,c2w p v w=.pt p v 2):=by
 by_cases h1:w=[98,97,115,101]
 ·subst h1;exact .inr (.inl ⟨rfl,fun _ _=>rfl⟩)
 by_cases h2:w=[108,101,102,116]
 ·subst h2;exact .inr (.inr (.inl ⟨rfl,fun _ _=>rfl⟩))
 by_cases h3:w=[114,105,103,104,116]
 ·subst h3;exact .inr (.inr (.inr ⟨rfl,fun _ _=>rfl⟩))
 have e:a0M w=-1:=by unfold a0M;rw [if_neg h1,if_neg h2,if_neg h3]
 exact .inl ⟨e,fun p v=>by unfold c2w;rw [if_pos e]⟩
theorem a0R (l:List (List UInt8)) (i:Nat):l.tail.getD i []=l.getD (i+1) []:=by
 cases l<;>simp [List.getD]
theorem a5l:∀ (s:List UInt8) (n:Nat),(a4B n s).length<=s.length
 | [],_=>by simp [a4B]
 | c::r,n=>by
   have h1:=a5l r n;have h2:=a5l r (n-1);rw [a4B];split
   ·split
    ·simp
    ·simp;omega
   ·simp;omega
theorem a9m {nx n m k:Nat} {l s t:List UInt8} (hn:n=l.length) (hm:m=n+s.length) (hk:k=m+t.length):a0c (.sl nx 5 1 k (apC m (apC n (a1y l) (a1y s)) (a1y t))) (a0i nx (l++s++t)):=by
 subst hn hm hk;refine a0c.sl (by simp only [lAp]) fun i hi j hj=>a0h.of_eq ?_
 unfold apC a1y;by_cases h:i<l.length+s.length
 ·rw [if_pos h];by_cases h2:i<l.length
  ·rw [if_pos h2];simp [List.getD,List.append_assoc,List.getElem?_append_left h2]
  ·rw [if_neg h2];simp [List.getD,List.append_assoc,List.getElem?_append_right (Nat.le_of_not_lt h2),List.getElem?_append_left (show i-l.length<s.length by omega)]
 ·rw [if_neg h];have e:i-(l.length+s.length)=i-(l++s).length:=by rw [lAp]
  rw [e];simp only [List.getD];rw [List.getElem?_append_right (by rw [lAp];omega)]
theorem c7m {v v1 v2 v3 v4 u n:Nat} {a b:Ss} (hn:n=b.1.1.length) (h1:b.1.2.1=a.1.2.1) (h2:b.1.2.2=a.1.2.2) (hb:b.2=a.2):a0c (.box v 106 10 (stC (shC 1 2 3 4 v1 v2 v3 v4 a) 0 1 fun _=>.ow 1 u n)) (.box v 106 10 (shC 1 2 3 4 u v2 v3 v4 b)):=by
 obtain⟨⟨a1,a2,a3⟩,a4⟩:=a;obtain⟨⟨b1,b2,b3⟩,b4⟩:=b;dsimp only at hn h1 h2 hb;subst hn hb h1 h2;refine a0c.box fun j hj=>?_
 have hc:j=0\/j=1\/j=2\/j=3\/j=4\/j=5\/j=6\/j=7\/j=8\/j=9:=by omega
 rcases hc with rfl|rfl|rfl|rfl|rfl|rfl|rfl|rfl|rfl|rfl<;>exact avR
theorem c7l {v v1 v2 v3 v4 u n:Nat} {a b:Ss} (hn:n=b.1.2.1.length) (h0:b.1.1=a.1.1) (h2:b.1.2.2=a.1.2.2) (hb:b.2=a.2):a0c (.box v 106 10 (stC (shC 1 2 3 4 v1 v2 v3 v4 a) 1 1 fun _=>.ow 2 u n)) (.box v 106 10 (shC 1 2 3 4 v1 u v3 v4 b)):=by
 obtain⟨⟨a1,a2,a3⟩,a4⟩:=a;obtain⟨⟨b1,b2,b3⟩,b4⟩:=b;dsimp only at hn h0 h2 hb;subst hn hb h0 h2;refine a0c.box fun j hj=>?_
 have hc:j=0\/j=1\/j=2\/j=3\/j=4\/j=5\/j=6\/j=7\/j=8\/j=9:=by omega
 rcases hc with rfl|rfl|rfl|rfl|rfl|rfl|rfl|rfl|rfl|rfl<;>exact avR
theorem d0n {v v1 v2 v3 v4 u n:Nat} {a b:Ss} (hn:n=b.1.2.2.length) (h0:b.1.1=a.1.1) (h1:b.1.2.1=a.1.2.1) (hb:b.2=a.2):a0c (.box v 106 10 (stC (shC 1 2 3 4 v1 v2 v3 v4 a) 2 1 fun _=>.ow 3 u n)) (.box v 106 10 (shC 1 2 3 4 v1 v2 u v4 b)):=by
 obtain⟨⟨a1,a2,a3⟩,a4⟩:=a;obtain⟨⟨b1,b2,b3⟩,b4⟩:=b;dsimp only at hn h0 h1 hb;subst hn hb h0 h1;refine a0c.box fun j hj=>?_
 have hc:j=0\/j=1\/j=2\/j=3\/j=4\/j=5\/j=6\/j=7\/j=8\/j=9:=by omega
 rcases hc with rfl|rfl|rfl|rfl|rfl|rfl|rfl|rfl|rfl|rfl<;>exact avR
theorem a2A:decide ((0:Int)<=-1)=false:=rfl
theorem c8Y:a0f Tryz.prog 56 c6U:=by
 refine a0f.mk Tryz.func56 rfl (by decide) Tryz.results56 Tryz.ntmps56 ?_;rintro args hp top nx K ⟨v,v1,v2,v3,v4,xs,a,r,b,rfl,⟨line,rfl,hl,hs,rfl,rfl⟩,rfl,rfl,hK⟩;have hΓ:=gkM b4v (gkC c4R gkN);refine⟨Nat.le_of_ble_eq_true rfl,AW.late ?_⟩;by_cases h3:3<=(wdL line).length
 ·have hI:(((wdL line).tail.length:Int)<2)=False:=eq_false (by rw [List.length_tail];omega);obtain⟨q1,q2⟩:=d1X h3;refine awL hΓ [6] rfl ?_;simp only [go_sem,hI,a0R];refine⟨by rw [List.length_tail];omega,?_⟩;generalize hw:(wdL line).getD 1 []=w1 at *
  refine b4d (by exact (by decide:0<5))  rlR  fun nx1 hn1=>?_
  rcases b0u w1 with⟨f1,f2⟩|⟨f1,f2⟩|⟨f1,f2⟩|⟨f1,f2⟩
  ·rw [f1,f2];have e:a1Q line a=(a0q,a):=by unfold a1Q;rw [if_neg fun h=>by rw [hw,f1] at h;omega]
   rw [e] at hK;have hk:=a0A hK rfl;simp only [go_sem,a2A];refine⟨_,a0e (fun p=>p) (l:=[(6,.st a0q)]) (r:=[(0,.box v 106 10 (shC 1 2 3 4 v1 v2 v3 v4 a)),(1,a0i v1 a.1.1),(2,a0i v2 a.1.2.1),(3,a0i v3 a.1.2.2),(4,mgR v4 a.2.2)]) (sz:=35) (top:=5) (nx:=nx1) (df:=[]) ?_,?_⟩
   ·simp only [go_sem];exact⟨rlR,rlR,rlR,rlR,rlR⟩
   ·simp only [go_sem];exact hk v1 v2 v3 nx1 (.inl rfl) (.inl rfl) (.inl rfl) hn1
  ·rw [f1,f2];simp only [go_sem,q1,q2];refine⟨by omega,?_⟩;have e:a1Q line a=(okT,((a.1.1++a4B 2 line++[10],a.1.2.1,a.1.2.2),a.2)):=by unfold a1Q;rw [hw,f1,if_pos ⟨h3,by decide⟩];rfl
   rw [e] at hK;have hk:=a0A hK rfl;refine AW.cut ⟨[(0,.pt 0 v 0),(7,.pt 0 v 0),(9,.st (a4B 2 line))],[(0,.box v 106 10 (shC 1 2 3 4 v1 v2 v3 v4 a)),(1,a0i v1 a.1.1),(2,a0i v2 a.1.2.1),(3,a0i v3 a.1.2.2),(4,mgR v4 a.2.2)],35,5,nx1,[]⟩ ?_ ?_
   ·simp only [go_sem];exact⟨rlR,rlR,rlR,rlR,rlR⟩
   have hbl:=a5l line 2;obtain⟨z1,z2,z3⟩:=hs;refine AW.fork (AW.regionO hΓ [false,false,false,false,false,true,true] ?_);simp only [go_sem];refine a4L rfl Tryz.underlying102 Tryz.underlying9 rfl rfl rfl (Nat.lt_of_lt_of_le (by decide:32<35) (nLR _)) ⟨a5C,by decide,by rw [a2G];decide,by rw [a2G];omega,_,b1G,rfl⟩ ?_;simp only [go_sem];refine a4L rfl Tryz.underlying102 Tryz.underlying9 rfl rfl rfl (Nat.lt_of_lt_of_le (by decide:33<35) (nLR _)) ⟨a5C,by decide,by rw [a2G];decide,by rw [a2G];simp only [lCo,List.length_nil];omega,_,b1G,rfl⟩ ?_;simp only [go_sem];refine awZ hΓ rfl ?_;simp only [go_sem];refine⟨_,a0e (fun p=>p) (l:=[(6,.st okT)]) (r:=[(0,.box v 106 10 (shC 1 2 3 4 (nx1+1) v2 v3 v4 ((a.1.1++a4B 2 line++[10],a.1.2.1,a.1.2.2),a.2))),(1,a0i (nx1+1) (a.1.1++a4B 2 line++[10])),(2,a0i v2 (a.1.2.1)),(3,a0i v3 (a.1.2.2)),(4,mgR v4 a.2.2)]) (sz:=35) (top:=5) (nx:=nx1+1+1) (df:=[]) ?_,?_⟩
   ·simp only [go_sem];refine⟨c7m (by simp;omega) rfl rfl rfl,a9m rfl rfl rfl,rlR,rlR,rlR⟩
   ·simp only [go_sem];exact hk (nx1+1) v2 v3 (nx1+1+1) (.inr (by omega)) (.inl rfl) (.inl rfl) (by omega)
  ·rw [f1,f2];simp only [go_sem,q1,q2];refine⟨by omega,?_⟩;have e:a1Q line a=(okT,((a.1.1,a.1.2.1++a4B 2 line++[10],a.1.2.2),a.2)):=by unfold a1Q;rw [hw,f1,if_pos ⟨h3,by decide⟩];rfl
   rw [e] at hK;have hk:=a0A hK rfl;refine AW.cut ⟨[(0,.pt 0 v 0),(7,.pt 0 v 1),(9,.st (a4B 2 line))],[(0,.box v 106 10 (shC 1 2 3 4 v1 v2 v3 v4 a)),(1,a0i v1 a.1.1),(2,a0i v2 a.1.2.1),(3,a0i v3 a.1.2.2),(4,mgR v4 a.2.2)],35,5,nx1,[]⟩ ?_ ?_
   ·simp only [go_sem];exact⟨rlR,rlR,rlR,rlR,rlR⟩
   have hbl:=a5l line 2;obtain⟨z1,z2,z3⟩:=hs;refine AW.fork (AW.regionO hΓ [false,false,false,false,false,true,true] ?_);simp only [go_sem];refine a4L rfl Tryz.underlying102 Tryz.underlying9 rfl rfl rfl (Nat.lt_of_lt_of_le (by decide:32<35) (nLR _)) ⟨a5C,by decide,by rw [a2G];decide,by rw [a2G];omega,_,b1G,rfl⟩ ?_;simp only [go_sem];refine a4L rfl Tryz.underlying102 Tryz.underlying9 rfl rfl rfl (Nat.lt_of_lt_of_le (by decide:33<35) (nLR _)) ⟨a5C,by decide,by rw [a2G];decide,by rw [a2G];simp only [lCo,List.length_nil];omega,_,b1G,rfl⟩ ?_;simp only [go_sem];refine awZ hΓ rfl ?_;simp only [go_sem];refine⟨_,a0e (fun p=>p) (l:=[(6,.st okT)]) (r:=[(0,.box v 106 10 (shC 1 2 3 4 v1 (nx1+1) v3 v4 ((a.1.1,a.1.2.1++a4B 2 line++[10],a.1.2.2),a.2))),(1,a0i v1 (a.1.1)),(2,a0i (nx1+1) (a.1.2.1++a4B 2 line++[10])),(3,a0i v3 (a.1.2.2)),(4,mgR v4 a.2.2)]) (sz:=35) (top:=5) (nx:=nx1+1+1) (df:=[]) ?_,?_⟩
   ·simp only [go_sem];refine⟨c7l (by simp;omega) rfl rfl rfl,rlR,a9m rfl rfl rfl,rlR,rlR⟩
   ·simp only [go_sem];exact hk v1 (nx1+1) v3 (nx1+1+1) (.inl rfl) (.inr (by omega)) (.inl rfl) (by omega)
  ·rw [f1,f2];simp only [go_sem,q1,q2];refine⟨by omega,?_⟩;have e:a1Q line a=(okT,((a.1.1,a.1.2.1,a.1.2.2++a4B 2 line++[10]),a.2)):=by unfold a1Q;rw [hw,f1,if_pos ⟨h3,by decide⟩];rfl
   rw [e] at hK;have hk:=a0A hK rfl;refine AW.cut ⟨[(0,.pt 0 v 0),(7,.pt 0 v 2),(9,.st (a4B 2 line))],[(0,.box v 106 10 (shC 1 2 3 4 v1 v2 v3 v4 a)),(1,a0i v1 a.1.1),(2,a0i v2 a.1.2.1),(3,a0i v3 a.1.2.2),(4,mgR v4 a.2.2)],35,5,nx1,[]⟩ ?_ ?_
   ·simp only [go_sem];exact⟨rlR,rlR,rlR,rlR,rlR⟩
   have hbl:=a5l line 2;obtain⟨z1,z2,z3⟩:=hs;refine AW.fork (AW.regionO hΓ [false,false,false,false,false,true,true] ?_);simp only [go_sem];refine a4L rfl Tryz.underlying102 Tryz.underlying9 rfl rfl rfl (Nat.lt_of_lt_of_le (by decide:32<35) (nLR _)) ⟨a5C,by decide,by rw [a2G];decide,by rw [a2G];omega,_,b1G,rfl⟩ ?_;simp only [go_sem];refine a4L rfl Tryz.underlying102 Tryz.underlying9 rfl rfl rfl (Nat.lt_of_lt_of_le (by decide:33<35) (nLR _)) ⟨a5C,by decide,by rw [a2G];decide,by rw [a2G];simp only [lCo,List.length_nil];omega,_,b1G,rfl⟩ ?_;simp only [go_sem];refine awZ hΓ rfl ?_;simp only [go_sem];refine⟨_,a0e (fun p=>p) (l:=[(6,.st okT)]) (r:=[(0,.box v 106 10 (shC 1 2 3 4 v1 v2 (nx1+1) v4 ((a.1.1,a.1.2.1,a.1.2.2++a4B 2 line++[10]),a.2))),(1,a0i v1 (a.1.1)),(2,a0i v2 (a.1.2.1)),(3,a0i (nx1+1) (a.1.2.2++a4B 2 line++[10])),(4,mgR v4 a.2.2)]) (sz:=35) (top:=5) (nx:=nx1+1+1) (df:=[]) ?_,?_⟩
   ·simp only [go_sem];refine⟨d0n (by simp;omega) rfl rfl rfl,rlR,rlR,a9m rfl rfl rfl,rlR⟩
   ·simp only [go_sem];exact hk v1 v2 (nx1+1) (nx1+1+1) (.inl rfl) (.inl rfl) (.inr (by omega)) (by omega)
 ·have hI:(((wdL line).tail.length:Int)<2)=True:=eq_true (by rw [List.length_tail];omega);have e:a1Q line a=(a0q,a):=by unfold a1Q;rw [if_neg fun h=>h3 h.1]
  rw [e] at hK;have hk:=a0A hK rfl;refine awN hΓ rfl ?_;simp only [go_sem,hI];refine⟨_,a0e (fun p=>p) (l:=[(6,.st a0q)]) (r:=[(0,.box v 106 10 (shC 1 2 3 4 v1 v2 v3 v4 a)),(1,a0i v1 a.1.1),(2,a0i v2 a.1.2.1),(3,a0i v3 a.1.2.2),(4,mgR v4 a.2.2)]) (sz:=35) (top:=5) (nx:=nx) (df:=[]) ?_,?_⟩
  ·simp only [go_sem];exact⟨rlR,rlR,rlR,rlR,rlR⟩
  ·simp only [go_sem];exact hk v1 v2 v3 nx (.inl rfl) (.inl rfl) (.inl rfl) (nLR _)
@[go_sem] def d65:a0p:=a0U c6U
theorem c6I:a0f Tryz.prog 56 d65:=c8Y.frame
def b73 (a:Ss) (verb:List UInt8) (n:Int):Ss:=(a.1,(if verb=[115,116,121,108,101] then (a.2.1.1,n,a.2.1.2.2) else if verb=[119,105,100,116,104] then (a.2.1.1,a.2.1.2.1,n,a.2.1.2.2.2) else (a.2.1.1,a.2.1.2.1,a.2.1.2.2.1,n)),a.2.2)
noncomputable def a0Z (verb line:List UInt8) (a:Ss):List UInt8×Ss:=if (wdL line).length=2/\0<=a1J ((wdL line).getD 1 []) then (okT,b73 a verb (a1J ((wdL line).getD 1 []))) else (a0q,a)
def b5j (xs:List AV) (a:Ss) (r:AV) (b:Ss):Prop:=∃ verb line:List UInt8,xs=[.st verb,sL eS (wdL line).tail]/\line.length<=1000/\c6q a/\r=.st (a0Z verb line a).1/\b=(a0Z verb line a).2
noncomputable def c6y:a0p:=sSh b5j
theorem d3B:∀ (n:Nat) (s:List UInt8),s.length<=n->∀ x∈wdL s,x.length<=s.length:=by
 intro n
 induction n with
 | zero=>
   intro s h x hx;obtain rfl:=List.length_eq_zero_iff.1 (by omega:s.length=0);simp [wdL] at hx;subst hx;simp
 | succ n ih=>
   intro s h x hx;rcases a2f 32 s with h1|⟨p,r,rfl,h1⟩
   ·rw [a4X s h1,List.mem_singleton] at hx;rw [hx];omega
   ·rw [a4b p r h1,List.mem_cons] at hx;simp at h ⊢;rcases hx with rfl|hx
    ·omega
    ·have:=ih r (by omega) x hx;omega
theorem b1m (s:List UInt8) (i:Nat):((wdL s).getD i []).length<=s.length:=by
 by_cases h:i<(wdL s).length
 ·rw [List.getD,List.getElem?_eq_getElem h,Option.getD_some];exact d3B _ s (nLR _) _ (List.getElem_mem ..)
 ·rw [List.getD,List.getElem?_eq_none (by omega)];simp
theorem c1W {v v1 v2 v3 v4:Nat} {c:Nat->AV} {x:Ss} (h:∀ j,j<10->c j=shC 1 2 3 4 v1 v2 v3 v4 x j):a0c (.box v 106 10 c) (.box v 106 10 (shC 1 2 3 4 v1 v2 v3 v4 x)):=a0c.box fun j hj=>a0h.of_eq (h j hj)
theorem c9i:a0f Tryz.prog 58 c6y:=by
 refine a0f.mk Tryz.func58 rfl (by decide) Tryz.results58 Tryz.ntmps58 ?_;rintro args hp top nx K ⟨v,v1,v2,v3,v4,xs,a,r,b,rfl,⟨verb,line,rfl,hl,hs,rfl,rfl⟩,rfl,rfl,hK⟩;have hΓ:=gkC a6b gkN;refine⟨Nat.le_of_ble_eq_true rfl,AW.late ?_⟩;have hg:=b1m line 1;by_cases h2:(wdL line).length=2
 ·have hI:((wdL line).tail.length:Int)=1:=by rw [List.length_tail];omega
  cases hn:a3o ((wdL line).getD 1 []) with
  | none=>
    have e:a0Z verb line a=(a0q,a):=by unfold a0Z;rw [a3U hn,if_neg fun h=>by omega]
    rw [e] at hK;have hk:=a0A hK rfl;refine awN hΓ rfl ?_;simp only [go_sem,hI,a0R,hn,nuO];refine⟨by omega,?_⟩;refine⟨_,a0e (fun p=>p) (l:=[(6,.st a0q)]) (r:=[(0,.box v 106 10 (shC 1 2 3 4 v1 v2 v3 v4 a)),(1,a0i v1 a.1.1),(2,a0i v2 a.1.2.1),(3,a0i v3 a.1.2.2),(4,mgR v4 a.2.2)]) (sz:=41) (top:=5) (nx:=nx) (df:=[]) ?_,?_⟩
    ·simp only [go_sem];exact⟨rlR,rlR,rlR,rlR,rlR⟩
    ·simp only [go_sem];exact hk v1 v2 v3 nx (.inl rfl) (.inl rfl) (.inl rfl) (nLR _)
  | some n=>
    have e:a0Z verb line a=(okT,b73 a verb n):=by unfold a0Z;rw [a1m hn,if_pos ⟨h2,by omega⟩]
    rw [e] at hK;have hk:=a0A hK rfl;have fin:∀ c:Nat->AV,(∀ j,j<10->c j=shC 1 2 3 4 v1 v2 v3 v4 (b73 a verb n) j)->a0c (.box v 106 10 c) (.box v 106 10 (shC 1 2 3 4 v1 v2 v3 v4 (b73 a verb n))):=fun c h=>c1W h
    by_cases g1:verb=[115,116,121,108,101]
    ·subst g1;refine awN hΓ rfl ?_;simp only [go_sem,hI,a0R,hn,nuO];refine⟨by omega,?_⟩;refine⟨_,a0e (fun p=>p) (l:=[(6,.st okT)]) (r:=[(0,.box v 106 10 (shC 1 2 3 4 v1 v2 v3 v4 (b73 a [115,116,121,108,101] n))),(1,a0i v1 a.1.1),(2,a0i v2 a.1.2.1),(3,a0i v3 a.1.2.2),(4,mgR v4 a.2.2)]) (sz:=41) (top:=5) (nx:=nx) (df:=[]) ?_,?_⟩
     ·simp only [go_sem];refine⟨fin _ fun j hj=>?_,rlR,rlR,rlR,rlR⟩;have hc:j=0\/j=1\/j=2\/j=3\/j=4\/j=5\/j=6\/j=7\/j=8\/j=9:=by omega
      rcases hc with rfl|rfl|rfl|rfl|rfl|rfl|rfl|rfl|rfl|rfl<;>rfl
     ·simp only [go_sem];exact hk v1 v2 v3 nx (.inl rfl) (.inl rfl) (.inl rfl) (nLR _)
    by_cases g2:verb=[119,105,100,116,104]
    ·subst g2;refine awN hΓ rfl ?_;simp only [go_sem,hI,a0R,hn,nuO];refine⟨by omega,fun h=>absurd h g1,fun _=>?_⟩;refine⟨_,a0e (fun p=>p) (l:=[(6,.st okT)]) (r:=[(0,.box v 106 10 (shC 1 2 3 4 v1 v2 v3 v4 (b73 a [119,105,100,116,104] n))),(1,a0i v1 a.1.1),(2,a0i v2 a.1.2.1),(3,a0i v3 a.1.2.2),(4,mgR v4 a.2.2)]) (sz:=41) (top:=5) (nx:=nx) (df:=[]) ?_,?_⟩
     ·simp only [go_sem];refine⟨fin _ fun j hj=>?_,rlR,rlR,rlR,rlR⟩;have hc:j=0\/j=1\/j=2\/j=3\/j=4\/j=5\/j=6\/j=7\/j=8\/j=9:=by omega
      rcases hc with rfl|rfl|rfl|rfl|rfl|rfl|rfl|rfl|rfl|rfl<;>rfl
     ·simp only [go_sem];exact hk v1 v2 v3 nx (.inl rfl) (.inl rfl) (.inl rfl) (nLR _)
    ·refine awN hΓ rfl ?_;simp only [go_sem,hI,a0R,hn,nuO,g1,g2];refine⟨by omega,?_⟩;have eo:b73 a verb n=(a.1,(a.2.1.1,a.2.1.2.1,a.2.1.2.2.1,(n:Int)),a.2.2):=by unfold b73;rw [if_neg g1,if_neg g2]
     rw [eo] at fin hk;refine⟨_,a0e (fun p=>p) (l:=[(6,.st okT)]) (r:=[(0,.box v 106 10 (shC 1 2 3 4 v1 v2 v3 v4 (a.1,(a.2.1.1,a.2.1.2.1,a.2.1.2.2.1,(n:Int)),a.2.2))),(1,a0i v1 a.1.1),(2,a0i v2 a.1.2.1),(3,a0i v3 a.1.2.2),(4,mgR v4 a.2.2)]) (sz:=41) (top:=5) (nx:=nx) (df:=[]) ?_,?_⟩
     ·simp only [go_sem];refine⟨fin _ fun j hj=>?_,rlR,rlR,rlR,rlR⟩;have hc:j=0\/j=1\/j=2\/j=3\/j=4\/j=5\/j=6\/j=7\/j=8\/j=9:=by omega
      rcases hc with rfl|rfl|rfl|rfl|rfl|rfl|rfl|rfl|rfl|rfl<;>rfl
     ·simp only [go_sem];exact hk v1 v2 v3 nx (.inl rfl) (.inl rfl) (.inl rfl) (nLR _)
 ·have hI:(((wdL line).tail.length:Int)=1)=False:=eq_false (by rw [List.length_tail];have:=List.length_pos_iff.2 (a35 line);omega);have e:a0Z verb line a=(a0q,a):=by unfold a0Z;rw [if_neg fun h=>h2 h.1]
  rw [e] at hK;have hk:=a0A hK rfl;refine awN hΓ rfl ?_;simp only [go_sem,hI];refine⟨_,a0e (fun p=>p) (l:=[(6,.st a0q)]) (r:=[(0,.box v 106 10 (shC 1 2 3 4 v1 v2 v3 v4 a)),(1,a0i v1 a.1.1),(2,a0i v2 a.1.2.1),(3,a0i v3 a.1.2.2),(4,mgR v4 a.2.2)]) (sz:=41) (top:=5) (nx:=nx) (df:=[]) ?_,?_⟩
  ·simp only [go_sem];exact⟨rlR,rlR,rlR,rlR,rlR⟩
  ·simp only [go_sem];exact hk v1 v2 v3 nx (.inl rfl) (.inl rfl) (.inl rfl) (nLR _)
def a2Q (line:List UInt8) (a:Ss):List UInt8×Ss:=if (wdL line).length=4 then (okT,(a.1,((a6V ((wdL line).getD 1 []),a6V ((wdL line).getD 2 []),a6V ((wdL line).getD 3 [])),a.2.1.2),a.2.2)) else (a0q,a)
def c6V (xs:List AV) (a:Ss) (r:AV) (b:Ss):Prop:=∃ line:List UInt8,xs=[sL eS (wdL line).tail]/\line.length<=1000/\c6q a/\r=.st (a2Q line a).1/\b=(a2Q line a).2
def c62:a0p:=sSh c6V
theorem c7z:a0f Tryz.prog 59 c62:=by
 refine a0f.mk Tryz.func59 rfl (by decide) Tryz.results59 Tryz.ntmps59 ?_;rintro args hp top nx K ⟨v,v1,v2,v3,v4,xs,a,r,b,rfl,⟨line,rfl,hl,hs,rfl,rfl⟩,rfl,rfl,hK⟩;have hΓ:=gkC c2I gkN;refine⟨Nat.le_of_ble_eq_true rfl,AW.late ?_⟩;by_cases h2:(wdL line).length=4
 ·have hI:((wdL line).tail.length:Int)=3:=by rw [List.length_tail];omega
  have e:a2Q line a=(okT,(a.1,((a6V ((wdL line).getD 1 []),a6V ((wdL line).getD 2 []),a6V ((wdL line).getD 3 [])),a.2.1.2),a.2.2)):=by unfold a2Q;rw [if_pos h2]
  rw [e] at hK;have hk:=a0A hK rfl;refine awN hΓ rfl ?_;simp only [go_sem,hI,a0R];refine⟨_,a0e (fun p=>p) (l:=[(4,.st okT)]) (r:=[(0,.box v 106 10 (shC 1 2 3 4 v1 v2 v3 v4 (a.1,((a6V ((wdL line).getD 1 []),a6V ((wdL line).getD 2 []),a6V ((wdL line).getD 3 [])),a.2.1.2),a.2.2))),(1,a0i v1 a.1.1),(2,a0i v2 a.1.2.1),(3,a0i v3 a.1.2.2),(4,mgR v4 a.2.2)]) (sz:=35) (top:=5) (nx:=nx) (df:=[]) ?_,?_⟩
  ·simp only [go_sem];refine⟨c1W fun j hj=>?_,rlR,rlR,rlR,rlR⟩;have hc:j=0\/j=1\/j=2\/j=3\/j=4\/j=5\/j=6\/j=7\/j=8\/j=9:=by omega
   rcases hc with rfl|rfl|rfl|rfl|rfl|rfl|rfl|rfl|rfl|rfl<;>rfl
  ·simp only [go_sem];exact hk v1 v2 v3 nx (.inl rfl) (.inl rfl) (.inl rfl) (nLR _)
 ·have hI:(((wdL line).tail.length:Int)=3)=False:=eq_false (by rw [List.length_tail];have:=List.length_pos_iff.2 (a35 line);omega);have e:a2Q line a=(a0q,a):=by unfold a2Q;rw [if_neg h2]
  rw [e] at hK;have hk:=a0A hK rfl;refine awN hΓ rfl ?_;simp only [go_sem,hI];refine⟨_,a0e (fun p=>p) (l:=[(4,.st a0q)]) (r:=[(0,.box v 106 10 (shC 1 2 3 4 v1 v2 v3 v4 a)),(1,a0i v1 a.1.1),(2,a0i v2 a.1.2.1),(3,a0i v3 a.1.2.2),(4,mgR v4 a.2.2)]) (sz:=35) (top:=5) (nx:=nx) (df:=[]) ?_,?_⟩
  ·simp only [go_sem];exact⟨rlR,rlR,rlR,rlR,rlR⟩
  ·simp only [go_sem];exact hk v1 v2 v3 nx (.inl rfl) (.inl rfl) (.inl rfl) (nLR _)
@[go_sem] noncomputable def d6X:a0p:=a0U c6y
theorem c6P:a0f Tryz.prog 58 d6X:=c9i.frame
@[go_sem] def d6K:a0p:=a0U c62
theorem c6m:a0f Tryz.prog 59 d6K:=c7z.frame
def a2g:List UInt8:=[99,108,101,97,114]
def a5I (t:List UInt8):Option (List UInt8):=if t≠[]/\t.getD (t.length-1) 0=10 then some (t.take (t.length-1)) else none
def a3i (verb:List UInt8) (k:Int) (a:Ss):List UInt8×Ss:=if verb=a2g then (okT,b2n a k []) else match a5I (txt a k) with
 | some t=>(okT,b2n a k t)
 | none=>(a0q,a)
def a0P (verb line:List UInt8) (a:Ss):List UInt8×Ss:=if (wdL line).length=2/\0<=a0M ((wdL line).getD 1 []) then a3i verb (a0M ((wdL line).getD 1 [])) a else (a0q,a)
def c1z (xs:List AV) (a:Ss) (r:AV) (b:Ss):Prop:=∃ verb line:List UInt8,xs=[.st verb,sL eS (wdL line).tail]/\line.length<=1000/\c6q a/\r=.st (a0P verb line a).1/\b=(a0P verb line a).2
def c6Z:a0p:=sSh c1z
theorem c7J:a0f Tryz.prog 57 c6Z:=by
 refine a0f.mk Tryz.func57 rfl (by decide) Tryz.results57 Tryz.ntmps57 ?_;rintro args hp top nx K ⟨v,v1,v2,v3,v4,xs,a,r,b,rfl,⟨verb,line,rfl,hl,hs,rfl,rfl⟩,rfl,rfl,hK⟩;have hΓ:=gkM b4v gkN;refine⟨Nat.le_of_ble_eq_true rfl,AW.late ?_⟩;by_cases h2:(wdL line).length=2
 ·have hI:((wdL line).tail.length:Int)=1:=by rw [List.length_tail];omega
  refine awL hΓ [200010] rfl ?_;simp only [go_sem,hI,a0R];generalize hw:(wdL line).getD 1 []=w1 at *
  refine b4d (by exact (by decide:0<5))  rlR  fun nx1 hn1=>?_
  rcases b0u w1 with⟨f1,f2⟩|⟨f1,f2⟩|⟨f1,f2⟩|⟨f1,f2⟩
  ·rw [f1,f2];have e:a0P verb line a=(a0q,a):=by unfold a0P;rw [if_neg fun h=>by rw [hw,f1] at h;omega]
   rw [e] at hK;have hk:=a0A hK rfl;simp only [go_sem,a2A];refine⟨_,a0e (fun p=>p) (l:=[(6,.st a0q)]) (r:=[(0,.box v 106 10 (shC 1 2 3 4 v1 v2 v3 v4 a)),(1,a0i v1 a.1.1),(2,a0i v2 a.1.2.1),(3,a0i v3 a.1.2.2),(4,mgR v4 a.2.2)]) (sz:=51) (top:=5) (nx:=nx1) (df:=[]) ?_,?_⟩
   ·simp only [go_sem];exact⟨rlR,rlR,rlR,rlR,rlR⟩
   ·simp only [go_sem];exact hk v1 v2 v3 nx1 (.inl rfl) (.inl rfl) (.inl rfl) hn1
  ·rw [f1,f2];have e0:a0P verb line a=a3i verb 0 a:=by unfold a0P;rw [hw,f1,if_pos ⟨h2,by decide⟩]
   by_cases hc:verb=a2g
   ·have e:a0P verb line a=(okT,(([],a.1.2.1,a.1.2.2),a.2)):=by rw [e0];unfold a3i;rw [if_pos hc];rfl
    rw [e] at hK;have hk:=a0A hK rfl;subst hc;simp only [go_sem,a2g];refine⟨_,(a0H.adoptB (q:=0) 0 5 1 (a1y []) rfl rfl).trans (a0e (fun p=>if p=1 then 5 else p) (l:=[(6,.st okT)]) (r:=[(0,.box v 106 10 (shC 1 2 3 4 nx1 v2 v3 v4 (([],a.1.2.1,a.1.2.2),a.2))),(1,a0i nx1 ([])),(2,a0i v2 (a.1.2.1)),(3,a0i v3 (a.1.2.2)),(4,mgR v4 a.2.2)]) (sz:=51) (top:=5) (nx:=nx1+1) (df:=[]) ?_),?_⟩
    ·simp only [go_sem];refine⟨a0c.box fun j hj=>?_,rlR,rlR,rlR,rlR⟩;have hc:j=0\/j=1\/j=2\/j=3\/j=4\/j=5\/j=6\/j=7\/j=8\/j=9:=by omega
     rcases hc with rfl|rfl|rfl|rfl|rfl|rfl|rfl|rfl|rfl|rfl<;>first|exact avR|exact a0h.ow
    ·simp only [go_sem];exact hk nx1 v2 v3 (nx1+1) (.inr hn1) (.inl rfl) (.inl rfl) (by omega)
   ·have e1:a3i verb 0 a=match a5I (a.1.1) with
     | some t=>(okT,b2n a 0 t)
     | none=>(a0q,a):=by unfold a3i;rw [if_neg hc];rfl
    have hc':¬verb=[99,108,101,97,114]:=hc;by_cases hz:a.1.1=[]
    ·have e:a0P verb line a=(a0q,a):=by rw [e0,e1];unfold a5I;rw [if_neg fun h=>h.1 hz]
     rw [e] at hK;have hk:=a0A hK rfl;have hlen:a.1.1.length=0:=by rw [hz];rfl
     have hI0:((a.1.1.length:Int)-1<0)=True:=eq_true (by omega);simp only [go_sem,hc'];refine⟨by omega,?_⟩;refine AW.drawK hΓ mixed 12 [] [] [] [0,1] (by decide +kernel) ?_;simp only [go_sem,hI0,a0i,a1y];refine⟨_,a0e (fun p=>p) (l:=[(6,.st a0q)]) (r:=[(0,.box v 106 10 (shC 1 2 3 4 v1 v2 v3 v4 a)),(1,a0i v1 a.1.1),(2,a0i v2 a.1.2.1),(3,a0i v3 a.1.2.2),(4,mgR v4 a.2.2)]) (sz:=51) (top:=5) (nx:=nx1) (df:=[]) ?_,?_⟩
     ·simp only [go_sem];exact⟨rlR,rlR,rlR,rlR,rlR⟩
     ·simp only [go_sem];exact hk v1 v2 v3 nx1 (.inl rfl) (.inl rfl) (.inl rfl) hn1
    ·obtain⟨z1,z2,z3⟩:=hs;have hp:0<a.1.1.length:=List.length_pos_iff.2 hz;have hI0:((a.1.1.length:Int)-1<0)=False:=eq_false (by omega);have hn1':((a.1.1.length:Int)-1).toNat=a.1.1.length-1:=by omega
     simp only [go_sem,hc'];refine⟨by omega,?_⟩;refine AW.drawK hΓ mixed 12 [] [] [] [0,1] (by decide +kernel) ?_;simp only [go_sem,hI0,hn1',a0i,a1y];refine⟨⟨by omega,by omega⟩,by omega,fun hx=>?_,fun hx=>?_⟩
     ·have e:a0P verb line a=(a0q,a):=by rw [e0,e1];unfold a5I;rw [if_neg fun h=>hx h.2]
      rw [e] at hK;have hk:=a0A hK rfl;refine⟨_,a0e (fun p=>p) (l:=[(6,.st a0q)]) (r:=[(0,.box v 106 10 (shC 1 2 3 4 v1 v2 v3 v4 a)),(1,a0i v1 a.1.1),(2,a0i v2 a.1.2.1),(3,a0i v3 a.1.2.2),(4,mgR v4 a.2.2)]) (sz:=51) (top:=5) (nx:=nx1) (df:=[]) ?_,?_⟩
      ·simp only [go_sem];exact⟨rlR,rlR,rlR,rlR,rlR⟩
      ·simp only [go_sem];exact hk v1 v2 v3 nx1 (.inl rfl) (.inl rfl) (.inl rfl) hn1
     ·have hx:=Decidable.not_not.1 hx;have e:a0P verb line a=(okT,((a.1.1.take (a.1.1.length-1),a.1.2.1,a.1.2.2),a.2)):=by rw [e0,e1];unfold a5I;rw [if_pos ⟨hz,hx⟩];rfl
      rw [e] at hK;have hk:=a0A hK rfl;refine⟨⟨by omega,by omega⟩,?_⟩;refine⟨_,a0e (fun p=>p) (l:=[(6,.st okT)]) (r:=[(0,.box v 106 10 (shC 1 2 3 4 v1 v2 v3 v4 ((a.1.1.take (a.1.1.length-1),a.1.2.1,a.1.2.2),a.2))),(1,a0i v1 (a.1.1.take (a.1.1.length-1))),(2,a0i v2 (a.1.2.1)),(3,a0i v3 (a.1.2.2)),(4,mgR v4 a.2.2)]) (sz:=51) (top:=5) (nx:=nx1) (df:=[]) ?_,?_⟩
      ·simp only [go_sem];refine⟨a0c.box fun j hj=>?_,b0y _,rlR,rlR,rlR⟩;have hc:j=0\/j=1\/j=2\/j=3\/j=4\/j=5\/j=6\/j=7\/j=8\/j=9:=by omega
       have hT:(a.1.1.take (a.1.1.length-1)).length=a.1.1.length-1:=by rw [List.length_take];omega
       rcases hc with rfl|rfl|rfl|rfl|rfl|rfl|rfl|rfl|rfl|rfl
       case inl=>
        show a0h (.ow 1 v1 _) (.ow 1 v1 (a.1.1.take (a.1.1.length-1)).length);rw [hT];exact avR
       all_goals exact avR
      ·simp only [go_sem];exact hk v1 v2 v3 nx1 (.inl rfl) (.inl rfl) (.inl rfl) hn1
  ·rw [f1,f2];have e0:a0P verb line a=a3i verb 1 a:=by unfold a0P;rw [hw,f1,if_pos ⟨h2,by decide⟩]
   by_cases hc:verb=a2g
   ·have e:a0P verb line a=(okT,((a.1.1,[],a.1.2.2),a.2)):=by rw [e0];unfold a3i;rw [if_pos hc];rfl
    rw [e] at hK;have hk:=a0A hK rfl;subst hc;simp only [go_sem,a2g];refine⟨_,(a0H.adoptB (q:=0) 1 5 1 (a1y []) rfl rfl).trans (a0e (fun p=>if p=2 then 5 else p) (l:=[(6,.st okT)]) (r:=[(0,.box v 106 10 (shC 1 2 3 4 v1 nx1 v3 v4 ((a.1.1,[],a.1.2.2),a.2))),(1,a0i v1 (a.1.1)),(2,a0i nx1 ([])),(3,a0i v3 (a.1.2.2)),(4,mgR v4 a.2.2)]) (sz:=51) (top:=5) (nx:=nx1+1) (df:=[]) ?_),?_⟩
    ·simp only [go_sem];refine⟨a0c.box fun j hj=>?_,rlR,rlR,rlR,rlR⟩;have hc:j=0\/j=1\/j=2\/j=3\/j=4\/j=5\/j=6\/j=7\/j=8\/j=9:=by omega
     rcases hc with rfl|rfl|rfl|rfl|rfl|rfl|rfl|rfl|rfl|rfl<;>first|exact avR|exact a0h.ow
    ·simp only [go_sem];exact hk v1 nx1 v3 (nx1+1) (.inl rfl) (.inr hn1) (.inl rfl) (by omega)
   ·have e1:a3i verb 1 a=match a5I (a.1.2.1) with
     | some t=>(okT,b2n a 1 t)
     | none=>(a0q,a):=by unfold a3i;rw [if_neg hc];rfl
    have hc':¬verb=[99,108,101,97,114]:=hc;by_cases hz:a.1.2.1=[]
    ·have e:a0P verb line a=(a0q,a):=by rw [e0,e1];unfold a5I;rw [if_neg fun h=>h.1 hz]
     rw [e] at hK;have hk:=a0A hK rfl;have hlen:a.1.2.1.length=0:=by rw [hz];rfl
     have hI0:((a.1.2.1.length:Int)-1<0)=True:=eq_true (by omega);simp only [go_sem,hc'];refine⟨by omega,?_⟩;refine AW.drawK hΓ mixed 12 [] [] [] [0,2] (by decide +kernel) ?_;simp only [go_sem,hI0,a0i,a1y];refine⟨_,a0e (fun p=>p) (l:=[(6,.st a0q)]) (r:=[(0,.box v 106 10 (shC 1 2 3 4 v1 v2 v3 v4 a)),(1,a0i v1 a.1.1),(2,a0i v2 a.1.2.1),(3,a0i v3 a.1.2.2),(4,mgR v4 a.2.2)]) (sz:=51) (top:=5) (nx:=nx1) (df:=[]) ?_,?_⟩
     ·simp only [go_sem];exact⟨rlR,rlR,rlR,rlR,rlR⟩
     ·simp only [go_sem];exact hk v1 v2 v3 nx1 (.inl rfl) (.inl rfl) (.inl rfl) hn1
    ·obtain⟨z1,z2,z3⟩:=hs;have hp:0<a.1.2.1.length:=List.length_pos_iff.2 hz;have hI0:((a.1.2.1.length:Int)-1<0)=False:=eq_false (by omega);have hn1':((a.1.2.1.length:Int)-1).toNat=a.1.2.1.length-1:=by omega
     simp only [go_sem,hc'];refine⟨by omega,?_⟩;refine AW.drawK hΓ mixed 12 [] [] [] [0,2] (by decide +kernel) ?_;simp only [go_sem,hI0,hn1',a0i,a1y];refine⟨⟨by omega,by omega⟩,by omega,fun hx=>?_,fun hx=>?_⟩
     ·have e:a0P verb line a=(a0q,a):=by rw [e0,e1];unfold a5I;rw [if_neg fun h=>hx h.2]
      rw [e] at hK;have hk:=a0A hK rfl;refine⟨_,a0e (fun p=>p) (l:=[(6,.st a0q)]) (r:=[(0,.box v 106 10 (shC 1 2 3 4 v1 v2 v3 v4 a)),(1,a0i v1 a.1.1),(2,a0i v2 a.1.2.1),(3,a0i v3 a.1.2.2),(4,mgR v4 a.2.2)]) (sz:=51) (top:=5) (nx:=nx1) (df:=[]) ?_,?_⟩
      ·simp only [go_sem];exact⟨rlR,rlR,rlR,rlR,rlR⟩
      ·simp only [go_sem];exact hk v1 v2 v3 nx1 (.inl rfl) (.inl rfl) (.inl rfl) hn1
     ·have hx:=Decidable.not_not.1 hx;have e:a0P verb line a=(okT,((a.1.1,a.1.2.1.take (a.1.2.1.length-1),a.1.2.2),a.2)):=by rw [e0,e1];unfold a5I;rw [if_pos ⟨hz,hx⟩];rfl
      rw [e] at hK;have hk:=a0A hK rfl;refine⟨⟨by omega,by omega⟩,?_⟩;refine⟨_,a0e (fun p=>p) (l:=[(6,.st okT)]) (r:=[(0,.box v 106 10 (shC 1 2 3 4 v1 v2 v3 v4 ((a.1.1,a.1.2.1.take (a.1.2.1.length-1),a.1.2.2),a.2))),(1,a0i v1 (a.1.1)),(2,a0i v2 (a.1.2.1.take (a.1.2.1.length-1))),(3,a0i v3 (a.1.2.2)),(4,mgR v4 a.2.2)]) (sz:=51) (top:=5) (nx:=nx1) (df:=[]) ?_,?_⟩
      ·simp only [go_sem];refine⟨a0c.box fun j hj=>?_,rlR,b0y _,rlR,rlR⟩;have hc:j=0\/j=1\/j=2\/j=3\/j=4\/j=5\/j=6\/j=7\/j=8\/j=9:=by omega
       have hT:(a.1.2.1.take (a.1.2.1.length-1)).length=a.1.2.1.length-1:=by rw [List.length_take];omega
       rcases hc with rfl|rfl|rfl|rfl|rfl|rfl|rfl|rfl|rfl|rfl
       case inr.inl=>
        show a0h (.ow 2 v2 _) (.ow 2 v2 (a.1.2.1.take (a.1.2.1.length-1)).length);rw [hT];exact avR
       all_goals exact avR
      ·simp only [go_sem];exact hk v1 v2 v3 nx1 (.inl rfl) (.inl rfl) (.inl rfl) hn1
  ·rw [f1,f2];have e0:a0P verb line a=a3i verb 2 a:=by unfold a0P;rw [hw,f1,if_pos ⟨h2,by decide⟩]
   by_cases hc:verb=a2g
   ·have e:a0P verb line a=(okT,((a.1.1,a.1.2.1,[]),a.2)):=by rw [e0];unfold a3i;rw [if_pos hc];rfl
    rw [e] at hK;have hk:=a0A hK rfl;subst hc;simp only [go_sem,a2g];refine⟨_,(a0H.adoptB (q:=0) 2 5 1 (a1y []) rfl rfl).trans (a0e (fun p=>if p=3 then 5 else p) (l:=[(6,.st okT)]) (r:=[(0,.box v 106 10 (shC 1 2 3 4 v1 v2 nx1 v4 ((a.1.1,a.1.2.1,[]),a.2))),(1,a0i v1 (a.1.1)),(2,a0i v2 (a.1.2.1)),(3,a0i nx1 ([])),(4,mgR v4 a.2.2)]) (sz:=51) (top:=5) (nx:=nx1+1) (df:=[]) ?_),?_⟩
    ·simp only [go_sem];refine⟨a0c.box fun j hj=>?_,rlR,rlR,rlR,rlR⟩;have hc:j=0\/j=1\/j=2\/j=3\/j=4\/j=5\/j=6\/j=7\/j=8\/j=9:=by omega
     rcases hc with rfl|rfl|rfl|rfl|rfl|rfl|rfl|rfl|rfl|rfl<;>first|exact avR|exact a0h.ow
    ·simp only [go_sem];exact hk v1 v2 nx1 (nx1+1) (.inl rfl) (.inl rfl) (.inr hn1) (by omega)
   ·have e1:a3i verb 2 a=match a5I (a.1.2.2) with
     | some t=>(okT,b2n a 2 t)
     | none=>(a0q,a):=by unfold a3i;rw [if_neg hc];rfl
    have hc':¬verb=[99,108,101,97,114]:=hc;by_cases hz:a.1.2.2=[]
    ·have e:a0P verb line a=(a0q,a):=by rw [e0,e1];unfold a5I;rw [if_neg fun h=>h.1 hz]
     rw [e] at hK;have hk:=a0A hK rfl;have hlen:a.1.2.2.length=0:=by rw [hz];rfl
     have hI0:((a.1.2.2.length:Int)-1<0)=True:=eq_true (by omega);simp only [go_sem,hc'];refine⟨by omega,?_⟩;refine AW.drawK hΓ mixed 12 [] [] [] [0,3] (by decide +kernel) ?_;simp only [go_sem,hI0,a0i,a1y];refine⟨_,a0e (fun p=>p) (l:=[(6,.st a0q)]) (r:=[(0,.box v 106 10 (shC 1 2 3 4 v1 v2 v3 v4 a)),(1,a0i v1 a.1.1),(2,a0i v2 a.1.2.1),(3,a0i v3 a.1.2.2),(4,mgR v4 a.2.2)]) (sz:=51) (top:=5) (nx:=nx1) (df:=[]) ?_,?_⟩
     ·simp only [go_sem];exact⟨rlR,rlR,rlR,rlR,rlR⟩
     ·simp only [go_sem];exact hk v1 v2 v3 nx1 (.inl rfl) (.inl rfl) (.inl rfl) hn1
    ·obtain⟨z1,z2,z3⟩:=hs;have hp:0<a.1.2.2.length:=List.length_pos_iff.2 hz;have hI0:((a.1.2.2.length:Int)-1<0)=False:=eq_false (by omega);have hn1':((a.1.2.2.length:Int)-1).toNat=a.1.2.2.length-1:=by omega
     simp only [go_sem,hc'];refine⟨by omega,?_⟩;refine AW.drawK hΓ mixed 12 [] [] [] [0,3] (by decide +kernel) ?_;simp only [go_sem,hI0,hn1',a0i,a1y];refine⟨⟨by omega,by omega⟩,by omega,fun hx=>?_,fun hx=>?_⟩
     ·have e:a0P verb line a=(a0q,a):=by rw [e0,e1];unfold a5I;rw [if_neg fun h=>hx h.2]
      rw [e] at hK;have hk:=a0A hK rfl;refine⟨_,a0e (fun p=>p) (l:=[(6,.st a0q)]) (r:=[(0,.box v 106 10 (shC 1 2 3 4 v1 v2 v3 v4 a)),(1,a0i v1 a.1.1),(2,a0i v2 a.1.2.1),(3,a0i v3 a.1.2.2),(4,mgR v4 a.2.2)]) (sz:=51) (top:=5) (nx:=nx1) (df:=[]) ?_,?_⟩
      ·simp only [go_sem];exact⟨rlR,rlR,rlR,rlR,rlR⟩
      ·simp only [go_sem];exact hk v1 v2 v3 nx1 (.inl rfl) (.inl rfl) (.inl rfl) hn1
     ·have hx:=Decidable.not_not.1 hx;have e:a0P verb line a=(okT,((a.1.1,a.1.2.1,a.1.2.2.take (a.1.2.2.length-1)),a.2)):=by rw [e0,e1];unfold a5I;rw [if_pos ⟨hz,hx⟩];rfl
      rw [e] at hK;have hk:=a0A hK rfl;refine⟨⟨by omega,by omega⟩,?_⟩;refine⟨_,a0e (fun p=>p) (l:=[(6,.st okT)]) (r:=[(0,.box v 106 10 (shC 1 2 3 4 v1 v2 v3 v4 ((a.1.1,a.1.2.1,a.1.2.2.take (a.1.2.2.length-1)),a.2))),(1,a0i v1 (a.1.1)),(2,a0i v2 (a.1.2.1)),(3,a0i v3 (a.1.2.2.take (a.1.2.2.length-1))),(4,mgR v4 a.2.2)]) (sz:=51) (top:=5) (nx:=nx1) (df:=[]) ?_,?_⟩
      ·simp only [go_sem];refine⟨a0c.box fun j hj=>?_,rlR,rlR,b0y _,rlR⟩;have hc:j=0\/j=1\/j=2\/j=3\/j=4\/j=5\/j=6\/j=7\/j=8\/j=9:=by omega
       have hT:(a.1.2.2.take (a.1.2.2.length-1)).length=a.1.2.2.length-1:=by rw [List.length_take];omega
       rcases hc with rfl|rfl|rfl|rfl|rfl|rfl|rfl|rfl|rfl|rfl
       case inr.inr.inl=>
        show a0h (.ow 3 v3 _) (.ow 3 v3 (a.1.2.2.take (a.1.2.2.length-1)).length);rw [hT];exact avR
       all_goals exact avR
      ·simp only [go_sem];exact hk v1 v2 v3 nx1 (.inl rfl) (.inl rfl) (.inl rfl) hn1
 ·have hI:(((wdL line).tail.length:Int)=1)=False:=eq_false (by rw [List.length_tail];have:=List.length_pos_iff.2 (a35 line);omega);have e:a0P verb line a=(a0q,a):=by unfold a0P;rw [if_neg fun h=>h2 h.1]
  rw [e] at hK;have hk:=a0A hK rfl;refine awN hΓ rfl ?_;simp only [go_sem,hI];refine⟨_,a0e (fun p=>p) (l:=[(6,.st a0q)]) (r:=[(0,.box v 106 10 (shC 1 2 3 4 v1 v2 v3 v4 a)),(1,a0i v1 a.1.1),(2,a0i v2 a.1.2.1),(3,a0i v3 a.1.2.2),(4,mgR v4 a.2.2)]) (sz:=51) (top:=5) (nx:=nx) (df:=[]) ?_,?_⟩
  ·simp only [go_sem];exact⟨rlR,rlR,rlR,rlR,rlR⟩
  ·simp only [go_sem];exact hk v1 v2 v3 nx (.inl rfl) (.inl rfl) (.inl rfl) (nLR _)
@[go_sem] def d18:a0p:=a0U c6Z
theorem c02:a0f Tryz.prog 57 d18:=c7J.frame
end
section
section
variable {P:Program} {st:AS} {K:AS->Prop} {o:Oper}
theorem d3v {t t':TypeId} {x y:Operand} {p q:Int} (ho:o.op=.binOp .sub t x y t') (hxe:st.ev x=.val (.int .i64 p)) (hye:st.ev y=.val (.int .i64 q)) (hd:a0w st.sz o.dst)
  (hK:K ⟨a1t st.fr o.dst (.val (.int .i64 (IntKind.i64.wrap (p-q)))),st.hp,st.sz,st.top,st.nx,st.df⟩):OpW P o st K:=by
 refine a5J hd (fun c η a w hsr=>?_) hK;have hev:∀ x,Rep w η (a0D c η st.hp) (st.ev x) (a.eval x):=a1h hsr.slots
 have hx:a.eval x=.int .i64 p:=by
  have hx:=hev x;rw [hxe] at hx;exact hx
 have hy:a.eval y=.int .i64 q:=by
  have hy:=hev y;rw [hye] at hy;exact hy
 exact⟨.int .i64 (IntKind.i64.wrap (p-q)),by simp [execOp,ho,hx,hy,binOp,Op.intArith,eqGuard],rfl⟩
end
end
set_option maxHeartbeats 2000000
section
attribute [local irreducible] AW a0h a0H a0c
@[go_sem] def c9l:a0j:=a0j.f1 kI (fun _=>True) (fun n=>kB.enc (a8z n))
theorem b43:a0b Tryz.prog 128 c9l:=by
 refine a0b.f1 Tryz.func128 rfl (by decide) Tryz.results128 Tryz.ntmps128 (by decide) fun n _=>?_
 have hΓ:=gkN;refine awZ hΓ rfl ?_;simp only [go_sem];refine⟨fun h=>by rw [decide_eq_false h];rfl,fun h=>by rw [h];rfl,?_⟩;unfold a8z;rw [Bool.or_assoc]
@[go_sem] def d9h:a0j:=a0j.f2 (kA ePt) kI (fun _ _=>True) (fun p n=>tu2 (kS.enc (ofS p n).1) (kI.enc (ofS p n).2))
theorem d3G:a0b Tryz.prog 132 d9h:=by
 refine a0b.f2 Tryz.func132 rfl (by decide) Tryz.results132 Tryz.ntmps132 (by decide) fun p n _=>?_
 have hΓ:=gkC b43 gkN;obtain⟨ll,bl,rl,h,t,l,b,r,hb⟩:=p;unfold ofS;cases hs:a8z n with
 | false=>
   refine awZ hΓ rfl ?_;simp only [go_sem,hs]
 | true=>
   rw [if_neg (by simp)];by_cases h1:n=1
   ·subst h1;refine awZ hΓ rfl ?_;simp only [go_sem,hs]
   ·rw [if_neg h1];by_cases h3:n=3
    ·subst h3;refine awZ hΓ rfl ?_;simp only [go_sem,hs]
    ·rw [if_neg h3];cases hb with
     | false=>
       refine awZ hΓ rfl ?_;simp only [go_sem,hs,h1,h3]
     | true=>
       refine awZ hΓ rfl ?_;simp only [go_sem,hs,h1,h3]
theorem b6J {d:List Pt} {i:Nat} (h:i<d.length) (j:Nat) (n:Int):a1r (d.drop i) j n=if hkP (d.getD i ePt.dflt)=true then (if n=0 then (j:Int) else a1r (d.drop (i+1)) (j+1) (n-1)) else a1r (d.drop (i+1)) (j+1) n:=by
 rw [List.drop_eq_getElem_cons h,a1r,a0F d ePt.dflt h]
theorem b69 (d:List Pt) (i:Nat) {m:Int} (h:gI m) (hd:d.length<100000000):gI (IntKind.i64.wrap (m-1))/\a1r d i (m-1)=a1r d i (IntKind.i64.wrap (m-1)):=by
 obtain⟨h1,h2⟩:=h;by_cases hm:m=-9223372036854775808
 ·subst hm;have e:IntKind.i64.wrap (-9223372036854775808-1)=9223372036854775807:=by decide +kernel
  have hc:=a27 d;rw [e,a6y d i _ (by omega),(a3R d i 9223372036854775807 (by omega)).1 (by omega)];exact⟨⟨by omega,by omega⟩,rfl⟩
 ·rw [a4g _ (by omega)];exact⟨⟨by omega,by omega⟩,rfl⟩
@[go_sem] def d3U:a0j:=a0j.f2 (kL ePt) kI (fun l n=>l.length<100000000/\gI n) (fun l n=>kI.enc (a1r l 0 n))
theorem c7u:a0b Tryz.prog 131 d3U:=by
 refine a0b.f2 Tryz.func131 rfl (by decide) Tryz.results131 Tryz.ntmps131 (by decide) fun d n ⟨hl,hn⟩=>?_
 have hΓ:=gkN;refine awZ hΓ rfl ?_;simp only [go_sem]
 refine AW.round (α:={ x:Nat×Int×Nat // x.1<=d.length/\gI x.2.1/\a1r d 0 n=a1r (d.drop x.1) x.1 x.2.1 })
  (fun x=>⟨[(1,.val (.int .i64 x.1.2.1)),(7,sL ePt d),(8,.val (.int .i64 d.length)),(9,.val (.int .i64 x.1.1))],[],23,0,x.1.2.2,[]⟩) (fun x=>d.length-x.1.1) ⟨(0,n,0),nZL _,hn,rfl⟩ ?_ ?_
 ·simp only [go_sem]
 ·rintro⟨⟨i,m,nx⟩,hi,hg,he⟩;simp only at hi hg he;refine awL hΓ [3,6,99999] rfl ?_;simp only [go_sem];refine⟨fun hlt=>⟨by omega,?_⟩,fun hge=>?_⟩
  ·have hlt':i<d.length:=by omega
   rw [b6J hlt'] at he;generalize hpe:d.getD i ePt.dflt=p at *
   refine AW.cut ⟨[(1,.val (.int .i64 m)),(5,.val (.int .i64 i)),(6,.pt 0 nx 0),(7,sL ePt d),(8,.val (.int .i64 d.length)),(9,.val (.int .i64 i))],[(0,.box nx 179 9 (ePt.enc p))],23,1,nx+1,[]⟩ ?_ ?_
   ·simp only [go_sem];exact a0c.box fun j hj=>a0h.of_eq (a8D (nZL _) (by omega))
   refine AW.still 6 0 nx 179 9 _ rfl rfl (fun j hj=>match j,hj with|0,_=>rfl|1,_=>rfl|2,_=>rfl|3,_=>rfl|4,_=>rfl|5,_=>rfl|6,_=>rfl|7,_=>rfl|8,_=>rfl) ?_;obtain⟨ll,bl,rl,h,t,l,b,r,hb⟩:=p;cases h with
   | false=>
     rw [if_neg (by simp [hkP])] at he;refine awN hΓ rfl ?_;simp only [go_sem];exact⟨by omega,⟨(i+1,m,nx+1),by dsimp only;omega,hg,he⟩,⟨nLR _,by dsimp only;omega⟩,by dsimp only;omega⟩
   | true=>
     rw [if_pos rfl] at he;by_cases hm:m=0
     ·subst hm;rw [if_pos rfl] at he;refine awN hΓ rfl ?_;simp only [go_sem];rw [he]
     ·rw [if_neg hm] at he;refine AW.fork ?_;refine awZ hΓ rfl ?_;simp only [go_sem];refine AW.fork ?_;refine awZ hΓ rfl ?_;simp only [go_sem,hm];refine AW.regionO hΓ [false,true,false] ?_;simp only [go_sem];refine d3v rfl rfl rfl (Nat.lt_of_lt_of_le (by decide:21<23) (nLR _)) ?_;simp only [go_sem];obtain⟨g1,g2⟩:=b69 (d.drop (i+1)) (i+1) hg (by simp;omega);exact⟨by omega,⟨(i+1,IntKind.i64.wrap (m-1),nx+1),by dsimp only;omega,g1,he.trans g2⟩,⟨nLR _,rfl,by dsimp only;omega⟩,by dsimp only;omega⟩
  ·obtain rfl:i=d.length:=by omega
   rw [he,List.drop_length];rfl
def b3k (p:Pt):Nat:=p.2.2.2.2.1.length+(p.2.2.2.2.2.1.length+p.2.2.2.2.2.2.1.length+p.2.2.2.2.2.2.2.1.length)
def a5x (d:List Pt):Nat:=(d.map b3k).sum
theorem c4x {d:List Pt} {i:Nat} (h:i<d.length):a5x (d.drop i)=b3k (d.getD i ePt.dflt)+a5x (d.drop (i+1)):=by
 rw [List.drop_eq_getElem_cons h,a0F d ePt.dflt h];unfold a5x;rw [List.map_cons,List.sum_cons]
theorem b7P {d:List Pt} {i:Nat} (h:i<d.length):a0k (d.drop i)=(if hkP (d.getD i ePt.dflt)=true then 1 else 0)+a0k (d.drop (i+1)):=by
 rw [List.drop_eq_getElem_cons h,a0F d ePt.dflt h,a13]
theorem b8E {d:List Pt} {i:Nat} (h:i<d.length) (ss:List Int) (acc:BS):a4Z (d.drop i) ss acc=if hkP (d.getD i ePt.dflt)=true then (if (ofS (d.getD i ePt.dflt) (ss.getD 0 0)).2≠0 then ([],(ofS (d.getD i ePt.dflt) (ss.getD 0 0)).2) else a4Z (d.drop (i+1)) ss.tail (acc++(ofS (d.getD i ePt.dflt) (ss.getD 0 0)).1)) else a4Z (d.drop (i+1)) ss (acc++(d.getD i ePt.dflt).2.2.2.2.1):=by
 rw [List.drop_eq_getElem_cons h,a0F d ePt.dflt h,a4Z]
theorem d0i (rs:List Int):a0h (.sn (rs.length-1) 1 fun i=>eI.enc (rs.getD (1+i) 0)) (sL eI rs.tail):=by
 have e:(fun i=>eI.enc (rs.getD (1+i) 0))=fun i=>eI.enc (rs.tail.getD i 0):=by
  funext i
  simp [List.getD,Nat.add_comm]
 rw [e];exact a3A (E:=eI) rfl rfl (by simp)
@[go_sem] def d3t:a0j:=a0j.f2 (kL ePt) (kL eI) (fun d ss=>d.length<100000000/\a0k d<=ss.length/\ss.length<1000000000/\a5x d<=90000000000) (fun d ss=>tu2 (kS.enc (a4Z d ss []).1) (kI.enc (a4Z d ss []).2))
theorem c8M:a0b Tryz.prog 129 d3t:=by
 refine a0b.f2 Tryz.func129 rfl (by decide) Tryz.results129 Tryz.ntmps129 (by decide) fun d ss ⟨hl,hc,hss,hw⟩=>?_
 have hΓ:=gkC d3G (gkM b53 (gkM c59 gkN));refine awL hΓ [0] rfl ?_;simp only [go_sem];refine AW.fork (AW.regionO hΓ [true] ?_);simp only [go_sem];refine b0O rfl b3T (Nat.lt_of_lt_of_le (by decide:6<38) (nLR _)) ?_;simp only [go_sem];refine AW.cut ⟨[(0,sL ePt d),(1,sL eI ss),(6,.pt 0 0 0)],[(0,.box 0 138 2 (a5P false 0 0 1 0 [])),(1,a6w 0 [])],38,2,1,[]⟩ ?_ ?_
 ·simp only [go_sem];refine⟨a0c.box fun j hj=>?_,rlR⟩
  match j,hj with
  | 0,_=>exact avR
  | 1,_=>exact avR
 refine awZ hΓ rfl ?_;simp only [go_sem]
 refine AW.round (α:={ x:Nat×List Int×BS×Bool×Nat×Nat // x.1<=d.length/\a4Z d ss []=a4Z (d.drop x.1) x.2.1 x.2.2.1/\x.2.2.1.length+a5x (d.drop x.1)<=a5x d/\a0k (d.drop x.1)<=x.2.1.length/\x.2.1.length<=ss.length })
  (fun x=>⟨[(1,sL eI x.1.2.1),(6,.pt 0 0 0),(11,sL ePt d),(12,.val (.int .i64 d.length)),(13,.val (.int .i64 x.1.1))],
   [(0,.box 0 138 2 (a5P x.1.2.2.2.1 0 0 1 x.1.2.2.2.2.1 x.1.2.2.1)),(1,a6w x.1.2.2.2.2.1 x.1.2.2.1)],38,2,x.1.2.2.2.2.2,[]⟩) (fun x=>d.length-x.1.1) ⟨(0,ss,[],false,0,1),nZL _,rfl,by simp,hc,nLR _⟩ ?_ ?_
 ·simp only [go_sem];exact⟨rlR,rlR⟩
 ·rintro⟨⟨i,rs,acc,f,u,nx⟩,hi,he,ha,hc1,hc2⟩;simp only at hi he ha hc1 hc2;refine awL hΓ [4,99999] rfl ?_;simp only [go_sem];refine⟨fun hlt=>⟨by omega,?_⟩,fun hge=>?_⟩
  ·have hlt':i<d.length:=by omega
   rw [b8E hlt'] at he;rw [c4x hlt'] at ha;rw [b7P hlt'] at hc1;generalize hpe:d.getD i ePt.dflt=p at *
   refine AW.cut ⟨[(1,sL eI rs),(6,.pt 0 0 0),(8,.pt 2 nx 0),(11,sL ePt d),(12,.val (.int .i64 d.length)),(13,.val (.int .i64 i))],
    [(0,.box 0 138 2 (a5P f 0 0 1 u acc)),(1,a6w u acc),(2,.box nx 179 9 (ePt.enc p))],38,3,nx+1,[]⟩ ?_ ?_
   ·simp only [go_sem];exact⟨rlR,rlR,a0c.box fun j hj=>a0h.of_eq (a8D (nZL _) (by omega))⟩
   refine AW.still 8 2 nx 179 9 _ rfl rfl (fun j hj=>match j,hj with|0,_=>rfl|1,_=>rfl|2,_=>rfl|3,_=>rfl|4,_=>rfl|5,_=>rfl|6,_=>rfl|7,_=>rfl|8,_=>rfl) ?_;have hwp:=b1o p (rs.getD 0 0);unfold b3k at ha;obtain⟨ll,bl,rl,h,tx,l,b,r,hb⟩:=p;dsimp only at ha hwp;cases h with
   | true=>
     rw [if_pos rfl] at he hc1;generalize ho:ofS (ll,bl,rl,true,tx,l,b,r,hb) (rs.getD 0 0)=o at *
     obtain⟨t,e⟩:=o;dsimp only at he hwp;by_cases hz:e=0
     ·subst hz;rw [if_neg (by simp)] at he;refine awN hΓ rfl ?_;simp only [go_sem,ho];refine⟨by omega,⟨by omega,by omega⟩,?_⟩;refine a3H (by decide)  rlR   rlR  (by decide) (by omega) fun u1 n1 g1 h1=>?_
      simp only [go_sem];exact⟨by omega,⟨(i+1,rs.tail,acc++t,true,u1,n1),by dsimp only;omega,he,by dsimp only;rw [lAp];omega,by dsimp only;rw [List.length_tail];omega,by dsimp only;rw [List.length_tail];omega⟩,⟨nLR _,⟨d0i rs,by dsimp only;omega⟩,rlR,rlR⟩,by dsimp only;omega⟩
     ·rw [if_pos hz] at he;refine awN hΓ rfl ?_;simp only [go_sem,ho,hz];rw [he];exact⟨by omega,rfl,rfl⟩
   | false=>
     rw [if_neg (by simp [hkP])] at he hc1;refine awN hΓ rfl ?_;simp only [go_sem];refine a3H (by decide)  rlR   rlR  (by decide) (by omega) fun u1 n1 g1 h1=>?_
     simp only [go_sem];exact⟨by omega,⟨(i+1,rs,acc++tx,true,u1,n1),by dsimp only;omega,he,by dsimp only;rw [lAp];omega,by dsimp only;omega,hc2⟩,⟨nLR _,⟨avR,by dsimp only;omega⟩,rlR,rlR⟩,by dsimp only;omega⟩
  ·obtain rfl:i=d.length:=by omega
   rw [List.drop_length] at he ha;rw [he];exact⟨f,0,0,1,u,acc,rfl,rfl,rfl,by omega,rfl,rfl⟩
end
end Go.Proofs.YthpjjjnbkfnghaaGreatDoor
