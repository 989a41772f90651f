/-
  Part 5 of what the proof rests on: values that are told, code that is walked, what comes out.
-/
import Derived.Test.YthpjjjnbkfnghaaGreatDoorMk4
set_option linter.all false
namespace Go.Proofs.YthpjjjnbkfnghaaGreatDoor
section
section
variable {a b:List Int}
theorem d0c:b1f a.length b.length=true↔(dst a b a.length b.length) % 2=1:=by
 unfold b1f;rw [decide_eq_true_eq]
 have h:((a.length:Int)-b.length).tmod 2≠0↔((a.length:Int)-b.length) % 2≠0:=by
  rw [ne_eq,ne_eq,<-Int.dvd_iff_tmod_eq_zero,<-Int.dvd_iff_emod_eq_zero]
 rw [h];simp only [dst];omega
theorem c8g:dst a.reverse b.reverse a.length b.length=dst a b a.length b.length:=by
 have h1:=a8U (a:=a) (b:=b) (nLR _) (nLR _);have h2:=a8U (a:=a.reverse) (b:=b.reverse) (x:=a.length) (y:=b.length) (by simp) (by simp);rw [h1,h2,List.take_of_length_le (by simp),List.take_of_length_le (by simp),List.take_length,List.take_length,a9J]
theorem b1p {d:Nat} {far:List Int} (h:a8i a b d far):b7a a b d (a9r d b.length) far:=by
 refine⟨h.1,fun k' h1 h2=>?_⟩;have:=h.2 k' h1 h2;have hl:=a5d d b.length;split
 ·rename_i c;rcases Int.lt_or_le k' (-(d:Int)) with g|g
  ·rw [b21 this (a8Q (a:=a) (b:=b) (by omega))];exact a8Q (by omega)
  ·rcases Int.lt_or_le k' (-(b.length:Int)) with g2|g2
   ·rw [b21 this (a8Q (a:=a) (b:=b) (by omega))];exact a8Q (by omega)
   ·have:=hl.2.2.2.1 k' c.1 g g2;omega
 ·exact this
theorem b8g:∀ (f d:Nat) (fwd bwd:List Int),a8i a b d fwd->a8i a.reverse b.reverse d bwd->
  ((dst a b a.length b.length) % 2=1->2*(d:Int)-1<=dst a b a.length b.length)->((dst a b a.length b.length) % 2=0->2*(d:Int)<=dst a b a.length b.length)->dst a b a.length b.length+1<2*((d:Int)+f)->
  ∃ p q:Nat,c71 a b f d fwd bwd=some ((p:Int),(q:Int))/\p<=a.length/\q<=b.length/\dst a b p q+b7U a b p q=dst a b a.length b.length/\dst a b p q<=b7U a b p q+1/\b7U a b p q<=dst a b p q
 | 0,d,fwd,bwd,hF,hB,ho,he,hf=>by omega
 | f+1,d,fwd,bwd,hF,hB,ho,he,hf=>by
   have hl:=a5d d b.length;have hh:=a48 d a.length
   have hhge:-1<=a27 d a.length:=by
    unfold a27;split
    ·rw [c2k _ (by omega)];omega
    ·omega
   have hodd:=d0c (a:=a) (b:=b)
   rcases b0O (d:=d) (chk:=b1f a.length b.length) (other:=bwd) (a.length+b.length+3) (a9r d b.length) fwd (b1p hF) hl.2.2.1 hl.1 hl.2.1 (by omega) (by omega) (fun k' _ _ h _=>by omega) with
    ⟨x,k',e,hc,ht,hx0,k1,k2,hm⟩|⟨fwd',e,hF',hno⟩
   ·
    have ho1:=hodd.1 hc;have hb:=hB.2 (a.length-b.length-k') (by simp only [a1B];omega) (by simp only [a1B];omega);simp only [a1B] at hb;obtain⟨p,q,hp,hq,p1,q1,g1,g2⟩:=c0h ht hb hx0 hm;have hs:=b5f p1 q1;have:=ho ho1;refine⟨p,q,?_,p1,q1,by omega,by omega,by omega⟩;rw [c71,e];simp only [hp,hq]
   ·have hlr:=a5d d b.reverse.length;have hhr:=a48 d a.reverse.length;simp only [a1B] at hlr hhr;have hl2:a9r d b.length=a9r d b.reverse.length:=by rw [a1B]
    have hh2:a27 d a.length=a27 d a.reverse.length:=by rw [a1B]
    rcases b0O (a:=a.reverse) (b:=b.reverse) (d:=d) (chk:=!b1f a.length b.length) (other:=fwd') (a.length+b.length+3) (a9r d b.reverse.length) bwd (b1p hB) (by simp only [a1B];exact hlr.2.2.1) (by simp only [a1B];exact hlr.1) (by simp only [a1B];exact hlr.2.1)
      (by simp only [a1B];omega) (by simp only [a1B];omega) (fun k' _ _ h _=>by omega) with
     ⟨x,k',e2,hc,ht,hx0,k1,k2,hm⟩|⟨bwd',e2,hB',hno2⟩
    ·
     simp only [a1B] at e2 k1 k2 hm;have hne:¬b1f a.length b.length=true:=by simpa using hc
     have ho1:¬(dst a b a.length b.length) % 2=1:=fun h=>hne (hodd.2 h)
     have hb:=hF'.2 (a.length-b.length-k') (by omega) (by omega)
     have ht2:b1E a.reverse.reverse b.reverse.reverse (d+1) (a.reverse.length-b.reverse.length-k') (rch b.length fwd' (a.length-b.length-k')):=by
      simpa using hb
     obtain⟨p,q,hp,hq,p1,q1,g1,g2⟩:=c0h ht ht2 hx0 (by simp only [a1B];exact hm);simp only [a1B] at p1 q1
     have e3:b7U a.reverse b.reverse p q=dst a b (a.length-p) (b.length-q):=by
      unfold b7U;simp
     have e4:dst a.reverse b.reverse p q=b7U a b (a.length-p) (b.length-q):=by
      unfold b7U;rw [show a.length-(a.length-p)=p by omega,show b.length-(b.length-q)=q by omega]
     rw [e3] at g2;rw [e4] at g1;have hs:=b5f (a:=a) (b:=b) (x:=a.length-p) (y:=b.length-q) (by omega) (by omega);have:=he (by omega);refine⟨a.length-p,b.length-q,?_,by omega,by omega,by omega,by omega,by omega⟩;have e2':a5t a.reverse b.reverse (!b1f a.length b.length) fwd' (a27 d a.length) (a.length+b.length+3) (a9r d b.length) bwd=some (.inl (x,x-k')):=e2;rw [c71,e];simp only;rw [e2'];simp only
     congr 2<;>omega
    ·
     simp only [a1B] at e2;have hB2:a8i a.reverse b.reverse (d+1) bwd':=hB'
     have n1:b1f a.length b.length=true->dst a b a.length b.length≠d+d-1:=fun hc=>by
      have:=c1v (e2:=d) hF' hB (fun k' h1 h2 h3=>hno k' h1 h2 h3 hc) (.inl rfl);exact this
     have n2:b1f a.length b.length=false->dst a b a.length b.length≠d+(d+1)-1:=fun hc=>by
      have hFr:a8i a.reverse.reverse b.reverse.reverse (d+1) fwd':=by simpa using hF'
      have:=c1v (a:=a.reverse) (b:=b.reverse) (e2:=d+1) hB' hFr (fun k' h1 h2 h3=>hno2 k' h1 h2 h3 (by simp [hc])) (.inr rfl);simp only [a1B] at this;rw [c8g] at this;exact this
     obtain⟨p,q,g1,g2⟩:=b8g f (d+1) fwd' bwd' hF' hB' (fun h=>by
       have:=n1 (hodd.2 h);have:=ho h
       omega) (fun h=>by
       have:=n2 (by
        cases hc:b1f a.length b.length with
        | false=>rfl
        | true=>have:=hodd.1 hc;omega)
       have:=he h
       omega) (by omega)
     refine⟨p,q,?_,g2⟩;rw [c71,e];simp only;rw [e2];exact g1
end
end
section
def prs (i j:Int) (n:Nat):List (Int×Int):=(List.range n).map fun r:Nat=>(i+(r:Int),j+(r:Int))
def shP (i j:Int) (l:List (Int×Int)):List (Int×Int):=l.map fun p=>(i+p.1,j+p.2)
def a2f (n:Nat):List Int:=List.replicate n (-1)
def bh (a b:List Int):Nat:=bhd (a.drop (ahd a b)) (b.drop (ahd a b))
def a58 (a b:List Int):List Int:=(a.drop (ahd a b)).take (a.length-ahd a b-bh a b)
def a2x (a b:List Int):List Int:=(b.drop (ahd a b)).take (b.length-ahd a b-bh a b)
def cutF (a b:List Int):Option (Int×Int):=c71 a b (a.length+b.length+1) 0 (a2f (a.length+b.length+3)) (a2f (a.length+b.length+3))
def b9f (g:List Int->List Int->List (Int×Int)) (a b:List Int):List (Int×Int):=
 if (a58 a b).length≠0/\(a2x a b).length≠0 then
  match cutF (a58 a b) (a2x a b) with
  | none=>[]
  | some pq=>
    shP (ahd a b) (ahd a b) (g ((a58 a b).take pq.1.toNat) ((a2x a b).take pq.2.toNat))++
    shP (ahd a b+pq.1) (ahd a b+pq.2) (g ((a58 a b).drop pq.1.toNat) ((a2x a b).drop pq.2.toNat))
 else []
def a8k:Nat->List Int->List Int->List (Int×Int)
 | 0,_,_=>[]
 | f+1,a,b=>prs 0 0 (ahd a b)++(b9f (a8k f) a b++prs ((a.length:Int)-bh a b) ((b.length:Int)-bh a b) (bh a b))
theorem a6W (f:Nat) (a b:List Int):a8k (f+1) a b=prs 0 0 (ahd a b)++(b9f (a8k f) a b++prs ((a.length:Int)-bh a b) ((b.length:Int)-bh a b) (bh a b)):=rfl
section
variable {a b:List Int}
theorem b05:ahd a b+bh a b<=a.length/\ahd a b+bh a b<=b.length:=by
 have h1:=a7d a b;have h2:=c0t (a.drop (ahd a b)) (b.drop (ahd a b));simp only [List.length_drop] at h2;unfold bh;omega
theorem a9P:(a58 a b).length=a.length-ahd a b-bh a b/\(a2x a b).length=b.length-ahd a b-bh a b:=by
 have:=b05 (a:=a) (b:=b);constructor<;>simp only [a58,a2x,List.length_take,List.length_drop]<;>omega
theorem b1j:a=a.take (ahd a b)++(a58 a b++a.drop (a.length-bh a b)):=by
 have h:=b05 (a:=a) (b:=b);rw [show a.drop (a.length-bh a b)=(a.drop (ahd a b)).drop (a.length-ahd a b-bh a b) by rw [List.drop_drop];congr 1;omega];rw [a58,List.take_append_drop,List.take_append_drop]
theorem b0D:b=b.take (ahd a b)++(a2x a b++b.drop (b.length-bh a b)):=by
 have h:=b05 (a:=a) (b:=b);rw [show b.drop (b.length-bh a b)=(b.drop (ahd a b)).drop (b.length-ahd a b-bh a b) by rw [List.drop_drop];congr 1;omega];rw [a2x,List.take_append_drop,List.take_append_drop]
theorem a2U (l:List Int) (i k:Nat):(l.drop i).getD k 0=l.getD (i+k) 0:=by simp [List.getD]
theorem a4f (l:List Int) {i k:Nat} (h:k<i):(l.take i).getD k 0=l.getD k 0:=by simp [List.getD,h]
theorem b1B:a.take (ahd a b)=b.take (ahd a b):=by
 have h:=b05 (a:=a) (b:=b);refine a1E 0 (by simp only [List.length_take];omega) fun k hk=>?_
 simp only [List.length_take] at hk;rw [a4f _ (by omega),a4f _ (by omega)];exact (a35 0 a b).1 k (by omega)
theorem b1v:a.drop (a.length-bh a b)=b.drop (b.length-bh a b):=by
 have h:=b05 (a:=a) (b:=b);refine a1E 0 (by simp only [List.length_drop];omega) fun k hk=>?_
 simp only [List.length_drop] at hk;rw [a2U,a2U];have:=(b6L 0 (a.drop (ahd a b)) (b.drop (ahd a b))).1 (bh a b-1-k) (by unfold bh at *;omega);simp only [List.length_drop,a2U] at this
 rw [show ahd a b+(a.length-ahd a b-1-(bh a b-1-k))=a.length-bh a b+k by omega,
  show ahd a b+(b.length-ahd a b-1-(bh a b-1-k))=b.length-bh a b+k by omega] at this
 exact this
theorem b0n (h1:(a58 a b).length≠0) (h2:(a2x a b).length≠0) :
  (a58 a b).getD 0 0≠(a2x a b).getD 0 0/\(a58 a b).getD ((a58 a b).length-1) 0≠(a2x a b).getD ((a2x a b).length-1) 0:=by
 have h:=b05 (a:=a) (b:=b);have hl:=a9P (a:=a) (b:=b);rw [hl.1] at h1;rw [hl.2] at h2;constructor
 ·rw [a58,a2x,a4f _ (by omega),a4f _ (by omega),a2U,a2U];exact (a35 0 a b).2 (by omega) (by omega)
 ·rw [hl.1,hl.2,a58,a2x,a4f _ (by omega),a4f _ (by omega),a2U,a2U];have:=(b6L 0 (a.drop (ahd a b)) (b.drop (ahd a b))).2 (by simp only [List.length_drop];unfold bh at *;omega) (by simp only [List.length_drop];unfold bh at *;omega);simp only [List.length_drop,a2U] at this
  change a.getD (ahd a b+(a.length-ahd a b-1-bh a b)) 0≠b.getD (ahd a b+(b.length-ahd a b-1-bh a b)) 0 at this
  rw [show a.length-ahd a b-1-bh a b=a.length-ahd a b-bh a b-1 by omega,show b.length-ahd a b-1-bh a b=b.length-ahd a b-bh a b-1 by omega] at this;exact this
theorem c6W:a4D a b=ahd a b+a4D (a58 a b) (a2x a b)+bh a b:=by
 have h:=b05 (a:=a) (b:=b);have e1:=b1j (a:=a) (b:=b);have e2:=b0D (a:=a) (b:=b);rw [<-b1B,<-b1v] at e2
 have:a4D a b=a4D (a.take (ahd a b)++(a58 a b++a.drop (a.length-bh a b))) (a.take (ahd a b)++(a2x a b++a.drop (a.length-bh a b))):=by
  rw [<-e1,<-e2]
 rw [this,b1l,b0S];simp only [List.length_take,List.length_drop];omega
end
theorem c9E {a b:List Int} (h:a.Sublist b) (hl:b.length=a.length+1):∃ u v z,a=u++v/\b=u++z::v:=by
 induction h with
 | slnil=>simp at hl
 | @cons l1 l2 x h ih=>
   simp only [lCo] at hl;have:=h.eq_of_length (by omega);subst this;exact⟨[],l1,x,rfl,rfl⟩
 | @cons_cons l1 l2 x h ih=>
   simp only [lCo] at hl;obtain⟨u,v,z,e1,e2⟩:=ih (by omega);exact⟨x::u,v,z,by rw [e1];rfl,by rw [e2];rfl⟩
theorem c1j {a b:List Int} (h:a.Sublist b) (hl:b.length=a.length+1) (h0:a.length≠0) :
  a.getD 0 0=b.getD 0 0\/a.getD (a.length-1) 0=b.getD (b.length-1) 0:=by
 obtain⟨u,v,z,rfl,rfl⟩:=c9E h hl;cases u with
 | cons x u=>left;rfl
 | nil=>
   right;simp only [List.nil_append,lCo] at h0 ⊢;rw [show v.length+1-1=(v.length-1)+1 by omega];rfl
theorem c3n {a b:List Int} (h1:a.length≠0) (h2:b.length≠0) (h3:a.getD 0 0≠b.getD 0 0) (h4:a.getD (a.length-1) 0≠b.getD (b.length-1) 0) :
  2<=dst a b a.length b.length:=by
 obtain⟨c,g1,g2,g3⟩:=a3O a b;have l1:=g1.length_le;have l2:=g2.length_le;have hd:dst a b a.length b.length=(a.length:Int)+b.length-2*c.length:=by rw [dst,g3];rfl
 rw [hd];by_cases e1:a.length=c.length
 ·have:=g1.eq_of_length e1.symm;subst this;by_cases e2:b.length=c.length
  ·have:=g2.eq_of_length e2.symm;subst this;exact absurd rfl h3
  ·by_cases e3:b.length=c.length+1
   ·rcases c1j g2 e3 h1 with g|g
    ·exact absurd g h3
    ·exact absurd g h4
   ·omega
 ·by_cases e2:b.length=c.length
  ·have:=g2.eq_of_length e2.symm;subst this;by_cases e3:a.length=c.length+1
   ·rcases c1j g1 e3 h2 with g|g
    ·exact absurd g.symm h3
    ·exact absurd g.symm h4
   ·omega
  ·omega
theorem b4C (a b:List Int):a8i a b 0 (a2f (a.length+b.length+3)):=by
 refine⟨by simp [a2f],fun k h1 h2=>.inl ⟨?_,fun x h=>?_⟩⟩
 ·unfold rch a2f;simp only [List.getD];rw [List.getElem?_replicate,if_pos (by omega)];rfl
 ·have:=h.2.2.2.2;have:=b1z (a:=a) (b:=b) x.toNat (x-k).toNat;omega
theorem b7O {a b:List Int} (h1:a.length≠0) (h2:b.length≠0) (h3:a.getD 0 0≠b.getD 0 0) (h4:a.getD (a.length-1) 0≠b.getD (b.length-1) 0) :
  ∃ p q:Nat,cutF a b=some ((p:Int),(q:Int))/\p<=a.length/\q<=b.length/\0<p+q/\p+q<a.length+b.length/\a4D (a.take p) (b.take q)+a4D (a.drop p) (b.drop q)=a4D a b:=by
 have ht:=c3n h1 h2 h3 h4;have hle:=(b20 (a:=a) (b:=b) a.length b.length);have hd:dst a b a.length b.length=(a.length:Int)+b.length-2*a4D a b:=rfl;have s2:=b4C a.reverse b.reverse;simp only [a1B] at s2;obtain⟨p,q,e,p1,q1,g1,g2,g3⟩:=b8g (a:=a) (b:=b) (a.length+b.length+1) 0 _ _ (b4C a b) s2 (fun _=>by omega) (fun _=>by omega) (by omega);have e1:=a8U (a:=a) (b:=b) p1 q1;have e2:=a9V (a:=a) (b:=b) p1 q1;refine⟨p,q,e,p1,q1,?_,?_,by omega⟩
 ·have:=(a5U (a.take p) (b.take q));omega
 ·have:¬(p=a.length/\q=b.length):=fun⟨x,y⟩=>by
   subst x;subst y;simp only [List.drop_length,b2J] at e2;omega
  omega
def inM (a b:List Int) (p:Int×Int):Prop:=0<=p.1/\p.1<a.length/\0<=p.2/\p.2<b.length/\a.getD p.1.toNat 0=b.getD p.2.toNat 0
def isM (a b:List Int) (l:List (Int×Int)):Prop:=l.Pairwise (fun p q=>p.1<q.1/\p.2<q.2)/\∀ p∈l,inM a b p
theorem c86 (a b:List Int):isM a b []:=⟨.nil,fun _ h=>nomatch h⟩
theorem b26 (i j:Int) (l:List (Int×Int)):(shP i j l).length=l.length:=by simp [shP]
theorem a7x (i j:Int) (n:Nat):(prs i j n).length=n:=by simp [prs]
theorem c0M (i j i' j':Int) (l:List (Int×Int)):shP i j (shP i' j' l)=shP (i+i') (j+j') l:=by
 simp only [shP,List.map_map];refine List.map_congr_left fun p _=>?_
 simp only [Function.comp]
 congr 1<;>omega
theorem b25 (i j:Int) (l l':List (Int×Int)):shP i j (l++l')=shP i j l++shP i j l':=by simp [shP]
theorem b5S (i j i' j':Int) (n:Nat):shP i j (prs i' j' n)=prs (i+i') (j+j') n:=by
 simp only [shP,prs,List.map_map];refine List.map_congr_left fun p _=>?_
 simp only [Function.comp]
 congr 1<;>omega
theorem d5X (l:List (Int×Int)):shP 0 0 l=l:=by
 simp only [shP,Int.zero_add];exact List.map_id l
theorem b5V {a b a' b':List Int} {l l':List (Int×Int)} (h:isM a b l) (h':isM a' b' l'):isM (a++a') (b++b') (l++shP a.length b.length l'):=by
 constructor
 ·refine List.pairwise_append.2 ⟨h.1,?_,fun p hp q hq=>?_⟩
  ·exact List.pairwise_map.2 (h'.1.imp fun {p q} hpq=>by dsimp only;omega)
  ·obtain⟨r,hr,rfl⟩:=List.mem_map.1 hq;have h1:=h.2 p hp;have h2:=h'.2 r hr;unfold inM at h1 h2;dsimp only;omega
 ·intro p hp;rcases List.mem_append.1 hp with hp|hp
  ·have h1:=h.2 p hp;unfold inM at *
   simp only [lAp];refine⟨by omega,by omega,by omega,by omega,?_⟩;simp only [List.getD];rw [List.getElem?_append_left (by omega),List.getElem?_append_left (by omega)];exact h1.2.2.2.2
  ·obtain⟨r,hr,rfl⟩:=List.mem_map.1 hp;have h1:=h'.2 r hr;unfold inM at *
   simp only [lAp];refine⟨by omega,by omega,by omega,by omega,?_⟩;simp only [List.getD];rw [List.getElem?_append_right (by omega),List.getElem?_append_right (by omega)];rw [show (a.length+r.1).toNat-a.length=r.1.toNat by omega,show (b.length+r.2).toNat-b.length=r.2.toNat by omega];exact h1.2.2.2.2
theorem c2P (a:List Int):isM a a (prs 0 0 a.length):=by
 constructor
 ·refine List.pairwise_map.2 (List.pairwise_lt_range.imp fun {p q} hpq=>by dsimp only;omega)
 ·intro p hp;obtain⟨r,hr,rfl⟩:=List.mem_map.1 hp;have:=List.mem_range.1 hr;unfold inM;dsimp only;refine⟨by omega,by omega,by omega,by omega,rfl⟩
theorem a47:∀ (f:Nat) (a b:List Int),a.length+b.length<f->
  isM a b (a8k f a b)/\(a8k f a b).length=a4D a b/\∀ f',a.length+b.length<f'->a8k f' a b=a8k f a b
 | 0,a,b,h=>by omega
 | f+1,a,b,h=>by
   have hb:=b05 (a:=a) (b:=b);have hl:=a9P (a:=a) (b:=b);have e1:=b1j (a:=a) (b:=b);have e2:=b0D (a:=a) (b:=b);have hh:=b1B (a:=a) (b:=b);have ht:=b1v (a:=a) (b:=b);have hc:=c6W (a:=a) (b:=b)
   have key:∀ m,isM (a58 a b) (a2x a b) m->isM a b (prs 0 0 (ahd a b)++(shP (ahd a b) (ahd a b) m++prs ((a.length:Int)-bh a b) ((b.length:Int)-bh a b) (bh a b))):=by
    intro m hm;have k1:=c2P (a.take (ahd a b));have k2:=c2P (a.drop (a.length-bh a b));have k3:=b5V k1 (b5V hm k2);simp only [List.length_take,List.length_drop,b25,b5S] at k3;rw [Nat.min_eq_left (by omega),show a.length-(a.length-bh a b)=bh a b by omega] at k3;rw [show a.take (ahd a b)++(a2x a b++a.drop (a.length-bh a b))=b by rw [hh,ht];exact e2.symm] at k3;rw [<-e1] at k3;rw [show ((ahd a b:Nat):Int)+((a58 a b).length+0)=a.length-bh a b by omega,show ((ahd a b:Nat):Int)+((a2x a b).length+0)=b.length-bh a b by omega] at k3;exact k3
   by_cases c:(a58 a b).length≠0/\(a2x a b).length≠0
   ·have hce:=b0n c.1 c.2;obtain⟨p,q,e,p1,q1,g1,g2,g3⟩:=b7O c.1 c.2 hce.1 hce.2;have r1:=a47 f ((a58 a b).take p) ((a2x a b).take q) (by simp only [List.length_take];omega);have r2:=a47 f ((a58 a b).drop p) ((a2x a b).drop q) (by simp only [List.length_drop];omega)
    have ef:∀ f',a8k (f'+1) a b=prs 0 0 (ahd a b)++(shP (ahd a b) (ahd a b) (a8k f' ((a58 a b).take p) ((a2x a b).take q)++shP p q (a8k f' ((a58 a b).drop p) ((a2x a b).drop q)))++prs ((a.length:Int)-bh a b) ((b.length:Int)-bh a b) (bh a b)):=fun f'=>by
     rw [a6W,b9f,if_pos c,e];simp only [Int.toNat_natCast,b25,c0M]
    rw [ef];refine⟨key _ ?_,?_,fun f' hf'=>?_⟩
    ·have:=b5V r1.1 r2.1;simp only [List.length_take] at this;rw [List.take_append_drop,List.take_append_drop,Nat.min_eq_left p1,Nat.min_eq_left q1] at this;exact this
    ·simp only [lAp,a7x,b26,r1.2.1,r2.2.1];omega
    ·cases f' with
     | zero=>omega
     | succ f'=>
       rw [ef,r1.2.2 f' (by simp only [List.length_take];omega),r2.2.2 f' (by simp only [List.length_drop];omega)]
   ·have ef:∀ f',a8k (f'+1) a b=prs 0 0 (ahd a b)++(shP (ahd a b) (ahd a b) []++prs ((a.length:Int)-bh a b) ((b.length:Int)-bh a b) (bh a b)):=fun f'=>by
     rw [a6W,b9f,if_neg c];rfl
    rw [ef];refine⟨key _ (c86 _ _),?_,fun f' hf'=>?_⟩
    ·simp only [lAp,a7x,b26,List.length_nil];rw [hc]
     have:a4D (a58 a b) (a2x a b)=0:=by
      have:=a5U (a58 a b) (a2x a b);omega
     omega
    ·cases f' with
     | zero=>omega
     | succ f'=>rw [ef]
end
section
def plc (q:Int->Bool):Int->List Int->List Int
 | _,[]=>[]
 | i,x::l=>if q x then i::plc q (i+1) l else plc q (i+1) l
def shI (a b:List Int):List Int:=a.filter fun x=>b.contains x
def shQ (a b:List Int):List Int:=plc (fun x=>b.contains x) 0 a
theorem b8b (q:Int->Bool) (x:Int):∀ (i:Int) (l:List Int),plc q i (l++[x])=plc q i l++(if q x then [i+l.length] else [])
 | i,[]=>by simp [plc]
 | i,y::l=>by
   have:=b8b q x (i+1) l;simp only [List.cons_append,plc,lCo];rw [this,show i+1+(l.length:Int)=i+((l.length+1:Nat):Int) by omega];split<;>rfl
theorem a3W (q:Int->Bool):∀ (i:Int) (l:List Int),(plc q i l).length=(l.filter q).length
 | i,[]=>rfl
 | i,y::l=>by
   have:=a3W q (i+1) l;simp only [plc,List.filter_cons];split<;>simp [this]
theorem a8T (q:Int->Bool):∀ (i:Int) (l:List Int),∀ p∈plc q i l,i<=p/\p<i+l.length
 | i,[],p,h=>nomatch h
 | i,y::l,p,h=>by
   have:=a8T q (i+1) l p;simp only [plc] at h;simp only [lCo];split at h
   ·rcases List.mem_cons.1 h with h|h
    ·omega
    ·have:=this h;omega
   ·have:=this h;omega
theorem b7J (q:Int->Bool):∀ (i:Int) (l:List Int),(plc q i l).Pairwise (·<·)
 | i,[]=>.nil
 | i,y::l=>by
   have:=b7J q (i+1) l;simp only [plc];split
   ·exact .cons (fun p hp=>by have:=a8T q (i+1) l p hp;omega) this
   ·exact this
theorem b7C (q:Int->Bool):∀ (i:Int) (l:List Int) (k:Nat),k<(l.filter q).length->l.getD ((plc q i l).getD k 0-i).toNat 0=(l.filter q).getD k 0
 | i,[],k,h=>by simp at h
 | i,y::l,k,h=>by
   simp only [plc,List.filter_cons] at h ⊢;split at h
   ·rename_i c;simp only [c,if_true];cases k with
    | zero=>simp
    | succ k=>
      simp only [lCo] at h;have:=b7C q (i+1) l k (by omega)
      have hm:=a8T q (i+1) l ((plc q (i+1) l).getD k 0) (by
       rw [a1q _ _ (by rw [a3W];omega)];exact List.getElem_mem _)
      simp only [List.getD_cons_succ];rw [show ((plc q (i+1) l).getD k 0-i).toNat=((plc q (i+1) l).getD k 0-(i+1)).toNat+1 by omega,List.getD_cons_succ];exact this
   ·rename_i c;simp only [c];have:=b7C q (i+1) l k h
    have hm:=a8T q (i+1) l ((plc q (i+1) l).getD k 0) (by
     rw [a1q _ _ (by rw [a3W];omega)];exact List.getElem_mem _)
    simp only [Bool.false_eq_true,if_false];rw [show ((plc q (i+1) l).getD k 0-i).toNat=((plc q (i+1) l).getD k 0-(i+1)).toNat+1 by omega,List.getD_cons_succ];exact this
theorem c7a {q:Int->Bool} {i:Int} {l:List Int} {k k':Nat} (h:k<k') (h':k'<(l.filter q).length):(plc q i l).getD k 0<(plc q i l).getD k' 0:=by
 have:=List.pairwise_iff_getElem.1 (b7J q i l) k k' (by rw [a3W];omega) (by rw [a3W];omega) h;rw [a1q _ _ (by rw [a3W];omega),a1q _ _ (by rw [a3W];omega)];exact this
def mapM (pa pb:List Int) (l:List (Int×Int)):List (Int×Int):=l.map fun p=>(pa.getD p.1.toNat 0,pb.getD p.2.toNat 0)
def a3N (a b:List Int):List (Int×Int):=mapM (shQ a b) (shQ b a) (a8k ((shI a b).length+(shI b a).length+1) (shI a b) (shI b a))
theorem b8M (a b:List Int):a4D (shI a b) (shI b a)=a4D a b:=by
 obtain⟨c,h1,h2,h3⟩:=a3O a b;refine a7h ⟨c,?_,?_,h3⟩ fun d g1 g2=>?_
 ·have:=h1.filter fun x=>b.contains x
  rwa [List.filter_eq_self.2 fun x hx=>by simpa using h2.subset hx] at this
 ·have:=h2.filter fun x=>a.contains x
  rwa [List.filter_eq_self.2 fun x hx=>by simpa using h1.subset hx] at this
 ·exact a6O (g1.trans List.filter_sublist) (g2.trans List.filter_sublist)
theorem a3n (a b:List Int):isM a b (a3N a b)/\(a3N a b).length=a4D a b:=by
 have h:=a47 ((shI a b).length+(shI b a).length+1) (shI a b) (shI b a) (by omega);refine⟨⟨?_,?_⟩,by simp only [a3N,mapM,List.length_map];rw [h.2.1,b8M]⟩
 ·refine List.pairwise_map.2 (h.1.1.imp_of_mem fun {p q} hp hq hpq=>?_);have h1:=h.1.2 p hp;have h2:=h.1.2 q hq;unfold inM shI at h1 h2;exact⟨c7a (by omega) (by omega),c7a (by omega) (by omega)⟩
 ·intro p hp;obtain⟨r,hr,rfl⟩:=List.mem_map.1 hp;have h1:=h.1.2 r hr;unfold inM shI at h1
  have ma:=a8T (fun x=>b.contains x) 0 a ((shQ a b).getD r.1.toNat 0) (by
   unfold shQ
   rw [a1q _ _ (by rw [a3W];omega)];exact List.getElem_mem _)
  have mb:=a8T (fun x=>a.contains x) 0 b ((shQ b a).getD r.2.toNat 0) (by
   unfold shQ
   rw [a1q _ _ (by rw [a3W];omega)];exact List.getElem_mem _)
  have ea:=b7C (fun x=>b.contains x) 0 a r.1.toNat (by omega);have eb:=b7C (fun x=>a.contains x) 0 b r.2.toNat (by omega);unfold inM;dsimp only;refine⟨by omega,by omega,by omega,by omega,?_⟩;rw [Int.sub_zero] at ea eb;unfold shQ;rw [ea,eb];exact h1.2.2.2.2
theorem c2z {a b:List Int}:∀ (l:List (Int×Int)) (u v:Int),isM a b l->(∀ p∈l,u<p.1/\v<p.2)->rgt a b u v l=true
 | [],_,_,_,_=>rfl
 | p::l,u,v,h,hu=>by
   have h1:=h.2 p (List.mem_cons_self ..);have h2:=hu p (List.mem_cons_self ..);unfold inM at h1;rw [rgt,Bool.and_eq_true,decide_eq_true_eq];refine⟨⟨h2.1,h2.2,h1.2.1,h1.2.2.2.1,h1.2.2.2.2⟩,c2z l _ _ ⟨(List.pairwise_cons.1 h.1).2,fun q hq=>h.2 q (List.mem_cons_of_mem _ hq)⟩ fun q hq=>(List.pairwise_cons.1 h.1).1 q hq⟩
theorem a5a (a b:List Int):rgt a b (-1) (-1) (a3N a b)=true:=
 c2z _ _ _ (a3n a b).1 fun p hp=>by have:=(a3n a b).1.2 p hp;unfold inM at this;omega
theorem b7X:∀ (l:List (Int×Int)) (u n:Int),l.Pairwise (fun p q=>p.1<q.1/\p.2<q.2)->(∀ p∈l,u<=p.1/\p.1<n/\u<=p.2/\p.2<n)->n-u<=l.length->l=prs u u l.length
 | [],u,n,_,_,_=>rfl
 | p::l,u,n,h,hu,hn=>by
   have h1:=hu p (List.mem_cons_self ..);have ⟨g1,g2⟩:=List.pairwise_cons.1 h;simp only [lCo] at hn ⊢
   have ub:∀ (l:List (Int×Int)) (w:Int),l.Pairwise (fun p q=>p.1<q.1/\p.2<q.2)->(∀ q∈l,w<q.1/\q.1<n)->w<n->(l.length:Int)<=n-w-1:=by
    intro l
    induction l with
    | nil=>intro w _ _ hw;simp;omega
    | cons q l ih=>
      intro w hp hq hw;have ⟨k1,k2⟩:=List.pairwise_cons.1 hp;have:=hq q (List.mem_cons_self ..);have:=ih q.1 k2 (fun r hr=>⟨(k1 r hr).1,(hq r (List.mem_cons_of_mem _ hr)).2⟩) this.2;simp only [lCo];omega
   have ub2:∀ (l:List (Int×Int)) (w:Int),l.Pairwise (fun p q=>p.1<q.1/\p.2<q.2)->(∀ q∈l,w<q.2/\q.2<n)->w<n->(l.length:Int)<=n-w-1:=by
    intro l
    induction l with
    | nil=>intro w _ _ hw;simp;omega
    | cons q l ih=>
      intro w hp hq hw;have ⟨k1,k2⟩:=List.pairwise_cons.1 hp;have:=hq q (List.mem_cons_self ..);have:=ih q.2 k2 (fun r hr=>⟨(k1 r hr).2,(hq r (List.mem_cons_of_mem _ hr)).2⟩) this.2;simp only [lCo];omega
   have b1:=ub l p.1 g2 (fun q hq=>⟨(g1 q hq).1,(hu q (List.mem_cons_of_mem _ hq)).2.1⟩) h1.2.1;have b2:=ub2 l p.2 g2 (fun q hq=>⟨(g1 q hq).2,(hu q (List.mem_cons_of_mem _ hq)).2.2.2⟩) h1.2.2.2;have e1:p.1=u:=by omega
   have e2:p.2=u:=by omega
   have:=b7X l (u+1) n g2 (fun q hq=>by
    have k1:=g1 q hq;have k2:=hu q (List.mem_cons_of_mem _ hq)
    omega) (by omega)
   have hp:p=(u,u):=by cases p;simp only at e1 e2;rw [e1,e2]
   rw [hp];refine Eq.trans (congrArg ((u,u)::·) this) ?_;unfold prs;rw [List.range_succ_eq_map];simp only [List.map_cons,List.map_map,Int.natCast_zero,Int.add_zero]
   congr 1
   refine List.map_congr_left fun r _=>?_
   simp only [Function.comp]
   congr 1<;>omega
theorem b8F (a:List Int):a3N a a=prs 0 0 a.length:=by
 have h:=a3n a a;rw [c0N] at h;have:=b7X (a3N a a) 0 a.length h.1.1 (fun p hp=>by have:=h.1.2 p hp;unfold inM at this;omega) (by omega);rw [h.2] at this;exact this
end
set_option maxRecDepth 100000
section
open Go
def b0E (n:Int):Bool:=decide (n=1)||(decide (n=2)||decide (n=3))
def ofS (p:Pt) (n:Int):BS×Int:=if b0E n=false then ([],5) else if n=1 then (p.2.2.2.2.2.1,0) else if n=3 then (p.2.2.2.2.2.2.2.1,0) else if p.2.2.2.2.2.2.2.2=false then ([],1) else (p.2.2.2.2.2.2.1,0)
theorem b3l (p:Pt) (n:Int):(ofS p n).1.length<=p.2.2.2.2.2.1.length+p.2.2.2.2.2.2.1.length+p.2.2.2.2.2.2.2.1.length:=by
 unfold ofS;split
 ·simp
 ·split
  ·simp only;omega
  ·split
   ·simp only;omega
   ·split
    ·simp
    ·simp only;omega
def a56:List Pt->List Int->BS->BS×Int
 | [],_,acc=>(acc,0)
 | p::d,ss,acc=>if hkP p=true then (if (ofS p (ss.getD 0 0)).2≠0 then ([],(ofS p (ss.getD 0 0)).2) else a56 d ss.tail (acc++(ofS p (ss.getD 0 0)).1)) else a56 d ss (acc++p.2.2.2.2.1)
def b4h (d:List Pt) (n:Int):BS×Int:=if a3g d=false then ([],11) else if b0E n=false then ([],5) else a56 d (List.replicate (a0x d) n) []
theorem a2W (p:Pt) (d:List Pt):a0x (p::d)=(if hkP p=true then 1 else 0)+a0x d:=by
 unfold a0x;rw [List.filter_cons];split
 ·rw [lCo];omega
 ·omega
def a2g:List Pt->Nat->Int->Int
 | [],_,_=>-1
 | p::d,i,n=>if hkP p=true then (if n=0 then (i:Int) else a2g d (i+1) (n-1)) else a2g d (i+1) n
theorem a7P:∀ (d:List Pt) (i:Nat) (n:Int),n<0->a2g d i n=-1
 | [],_,_,_=>rfl
 | p::d,i,n,h=>by
   rw [a2g];split
   ·rw [if_neg (by omega),a7P d _ _ (by omega)]
   ·exact a7P d _ _ h
theorem a5f:∀ (d:List Pt) (i:Nat) (n:Int),0<=n->((a0x d:Int)<=n->a2g d i n=-1)/\(n<a0x d->∃ k:Nat,a2g d i n=((i+k:Nat):Int)/\k<d.length/\hkP (d.getD k ePt.dflt)=true/\(a0x (d.take k):Int)=n)
 | [],i,n,h=>⟨fun _=>rfl,fun h2=>by simp [a0x] at h2;omega⟩
 | p::d,i,n,h=>by
   rw [a2g,a2W];by_cases hk:hkP p=true
   ·rw [if_pos hk,if_pos hk];by_cases hn:n=0
    ·rw [if_pos hn];exact⟨fun h2=>by omega,fun _=>⟨0,by simp,by simp,by simpa using hk,by simp [a0x,hn]⟩⟩
    ·rw [if_neg hn];obtain⟨h1,h2⟩:=a5f d (i+1) (n-1) (by omega);refine⟨fun g=>h1 (by omega),fun g=>?_⟩;obtain⟨k,g1,g2,g3,g4⟩:=h2 (by omega);refine⟨k+1,by rw [g1];congr 1;omega,by simpa using g2,by simpa using g3,?_⟩;rw [List.take_succ_cons,a2W,if_pos hk];omega
   ·rw [if_neg hk,if_neg hk];obtain⟨h1,h2⟩:=a5f d (i+1) n h;refine⟨fun g=>h1 (by omega),fun g=>?_⟩;obtain⟨k,g1,g2,g3,g4⟩:=h2 (by omega);refine⟨k+1,by rw [g1];congr 1;omega,by simpa using g2,by simpa using g3,?_⟩;rw [List.take_succ_cons,a2W,if_neg hk];omega
def a9t (d:List Pt) (n side:Int):List Pt×Int:=
 if a3g d=false then ([],11) else if a2g d 0 n<0 then ([],1) else
 if (ofS (d.getD (a2g d 0 n).toNat ePt.dflt) side).2≠0 then ([],(ofS (d.getD (a2g d 0 n).toNat ePt.dflt) side).2) else
 if (ofS (d.getD (a2g d 0 n).toNat ePt.dflt) side).1≠[]/\a1c (ofS (d.getD (a2g d 0 n).toNat ePt.dflt) side).1=false/\a2g d 0 n<(d.length:Int)-1 then ([],11)
 else (ofD (d.set (a2g d 0 n).toNat (a1b (ofS (d.getD (a2g d 0 n).toNat ePt.dflt) side).1)),0)
end
section
theorem b9T (a b:List BS):∃ φ:BS->Int,b1a a b=a.map φ/\b1g a b=b.map φ/\∀ x y,(x∈a\/x∈b)->(y∈a\/y∈b)->φ x=φ y->x=y:=by
 obtain⟨φ,e,inj⟩:=a7O a b [];simp only [a2G,List.map_nil,List.cons.injEq] at e;refine⟨φ,?_,?_,fun x y hx hy=>inj x y (hx.elim .inl fun h=>.inr (.inl h)) (hy.elim .inl fun h=>.inr (.inl h))⟩
 ·unfold b1a;simp only [a2G,List.getD_cons_zero];exact e.1
 ·unfold b1g;simp only [a2G,List.getD_cons_zero,List.getD_cons_succ];exact e.2.1
theorem b3o {x y:List BS} {φ ψ:BS->Int} (h:∀ u v,u∈x->v∈y->(φ u=φ v↔ψ u=ψ v)):∀ (n i k:Nat),i+k<=n->i<=x.length->k<=y.length->a3M (x.map φ) (y.map φ) i k=a3M (x.map ψ) (y.map ψ) i k
 | _,0,k,_,_,_=>by rw [b1I,b1I]
 | _,i+1,0,_,_,_=>by rw [a7q,a7q]
 | 0,i+1,k+1,hn,_,_=>by omega
 | n+1,i+1,k+1,hn,hi,hk=>by
   have e1:=b3o h n i k (by omega) (by omega) (by omega);have e2:=b3o h n i (k+1) (by omega) (by omega) hk;have e3:=b3o h n (i+1) k (by omega) hi (by omega);have hx:=a3h φ 0 (show i<x.length by omega);have hy:=a3h φ 0 (show k<y.length by omega);have hx':=a3h ψ 0 (show i<x.length by omega);have hy':=a3h ψ 0 (show k<y.length by omega);have hh:=h _ _ (a4J (show i<x.length by omega)) (a4J (show k<y.length by omega));by_cases c:φ (x.getD i [])=φ (y.getD k [])
   ·rw [a5u (by rw [hx,hy];exact c),a5u (by rw [hx',hy'];exact hh.1 c),e1]
   ·rw [a6o (by rw [hx,hy];exact c),a6o (by rw [hx',hy'];exact fun d=>c (hh.2 d)),e2,e3]
theorem d0A {x y:List BS} {φ ψ:BS->Int} (h:∀ u v,u∈x->v∈y->(φ u=φ v↔ψ u=ψ v)):a4D (x.map φ) (y.map φ)=a4D (x.map ψ) (y.map ψ):=by
 unfold a4D;simp only [List.length_map];exact b3o h _ _ _ (nLR _) (nLR _) (nLR _)
theorem c0F {x y:List BS} {φ ψ:BS->Int} (h:∀ u v,u∈x->v∈y->(φ u=φ v↔ψ u=ψ v)):∀ (l:List (Int×Int)) (u v:Int),-1<=u->-1<=v->rgt (x.map φ) (y.map φ) u v l=true->rgt (x.map ψ) (y.map ψ) u v l=true
 | [],_,_,_,_,_=>rfl
 | p::l,u,v,hu,hv,g=>by
   rw [rgt,Bool.and_eq_true,decide_eq_true_eq] at g ⊢;obtain⟨⟨g1,g2,g3,g4,g5⟩,g6⟩:=g;simp only [List.length_map] at g3 g4;have k1:p.1.toNat<x.length:=by omega
   have k2:p.2.toNat<y.length:=by omega
   rw [a3h φ 0 k1,a3h φ 0 k2] at g5;refine⟨⟨g1,g2,by simpa using g3,by simpa using g4,?_⟩,c0F h l _ _ (by omega) (by omega) g6⟩;rw [a3h ψ 0 k1,a3h ψ 0 k2];exact (h _ _ (a4J k1) (a4J k2)).1 g5
def a60 (x y:List BS):List (Int×Int):=a3N (b1a x y) (b1g x y)
theorem c7F {x y:List BS} {φ:BS->Int} (inj:∀ u v,u∈x->v∈y->φ u=φ v->u=v):rgt (x.map φ) (y.map φ) (-1) (-1) (a60 x y)=true/\(a60 x y).length=a4D (x.map φ) (y.map φ):=by
 obtain⟨ψ,e1,e2,i2⟩:=b9T x y;have h:∀ u v,u∈x->v∈y->(ψ u=ψ v↔φ u=φ v):=fun u v hu hv=>⟨fun e=>by rw [i2 u v (.inl hu) (.inr hv) e],fun e=>by rw [inj u v hu hv e]⟩
 unfold a60;rw [e1,e2];exact⟨c0F h _ _ _ (Int.le_refl _) (Int.le_refl _) (a5a _ _),by rw [(a3n _ _).2,d0A h]⟩
theorem b2F (x y:List BS):(a60 x y).length<=x.length/\(a60 x y).length<=y.length:=by
 unfold a60;rw [(a3n _ _).2];have:=a5U (b1a x y) (b1g x y);rw [a8t,a9y] at this;exact this
theorem b0l (f:Fl):c74 f (a60 f.1 f.2.1) (a60 f.1 f.2.2)/\(a60 f.1 f.2.1).length=a4D ((a2G [] [f.1,f.2.1,f.2.2]).getD 0 []) ((a2G [] [f.1,f.2.1,f.2.2]).getD 1 [])/\(a60 f.1 f.2.2).length=a4D ((a2G [] [f.1,f.2.1,f.2.2]).getD 0 []) ((a2G [] [f.1,f.2.1,f.2.2]).getD 2 []):=by
 obtain⟨φ,e,inj⟩:=a7O f.1 f.2.1 f.2.2;have h1:=c7F (x:=f.1) (y:=f.2.1) (φ:=φ) fun u v hu hv=>inj u v (.inl hu) (.inr (.inl hv))
 have h2:=c7F (x:=f.1) (y:=f.2.2) (φ:=φ) fun u v hu hv=>inj u v (.inl hu) (.inr (.inr hv))
 unfold c74;rw [e];simp only [List.getD_cons_zero,List.getD_cons_succ];exact⟨⟨h1.1,h2.1⟩,h1.2,h2.2⟩
def a5C (f:Fl):List Ck:=d3N f (a60 f.1 f.2.1) (a60 f.1 f.2.2)
theorem b1C (f:Fl):chF (0,0,0) none (a5C f) (c7v f):=d38 (b0l f).1
theorem b6M (f:Fl):∀ c∈a5C f,b0B f c:=c6a (b0l f).1
theorem b4e {l:List BS} {n:Nat} (h:∀ x∈l,a6s x<=n):a4E l<=n:=by
 unfold a4E
 have key:∀ (l:List BS) (m:Nat),m<=n->(∀ x∈l,a6s x<=n)->l.foldl (fun n x=>max n (a6s x)) m<=n:=by
  intro l
  induction l with
  | nil=>exact fun m hm _=>hm
  | cons x l ih=>
    intro m hm hl;rw [List.foldl_cons];exact ih _ (Nat.max_le.2 ⟨hm,hl x (List.mem_cons_self ..)⟩) fun y hy=>hl y (List.mem_cons_of_mem _ hy)
 exact key l 0 (nZL _) h
theorem b35 {l:List BS} {n:Nat} (h:∀ s∈l,a4E (a0a s)<=n):a6a l<=n:=by
 unfold a6a
 have key:∀ (l:List BS) (m:Nat),m<=n->(∀ x∈l,a4E (a0a x)<=n)->l.foldl (fun n s=>max n (a4E (a0a s))) m<=n:=by
  intro l
  induction l with
  | nil=>exact fun m hm _=>hm
  | cons x l ih=>
    intro m hm hl;rw [List.foldl_cons];exact ih _ (Nat.max_le.2 ⟨hm,hl x (List.mem_cons_self ..)⟩) fun y hy=>hl y (List.mem_cons_of_mem _ hy)
 exact key l 0 (nZL _) h
theorem c2O {l:List BS} {s:BS} (h:s∈l):a4E (a0a s)<=a6a l:=by
 unfold a6a
 have key:∀ (l:List BS) (m:Nat),m<=l.foldl (fun n s=>max n (a4E (a0a s))) m/\∀ s∈l,a4E (a0a s)<=l.foldl (fun n s=>max n (a4E (a0a s))) m:=by
  intro l
  induction l with
  | nil=>exact fun m=>⟨nLR _,fun s hs=>by simp at hs⟩
  | cons x l ih=>
    intro m;rw [List.foldl_cons];obtain⟨h1,h2⟩:=ih (max m (a4E (a0a x)));refine⟨by omega,fun s hs=>?_⟩;rcases List.mem_cons.1 hs with rfl|hs
    ·omega
    ·exact h2 s hs
 exact (key l 0).2 s h
def c6p (m:Nat) (s:BS):Prop:=∀ x∈a0a s,a6s x<m
def ftP (m:Nat) (p:Pt):Prop:=∀ s∈b39 p,c6p m s
theorem a7K (m:Nat):c6p m []:=fun x hx=>by simp [a0a] at hx
theorem b2L {m:Nat} {t:BS} (h:c6p m t):ftP m (a1b t):=by
 intro s hs;simp only [b39,a1b,List.mem_cons,List.not_mem_nil,or_false] at hs;rcases hs with rfl|rfl|rfl|rfl
 ·exact h
 ·exact a7K m
 ·exact a7K m
 ·exact a7K m
theorem d3x {m:Nat} {p:Pt} (h:ftP m p):c6p m (txP p):=h _ (by simp [b39,txP])
theorem c6D {m:Nat} {a b:BS} (ha:c6p m a) (hb:c6p m b) (he:a=[]\/a1c a=true):c6p m (a++b):=by
 intro x hx;rw [b9e b he] at hx;rcases List.mem_append.1 hx with hx|hx
 ·exact ha x hx
 ·exact hb x hx
theorem c94 {m:List Pt} {q:Pt} (h:SrP (m++[q])) (hq:a0D q=true):a1c (txP q)=true:=by
 have:=h m.length (by simp);unfold okS at this;rw [b10] at this;simp only [Bool.and_eq_true,Bool.or_eq_true] at this;rcases this.2 with h1|h1
 ·rw [a98 h1] at hq;cases hq
 ·unfold a41 at h1;simp only [Bool.and_eq_true,Bool.or_eq_true] at h1;simpa using h1.2.2
theorem c3t {m:Nat} {out:List Pt} {p:Pt} (h:∀ q∈out,ftP m q) (hs:SrP out) (hp:ftP m p):∀ q∈a3j out p,ftP m q:=by
 cases ht:a0D p with
 | false=>
   rw [a8J ht];intro q hq;rcases List.mem_append.1 hq with hq|hq
   ·exact h q hq
   ·simp only [List.mem_singleton] at hq;subst hq;exact hp
 | true=>
   rcases a5h out p ht with⟨_,e⟩|⟨h0,⟨n,q,rfl,hq,e⟩|⟨hl,e⟩⟩
   ·rw [e];exact h
   ·rw [e];intro r hr;rcases List.mem_append.1 hr with hr|hr
    ·exact h r (List.mem_append_left _ hr)
    ·simp only [List.mem_singleton] at hr;subst hr;exact b2L (c6D (d3x (h q (by simp))) (d3x hp) (.inr (c94 hs hq)))
   ·rw [e];intro q hq;rcases List.mem_append.1 hq with hq|hq
    ·exact h q hq
    ·simp only [List.mem_singleton] at hq;subst hq;exact hp
theorem c11 {m:Nat}:∀ (l out:List Pt),SrP out->(∀ q∈out,ftP m q)->(∀ p∈l,a4s p=true\/(a0D p=true/\(txP p=[]\/a1c (txP p)=true)))->(∀ p∈l,ftP m p)->∀ q∈l.foldl a3j out,ftP m q
 | [],_,_,h,_,_=>h
 | p::l,out,hs,h,hl,hf=>c11 l _ (b5R hs (hl p (List.mem_cons_self ..))) (c3t h hs (hf p (List.mem_cons_self ..))) (fun q hq=>hl q (List.mem_cons_of_mem p hq)) fun q hq=>hf q (List.mem_cons_of_mem p hq)
theorem d6N {m:Nat} {l:List Pt} (h2:∀ p∈l.dropLast,a4s p=true\/(a0D p=true/\(txP p=[]\/a1c (txP p)=true))) (hf:∀ p∈l,ftP m p):∀ q∈ofD l,ftP m q:=by
 rw [b32];rcases l.eq_nil_or_concat with rfl|⟨n,p,rfl⟩
 ·intro q hq;simp at hq
 ·rw [List.concat_eq_append] at *
  rw [List.dropLast_concat] at h2;rw [List.foldl_append];exact c3t (c11 n [] (fun i hi=>by simp at hi) (fun q hq=>by simp at hq) h2 fun q hq=>hf q (by simp [hq])) (b5G n [] (fun i hi=>by simp at hi) h2) (hf p (by simp))
theorem c9e {m:Nat} (hm:0<m) {d:List Pt} (h:∀ p∈d,ftP m p):a8n d m=true:=by
 unfold a8n;rw [Bool.and_eq_true,decide_eq_true_eq,decide_eq_true_eq];refine⟨by omega,fun p hp=>?_⟩
 have:=b35 (l:=b39 p) (n:=m-1) fun s hs=>b4e fun x hx=>by
  have:=h p hp s hs x hx;omega
 omega
theorem a6g {l:List BS} (h:a1e l=true) (i j:Nat) (hj:j<=l.length):a1e (a1G l i j)=true:=by
 rw [a3q] at h ⊢;intro k hk;rw [a4w l hj] at hk ⊢;rw [a6i hk hj];obtain⟨h1,h2⟩:=h (i+k) (by omega);exact⟨h1,fun h3=>h2 (by omega)⟩
theorem b9z {l:List BS} (h:a1e l=true) {n:Nat} (hn:n<=l.length):a1e (l.take n)=true:=by
 have:=a6g h 0 n hn;simpa [a1G] using this
theorem b8A {l:List BS} (h:a1e l=true) (n:Nat):a1e (l.drop n)=true:=by
 have:=a6g h n l.length (nLR _);simpa [a1G] using this
theorem a8B {l:List BS} (h:a1e l=true) (s:Sp):a1e (a64 s l)=true:=by
 unfold a64;split
 ·rfl
 ·rename_i hc;exact a6g h _ _ (by omega)
theorem b2X {l:List BS} {s:Sp} {x:BS} (h:x∈a64 s l):x∈l:=by
 unfold a64 at h;split at h
 ·simp at h
 ·exact List.mem_of_mem_take (List.mem_of_mem_drop h)
theorem a2V {m:Nat} {l:List BS} (hw:a1e l=true) (h:∀ x∈l,a6s x<m):c6p m l.flatten:=by
 unfold c6p;rw [a9j l hw];exact h
def shF (m:Nat) (f:Fl):Prop:=(∀ x∈f.1,a6s x<m)/\(∀ x∈f.2.1,a6s x<m)/\∀ x∈f.2.2,a6s x<m
theorem c8L {m:Nat} {f:Fl} (hw:b0s f) (hs:shF m f) (st:Int) (lb:BS×BS×BS) (v:Int) (c:Ck):∀ p∈a3K f st lb v c,ftP m p:=by
 have wB:a1e (a9X f c)=true:=a8B hw.1 _;have wO:a1e (a3c f c)=true:=a8B hw.2.1 _;have wT:a1e (a3R f c)=true:=a8B hw.2.2 _;have sB:∀ x∈a9X f c,a6s x<m:=fun x hx=>hs.1 x (b2X hx)
 have sO:∀ x∈a3c f c,a6s x<m:=fun x hx=>hs.2.1 x (b2X hx)
 have sT:∀ x∈a3R f c,a6s x<m:=fun x hx=>hs.2.2 x (b2X hx)
 unfold a3K;split
 ·have hh:=a9I st (a3c f c) (a3R f c);intro p hp;simp only [a8b,List.mem_cons,List.not_mem_nil,or_false] at hp;rcases hp with rfl|rfl|rfl
  ·exact b2L (a2V (b9z wO (by omega)) fun x hx=>sO x (List.mem_of_mem_take hx))
  ·intro s hs;simp only [b39,b2G,List.mem_cons,List.not_mem_nil,or_false] at hs;rcases hs with rfl|rfl|rfl|rfl
   ·exact a7K m
   ·exact a2V (a6g wO _ _ (by omega)) fun x hx=>sO x (List.mem_of_mem_take (List.mem_of_mem_drop hx))
   ·split
    ·exact a7K m
    ·exact a2V wB sB
   ·exact a2V (a6g wT _ _ (by omega)) fun x hx=>sT x (List.mem_of_mem_take (List.mem_of_mem_drop hx))
  ·exact b2L (a2V (b8A wO _) fun x hx=>sO x (List.mem_of_mem_drop hx))
 ·intro p hp;simp only [List.mem_singleton] at hp;subst hp;refine b2L ?_;unfold a5Q;split
  ·exact a2V wB sB
  ·split
   ·exact a2V wT sT
   ·split
    ·exact a2V wT sT
    ·exact a2V wO sO
theorem c3W {m:Nat} (hm:0<m) {f:Fl} (hw:b0s f) (hs:shF m f) {L:List Ck} (hc:chF (0,0,0) none L (c7v f)) (hg:∀ c∈L,b0B f c) {st:Int} {lb:BS×BS×BS} {v:Int} (hp:a2a lb=true):a8n (ofD (L.flatMap (a3K f st lb v))) m=true:=by
 refine c9e hm (d6N (fun p h=>?_) fun p h=>?_)
 ·have hends:=b5O hw L (0,0,0) none hc (a6U _) hg;have hin:=c4J hc;rcases L.eq_nil_or_concat with rfl|⟨n,c,rfl⟩
  ·simp at h
  ·rw [List.concat_eq_append] at h hends hin;rw [List.flatMap_append,a9a _ _ (by simpa using c2w f st lb v c)] at h;rcases List.mem_append.1 h with h|h
   ·obtain⟨d,hd,hd2⟩:=List.mem_flatMap.1 h;exact b6r hp (hends d (by simpa using hd)) p hd2
   ·have h:p∈(a3K f st lb v c).dropLast:=by simpa using h
    exact b4s hw hp (hin c (by simp)) p h
 ·obtain⟨c,_,hc2⟩:=List.mem_flatMap.1 h;exact c8L hw hs st lb v c p hc2
theorem c6K {f:Fl} {L:List Ck} (h:b2g f L=0):∀ c∈L,a65 f c≠4:=fun c hc e=>by
 unfold b2g at h;rw [List.length_eq_zero_iff,List.filter_eq_nil_iff] at h;exact h c hc (decide_eq_true e)
theorem c8q {f:Fl} {L:List Ck} (h:∀ c∈L,a65 f c≠4) (st:Int) (lb:BS×BS×BS) (v:Int):L.flatMap (a3K f st lb v)=L.flatMap (a3K f st lb 1):=by
 rw [List.flatMap_def,List.flatMap_def]
 congr 1
 refine List.map_congr_left fun c hc=>?_
 unfold a3K;rw [if_neg (fun e=>h c hc e.1),if_neg (fun e=>h c hc e.1)];unfold a5Q;have a1:¬(a65 f c=4/\v=3):=fun e=>h c hc e.1
 have a2:¬(a65 f c=4/\(1:Int)=3):=fun e=>h c hc e.1
 rw [if_neg a1,if_neg a2]
theorem b8l (w:Int) (t:BS):a1x w (if t=[] then [] else [a1b t])=t:=by
 split
 ·rename_i h;rw [h];rfl
 ·simp [a1x,a4S,a1b,hkP]
theorem c3p {f:Fl} {L:List Ck} (h:∀ c∈L,a65 f c≠4) (st:Int) (lb:BS×BS×BS) (v:Int):ofD (L.flatMap (a3K f st lb v))=if d1y f L 1=[] then [] else [a1b (d1y f L 1)]:=by
 rw [c8q h,c8f f st lb (by decide)]
theorem c4M (x:List BS):a60 x x=prs 0 0 x.length:=by
 unfold a60;obtain⟨φ,e1,e2,_⟩:=b9T x x;rw [e1,e2,b8F,List.length_map]
theorem d2G (f:Fl):((a5C f).map (a3c f)).flatten=f.2.1:=b3q d83 (b1C f) rfl
theorem d3c (f:Fl):((a5C f).map (a3R f)).flatten=f.2.2:=b3q d8y (b1C f) rfl
theorem d1Q (f:Fl):((a5C f).map (a9X f)).flatten=f.1:=b3q d9c (b1C f) rfl
theorem d6t {O:List BS} {u j:Nat} (h:u<=j):(O.take u).flatten.length+(a1G O u j).flatten.length+(O.drop j).flatten.length=O.flatten.length:=by
 have e:O.take u++a1G O u j++O.drop j=O:=by
  have h1:O.take u=a1G O 0 u:=by simp [a1G]
  have h2:a1G O 0 j=O.take j:=by simp [a1G]
  rw [h1,b4M O (nZL _) h,h2,List.take_append_drop]
 have:=congrArg (fun l:List BS=>l.flatten.length) e;simp only [List.flatten_append,lAp] at this;exact this
theorem c8M {f:Fl} (st:Int) (lb:BS×BS×BS) (v:Int) (c:Ck):a3Z (a3K f st lb v c)<=(a9X f c).flatten.length+(a3c f c).flatten.length+(a3R f c).flatten.length:=by
 unfold a3K;split
 ·have hh:=a9I st (a3c f c) (a3R f c)
  have e:a3Z (a8b f c st lb)=((a3c f c).take (a2h st (a3c f c) (a3R f c)).1).flatten.length+((a3c f c).drop ((a3c f c).length-(a2h st (a3c f c) (a3R f c)).2)).flatten.length:=by
   unfold a3Z a8b;simp [a1b,txP,b2G]
  have e2:=d6t (O:=a3c f c) (u:=(a2h st (a3c f c) (a3R f c)).1) (j:=(a3c f c).length-(a2h st (a3c f c) (a3R f c)).2) (by omega);rw [e];omega
 ·rw [a25];show (a5Q f c (a65 f c) v).flatten.length<=_;unfold a5Q;split
  ·omega
  ·split
   ·omega
   ·split<;>omega
theorem c4A (f:Fl) (st:Int) (lb:BS×BS×BS) (v:Int):a3Z ((a5C f).flatMap (a3K f st lb v))<=f.1.flatten.length+f.2.1.flatten.length+f.2.2.flatten.length:=by
 have key:∀ L:List Ck,a3Z (L.flatMap (a3K f st lb v))<=(L.map (a9X f)).flatten.flatten.length+(L.map (a3c f)).flatten.flatten.length+(L.map (a3R f)).flatten.flatten.length:=by
  intro L
  induction L with
  | nil=>simp [a3Z]
  | cons c L ih=>
    have:=c8M (f:=f) st lb v c;simp only [List.flatMap_cons,a2Z,List.map_cons,List.flatten_cons,List.flatten_append,lAp];omega
 have:=key (a5C f);rw [d1Q,d2G,d3c] at this;exact this
end
set_option maxHeartbeats 2000000
section
open Go
attribute [local irreducible] AW a0k a1k a0c
abbrev eFl:El Fl:=eP (eL eS) (eP (eL eS) (eL eS))
def c7W (f:Fl):Prop:=(f.1.length<=10000000/\f.1.flatten.length<=10000000)/\(f.2.1.length<=10000000/\f.2.1.flatten.length<=10000000)/\f.2.2.length<=10000000/\f.2.2.flatten.length<=10000000
def a4L:a0r:=a0r.f1 kI (fun _=>True) (fun n=>kB.enc (a74 n))
theorem c9l:a0b Tryz.prog 157 a4L:=by
 refine a0b.f1 Tryz.func157 rfl (by decide) Tryz.results157 Tryz.ntmps157 (by decide) fun n _=>?_
 have hΓ:GOK Tryz.prog (gam []):=GOK.nil;refine awZ hΓ rfl ?_;simp only [go_sem];refine⟨fun h=>by rw [decide_eq_false h];rfl,fun h=>by rw [h];rfl,?_⟩;unfold a74;rw [Bool.or_assoc]
def a4R:a0r:=a0r.f1 kI (fun _=>True) (fun n=>kB.enc (a8l n))
theorem d0m:a0b Tryz.prog 158 a4R:=by
 refine a0b.f1 Tryz.func158 rfl (by decide) Tryz.results158 Tryz.ntmps158 (by decide) fun n _=>?_
 have hΓ:GOK Tryz.prog (gam []):=GOK.nil;refine awZ hΓ rfl ?_;simp only [go_sem];refine⟨fun h=>by rw [decide_eq_false h];rfl,fun h=>by rw [h];rfl,?_⟩;unfold a8l;rw [Bool.or_assoc]
def a2q:a0r:=a0r.f1 (kL eS) b8h (fun l=>(kA ePt).enc (a1b l.flatten))
theorem b9X:a0b Tryz.prog 161 a2q:=by
 refine a0b.f1 Tryz.func161 rfl (by decide) Tryz.results161 Tryz.ntmps161 (by decide) fun l hl=>?_
 have hΓ:GOK Tryz.prog (gam [(53,a4Y)]):=(.cons c1C .nil);refine awZ hΓ rfl ?_;simp only [go_sem,a4Y];exact⟨hl,d4g rfl rfl rfl rfl rfl rfl rfl rfl rfl⟩
def a4F:a0r:=a0r.f4 (kA eFl) (kA eCk) kI kI (fun f _ _ _=>c7W f) (fun f c k v=>sL eS (a5Q f c k v))
theorem c8H:a0b Tryz.prog 162 a4F:=by
 refine a0b.f4 Tryz.func162 rfl (by decide) Tryz.results162 Tryz.ntmps162 (by decide) fun f c k v ⟨hf1,hf2,hf3⟩=>?_
 have hΓ:GOK Tryz.prog (gam [(199,a6b)]):=(.cons c2A .nil);obtain⟨fb,fl,fr⟩:=f;obtain⟨cs,⟨cb1,cb2⟩,⟨cl1,cl2⟩,cr1,cr2⟩:=c;dsimp only at hf1 hf2 hf3;unfold a5Q a9X a3R a3c;refine awN hΓ rfl ?_;simp only [go_sem,a6b];refine⟨fun h=>⟨by omega,by rw [if_pos h];exact avR⟩,fun h=>⟨fun h2=>⟨by omega,by rw [if_neg h,if_pos h2];exact avR⟩,fun h2=>⟨fun h3=>⟨fun h4=>⟨by omega,by rw [if_neg h,if_neg h2,if_pos ⟨h3,h4⟩];exact avR⟩,fun h4=>⟨by omega,by rw [if_neg h,if_neg h2,if_neg fun e=>h4 e.2];exact avR⟩⟩,fun h3=>⟨by omega,by rw [if_neg h,if_neg h2,if_neg fun e=>h3 e.1];exact avR⟩⟩⟩⟩
def a3r:a0r:=a0r.f2 (kL eS) (kL eS) (fun a b=>a.length<1000000000/\b.length<1000000000) (fun a b=>tu2 (kI.enc (ahd a b)) (kI.enc (bhd (a.drop (ahd a b)) (b.drop (ahd a b)))))
theorem c5Q:a0b Tryz.prog 201 a3r:=by
 refine a0b.f2 Tryz.func201 rfl (by decide) Tryz.results201 Tryz.ntmps201 (by decide) fun a b ⟨ha,hb⟩=>?_
 have hΓ:GOK Tryz.prog (gam [(231,c0z)]):=(.cons d0j .nil);refine awZ hΓ rfl ?_;simp only [go_sem,c0z];exact⟨ha,hb⟩
theorem a9w {a b:List BS} (h:a.Sublist b):a.flatten.length<=b.flatten.length:=by
 induction h with
 | slnil=>exact nLR _
 | cons x _ ih=>rw [List.flatten_cons,lAp];omega
 | cons_cons x _ ih=>rw [List.flatten_cons,List.flatten_cons,lAp,lAp];omega
theorem a3z {a b:List BS} (h:a.Sublist b) (h1:b.length<=10000000) (h2:b.flatten.length<=10000000):b8h a:=by
 have:=h.length_le;have:=a9w h;exact⟨by omega,by omega⟩
theorem a4O (s:Sp) (l:List BS):(a64 s l).Sublist l:=by
 unfold a64;split
 ·exact List.nil_sublist _
 ·exact (List.drop_sublist _ _).trans (List.take_sublist _ _)
theorem b6x {ver ety:Nat} {ll bl rl:BS} {h:Bool} {t l b r:BS} {hb:Bool} {c:Nat->AV} (h0:c 0=.st ll) (h1:c 1=.st bl) (h2:c 2=.st rl) (h3:c 3=.val (.bool h)) (h4:c 4=.st t) (h5:c 5=.st l) (h6:c 6=.st b) (h7:c 7=.st r) (h8:c 8=.val (.bool hb)) :
  a0c (.box ver ety 9 c) (.box ver ety 9 (ePt.enc (ll,bl,rl,h,t,l,b,r,hb))):=
 a0c.box fun j hj=>a0k.of_eq (match j,hj with
  | 0,_=>h0
  | 1,_=>h1
  | 2,_=>h2
  | 3,_=>h3
  | 4,_=>h4
  | 5,_=>h5
  | 6,_=>h6
  | 7,_=>h7
  | 8,_=>h8)
theorem c6b {l:List (Nat->AV)} {L:List Pt} {n:Nat} (hn:n=L.length) (h:∀ i,i<n->∀ j,j<9->a0k (l.getD i (fun _=>.any) j) (ePt.enc (L.getD i ePt.dflt) j)):a0k (.sn n 9 fun i=>l.getD i fun _=>.any) (sL ePt L):=by
 subst hn;exact a0k.sn h
def a3t:a0r:=a0r.f4 (kA eFl) (kA eCk) kI (kA eLb) (fun f _ _ _=>c7W f) (fun f c st lb=>sL ePt (a8b f c st lb))
theorem c5G:a0b Tryz.prog 160 a3t:=by
 refine a0b.f4 Tryz.func160 rfl (by decide) Tryz.results160 Tryz.ntmps160 (by decide) fun f c st lb ⟨hf1,hf2,hf3⟩=>?_
 have hΓ:GOK Tryz.prog (gam [(199,a6b),(201,a3r),(53,a4Y),(161,a2q)]):=(.cons c2A (.cons c5Q (.cons c1C (.cons b9X .nil))));obtain⟨fb,fl,fr⟩:=f;obtain⟨cs,⟨cb1,cb2⟩,⟨cl1,cl2⟩,cr1,cr2⟩:=c;obtain⟨lb1,lb2,lb3⟩:=lb;dsimp only at hf1 hf2 hf3;refine awL hΓ [0] rfl ?_;simp only [go_sem,a6b,a3r,a4Y,a2q];refine AW.still 4 0 0 150 3 _ rfl rfl (fun j hj=>match j,hj with|0,_=>rfl|1,_=>rfl|2,_=>rfl) ?_;refine AW.still 5 1 1 216 7 _ rfl rfl (fun j hj=>match j,hj with|0,_=>rfl|1,_=>rfl|2,_=>rfl|3,_=>rfl|4,_=>rfl|5,_=>rfl|6,_=>rfl) ?_;refine AW.still 7 2 2 73 3 _ rfl rfl (fun j hj=>match j,hj with|0,_=>rfl|1,_=>rfl|2,_=>rfl) ?_;have g1:=a4O (cb1,cb2) fb;have g2:=a4O (cl1,cl2) fl;have g3:=a4O (cr1,cr2) fr;unfold a8b b2G a3c a3R a9X;refine awL hΓ [2] rfl ?_;simp only [go_sem,a6b,a3r,a4Y,a2q];refine⟨by omega,by omega,?_⟩;generalize a64 (cl1,cl2) fl=O at *
 generalize a64 (cr1,cr2) fr=T at *
 have hO:=a3z g2 hf2.1 hf2.2;have hT:=a3z g3 hf3.1 hf3.2;have hB:=a3z g1 hf1.1 hf1.2;have hh:=a9I st O T;have i1:=g2.length_le;have i2:=g3.length_le;refine AW.cut ⟨[(2,.val (.int .i64 st)),(4,.ps 3 (eFl.enc (fb,fl,fr))),(5,.ps 7 (eCk.enc (cs,(cb1,cb2),(cl1,cl2),cr1,cr2))),(7,.ps 3 (eLb.enc (lb1,lb2,lb3))),(9,sL eS O),(10,sL eS T),(11,.val (.int .i64 0)),(12,.val (.int .i64 0))],[],74,3,3,[]⟩ ?_ ?_
 ·simp only [go_sem,a6b,a3r,a4Y,a2q]
 refine AW.seqTo (fun _:Unit=>Sh.st ⟨[(2,.val (.int .i64 st)),(4,.ps 3 (eFl.enc (fb,fl,fr))),(5,.ps 7 (eCk.enc (cs,(cb1,cb2),(cl1,cl2),cr1,cr2))),(7,.ps 3 (eLb.enc (lb1,lb2,lb3))),(9,sL eS O),(10,sL eS T),(11,.val (.int .i64 (a2h st O T).1)),(12,.val (.int .i64 (a2h st O T).2))],[],74,3,3,[]⟩) ?_ fun _=>?_
 ·refine awN hΓ rfl ?_;simp only [go_sem,a6b,a3r,a4Y,a2q];refine⟨fun h2=>⟨⟨by omega,by omega⟩,(),a17 ?_⟩,fun h2=>⟨(),a17 ?_⟩⟩
  ·unfold a2h;rw [if_pos h2];simp only [go_sem,a6b,a3r,a4Y,a2q]
  ·unfold a2h;rw [if_neg h2];simp only [go_sem,a6b,a3r,a4Y,a2q]
 generalize a2h st O T=h at *
 obtain⟨u,v⟩:=h;dsimp only at hh ⊢
 have eO:(List.range (((O.length:Int)-(v:Int)).toNat-u)).map (fun i=>O.getD (u+i) [])=a1G O u (O.length-v):=by
  rw [b5I (by omega),show ((O.length:Int)-(v:Int)).toNat-u=O.length-v-u by omega]
 have eT:(List.range (((T.length:Int)-(v:Int)).toNat-u)).map (fun i=>T.getD (u+i) [])=a1G T u (T.length-v):=by
  rw [b5I (by omega),show ((T.length:Int)-(v:Int)).toNat-u=T.length-v-u by omega]
 have sO:(a1G O u (O.length-v)).Sublist O:=(List.drop_sublist _ _).trans (List.take_sublist _ _);have sT:(a1G T u (T.length-v)).Sublist T:=(List.drop_sublist _ _).trans (List.take_sublist _ _);have kO:b8h (a1G O u (O.length-v)):=a3z (sO.trans g2) hf2.1 hf2.2;have kT:b8h (a1G T u (T.length-v)):=a3z (sT.trans g3) hf3.1 hf3.2;have kA1:b8h (O.take u):=a3z ((List.take_sublist _ _).trans g2) hf2.1 hf2.2;have kA2:b8h (O.drop (O.length-v)):=a3z ((List.drop_sublist _ _).trans g2) hf2.1 hf2.2;refine awL hΓ [6] rfl ?_;simp only [go_sem,a6b,a3r,a4Y,a2q,eO,eT];refine⟨⟨by omega,by omega⟩,⟨by omega,by omega,by omega⟩,kO,⟨by omega,by omega⟩,⟨by omega,by omega,by omega⟩,kT,?_⟩;generalize (a1G O u (O.length-v)).flatten=X at *
 generalize (a1G T u (T.length-v)).flatten=Y at *
 refine AW.cut ⟨[(2,.val (.int .i64 st)),(4,.ps 3 (eFl.enc (fb,fl,fr))),(5,.ps 7 (eCk.enc (cs,(cb1,cb2),(cl1,cl2),cr1,cr2))),(9,sL eS O),(11,.val (.int .i64 u)),(12,.val (.int .i64 v)),(13,.val (.int .i64 ((O.length:Int)-v))),(14,.pt 3 3 0)],
  [(3,.box 3 179 9 (ePt.enc (lb1,lb2,lb3,true,[],X,[],Y,false)))],74,4,4,[]⟩ ?_ ?_
 ·simp only [go_sem,a6b,a3r,a4Y,a2q];exact b6x rfl rfl rfl rfl rfl rfl rfl rfl rfl
 refine AW.seqTo (fun _:Unit=>Sh.st ⟨[(9,sL eS O),(11,.val (.int .i64 u)),(12,.val (.int .i64 v)),(13,.val (.int .i64 ((O.length:Int)-v))),(14,.pt 3 3 0)],
  [(3,.box 3 179 9 (ePt.enc (lb1,(if st=0 then [] else lb2),lb3,true,[],X,(if st=0 then [] else (a64 (cb1,cb2) fb).flatten),Y,decide (st≠0))))],74,4,4,[]⟩) ?_ fun _=>?_
 ·refine awN hΓ rfl ?_;simp only [go_sem,a6b,a3r,a4Y,a2q];refine⟨fun h0=>⟨(),a17 ?_⟩,fun h0=>⟨by omega,hB,(),a17 ?_⟩⟩
  ·subst h0;simp only [go_sem,a6b,a3r,a4Y,a2q];exact b6x rfl rfl rfl rfl rfl rfl rfl rfl rfl
  ·rw [if_neg h0,if_neg h0,decide_eq_true h0];simp only [go_sem,a6b,a3r,a4Y,a2q];exact b6x rfl rfl rfl rfl rfl rfl rfl rfl rfl
 have eA1:(List.range (u-0)).map (fun i=>O.getD i [])=O.take u:=by
  refine a1E [] (by simp;omega) fun k hk=>?_
  have hk:k<u:=by simpa using hk
  simp [List.getD,List.getElem?_take,hk]
 have eA2:(List.range (O.length-((O.length:Int)-(v:Int)).toNat)).map (fun i=>O.getD (((O.length:Int)-(v:Int)).toNat+i) [])=O.drop (O.length-v):=by
  have e:((O.length:Int)-(v:Int)).toNat=O.length-v:=by omega
  rw [e];refine a1E [] (by simp) fun k hk=>?_
  have hk:k<O.length-(O.length-v):=by simpa using hk
  simp [List.getD,hk];rw [List.getElem?_eq_getElem (by omega)];rfl
 refine awZ hΓ rfl ?_;simp only [go_sem,a6b,a3r,a4Y,a2q,eA1,eA2];refine⟨⟨by omega,by omega⟩,kA1,⟨by omega,by omega,by omega⟩,kA2,?_⟩
 exact c6b rfl fun i hi j hj=>match i,hi with
  | 0,_=>avR
  | 1,_=>avR
  | 2,_=>avR
end
section
open Go
attribute [local irreducible] AW a0k a1k a0c
theorem c2r (t:BS):a3Z [a1b t]=t.length:=by rw [a25];rfl
theorem b57 (s:Sp) {l:List BS} (h:l.flatten.length<=10000000):(a64 s l).flatten.length<=10000000:=Nat.le_trans (a9w (a4O s l)) h
theorem b2V (f:Fl) (st:Int) (lb:BS×BS×BS) (v:Int) (c:Ck):(a3K f st lb v c).length<=3:=by
 unfold a3K;split
 ·exact nLR 3
 ·exact Nat.le_of_ble_eq_true rfl
theorem c5a {f:Fl} (hf:c7W f) (st:Int) (lb:BS×BS×BS) (v:Int) (c:Ck):a3Z (a3K f st lb v c)<=20000000:=by
 obtain⟨h1,h2,h3⟩:=hf;have c1:(a9X f c).flatten.length<=10000000:=b57 _ h1.2;have c2:(a3c f c).flatten.length<=10000000:=b57 _ h2.2;have c3:(a3R f c).flatten.length<=10000000:=b57 _ h3.2;unfold a3K;split
 ·unfold a8b
  have e1:∀ a b d:Pt,a3Z [a,b,d]=(txP a).length+(txP b).length+(txP d).length:=fun a b d=>by
   rw [show [a,b,d]=[a]++([b]++[d]) from rfl,a2Z,a2Z,a25,a25,a25];omega
  rw [e1];have s1:=a9w (List.take_sublist (a2h st (a3c f c) (a3R f c)).1 (a3c f c));have s2:=a9w (List.drop_sublist ((a3c f c).length-(a2h st (a3c f c) (a3R f c)).2) (a3c f c));have z:(txP (b2G f c st lb)).length=0:=rfl;have z1:∀ t:BS,(txP (a1b t)).length=t.length:=fun _=>rfl
  rw [z,z1,z1];omega
 ·rw [c2r];unfold a5Q;split
  ·omega
  ·split
   ·omega
   ·split<;>omega
theorem b2a {f:Fl} (hf:c7W f) (st:Int) (lb:BS×BS×BS) (v:Int):∀ L:List Ck,a3Z (L.flatMap (a3K f st lb v))<=20000000*L.length/\(L.flatMap (a3K f st lb v)).length<=3*L.length
 | []=>by simp [a3Z]
 | c::L=>by
   obtain⟨h1,h2⟩:=b2a hf st lb v L;have h3:=c5a hf st lb v c;have h4:=b2V f st lb v c;rw [List.flatMap_cons,a2Z,lAp,lCo];omega
def d5A (lb:BS×BS×BS):Prop:=lb.1.length<=100000000/\lb.2.1.length<=100000000/\lb.2.2.length<=100000000
def a8K:a0r:=a0r.f5 (kA eFl) (kL eCk) kI (kA eLb) kI (fun f L st lb v=>(c7W f/\L.length<=10000/\a3Z (L.flatMap (a3K f st lb v))<=1000000000)/\d5A lb) (fun f L st lb v=>tu2 (sL ePt (b9b f L st lb v).1) (kI.enc (b9b f L st lb v).2))
theorem c72:a0b Tryz.prog 100 a8K:=by
 refine a0b.f5 Tryz.func100 rfl (by decide) Tryz.results100 Tryz.ntmps100 (by decide) fun f L st lb v ⟨⟨hf,hL,hsum⟩,hlb1,hlb2,hlb3⟩=>?_
 have hΓ:GOK Tryz.prog (gam [(157,a4L),(158,a4R),(150,a2r),(159,a19),(160,a3t),(162,a4F),(161,a2q),(134,a40)]):=(.cons c9l (.cons d0m (.cons b3x (.cons b8a (.cons c5G (.cons c8H (.cons b9X (.cons c8O .nil))))))));have hff:=hf;obtain⟨fb,fl,fr⟩:=f;obtain⟨lb1,lb2,lb3⟩:=lb;obtain⟨hf1,hf2,hf3⟩:=hff;dsimp only at hf1 hf2 hf3 hlb1 hlb2 hlb3;have fs:=fun j=>b2a hf st (lb1,lb2,lb3) v (L.take j)
 have d5:(a74 st&&a8l v)=false->b9b (fb,fl,fr) L st (lb1,lb2,lb3) v=([],5):=fun h=>by unfold b9b;rw [if_pos h]
 have d3:(a74 st&&a8l v)=true->a2a (lb1,lb2,lb3)=false->b9b (fb,fl,fr) L st (lb1,lb2,lb3) v=([],3):=fun h h2=>by unfold b9b;rw [if_neg (by rw [h];simp),if_pos h2]
 have d0:(a74 st&&a8l v)=true->a2a (lb1,lb2,lb3)=true->b9b (fb,fl,fr) L st (lb1,lb2,lb3) v=(ofD (L.flatMap (a3K (fb,fl,fr) st (lb1,lb2,lb3) v)),0):=fun h h2=>by unfold b9b;rw [if_neg (by rw [h];simp),if_neg (by rw [h2];simp)]
 refine awL hΓ [0] rfl ?_;simp only [go_sem];refine AW.still 5 0 0 150 3 _ rfl rfl (fun j hj=>match j,hj with|0,_=>rfl|1,_=>rfl|2,_=>rfl) ?_;refine AW.still 8 1 1 73 3 _ rfl rfl (fun j hj=>match j,hj with|0,_=>rfl|1,_=>rfl|2,_=>rfl) ?_;cases h1:a74 st with
 | false=>
   rw [d5 (by rw [h1];rfl)];refine awZ hΓ rfl ?_;simp only [go_sem,a4L,a4R,a2r,a19,a3t,a4F,a2q,a40,h1];exact a30 _
 | true=>
   cases h2:a8l v with
   | false=>
     rw [d5 (by rw [h1,h2];rfl)];refine awZ hΓ rfl ?_;simp only [go_sem,a4L,a4R,a2r,a19,a3t,a4F,a2q,a40,h1,h2];exact a30 _
   | true=>
     cases hp:a2a (lb1,lb2,lb3) with
     | false=>
       rw [d3 (by rw [h1,h2];rfl) hp];unfold a2a at hp;dsimp only at hp;refine awZ hΓ rfl ?_;simp only [go_sem,a4L,a4R,a2r,a19,a3t,a4F,a2q,a40,h1,h2,hp];exact⟨⟨by omega,by omega,by omega⟩,a30 _⟩
     | true=>
       rw [d0 (by rw [h1,h2];rfl) hp];unfold a2a at hp;dsimp only at hp;refine awL hΓ [5] rfl ?_;simp only [go_sem,a4L,a4R,a2r,a19,a3t,a4F,a2q,a40,h1,h2,hp];refine⟨⟨by omega,by omega,by omega⟩,?_⟩;refine AW.adopt 12 179 9 (fun i=>ePt.enc (([]:List Pt).getD i ePt.dflt)) rfl ?_;refine AW.seqTo (fun x:Nat×Nat=>Sh.st ⟨[(12,.ow 2 x.1 (L.flatMap (a3K (fb,fl,fr) st (lb1,lb2,lb3) v)).length)],[(2,a1a x.1 179 ePt (L.flatMap (a3K (fb,fl,fr) st (lb1,lb2,lb3) v)))],66,3,x.2,[]⟩) ?_ fun⟨u,nx⟩=>?_
       rotate_left
       ·have fL:=b2a hf st (lb1,lb2,lb3) v L;generalize L.flatMap (a3K (fb,fl,fr) st (lb1,lb2,lb3) v)=S at *
        refine AW.freeze 2 u 179 9 S.length (fun i=>ePt.enc (S.getD i ePt.dflt)) rfl (fun _ _ j hj=>match j,hj with|0,_=>rfl|1,_=>rfl|2,_=>rfl|3,_=>rfl|4,_=>rfl|5,_=>rfl|6,_=>rfl|7,_=>rfl|8,_=>rfl) ?_;refine AW.cut ⟨[(12,sL ePt S)],[],66,3,nx,[]⟩ ?_ ?_
        ·simp only [go_sem,a4L,a4R,a2r,a19,a3t,a4F,a2q,a40];exact a4p (E:=ePt) rfl rfl rfl
        refine awZ hΓ rfl ?_;simp only [go_sem,a4L,a4R,a2r,a19,a3t,a4F,a2q,a40];exact⟨by omega,by omega⟩
       refine awZ hΓ rfl ?_;simp only [go_sem,a4L,a4R,a2r,a19,a3t,a4F,a2q,a40]
       refine AW.round (α:={ x:Nat×List Pt×Nat×Nat // x.1<=L.length/\x.2.1=(L.take x.1).flatMap (a3K (fb,fl,fr) st (lb1,lb2,lb3) v) })
        (fun x=>⟨[(2,.val (.int .i64 st)),(4,.val (.int .i64 v)),(5,.ps 3 (eFl.enc (fb,fl,fr))),(8,.ps 3 (eLb.enc (lb1,lb2,lb3))),(12,.ow 2 x.1.2.2.1 x.1.2.1.length),(27,sL eCk L),(28,.val (.int .i64 L.length)),(29,.val (.int .i64 x.1.1))],
         [(2,a1a x.1.2.2.1 179 ePt x.1.2.1)],66,3,x.1.2.2.2,[]⟩) (fun x=>L.length-x.1.1) ⟨(0,[],2,3),nZL _,rfl⟩ ?_ ?_
       ·simp only [go_sem,a4L,a4R,a2r,a19,a3t,a4F,a2q,a40];exact rlR
       ·rintro⟨⟨i,S,u,nx⟩,hi,hS⟩;simp only at hi hS;have fi:=fs i;rw [<-hS,List.length_take] at fi;refine awL hΓ [8,99999] rfl ?_;simp only [go_sem,a4L,a4R,a2r,a19,a3t,a4F,a2q,a40];refine⟨fun hlt=>⟨by omega,?_⟩,fun hge=>?_⟩
        ·have hlt':i<L.length:=by omega
         have hsn:(L.take (i+1)).flatMap (a3K (fb,fl,fr) st (lb1,lb2,lb3) v)=S++a3K (fb,fl,fr) st (lb1,lb2,lb3) v (L.getD i eCk.dflt):=by
          rw [a2y L eCk.dflt hlt',List.flatMap_append,<-hS];simp
         generalize L.getD i eCk.dflt=c at *
         obtain⟨cs,⟨cb1,cb2⟩,⟨cl1,cl2⟩,cr1,cr2⟩:=c;have hcl:=b2V (fb,fl,fr) st (lb1,lb2,lb3) v (cs,(cb1,cb2),(cl1,cl2),cr1,cr2);have hcs:a3K (fb,fl,fr) st (lb1,lb2,lb3) v (cs,(cb1,cb2),(cl1,cl2),cr1,cr2)=if a65 (fb,fl,fr) (cs,(cb1,cb2),(cl1,cl2),cr1,cr2)=4/\v=0 then a8b (fb,fl,fr) (cs,(cb1,cb2),(cl1,cl2),cr1,cr2) st (lb1,lb2,lb3) else [a1b (a5Q (fb,fl,fr) (cs,(cb1,cb2),(cl1,cl2),cr1,cr2) (a65 (fb,fl,fr) (cs,(cb1,cb2),(cl1,cl2),cr1,cr2)) v).flatten]:=rfl
         have hsd:b8h (a5Q (fb,fl,fr) (cs,(cb1,cb2),(cl1,cl2),cr1,cr2) (a65 (fb,fl,fr) (cs,(cb1,cb2),(cl1,cl2),cr1,cr2)) v):=by
          unfold a5Q;split
          ·exact a3z (a4O _ _) hf1.1 hf1.2
          ·split
           ·exact a3z (a4O _ _) hf3.1 hf3.2
           ·split
            ·exact a3z (a4O _ _) hf3.1 hf3.2
            ·exact a3z (a4O _ _) hf2.1 hf2.2
         have hcc:b1G (cs,(cb1,cb2),(cl1,cl2),cr1,cr2) fb fl fr=a65 (fb,fl,fr) (cs,(cb1,cb2),(cl1,cl2),cr1,cr2):=rfl;generalize a65 (fb,fl,fr) (cs,(cb1,cb2),(cl1,cl2),cr1,cr2)=k at *
         refine AW.cut ⟨[(2,.val (.int .i64 st)),(4,.val (.int .i64 v)),(5,.ps 3 (eFl.enc (fb,fl,fr))),(8,.ps 3 (eLb.enc (lb1,lb2,lb3))),(12,.ow 2 u S.length),(14,.pt 3 nx 0),(27,sL eCk L),(28,.val (.int .i64 L.length)),(29,.val (.int .i64 i))],
          [(2,a1a u 179 ePt S),(3,.box nx 216 7 (eCk.enc (cs,(cb1,cb2),(cl1,cl2),cr1,cr2)))],66,4,nx+1,[]⟩ ?_ ?_
         ·simp only [go_sem,a4L,a4R,a2r,a19,a3t,a4F,a2q,a40];exact⟨rlR,a88⟩
         refine AW.still 14 3 nx 216 7 _ rfl rfl (fun j hj=>match j,hj with|0,_=>rfl|1,_=>rfl|2,_=>rfl|3,_=>rfl|4,_=>rfl|5,_=>rfl|6,_=>rfl) ?_;refine awN hΓ rfl ?_;simp only [go_sem,a4L,a4R,a2r,a19,a3t,a4F,a2q,a40,hcc];refine⟨⟨by omega,by omega,by omega⟩,fun hk=>?_,fun hk=>?_⟩
         ·rw [if_pos hk] at hcs;rw [hcs] at hsn hcl;refine⟨hf,by omega,⟨by omega,by omega⟩,⟨(i+1,S++a8b (fb,fl,fr) (cs,(cb1,cb2),(cl1,cl2),cr1,cr2) st (lb1,lb2,lb3),nx+1,nx+2),by dsimp only;omega,hsn.symm⟩,⟨nLR _,⟨⟨rfl,by dsimp only;rw [lAp]⟩,by dsimp only;omega⟩,?_⟩,by dsimp only;omega⟩;exact b16 (E:=ePt) rfl rfl rfl rfl (by simp) fun i _ j _=>avR
         ·rw [if_neg (fun e=>hk e.1 e.2)] at hcs;rw [hcs] at hsn hcl;refine⟨hf,hsd,by omega,⟨by omega,by omega⟩,⟨(i+1,S++[a1b (a5Q (fb,fl,fr) (cs,(cb1,cb2),(cl1,cl2),cr1,cr2) k v).flatten],nx+1,nx+2),by dsimp only;omega,hsn.symm⟩,⟨nLR _,⟨⟨rfl,by simp⟩,by dsimp only;omega⟩,?_⟩,by dsimp only;omega⟩;exact a1F (E:=ePt) rfl rfl rfl rfl (by simp) fun j _=>avR
        ·obtain rfl:i=L.length:=by omega
         rw [List.take_length] at hS;refine⟨(u,nx),a17 ?_⟩;rw [<-hS];simp only [go_sem,a4L,a4R,a2r,a19,a3t,a4F,a2q,a40];exact rlR
theorem c14 (f:Fl) (L:List Ck):b2g f L<=L.length:=List.length_filter_le _ _
def a5I:a0r:=a0r.f2 (kA eFl) (kL eCk) (fun f L=>c7W f/\L.length<=10000) (fun f L=>kI.enc (b2g f L))
theorem c4f:a0b Tryz.prog 101 a5I:=by
 refine a0b.f2 Tryz.func101 rfl (by decide) Tryz.results101 Tryz.ntmps101 (by decide) fun f L ⟨hf,hL⟩=>?_
 have hΓ:GOK Tryz.prog (gam [(159,a19)]):=(.cons b8a .nil);have hff:=hf;obtain⟨fb,fl,fr⟩:=f;obtain⟨hf1,hf2,hf3⟩:=hff;dsimp only at hf1 hf2 hf3;refine awL hΓ [0] rfl ?_;simp only [go_sem,a19];refine AW.still 2 0 0 150 3 _ rfl rfl (fun j hj=>match j,hj with|0,_=>rfl|1,_=>rfl|2,_=>rfl) ?_;refine awZ hΓ rfl ?_;simp only [go_sem,a19]
 refine AW.round (α:={ x:Nat×Nat // x.1<=L.length })
  (fun x=>⟨[(2,.ps 3 (eFl.enc (fb,fl,fr))),(5,.val (.int .i64 (b2g (fb,fl,fr) (L.take x.1.1)))),(8,sL eCk L),(9,.val (.int .i64 L.length)),(10,.val (.int .i64 x.1.1))],[],27,1,x.1.2,[]⟩) (fun x=>L.length-x.1.1) ⟨(0,1),nZL _⟩ ?_ ?_
 ·simp only [go_sem,a19];rfl
 ·rintro⟨⟨i,nx⟩,hi⟩;simp only at hi;have hcn:=c14 (fb,fl,fr) (L.take i);rw [List.length_take] at hcn;refine awL hΓ [4,99999] rfl ?_;simp only [go_sem,a19];refine⟨fun hlt=>⟨by omega,?_⟩,fun hge=>?_⟩
  ·have hlt':i<L.length:=by omega
   have hsn:=c50 (fb,fl,fr) (L.getD i eCk.dflt) (L.take i);rw [<-a2y L eCk.dflt hlt'] at hsn;generalize L.getD i eCk.dflt=c at *
   obtain⟨cs,⟨cb1,cb2⟩,⟨cl1,cl2⟩,cr1,cr2⟩:=c;have hcc:b1G (cs,(cb1,cb2),(cl1,cl2),cr1,cr2) fb fl fr=a65 (fb,fl,fr) (cs,(cb1,cb2),(cl1,cl2),cr1,cr2):=rfl;generalize a65 (fb,fl,fr) (cs,(cb1,cb2),(cl1,cl2),cr1,cr2)=k at *
   refine AW.cut ⟨[(2,.ps 3 (eFl.enc (fb,fl,fr))),(5,.val (.int .i64 (b2g (fb,fl,fr) (L.take i)))),(7,.pt 1 nx 0),(8,sL eCk L),(9,.val (.int .i64 L.length)),(10,.val (.int .i64 i))],
    [(1,.box nx 216 7 (eCk.enc (cs,(cb1,cb2),(cl1,cl2),cr1,cr2)))],27,2,nx+1,[]⟩ ?_ ?_
   ·simp only [go_sem,a19];exact a88
   refine AW.still 7 1 nx 216 7 _ rfl rfl (fun j hj=>match j,hj with|0,_=>rfl|1,_=>rfl|2,_=>rfl|3,_=>rfl|4,_=>rfl|5,_=>rfl|6,_=>rfl) ?_;refine awN hΓ rfl ?_;simp only [go_sem,a19,hcc];refine⟨⟨by omega,by omega,by omega⟩,fun hk=>⟨⟨by omega,by omega⟩,⟨by omega,by omega⟩,⟨(i+1,nx+1),by dsimp only;omega⟩,⟨nLR _,?_,by dsimp only;omega⟩,by dsimp only;omega⟩,fun hk=>⟨⟨by omega,by omega⟩,⟨(i+1,nx+1),by dsimp only;omega⟩,⟨nLR _,?_,by dsimp only;omega⟩,by dsimp only;omega⟩⟩
   ·dsimp only;rw [hsn,if_pos hk];omega
   ·dsimp only;rw [hsn,if_neg hk];omega
  ·obtain rfl:i=L.length:=by omega
   rw [List.take_length]
end
section
open Go
attribute [local irreducible] AW a0k a1k a0c
theorem c7y {α:Type} {E:El α} {l:List α} {n s:Nat} {f:Nat->Nat->AV} (hs:s=E.sz) (hn:n=l.length) (h:∀ i,i<n->∀ j,j<s->a0k (f i j) (E.enc (l.getD i E.dflt) j)):a0k (.sn n s f) (sL E l):=by
 subst hs hn;exact a0k.sn h
end
section
open Go
theorem a5X (a b:List Pt):a3u (a++b)=a3u a+a3u b:=by simp [a3u]
theorem a4K (p:Pt):a3u [p]=a3X p:=by simp [a3u]
theorem a7Y (t:BS):a3X (a1b t)=t.length:=by
 show t.length+0+0+0+0+0+0=_;omega
theorem c0T (out:List Pt) (p:Pt):a3u (a3j out p)<=a3u out+a3X p:=by
 cases hp:a0D p with
 | false=>rw [a8J hp,a5X,a4K];exact nLR _
 | true=>
   rcases a5h out p hp with⟨_,e⟩|⟨_,⟨m,q,rfl,hq,e⟩|⟨_,e⟩⟩
   ·rw [e];omega
   ·rw [e,a5X,a5X,a4K,a4K,a7Y,lAp];have h1:(txP q).length<=a3X q:=by unfold a3X txP;omega
    have h2:(txP p).length<=a3X p:=by unfold a3X txP;omega
    omega
   ·rw [e,a5X,a4K];exact nLR _
theorem b4p:∀ (l out:List Pt),a3u (l.foldl a3j out)<=a3u out+a3u l
 | [],_=>by simp [a3u]
 | p::l,out=>by
   have h1:=b4p l (a3j out p);have h2:=c0T out p;have h3:a3u (p::l)=a3X p+a3u l:=by simp [a3u]
   rw [List.foldl_cons];omega
theorem b5J (l:List Pt):a3u (ofD l)<=a3u l:=by
 rw [b32];have:=b4p l [];have e:a3u []=0:=rfl;omega
theorem b78 {d:List Pt} (h:a3u d<=100000000):∀ p∈d,b8f p:=fun p hp=>by
 have:=c5N hp;unfold a3X at this;unfold b8f txP;omega
end
set_option maxHeartbeats 4000000
section
open Go
attribute [local irreducible] AW a0k a1k a0c
theorem b7E {α:Type} {E:El α} {l:List α} {j i:Nat} {row:Row} {r:List (Nat×AV×Row)} {st:AS}:a93 j ((i,sL E l,row)::r) st=a93 j r st:=rfl
def a02 (a b c:BS):Fl:=(a0a a,a0a b,a0a c)
end
section
open Go
theorem c2L (a69:Pl):∀ (M:List Pl) (s:List Ck) (t:Pl),(ofK a69 M s t).length<=s.length+2*M.length+1
 | [],s,t=>by
   rw [ofK];split
   ·omega
   ·simp
 | p::M,s,t=>by
   rw [ofK];have h1:=b0d (if p=t then s else s++[btw t p]) p
   have h2:(if p=t then s else s++[btw t p]).length<=s.length+1:=by
    split
    ·omega
    ·simp
   have h3:=c2L a69 M (a1K (if p=t then s else s++[btw t p]) p) (b1c p);simp only [lCo];omega
theorem c3X (f:Fl):(a5C f).length<=2*f.1.length+1/\(a5C f).length<=2*f.2.1.length+1:=by
 have h1:=c2L (f.1.length,f.2.1.length,f.2.2.length) (a3E (a60 f.1 f.2.1) (a60 f.1 f.2.2)) [] (0,0,0);have h2:=a7I _ (a60 f.1 f.2.1) (a60 f.1 f.2.2) (nLR _);have h3:=b2F f.1 f.2.1;unfold a5C d3N;simp only [List.length_nil] at h1;omega
def lbN (lb:BS×BS×BS):Nat:=lb.1.length+lb.2.1.length+lb.2.2.length
theorem c9B {f:Fl} (st:Int) (lb:BS×BS×BS) (v:Int) (c:Ck):a3u (a3K f st lb v c)<=(a9X f c).flatten.length+(a3c f c).flatten.length+(a3R f c).flatten.length+lbN lb:=by
 unfold a3K;split
 ·have hh:=a9I st (a3c f c) (a3R f c)
  have e1:∀ a b d:Pt,a3u [a,b,d]=a3X a+a3X b+a3X d:=fun a b d=>by
   rw [show [a,b,d]=[a]++([b]++[d]) from rfl,a5X,a5X,a4K,a4K,a4K];omega
  have e2:=d6t (O:=a3c f c) (u:=(a2h st (a3c f c) (a3R f c)).1) (j:=(a3c f c).length-(a2h st (a3c f c) (a3R f c)).2) (by omega);have e3:=d6t (O:=a3R f c) (u:=(a2h st (a3c f c) (a3R f c)).1) (j:=(a3R f c).length-(a2h st (a3c f c) (a3R f c)).2) (by omega)
  have s5:(if st=0 then [] else (a9X f c).flatten).length<=(a9X f c).flatten.length:=by
   split
   ·exact nZL _
   ·exact nLR _
  have s6:(if st=0 then [] else lb.2.1).length<=lb.2.1.length:=by
   split
   ·exact nZL _
   ·exact nLR _
  unfold a8b;rw [e1,a7Y,a7Y];unfold a3X b2G lbN;dsimp only;simp only [List.length_nil];omega
 ·rw [a4K,a7Y];unfold a5Q;split
  ·omega
  ·split
   ·omega
   ·split<;>omega
theorem c4E (f:Fl) (st:Int) (lb:BS×BS×BS) (v:Int):a3u ((a5C f).flatMap (a3K f st lb v))<=f.1.flatten.length+f.2.1.flatten.length+f.2.2.flatten.length+(a5C f).length*lbN lb:=by
 have key:∀ L:List Ck,a3u (L.flatMap (a3K f st lb v))<=(L.map (a9X f)).flatten.flatten.length+(L.map (a3c f)).flatten.flatten.length+(L.map (a3R f)).flatten.flatten.length+L.length*lbN lb:=by
  intro L
  induction L with
  | nil=>simp [a3u]
  | cons c L ih=>
    have:=c9B (f:=f) st lb v c;simp only [List.flatMap_cons,a5X,List.map_cons,List.flatten_cons,List.flatten_append,lAp,lCo,Nat.succ_mul];omega
 have:=key (a5C f);rw [d1Q,d2G,d3c] at this;exact this
theorem b13 (f:Fl) (st:Int) (lb:BS×BS×BS) (v:Int):∀ L:List Ck,(L.flatMap (a3K f st lb v)).length<=3*L.length
 | []=>by simp
 | c::L=>by
   have h1:=b13 f st lb v L;have h4:=b2V f st lb v c;rw [List.flatMap_cons,lAp,lCo];omega
def a66 (w:Int) (a b c:BS):Int:=max w ((a6a [a,b,c]:Nat)+1)
def a7s (a b c:BS) (st:Int) (lb:BS×BS×BS) (v:Int):List Pt:=ofD ((a5C (a02 a b c)).flatMap (a3K (a02 a b c) st lb v))
def okM (a b c:BS):Prop:=(a.length<=3000000/\b.length<=3000000/\c.length<=3000000/\((a0a a).length<=300\/(a0a b).length<=300))\/(a.length<=20000/\b.length<=20000/\c.length<=20000/\((a0a a).length<=4700\/(a0a b).length<=4700))
theorem c0i {a b c:BS} (h:okM a b c):a.length<=3000000/\b.length<=3000000/\c.length<=3000000:=by
 rcases h with⟨h1,h2,h3,_⟩|⟨h1,h2,h3,_⟩
 ·exact⟨h1,h2,h3⟩
 ·exact⟨by omega,by omega,by omega⟩
theorem c1N {d:List Pt} {m w:Int} (h:a8n d m=true) (hw:m<=w):a8n d w=true:=by
 unfold a8n at h ⊢;rw [Bool.and_eq_true,decide_eq_true_eq,decide_eq_true_eq] at h ⊢;exact⟨by omega,fun p hp=>by have:=h.2 p hp;omega⟩
theorem c0n (a b c:BS):b0s (a02 a b c):=⟨a22 _ a (nLR _),a22 _ b (nLR _),a22 _ c (nLR _)⟩
theorem c4t (a b c:BS):shF (a6a [a,b,c]+1) (a02 a b c):=by
 have key:∀ s∈[a,b,c],∀ x∈a0a s,a6s x<a6a [a,b,c]+1:=fun s hs x hx=>by
  have h1:=c1F hx;have h2:=c2O hs;omega
 exact⟨key a (by simp),key b (by simp),key c (by simp)⟩
theorem b8X (a b c:BS):(a02 a b c).1.flatten=a/\(a02 a b c).2.1.flatten=b/\(a02 a b c).2.2.flatten=c:=⟨a04 a,a04 b,a04 c⟩
theorem a7S {a b c:BS} {n:Nat} (ha:a.length<=n) (hb:b.length<=n) (hc:c.length<=n):a6a [a,b,c]<=n:=by
 refine b35 fun s hs=>b4e fun x hx=>?_
 have h1:=b2h x
 have h2:x.length<=s.length:=by
  have h3:x.length<=(a0a s).flatten.length:=by
   have:=List.sublist_flatten_of_mem hx;exact this.length_le
  rw [a04] at h3;exact h3
 simp only [List.mem_cons,List.not_mem_nil,or_false] at hs;rcases hs with rfl|rfl|rfl<;>omega
structure d8i (a b c:BS) (w st:Int) (lb:BS×BS×BS) (v:Int):Prop where
 ok:c7W (a02 a b c)
 len:(a5C (a02 a b c)).length<=9401
 sum:a3Z ((a5C (a02 a b c)).flatMap (a3K (a02 a b c) st lb v))<=1000000000
 right:a3g (a7s a b c st lb v)=true
 fits:a8n (a7s a b c st lb v) (a66 w a b c)=true
 wide:a5M (a66 w a b c)=true
 wle:a66 w a b c<=3000001
 dlen:(a7s a b c st lb v).length<=28203
 sump:a3u (a7s a b c st lb v)<=40000000
 pr:(a1x (a66 w a b c) (a7s a b c st lb v)).length<=90000000000
 confl:v=0->a0x (a7s a b c st lb v)=b2g (a02 a b c) (a5C (a02 a b c))
theorem a7J {a b c:BS} (h:okM a b c) {w:Int} (hw:7<=w/\w<=64) (st:Int) {lb:BS×BS×BS} (hl:lbN lb<=3000) (hp:a2a lb=true) (v:Int):d8i a b c w st lb v:=by
 obtain⟨h1,h2,h3⟩:=c0i h;have l1:=a0K a;have l2:=a0K b;have l3:=a0K c;have e1:=c3X (a02 a b c);have e2:(a02 a b c).1.length=(a0a a).length:=rfl;have e3:(a02 a b c).2.1.length=(a0a b).length:=rfl;obtain⟨f1,f2,f3⟩:=b8X a b c
 have hk2:((a5C (a02 a b c)).length<=601)\/((a5C (a02 a b c)).length<=9401/\a.length<=20000/\b.length<=20000/\c.length<=20000):=by
  rcases h with⟨_,_,_,g⟩|⟨g1,g2,g3,g⟩
  ·exact .inl (by omega)
  ·exact .inr ⟨by omega,g1,g2,g3⟩
 have hk:(a5C (a02 a b c)).length<=9401:=by omega
 have hT:=c4A (a02 a b c) st lb v;have hS:=c4E (a02 a b c) st lb v;have h3':=b13 (a02 a b c) st lb v (a5C (a02 a b c));have hD:=(b4Y ((a5C (a02 a b c)).flatMap (a3K (a02 a b c) st lb v))).2;have hE:=b5J ((a5C (a02 a b c)).flatMap (a3K (a02 a b c) st lb v));have hm:(a5C (a02 a b c)).length*lbN lb<=9401*3000:=Nat.mul_le_mul hk hl;rw [f1,f2,f3] at hT hS;have hlT:=a7S h1 h2 h3;have hW:1<=a66 w a b c/\a66 w a b c<=3000001:=by unfold a66;omega
 have hdl:(a7s a b c st lb v).length<=28203:=by unfold a7s;omega
 have hdl2:((a7s a b c st lb v).length<=1803)\/a66 w a b c<=20001:=by
  rcases hk2 with g|⟨_,g1,g2,g3⟩
  ·exact .inl (by unfold a7s;omega)
  ·have:=a7S g1 g2 g3;exact .inr (by unfold a66;omega)
 have hsp:a3u (a7s a b c st lb v)<=40000000:=by unfold a7s;omega
 have hfit:=c3W (m:=a6a [a,b,c]+1) (Nat.succ_pos _) (c0n a b c) (c4t a b c) (b1C _) (b6M _) (st:=st) (v:=v) hp;refine⟨⟨⟨by omega,?_⟩,⟨by omega,?_⟩,?_,?_⟩,hk,by omega,c2h (c0n a b c) (b1C _) (b6M _) hp,c1N hfit (by unfold a66;omega),?_,hW.2,hdl,hsp,?_,fun hv=>?_⟩
 ·rw [f1];omega
 ·rw [f2];omega
 ·show (a0a c).length<=_;omega
 ·rw [f3];omega
 ·rw [a6G];omega
 ·have q1:=a8O (a66 w a b c) (a7s a b c st lb v)
  have q2:(a7s a b c st lb v).length*(4*(a66 w a b c).toNat+15)<=1803*(4*3000001+15):=by
   rcases hdl2 with g|g
   ·exact Nat.mul_le_mul g (by omega)
   ·exact Nat.le_trans (Nat.mul_le_mul hdl (show 4*(a66 w a b c).toNat+15<=80019 by omega)) (by decide)
  omega
 ·subst hv;unfold a7s;rw [b3y,b3B]
theorem b6T {a b c:BS} {w st:Int} {lb:BS×BS×BS} {v:Int} (h:d8i a b c w st lb v):printR (a7s a b c st lb v) (a66 w a b c)=(a1x (a66 w a b c) (a7s a b c st lb v),0):=by
 unfold printR;rw [if_neg (by rw [h.wide];simp),if_neg (by rw [h.right];simp),if_neg (by rw [h.fits];simp)]
theorem c8J {a b c:BS} {st:Int} {lb:BS×BS×BS} {v:Int} (h1:(a74 st&&a8l v)=true) (h2:a2a lb=true):b9b (a02 a b c) (a5C (a02 a b c)) st lb v=(a7s a b c st lb v,0):=by
 unfold b9b;rw [if_neg (by rw [h1];simp),if_neg (by rw [h2];simp)];rfl
end
set_option maxHeartbeats 2000000
section
open Go
attribute [local irreducible] AW a0k a1k a0c
def wAV (x y z:AV):AV:=.ag 3 fun j=>if j=0 then x else if j=1 then y else z
def kW:Kd (List Int×List Int×List Int) where
 enc w:=wAV (sL eI w.1) (sL eI w.2.1) (sL eI w.2.2)
 dec|.ag _ c=>(gL eI (c 0),gL eI (c 1),gL eI (c 2))
     | _=>([],[],[])
 law w:=by simp only [wAV,Nat.one_ne_zero,if_true,if_false,(by decide:(2:Nat)≠0),(by decide:(2:Nat)≠1),a5T]
theorem c3Y {a b f:List Int} {c:Nat->AV} (h0:a0k (c 0) (sL eI a)) (h1:a0k (c 1) (sL eI b)) (h2:a0k (c 2) (sL eI f)) (e0:gL eI (c 0)=a) (e1:gL eI (c 1)=b) (e2:gL eI (c 2)=f):kW.ok (.ag 3 c):=by
 subst e0 e1 e2;refine a0k.ag fun j hj=>?_
 match j,hj with
 | 0,_=>exact h0
 | 1,_=>exact h1
 | 2,_=>exact h2
theorem c2c (c:Nat->AV):kW.dec (.ag 3 c)=(gL eI (c 0),gL eI (c 1),gL eI (c 2)):=rfl
def big (n:Int):Prop:=0<=n/\n<1000000000
def a1l:a0r:=a0r.f3 kI kI kI (fun d n m=>big d/\big n/\big m) (fun d n m=>tu2 (kI.enc (a9r d.toNat m.toNat)) (kI.enc (a27 d.toNat n.toNat)))
theorem b5n:a0b Tryz.prog 221 a1l:=by
 refine a0b.f3 Tryz.func221 rfl (by decide) Tryz.results221 Tryz.ntmps221 (by decide) fun d n m hd=>?_
 have hΓ:GOK Tryz.prog (gam []):=GOK.nil;obtain⟨⟨h1,h2⟩,⟨h3,h4⟩,h5,h6⟩:=hd
 have hl:a9r d.toNat m.toNat=if m<d then -m+(d-m).tmod 2 else -d:=by
  unfold a9r;rw [Int.toNat_of_nonneg h1,Int.toNat_of_nonneg h5]
 have hh:a27 d.toNat n.toNat=if n<d then n-(d-n).tmod 2 else d:=by
  unfold a27;rw [Int.toNat_of_nonneg h1,Int.toNat_of_nonneg h3]
 have t1:m<d->(d-m).tmod 2=(d-m) % 2:=fun h=>c2k _ (by omega)
 have t2:n<d->(d-n).tmod 2=(d-n) % 2:=fun h=>c2k _ (by omega)
 have b1:m<d->0<=(d-m).tmod 2/\(d-m).tmod 2<=1:=fun h=>by rw [t1 h];omega
 have b2:n<d->0<=(d-n).tmod 2/\(d-n).tmod 2<=1:=fun h=>by rw [t2 h];omega
 rw [hl,hh];refine awN hΓ rfl ?_;simp only [go_sem];clear hl hh t1 t2;generalize (d-m).tmod 2=r1 at *
 generalize (d-n).tmod 2=r2 at *
 refine⟨by omega,fun g1=>?_,fun g1=>?_⟩
 ·have:=b1 g1;simp only [if_pos g1];refine⟨by omega,by omega,by omega,fun g2=>?_,fun g2=>?_⟩
  ·have:=b2 g2;simp only [if_pos g2];exact⟨by omega,by omega,by trivial,by trivial⟩
  ·simp only [if_neg g2];exact⟨by trivial,by trivial⟩
 ·simp only [if_neg g1];refine⟨fun g2=>?_,fun g2=>?_⟩
  ·have:=b2 g2;simp only [if_pos g2];exact⟨by omega,by omega,by trivial,by trivial⟩
  ·simp only [if_neg g2];exact⟨by trivial,by trivial⟩
def a1u:a0r:=a0r.f2 kW kI (fun w k=>-(w.2.1.length:Int)-1<=k/\k<=w.1.length+1/\w.2.2.length=w.1.length+w.2.1.length+3/\w.2.2.length<1000000000) (fun w k=>kI.enc (rch w.2.1.length w.2.2 k))
theorem b4r:a0b Tryz.prog 223 a1u:=by
 refine a0b.f2 Tryz.func223 rfl (by decide) Tryz.results223 Tryz.ntmps223 (by decide) fun w k hd=>?_
 have hΓ:GOK Tryz.prog (gam []):=GOK.nil;obtain⟨a,b,far⟩:=w;simp only at hd;refine awN hΓ rfl ?_;simp only [go_sem,kW,wAV];exact⟨by omega,by omega,by omega,rfl⟩
def b08 (far:List Int):Prop:=∀ y∈far,-1<=y/\y<1000000000
theorem a9W (l r:List Int):gL eI (.sn l.length 1 fun i=>eI.enc ((l++r).getD i 0))=l:=by
 unfold gL;simp only [eI.law];apply List.ext_getElem
 ·simp
 ·intro i h1 h2;simp [List.getD,List.getElem?_append_left h2,List.getElem?_eq_getElem h2]
theorem b2B (l r:List Int):a0k (.sn l.length 1 fun i=>eI.enc ((l++r).getD i 0)) (sL eI l):=
 c62 (E:=eI) rfl rfl (by simp) (by simp)
def b3P:a0O:=fun args hp top nx K=>∃ a b far rest k ver x far',args=[wAV (sL eI a) (sL eI b) (.ow 0 ver far.length),kI.enc k]/\hp=rws [(0,a1a ver 3 eI (far++rest))]/\top=1/\
 b08 far/\a.length<100000000/\b.length<100000000/\c3Q a b far k=some (x,far')/\∀ hp' top' nx',a0c (hp' 0) (a1a ver 3 eI (far'++rest))->nx<=nx'->K (kI.enc x) hp' top' nx'
theorem b8k:a0g Tryz.prog 222 b3P:=by
 refine a0g.mk Tryz.func222 rfl (by decide) Tryz.results222 Tryz.ntmps222 ?_;rintro args hp top nx K ⟨a,b,far,rest,k,ver,x,far',rfl,rfl,rfl,hfar,ha,hb,hadv,hK⟩;have hΓ:GOK Tryz.prog (gam [(223,a1u)]):=(.cons b4r .nil);refine⟨Nat.le_of_ble_eq_true rfl,?_⟩;unfold c3Q at hadv;split at hadv
 ·rename_i hc;obtain⟨c1,c2,c3,c4,c5⟩:=hc
  have hr:∀ j:Int,-(b.length:Int)-1<=j->j<=a.length+1->-1<=rch b.length far j/\rch b.length far j<1000000000:=fun j h1 h2=>by
   unfold rch;rw [a1q _ _ (by omega)];exact hfar _ (List.getElem_mem _)
  have hu:=hr (k-1) (by omega) (by omega);have hv:=hr (k+1) (by omega) (by omega);have hs:a1s a b (rch b.length far (k-1)) (rch b.length far (k+1)) k=min (min (max (rch b.length far (k-1)+1) (rch b.length far (k+1))) ↑a.length) (↑b.length+k):=rfl;simp only [oSI,pMI] at hadv;obtain⟨hx,hfar'⟩:=hadv;generalize hsg:a1s a b (rch b.length far (k-1)) (rch b.length far (k+1)) k=s at *
  have s1:s<=a.length:=by omega
  have s2:s<=b.length+k:=by omega
  have hal:=a7d (a.drop s.toNat) (b.drop (s-k).toNat);have has:=a35 0 (a.drop s.toNat) (b.drop (s-k).toNat);simp only [List.length_drop,a2U] at hal has;refine awZ hΓ rfl ?_;simp only [go_sem,a1u,c2c,wAV,a5T,a9W];refine⟨by omega,⟨by omega,c3Y (a:=a) (b:=b) (f:=far)  avR   avR  (b2B far rest) (a5T _ _) (a5T _ _) (a9W far rest),by omega,by omega,by omega,by omega⟩,by omega,by omega,⟨by omega,c3Y (a:=a) (b:=b) (f:=far)  avR   avR  (b2B far rest) (a5T _ _) (a5T _ _) (a9W far rest),by omega,by omega,by omega,by omega⟩,by omega,?_⟩;rw [<-hs]
  refine AW.round (α:={ i:Nat // i<=ahd (a.drop s.toNat) (b.drop (s-k).toNat) })
   (fun i=>⟨[(1,.val (.int .i64 k)),(2,.pt 1 nx 0),(5,.val (.int .i64 (s+i.1)))],[(0,a1a ver 3 eI (far++rest)),(1,.box nx 265 3 fun j=>if j=0 then sL eI a else if j=1 then sL eI b else .ow 0 ver far.length)],68,2,nx+1,[]⟩) (fun i=>a.length-i.1) ⟨0,nZL _⟩ ?_ ?_
  ·simp only [go_sem,a1u];exact⟨by omega,rlR,rlR⟩
  ·rintro⟨i,hi⟩;refine awN hΓ rfl ?_;simp only [go_sem,a1u];have t1:(s+i).toNat=s.toNat+i:=by omega
   have t2:(s+i-k).toNat=(s-k).toNat+i:=by omega
   refine⟨fun _=>by omega,fun h=>by omega,fun _=>by omega,fun h=>by omega,fun⟨⟨h1,h2⟩,h3⟩=>⟨by omega,⟨i+1,?_⟩,⟨by dsimp only;omega,rlR,rlR⟩,by dsimp only;omega⟩,fun hno=>⟨by omega,by omega,by omega,by omega,?_⟩⟩
   ·rcases Nat.lt_or_ge i (ahd (a.drop s.toNat) (b.drop (s-k).toNat)) with g|g
    ·exact g
    ·have e:ahd (a.drop s.toNat) (b.drop (s-k).toNat)=i:=by omega
     rw [e] at has;rw [t1,t2] at h3;exact absurd h3 (has.2 (by omega) (by omega))
   ·have e:s+(i:Int)=x:=by
     rcases Nat.lt_or_ge i (ahd (a.drop s.toNat) (b.drop (s-k).toNat)) with g|g
     ·refine absurd ?_ (hno ⟨by omega,by omega⟩);rw [t1,t2];exact has.1 i g
     ·omega
    rw [e];refine hK _ _ _ ?_ (by omega);exact b2t (E:=eI) rfl (by rw [<-hfar',hx,List.set_append_left _ _ (by omega)]) (by simp) (by simp) (fun _ _=>avR)
 ·cases hadv
theorem b86 (far:List Int) {i:Nat} (h:i<far.length):a2f (i+1)++far.drop (i+1)=(a2f i++far.drop i).set i (-1):=by
 rw [List.set_append_right _ _ (by simp [a2f]),List.drop_eq_getElem_cons h,show i-(a2f i).length=0 by simp [a2f]];simp only [a2f,List.replicate_succ',List.append_assoc,List.set_cons_zero,List.cons_append,List.nil_append]
def b3W:a0O:=fun args hp top nx K=>∃ a b far ver,args=[sL eI a,sL eI b,.ow 0 ver far.length]/\hp=rws [(0,a1a ver 3 eI far)]/\top=1/\
 a.length<100000000/\b.length<100000000/\a.length+b.length+3<=far.length/\far.length<1000000000/\
 ∀ r hp' top' nx',a0k r (wAV (sL eI a) (sL eI b) (.ow 0 ver (a.length+b.length+3)))->a0c (hp' 0) (a1a ver 3 eI (a2f (a.length+b.length+3)++far.drop (a.length+b.length+3)))->nx<=nx'->K r hp' top' nx'
theorem b9j:a0g Tryz.prog 220 b3W:=by
 refine a0g.mk Tryz.func220 rfl (by decide) Tryz.results220 Tryz.ntmps220 ?_;rintro args hp top nx K ⟨a,b,far,ver,rfl,rfl,rfl,ha,hb,hf,hl,hK⟩;have hΓ:GOK Tryz.prog (gam []):=GOK.nil;refine⟨Nat.le_of_ble_eq_true rfl,?_⟩;refine awZ hΓ rfl ?_;simp only [go_sem];have en:((a.length:Int)+b.length+3).toNat=a.length+b.length+3:=by omega
 have ez:∀ i,i<=a.length+b.length+3->(a2f i++far.drop i).length=far.length:=fun i hi=>by simp [a2f];omega
 rw [en];refine⟨by omega,by omega,by omega,?_⟩
 refine AW.round (α:={ i:Nat // i<=a.length+b.length+3 })
  (fun i=>⟨[(0,sL eI a),(1,sL eI b),(6,.pt 1 nx 0),(7,.ow 0 ver (a.length+b.length+3)),(18,.val (.int .i64 (a.length+b.length+3:Nat))),(19,.val (.int .i64 i.1))],[(0,a1a ver 3 eI (a2f i.1++far.drop i.1)),(1,.box nx 265 3 (zC [Value.slice none 0 0,Value.slice none 0 0,Value.slice none 0 0]))],30,2,nx+1,[]⟩) (fun i=>a.length+b.length+3-i.1) ⟨0,nZL _⟩ ?_ ?_
 ·simp only [go_sem];exact⟨a0c.sl (by simp [a2f]) fun i hi j hj=>a0k.of_eq (by simp [a2f]),rlR⟩
 ·rintro⟨i,hi⟩;refine awN hΓ rfl ?_;simp only [go_sem];refine⟨fun hlt=>⟨by omega,by simp [a2f];omega,by omega,⟨i+1,by omega⟩,⟨by dsimp only;omega,?_,rlR⟩,by dsimp only;omega⟩,fun hge=>?_⟩
  ·exact b2t (E:=eI) (l:=a2f i++far.drop i) rfl (b86 far (by omega)) (by simp) (by simp) (fun _ _=>avR)
  ·have hn:i=a.length+b.length+3:=by omega
   subst hn;refine hK _ _ _ _ ?_ ?_ (by omega)
   ·refine a0k.ag fun j hj=>?_
    match j,hj with
    | 0,_=>exact avR
    | 1,_=>exact avR
    | 2,_=>exact avR
   ·show a0c (Row.sl ver 3 1 ((a2f (a.length+b.length+3)).length+(far.length-(a.length+b.length+3))) fun i=>eI.enc ((a2f (a.length+b.length+3)++far.drop (a.length+b.length+3)).getD i 0)) _;exact a0c.sl (by simp) fun _ _ _ _=>avR
end
section
open Go
attribute [local irreducible] AW a0k a1k a0c
def a1L:a0O:=a1I b3W
theorem c1E:a0g Tryz.prog 220 a1L:=b9j.frame
theorem b1U {a b far:List Int} {ver p n:Nat} {x y:AV} {hp:Nat->Row} {top nx:Nat} {K:AV->(Nat->Row)->Nat->Nat->Prop} (hx:a0k x (sL eI a)) (hy:a0k y (sL eI b)) (hn:n=far.length) (hr:a0c (hp p) (a1a ver 3 eI far)) (hp0:p<top)
  (ha:a.length<100000000) (hb:b.length<100000000) (hf:a.length+b.length+3<=far.length) (hl:far.length<1000000000)
  (hK:∀ nx',nx<=nx'->K (wAV (sL eI a) (sL eI b) (.ow p ver (a.length+b.length+3))) (a0X hp p (a1a ver 3 eI (a2f (a.length+b.length+3)++far.drop (a.length+b.length+3)))) top nx') :
  a1L [x,y,.ow p ver n] hp top nx K:=by
 subst hn;have hver:(hp p).ver=some ver:=hr.vers.symm;refine⟨[p],[sL eI a,sL eI b,.ow 0 ver far.length],rws [(0,a1a ver 3 eI far)],by simp,by simpa using hp0,.cons hx (.cons hy (.cons a0k.ow .nil)),a8Z hr,fun i hi=>a13 (top:=1) (by simp) i (by simpa using hi),a,b,far,ver,rfl,rfl,rfl,ha,hb,hf,hl,fun r hp' top' nx' h1 h2 h3=>?_⟩;refine⟨wAV (sL eI a) (sL eI b) (.ow p ver (a.length+b.length+3)),a0X hp p (a1a ver 3 eI (a2f (a.length+b.length+3)++far.drop (a.length+b.length+3))),h1.trans ?_,fun i q hq=>?_,fun q hq=>?_,fun q hq v hv=>?_,hK nx' h3⟩
 ·refine a0k.ag fun j hj=>?_
  match j,hj with
  | 0,_=>exact avR
  | 1,_=>exact avR
  | 2,_=>exact a0k.ow
 ·cases i with
  | zero=>
    simp only [gCZ,oSI] at hq;subst hq;rw [a0i];exact h2
  | succ i=>simp at hq
 ·rw [a0d _ _ (by simpa using hq)]
 ·simp only [List.mem_singleton] at hq;subst hq;rw [a0i] at hv;exact .inl (hver.trans hv)
def a1M:a0O:=a1I b3P
theorem c2o:a0g Tryz.prog 222 a1M:=b8k.frame
theorem b1r {a b far far' rest:List Int} {k x:Int} {ver p:Nat} {w:AV} {hp:Nat->Row} {top nx:Nat} {K:AV->(Nat->Row)->Nat->Nat->Prop} (hw:a0k w (wAV (sL eI a) (sL eI b) (.ow p ver far.length))) (hr:a0c (hp p) (a1a ver 3 eI (far++rest))) (hp0:p<top)
  (hfar:b08 far) (ha:a.length<100000000) (hb:b.length<100000000) (hadv:c3Q a b far k=some (x,far'))
  (hK:∀ nx',nx<=nx'->K (kI.enc x) (a0X hp p (a1a ver 3 eI (far'++rest))) top nx'):a1M [w,kI.enc k] hp top nx K:=by
 have hver:(hp p).ver=some ver:=hr.vers.symm;refine⟨[p],[wAV (sL eI a) (sL eI b) (.ow 0 ver far.length),kI.enc k],rws [(0,a1a ver 3 eI (far++rest))],by simp,by simpa using hp0,.cons (hw.trans ?_) (.cons  avR  .nil),a8Z hr,fun i hi=>a13 (top:=1) (by simp) i (by simpa using hi),a,b,far,rest,k,ver,x,far',rfl,rfl,rfl,hfar,ha,hb,hadv,fun hp' top' nx' h2 h3=>?_⟩
 ·refine a0k.ag fun j hj=>?_
  match j,hj with
  | 0,_=>exact avR
  | 1,_=>exact avR
  | 2,_=>exact a0k.ow
 refine⟨kI.enc x,a0X hp p (a1a ver 3 eI (far'++rest)),avR,fun i q hq=>?_,fun q hq=>?_,fun q hq v hv=>?_,hK nx' h3⟩
 ·cases i with
  | zero=>
    simp only [gCZ,oSI] at hq;subst hq;rw [a0i];exact h2
  | succ i=>simp at hq
 ·rw [a0d _ _ (by simpa using hq)]
 ·simp only [List.mem_singleton] at hq;subst hq;rw [a0i] at hv;exact .inl (hver.trans hv)
end
section
def a1w (l:List Int) (i j:Nat):List Int:=(l.drop i).take (j-i)
theorem a2L {l:List Int} {i j:Nat} (h:j<=l.length):(a1w l i j).length=j-i:=by
 simp only [a1w,List.length_take,List.length_drop];omega
theorem b3M {l:List Int} {i j:Nat} (h1:i<=j) (h:j<=l.length):a1w l.reverse (l.length-j) (l.length-i)=(a1w l i j).reverse:=by
 refine a1E 0 (by rw [a2L (by simp),List.length_reverse,a2L h];omega) fun k hk=>?_
 rw [a2L (by simp)] at hk;have h1:k<(l.drop i).length:=by simp;omega
 unfold a1w;simp only [List.getD];rw [List.getElem?_take,if_pos (by omega),List.getElem?_drop,List.getElem?_reverse (by omega),List.getElem?_reverse (by simp;omega),List.getElem?_take,if_pos (by simp;omega),List.getElem?_drop]
 congr 2
 have h2:(List.take (j-i) (List.drop i l)).length=j-i:=by simp;omega
 omega
theorem a6V {l:List Int} {i j k:Nat}:(a1w l i j).drop k=a1w l (i+k) j:=by
 unfold a1w;rw [List.drop_take,List.drop_drop,Nat.sub_sub]
theorem a6R {l:List Int} {i j k:Nat} (h:i+k<=j):(a1w l i j).take k=a1w l i (i+k):=by
 unfold a1w;rw [List.take_take]
 congr 1
 omega
theorem b3Y (l:List Int):a1w l 0 l.length=l:=by
 unfold a1w;simp
def a3k (a b:List Int):List (Int×Int):=a8k (a.length+b.length+1) a b
theorem c1R {a b:List Int} {f:Nat} (h:a.length+b.length<f):a8k f a b=a3k a b:=(a47 (a.length+b.length+1) a b (by omega)).2.2 f h
theorem b0e (a b:List Int):(a3k a b).length=a4D a b:=(a47 (a.length+b.length+1) a b (by omega)).2.1
theorem b8Q {a b:List Int} (h:¬((a58 a b).length≠0/\(a2x a b).length≠0)):a3k a b=prs 0 0 (ahd a b)++prs ((a.length:Int)-bh a b) ((b.length:Int)-bh a b) (bh a b):=by
 unfold a3k;rw [a6W,b9f,if_neg h];rfl
theorem b9a {a b:List Int} (h1:(a58 a b).length≠0) (h2:(a2x a b).length≠0):∃ p q:Nat,cutF (a58 a b) (a2x a b)=some ((p:Int),(q:Int))/\p<=(a58 a b).length/\q<=(a2x a b).length/\0<p+q/\p+q<(a58 a b).length+(a2x a b).length/\
  a3k a b=prs 0 0 (ahd a b)++((shP (ahd a b) (ahd a b) (a3k ((a58 a b).take p) ((a2x a b).take q))++shP (ahd a b+p) (ahd a b+q) (a3k ((a58 a b).drop p) ((a2x a b).drop q)))++prs ((a.length:Int)-bh a b) ((b.length:Int)-bh a b) (bh a b)):=by
 have hb:=b05 (a:=a) (b:=b);have hl:=a9P (a:=a) (b:=b);obtain⟨p,q,e,p1,q1,g1,g2,g3⟩:=b7O h1 h2 (b0n h1 h2).1 (b0n h1 h2).2;refine⟨p,q,e,p1,q1,g1,g2,?_⟩;rw [a3k,a6W,b9f,if_pos ⟨h1,h2⟩,e];simp only [Int.toNat_natCast];rw [c1R (by simp only [List.length_take];omega),c1R (by simp only [List.length_drop];omega)]
end
section
open Go
attribute [local irreducible] AW a0k a1k a0c
def fAV (a b:List Int) (u v z:AV):Nat->AV
 | 0=>sL eI a
 | 1=>sL eI b
 | 2=>sL eI a.reverse
 | 3=>sL eI b.reverse
 | 4=>u
 | 5=>v
 | _=>z
section
variable (a b:List Int) (u v z:AV)
theorem c5I:fAV a b u v z 0=sL eI a:=rfl
theorem c6f:fAV a b u v z 1=sL eI b:=rfl
theorem c9g:fAV a b u v z 2=sL eI a.reverse:=rfl
theorem c8l:fAV a b u v z 3=sL eI b.reverse:=rfl
theorem d0e:fAV a b u v z 4=u:=rfl
theorem c8W:fAV a b u v z 5=v:=rfl
theorem b8P:fAV a b u v z 6=z:=rfl
end
theorem b38 {a b far far':List Int} {k x:Int} (h:c3Q a b far k=some (x,far')) (hf:b08 far):far'.length=far.length/\(a.length<1000000000->b08 far')/\0<=x/\x<=a.length/\k<=x/\x-k<=b.length/\-(b.length:Int)<=k/\k<=a.length:=by
 unfold c3Q at h;split at h
 ·rename_i hc;obtain⟨c1,c2,c3,c4,c5⟩:=hc;have hs:a1s a b (rch b.length far (k-1)) (rch b.length far (k+1)) k=min (min (max (rch b.length far (k-1)+1) (rch b.length far (k+1))) ↑a.length) (↑b.length+k):=rfl;simp only [oSI,pMI] at h;obtain⟨hx,hfar'⟩:=h;generalize a1s a b (rch b.length far (k-1)) (rch b.length far (k+1)) k=s at *
  have hal:=a7d (a.drop s.toNat) (b.drop (s-k).toNat);simp only [List.length_drop] at hal;rw [hx] at hfar';subst hfar';refine⟨by simp,fun hl y hy=>?_,by omega,by omega,by omega,by omega,c3,c4⟩;rcases List.mem_or_eq_of_mem_set hy with hy|rfl
  ·exact hf y hy
  ·omega
 ·cases h
theorem c7f {far:List Int} {n m:Nat} {j:Int} (h:b08 far) (hl:far.length=n+m+3) (h1:-(m:Int)-1<=j) (h2:j<=n+1):-1<=rch m far j/\rch m far j<1000000000:=by
 unfold rch;rw [a1q _ _ (by omega)];exact h _ (List.getElem_mem _)
theorem a8V {v t n:Nat} {l:List Int} (h:n=l.length):a0c (.sl v t 1 n fun i=>eI.enc (l.getD i 0)) (a1a v t eI l):=by
 subst h;exact rlR
theorem b0P (n:Nat):b08 (a2f n):=fun y hy=>by
 have:=(List.mem_replicate.1 hy).2;omega
def b6P:a0O:=fun args hp top nx K=>∃ a b f1 f2 z fv v1 v2 fa ta fb tb p q,args=[.pt 0 fv 0,kI.enc (fa:Nat),kI.enc (ta:Nat),kI.enc (fb:Nat),kI.enc (tb:Nat)]/\
 hp=rws [(0,.box fv 198 7 (fAV a b (.ow 1 v1 f1.length) (.ow 2 v2 f2.length) z)),(1,a1a v1 3 eI f1),(2,a1a v2 3 eI f2)]/\top=3/\
 fa<=ta/\ta<=a.length/\fb<=tb/\tb<=b.length/\a.length<100000000/\b.length<100000000/\a.length+b.length+3<=f1.length/\a.length+b.length+3<=f2.length/\f1.length<1000000000/\f2.length<1000000000/\
 cutF (a1w a fa ta) (a1w b fb tb)=some (p,q)/\
 ∀ g1 g2 hp' top' nx',g1.length=f1.length->g2.length=f2.length->a0c (hp' 0) (.box fv 198 7 (fAV a b (.ow 1 v1 f1.length) (.ow 2 v2 f2.length) z))->a0c (hp' 1) (a1a v1 3 eI g1)->a0c (hp' 2) (a1a v2 3 eI g2)->nx<=nx'->
  K (tu2 (kI.enc p) (kI.enc q)) hp' top' nx'
theorem c3h:a0g Tryz.prog 189 b6P:=by
 refine a0g.mk Tryz.func189 rfl (by decide) Tryz.results189 Tryz.ntmps189 ?_;rintro args hp top nx K ⟨a,b,f1,f2,z,fv,v1,v2,fa,ta,fb,tb,p,q,rfl,rfl,rfl,hfa,hta,hfb,htb,ha,hb,hr1,hr2,hl1,hl2,hcut,hK⟩;have hΓ:GOK Tryz.prog (gam [(220,a1L),(222,a1M),(223,a1u),(221,a1l)]):=(.cons c1E (.cons c2o (.cons b4r (.cons b5n .nil))));refine⟨Nat.le_of_ble_eq_true rfl,?_⟩;refine awL hΓ [200002,200003] rfl ?_;simp only [go_sem,a1L,a1M,a1u,a1l,c5I,c6f,c9g,c8l,d0e,c8W,b8P];refine⟨by omega,by omega,?_⟩;refine AW.drawT hΓ mixed 18 [19] (by decide +kernel) ?_;simp only [go_sem,a1L,a1M,a1u,a1l,c5I,c6f,c9g,c8l,d0e,c8W,b8P];have lA:(a1w a fa ta).length=ta-fa:=a2L hta;have lB:(a1w b fb tb).length=tb-fb:=a2L htb;refine⟨by omega,by omega,b1U (a:=a1w a fa ta) (b:=a1w b fb tb) (far:=f1) (b7n eI a (by omega)) (b7n eI b (by omega)) rfl ?_ (by decide) (by omega) (by omega) (by omega) (by omega) fun n1 hn1=>?_⟩
 ·exact rlR
 simp only [go_sem,a1L,a1M,a1u,a1l,a1y,wAV];refine AW.drawT hΓ mixed 42 [43] (by decide +kernel) ?_;simp only [go_sem,a1L,a1M,a1u,a1l,c5I,c6f,c9g,c8l,d0e,c8W,b8P];have hAe:(ta:Int)-fa=((a1w a fa ta).length:Int):=by omega
 have hBe:(tb:Int)-fb=((a1w b fb tb).length:Int):=by omega
 have hAr:=b3M hfa hta;have hBr:=b3M hfb htb;have t1:((a.length:Int)-ta).toNat=a.length-ta:=by omega
 have t2:((a.length:Int)-fa).toNat=a.length-fa:=by omega
 have t3:((b.length:Int)-tb).toNat=b.length-tb:=by omega
 have t4:((b.length:Int)-fb).toNat=b.length-fb:=by omega
 have l1:a.reverse.length=a.length:=List.length_reverse;have l2:b.reverse.length=b.length:=List.length_reverse;rw [t1,t2,t3,t4];refine⟨by omega,by omega,by omega,by omega,by omega,by omega,b1U (a:=(a1w a fa ta).reverse) (b:=(a1w b fb tb).reverse) (far:=f2) ?_ ?_ rfl ?_ (by decide) (by simp;omega) (by simp;omega) (by simp;omega) (by omega) fun n2 hn2=>?_⟩
 ·rw [<-hAr];exact b7n eI a.reverse (by omega)
 ·rw [<-hBr];exact b7n eI b.reverse (by omega)
 ·exact rlR
 generalize a1w a fa ta=A at *
 generalize a1w b fb tb=B at *
 simp only [go_sem,a1L,a1M,a1u,a1l,a1y,wAV,hAe,hBe,a1B];have hod:decide (¬((A.length:Int)-B.length).tmod 2=0)=b1f A.length B.length:=rfl;rw [hod];refine⟨by omega,?_⟩;obtain⟨N,hN⟩:∃ N,A.length+B.length+3=N:=⟨_,rfl⟩;unfold cutF at hcut;rw [hN] at hcut ⊢
 refine AW.round (α:={ x:Nat×List Int×List Int×Nat // c71 A B (A.length+B.length+1-x.1) x.1 x.2.1 x.2.2.1=some (p,q)/\x.2.1.length=N/\x.2.2.1.length=N/\b08 x.2.1/\b08 x.2.2.1/\n2<=x.2.2.2 })
  (fun x=>⟨[(12,.val (.int .i64 A.length)),(13,.val (.int .i64 B.length)),(14,.pt 3 nx 0),(15,.pt 4 n1 0),(16,.val (.bool (b1f A.length B.length))),(17,.val (.int .i64 x.1.1))],
   [(0,.box fv 198 7 (fAV a b (.ow 1 v1 f1.length) (.ow 2 v2 f2.length) z)),(1,a1a v1 3 eI (x.1.2.1++f1.drop N)),(2,a1a v2 3 eI (x.1.2.2.1++f2.drop N)),
    (3,.box nx 265 3 fun j=>if j=0 then sL eI A else if j=1 then sL eI B else .ow 1 v1 N),(4,.box n1 265 3 fun j=>if j=0 then sL eI A.reverse else if j=1 then sL eI B.reverse else .ow 2 v2 N)],165,5,x.1.2.2.2,[]⟩)
  (fun x=>A.length+B.length+1-x.1.1) ⟨(0,a2f N,a2f N,n2),hcut,by simp [a2f],by simp [a2f],b0P N,b0P N,nLR _⟩ ?_ ?_
 ·simp only [go_sem,a1L,a1M,a1u,a1l];exact⟨rlR,rlR,rlR,a88,a88⟩
 ·rintro⟨⟨d,F1,F2,n3⟩,hmid,hF1,hF2,ho1,ho2,hn3⟩;simp only at hmid hF1 hF2 ho1 ho2 hn3;refine awZ hΓ rfl ?_;simp only [go_sem,a1L,a1M,a1u,a1l,Int.toNat_natCast];have hl:=a5d d B.length;have hh:=a48 d A.length
  have hf:∃ f,A.length+B.length+1-d=f+1:=by
   cases h0:A.length+B.length+1-d with
   | zero=>rw [h0] at hmid;cases hmid
   | succ f=>exact⟨f,rfl⟩
  obtain⟨f,hf⟩:=hf;rw [hf,c71,hN] at hmid;generalize hR:a5t A B (b1f A.length B.length) F2 (a27 d A.length) N (a9r d B.length) F1=R at hmid;have hRn:R≠none:=by rintro rfl;cases hmid
  refine⟨⟨⟨by omega,by omega⟩,⟨by omega,by omega⟩,by omega,by omega⟩,?_⟩;have gF2:=a9W F2 (f2.drop N);have pF2:=b2B F2 (f2.drop N);rw [hF2] at gF2 pF2
  refine AW.round (α:={ x:Nat×Int×List Int×Nat // a5t A B (b1f A.length B.length) F2 (a27 d A.length) x.1 x.2.1 x.2.2.1=R/\-(B.length:Int)<=x.2.1/\x.2.2.1.length=N/\b08 x.2.2.1/\n2<=x.2.2.2 })
   (fun x=>⟨[(12,.val (.int .i64 A.length)),(13,.val (.int .i64 B.length)),(14,.pt 3 nx 0),(15,.pt 4 n1 0),(16,.val (.bool (b1f A.length B.length))),(17,.val (.int .i64 d)),(18,.val (.int .i64 (a9r d B.length))),(19,.val (.int .i64 (a27 d A.length))),(20,.val (.int .i64 x.1.2.1))],
    [(0,.box fv 198 7 (fAV a b (.ow 1 v1 f1.length) (.ow 2 v2 f2.length) z)),(1,a1a v1 3 eI (x.1.2.2.1++f1.drop N)),(2,a1a v2 3 eI (F2++f2.drop N)),
     (3,.box nx 265 3 fun j=>if j=0 then sL eI A else if j=1 then sL eI B else .ow 1 v1 N),(4,.box n1 265 3 fun j=>if j=0 then sL eI A.reverse else if j=1 then sL eI B.reverse else .ow 2 v2 N)],165,5,x.1.2.2.2,[]⟩)
   (fun x=>x.1.1) ⟨(N,a9r d B.length,F1,n3),hR,hl.2.1,hF1,ho1,hn3⟩ ?_ ?_
  ·simp only [go_sem,a1L,a1M,a1u,a1l];exact⟨rlR,rlR,rlR,rlR,rlR⟩
  ·rintro⟨⟨g,k,F,n4⟩,hs,hk0,hF,hoF,hn4⟩;simp only at hs hk0 hF hoF hn4;by_cases hkh:k<=a27 d A.length
   ·cases g with
    | zero=>exact absurd hs.symm hRn
    | succ g=>
      rw [a5t,if_pos hkh] at hs;cases hadv:c3Q A B F k with
      | none=>rw [hadv] at hs;exact absurd hs.symm hRn
      | some xf=>
        obtain⟨x,F'⟩:=xf;rw [hadv] at hs;simp only at hs;have af:=b38 hadv hoF;have hrc:=c7f (far:=F2) (n:=A.length) (m:=B.length) (j:=A.length-B.length-k) ho2 (by omega) (by omega) (by omega);refine awL hΓ [11] rfl ?_;simp only [go_sem,a1L,a1M,a1u,a1l,hkh];refine b1r (far:=F) (far':=F') (x:=x) (rest:=f1.drop N) (p:=1) (by rw [hF];exact avR) (a8V (by simp)) (by decide) hoF (by omega) (by omega) hadv fun n5 hn5=>?_
        simp only [go_sem,a1L,a1M,a1u,a1l];refine awN hΓ rfl ?_;simp only [go_sem,a1L,a1M,a1u,a1l,c2c,a5T,gF2,a1B,hF2];have hmeet:b1f A.length B.length=true/\(A.length:Int)<=x+rch B.length F2 (A.length-B.length-k)\/¬(b1f A.length B.length=true/\(A.length:Int)<=x+rch B.length F2 (A.length-B.length-k)):=Classical.em _;refine⟨fun _=>by omega,fun _=>by omega,fun _=>⟨by omega,c3Y (a:=A.reverse) (b:=B.reverse) (f:=F2)  avR   avR  pF2 (a5T _ _) (a5T _ _) gF2,by omega,by omega,by omega,by omega⟩,fun _=>by omega,fun hm=>⟨by omega,?_⟩,fun hm=>⟨by omega,⟨(g,k+2,F',n5),?_,by dsimp only;omega,by dsimp only;omega,af.2.1 (by omega),by dsimp only;omega⟩,⟨nLR _,rfl,rlR,rlR,rlR,rlR,rlR⟩,Nat.lt_succ_self _⟩⟩
        ·rw [if_pos hm] at hs;subst hs;simp only [oSI,pMI] at hmid;obtain⟨e1,e2⟩:=hmid;rw [e2,e1];exact hK (F'++f1.drop N) (F2++f2.drop N) _ _ _ (by simp;omega) (by simp;omega)  rlR  (a8V (by simp)) (a8V (by simp;omega)) (by omega)
        ·rw [if_neg (fun h=>hm h.1 h.2)] at hs;exact hs
   ·cases g with
    | zero=>exact absurd hs.symm hRn
    | succ g=>
      rw [a5t,if_neg hkh] at hs;subst hs;simp only at hmid;refine awZ hΓ rfl ?_;simp only [go_sem,a1L,a1M,a1u,a1l,hkh];generalize hR2:a5t A.reverse B.reverse (!b1f A.length B.length) F (a27 d A.length) N (a9r d B.length) F2=R2 at hmid;have hRn2:R2≠none:=by rintro rfl;cases hmid
      have gF:=a9W F (f1.drop N);have pF:=b2B F (f1.drop N);rw [hF] at gF pF
      refine AW.round (α:={ x:Nat×Int×List Int×Nat // a5t A.reverse B.reverse (!b1f A.length B.length) F (a27 d A.length) x.1 x.2.1 x.2.2.1=R2/\-(B.length:Int)<=x.2.1/\x.2.2.1.length=N/\b08 x.2.2.1/\n2<=x.2.2.2 })
       (fun x=>⟨[(12,.val (.int .i64 A.length)),(13,.val (.int .i64 B.length)),(14,.pt 3 nx 0),(15,.pt 4 n1 0),(16,.val (.bool (b1f A.length B.length))),(17,.val (.int .i64 d)),(19,.val (.int .i64 (a27 d A.length))),(22,.val (.int .i64 x.1.2.1))],
        [(0,.box fv 198 7 (fAV a b (.ow 1 v1 f1.length) (.ow 2 v2 f2.length) z)),(1,a1a v1 3 eI (F++f1.drop N)),(2,a1a v2 3 eI (x.1.2.2.1++f2.drop N)),
         (3,.box nx 265 3 fun j=>if j=0 then sL eI A else if j=1 then sL eI B else .ow 1 v1 N),(4,.box n1 265 3 fun j=>if j=0 then sL eI A.reverse else if j=1 then sL eI B.reverse else .ow 2 v2 N)],165,5,x.1.2.2.2,[]⟩)
       (fun x=>x.1.1) ⟨(N,a9r d B.length,F2,n4),hR2,hl.2.1,hF2,ho2,hn4⟩ ?_ ?_
      ·simp only [go_sem,a1L,a1M,a1u,a1l];exact⟨rlR,rlR,rlR,rlR,rlR⟩
      ·rintro⟨⟨h,k2,G,n5⟩,hs,hk0,hG,hoG,hn5⟩;simp only at hs hk0 hG hoG hn5;by_cases hkh:k2<=a27 d A.length
       ·cases h with
        | zero=>exact absurd hs.symm hRn2
        | succ h=>
          rw [a5t,if_pos hkh] at hs;cases hadv:c3Q A.reverse B.reverse G k2 with
          | none=>rw [hadv] at hs;exact absurd hs.symm hRn2
          | some xf=>
            obtain⟨x,G'⟩:=xf;rw [hadv] at hs;simp only [a1B] at hs;have af:=b38 hadv hoG;simp only [a1B] at af;have hrc:=c7f (far:=F) (n:=A.length) (m:=B.length) (j:=A.length-B.length-k2) hoF (by omega) (by omega) (by omega);refine awL hΓ [17] rfl ?_;simp only [go_sem,a1L,a1M,a1u,a1l,hkh];refine b1r (far:=G) (far':=G') (x:=x) (rest:=f2.drop N) (p:=2) (by rw [hG];exact avR) (a8V (by simp)) (by decide) hoG (by simp;omega) (by simp;omega) hadv fun n6 hn6=>?_
            simp only [go_sem,a1L,a1M,a1u,a1l];refine awN hΓ rfl ?_;simp only [go_sem,a1L,a1M,a1u,a1l,c2c,a5T,gF,a1B,hF];refine⟨fun _=>by omega,fun _=>by omega,fun _=>⟨by omega,c3Y (a:=A) (b:=B) (f:=F)  avR   avR  pF (a5T _ _) (a5T _ _) gF,by omega,by omega,by omega,by omega⟩,fun _=>by omega,fun hm=>?_,fun hm=>⟨by omega,⟨(h,k2+2,G',n6),?_,by dsimp only;omega,by dsimp only;omega,af.2.1 (by omega),by dsimp only;omega⟩,⟨nLR _,rfl,rlR,rlR,rlR,rlR,rlR⟩,Nat.lt_succ_self _⟩⟩
            ·rw [if_pos ⟨by simp [hm.1],hm.2⟩] at hs;subst hs;simp only [oSI,pMI] at hmid;obtain⟨e1,e2⟩:=hmid;refine⟨by omega,by omega,by omega,?_⟩;rw [e2,e1];exact hK (F++f1.drop N) (G'++f2.drop N) _ _ _ (by simp;omega) (by simp;omega)  rlR  (a8V (by simp;omega)) (a8V (by simp)) (by omega)
            ·rw [if_neg (fun hh=>hm (by simpa using hh.1) hh.2)] at hs;exact hs
       ·cases h with
        | zero=>exact absurd hs.symm hRn2
        | succ h=>
          rw [a5t,if_neg hkh] at hs;subst hs;simp only at hmid;refine awZ hΓ rfl ?_;simp (maxSteps:=2000000) only [go_sem,a1L,a1M,a1u,a1l,hkh];refine⟨by omega,⟨(d+1,F,G,n5),?_,hF,hG,hoF,hoG,hn5⟩,⟨nLR _,rfl,rlR,rlR,rlR,rlR,rlR⟩,by dsimp only;omega⟩;dsimp only;rw [show A.length+B.length+1-(d+1)=f by omega];exact hmid
end
section
open Go
attribute [local irreducible] AW a0k a1k a0c
def b41:a0O:=a1I b6P
theorem c4u:a0g Tryz.prog 189 b41:=c3h.frame
theorem c7r {a b:List Int} {u v z u' v' z':AV} (h1:a0k u u') (h2:a0k v v') (h3:a0k z z'):∀ j,a0k (fAV a b u v z j) (fAV a b u' v' z' j)
 | 0=>avR
 | 1=>avR
 | 2=>avR
 | 3=>avR
 | 4=>h1
 | 5=>h2
 | _+6=>h3
def d2W:a0O:=fun args hp top nx K=>∃ a b u v l fv pv i j n,args=[.pt 0 fv 0,kI.enc (i:Nat),kI.enc (j:Nat),kI.enc (n:Nat)]/\
 hp=rws [(0,.box fv 198 7 (fAV a b u v (.ow 1 pv l.length))),(1,a1a pv 129 (eP eI eI) l)]/\top=2/\pv<nx/\
 i<1000000000/\j<1000000000/\n<1000000000/\l.length+n<1000000000/\
 ∀ pv' hp' top' nx',(pv'=pv\/nx<=pv')->pv'<nx'->a0c (hp' 0) (.box fv 198 7 (fAV a b u v (.ow 1 pv' (l++prs i j n).length)))->a0c (hp' 1) (a1a pv' 129 (eP eI eI) (l++prs i j n))->nx<=nx'->
  K (.val (.tuple #[])) hp' top' nx'
theorem d2Z:a0g Tryz.prog 188 d2W:=by
 refine a0g.mk Tryz.func188 rfl (by decide) Tryz.results188 Tryz.ntmps188 ?_;rintro args hp top nx K ⟨a,b,u,v,l,fv,pv,i,j,n,rfl,rfl,rfl,hpv,hi,hj,hn,hl,hK⟩;have hΓ:GOK Tryz.prog (gam []):=GOK.nil;refine⟨Nat.le_of_ble_eq_true rfl,?_⟩;refine awZ hΓ rfl ?_;simp only [go_sem,b8P]
 refine AW.round (α:={ x:Nat×Nat×Nat // x.1<=n/\(x.2.1=pv\/nx<=x.2.1)/\nx<=x.2.2/\x.2.1<x.2.2 })
  (fun x=>⟨[(0,.pt 0 fv 0),(1,.val (.int .i64 i)),(2,.val (.int .i64 j)),(9,.val (.int .i64 n)),(10,.val (.int .i64 x.1.1))],
   [(0,.box fv 198 7 (fAV a b u v (.ow 1 x.1.2.1 (l++prs i j x.1.1).length))),(1,a1a x.1.2.1 129 (eP eI eI) (l++prs i j x.1.1))],30,2,x.1.2.2,[]⟩) (fun x=>n-x.1.1) ⟨(0,pv,nx),by simp,.inl rfl,nLR _,hpv⟩ ?_ ?_
 ·simp only [go_sem];exact⟨a0c.of_eq (by simp [prs]),a0c.of_eq (by simp [prs])⟩
 ·rintro⟨⟨k,w,m⟩,hk,hw,hm,hwm⟩;simp only at hk hw hm hwm;refine awN hΓ rfl ?_;simp only [go_sem,b8P,a61]
  have hps:prs i j (k+1)=prs i j k++[((i:Int)+(k:Int),(j:Int)+(k:Int))]:=by
   unfold prs;rw [List.range_succ,List.map_append];rfl
  have hpl:(prs i j k).length=k:=a7x _ _ _;refine⟨fun hlt=>⟨by omega,by omega,by omega,by omega,⟨(k+1,m,m+1),by dsimp only;omega,.inr hm,by dsimp only;omega,Nat.lt_succ_self _⟩,⟨nLR _,rfl,?_,?_⟩,by dsimp only;omega⟩,fun hge=>?_⟩
  ·refine a0c.box fun j' hj'=>?_
   match j',hj' with
   | 0,_=>exact avR
   | 1,_=>exact avR
   | 2,_=>exact avR
   | 3,_=>exact avR
   | 4,_=>exact avR
   | 5,_=>exact avR
   | 6,_=>exact a0k.of_eq (by dsimp only;rw [hps];simp [stC,fAV,Nat.add_assoc])
  ·refine a1F (E:=eP eI eI) (l:=l++prs i j k) (x:=((i:Int)+(k:Int),(j:Int)+(k:Int))) rfl (by dsimp only;rw [hps,List.append_assoc]) (by simp) (by simp) (by dsimp only;rw [hps];simp) fun j' hj'=>?_
   match j',hj' with
   | 0,_=>exact avR
   | 1,_=>exact avR
  ·obtain rfl:k=n:=by omega
   exact hK w _ _ _ hw hwm (a0c.of_eq (by rw [lAp];rfl)) (d8V rfl rfl (by simp)) hm
def d6n:a0O:=a1I d2W
theorem d6V:a0g Tryz.prog 188 d6n:=d2Z.frame
theorem c0V {a b:List Int} {u v:AV} {l:List (Int×Int)} {fv pv i j n:Nat} {x y z:Int} {hp:Nat->Row} {top nx:Nat} {K:AV->(Nat->Row)->Nat->Nat->Prop} (hx:x=(i:Nat)) (hy:y=(j:Nat)) (hz:z=(n:Nat))
  (h0:a0c (hp 0) (.box fv 198 7 (fAV a b u v (.ow 3 pv l.length)))) (h3:a0c (hp 3) (a1a pv 129 (eP eI eI) l)) (ht:3<top) (hpv:pv<nx)
  (hi:i<1000000000) (hj:j<1000000000) (hn:n<1000000000) (hl:l.length+n<1000000000)
  (hK:∀ pv' nx',(pv'=pv\/nx<=pv')->pv'<nx'->nx<=nx'->K (.val (.tuple #[])) (a0X (a0X hp 0 (.box fv 198 7 (fAV a b u v (.ow 3 pv' (l++prs i j n).length)))) 3 (a1a pv' 129 (eP eI eI) (l++prs i j n))) top nx') :
  d6n [.pt 0 fv 0,.val (.int .i64 x),.val (.int .i64 y),.val (.int .i64 z)] hp top nx K:=by
 subst hx hy hz;have v0:=h0.vers;have v3:=h3.vers
 refine⟨[0,3],[.pt 0 fv 0,kI.enc (i:Nat),kI.enc (j:Nat),kI.enc (n:Nat)],rws [(0,.box fv 198 7 (fAV a b u v (.ow 1 pv l.length))),(1,a1a pv 129 (eP eI eI) l)],
  by decide,fun p hp=>?_,.cons  avR  (.cons  avR  (.cons  avR  (.cons  avR  .nil))),fun k q hk=>?_,fun k hk=>a13 (top:=2) (by simp) k (by simpa using hk),a,b,u,v,l,fv,pv,i,j,n,rfl,rfl,rfl,hpv,hi,hj,hn,hl,fun pv' hp' top' nx' e1 e2 e3 e4 e5=>?_⟩
 ·rcases List.mem_cons.1 hp with rfl|hp
  ·omega
  ·rw [List.mem_singleton.1 hp];exact ht
 ·match k,hk with
  | 0,hk=>
    obtain rfl:0=q:=oJI hk;exact h0.trans (a0c.box fun j' hj'=>c7r  avR   avR  a0k.ow j')
  | 1,hk=>
    obtain rfl:3=q:=oJI hk;exact h3
 ·refine⟨_,_,avR,fun k q hk=>?_,fun q hq=>?_,fun q hq w hw=>?_,hK pv' nx' e1 e2 e5⟩
  ·match k,hk with
   | 0,hk=>
     obtain rfl:0=q:=oJI hk;exact e3.trans (a0c.box fun j' hj'=>c7r  avR   avR  a0k.ow j')
   | 1,hk=>
     obtain rfl:3=q:=oJI hk;exact e4
  ·simp only [List.mem_cons,List.mem_nil_iff,or_false,not_or] at hq;rw [a0d _ _ hq.2,a0d _ _ hq.1]
  ·rcases List.mem_cons.1 hq with rfl|hq
   ·exact .inl (v0.symm.trans hw)
   ·obtain rfl:=List.mem_singleton.1 hq;obtain rfl:pv'=w:=oJI hw;rcases e1 with rfl|e1
    ·exact .inl v3.symm
    ·exact .inr e1
theorem c0Q {a b f1 f2:List Int} {z:AV} {fv v1 v2 fa ta fb tb:Nat} {p q x y r s:Int} {hp:Nat->Row} {top nx:Nat} {K:AV->(Nat->Row)->Nat->Nat->Prop} (hx:x=(fa:Nat)) (hy:y=(ta:Nat)) (hr:r=(fb:Nat)) (hs:s=(tb:Nat))
  (h0:a0c (hp 0) (.box fv 198 7 (fAV a b (.ow 1 v1 f1.length) (.ow 2 v2 f2.length) z))) (h1:a0c (hp 1) (a1a v1 3 eI f1)) (h2:a0c (hp 2) (a1a v2 3 eI f2)) (ht:2<top)
  (hfa:fa<=ta) (hta:ta<=a.length) (hfb:fb<=tb) (htb:tb<=b.length) (ha:a.length<100000000) (hb:b.length<100000000) (hr1:a.length+b.length+3<=f1.length) (hr2:a.length+b.length+3<=f2.length) (hl1:f1.length<1000000000) (hl2:f2.length<1000000000)
  (hcut:cutF (a1w a fa ta) (a1w b fb tb)=some (p,q))
  (hK:∀ g1 g2 nx',g1.length=f1.length->g2.length=f2.length->nx<=nx'->
   K (tu2 (kI.enc p) (kI.enc q)) (a0X (a0X (a0X hp 0 (.box fv 198 7 (fAV a b (.ow 1 v1 f1.length) (.ow 2 v2 f2.length) z))) 1 (a1a v1 3 eI g1)) 2 (a1a v2 3 eI g2)) top nx') :
  b41 [.pt 0 fv 0,.val (.int .i64 x),.val (.int .i64 y),.val (.int .i64 r),.val (.int .i64 s)] hp top nx K:=by
 subst hx hy hr hs;have w0:=h0.vers;have w1:=h1.vers;have w2:=h2.vers
 refine⟨[0,1,2],[.pt 0 fv 0,kI.enc (fa:Nat),kI.enc (ta:Nat),kI.enc (fb:Nat),kI.enc (tb:Nat)],rws [(0,.box fv 198 7 (fAV a b (.ow 1 v1 f1.length) (.ow 2 v2 f2.length) z)),(1,a1a v1 3 eI f1),(2,a1a v2 3 eI f2)],
  by decide,fun p hp=>?_,.cons  avR  (.cons  avR  (.cons  avR  (.cons  avR  (.cons  avR  .nil)))),fun k q hk=>?_,fun k hk=>a13 (top:=3) (by simp) k (by simpa using hk),a,b,f1,f2,z,fv,v1,v2,fa,ta,fb,tb,p,q,rfl,rfl,rfl,hfa,hta,hfb,htb,ha,hb,hr1,hr2,hl1,hl2,hcut,fun g1 g2 hp' top' nx' e1 e2 e3 e4 e5 e6=>?_⟩
 ·simp only [List.mem_cons,List.mem_nil_iff,or_false] at hp;omega
 ·match k,hk with
  | 0,hk=>obtain rfl:0=q:=oJI hk;exact h0
  | 1,hk=>obtain rfl:1=q:=oJI hk;exact h1
  | 2,hk=>obtain rfl:2=q:=oJI hk;exact h2
 ·refine⟨_,_,avR,fun k q hk=>?_,fun q hq=>?_,fun q hq w hw=>?_,hK g1 g2 nx' e1 e2 e6⟩
  ·match k,hk with
   | 0,hk=>obtain rfl:0=q:=oJI hk;exact e3
   | 1,hk=>obtain rfl:1=q:=oJI hk;exact e4
   | 2,hk=>obtain rfl:2=q:=oJI hk;exact e5
  ·simp only [List.mem_cons,List.mem_nil_iff,or_false,not_or] at hq;rw [a0d _ _ hq.2.2,a0d _ _ hq.2.1,a0d _ _ hq.1]
  ·simp only [List.mem_cons,List.mem_nil_iff,or_false] at hq;rcases hq with rfl|rfl|rfl
   ·exact .inl (w0.symm.trans hw)
   ·exact .inl (w1.symm.trans hw)
   ·exact .inl (w2.symm.trans hw)
end
section
open Go
attribute [local irreducible] AW a0k a1k a0c
def a3S (a b:List Int) (fv v1 v2 pv:Nat) (g1 g2:List Int) (l:List (Int×Int)):List (Nat×Row):=
 [(0,.box fv 198 7 (fAV a b (.ow 1 v1 g1.length) (.ow 2 v2 g2.length) (.ow 3 pv l.length))),(1,a1a v1 3 eI g1),(2,a1a v2 3 eI g2),(3,a1a pv 129 (eP eI eI) l)]
def d2y (N:Nat):a0O:=fun args hp top nx K=>∃ a b f1 f2 l fv v1 v2 pv fa ta fb tb,args=[.pt 0 fv 0,kI.enc (fa:Nat),kI.enc (ta:Nat),kI.enc (fb:Nat),kI.enc (tb:Nat)]/\
 hp=rws (a3S a b fv v1 v2 pv f1 f2 l)/\top=4/\pv<nx/\
 fa<=ta/\ta<=a.length/\fb<=tb/\tb<=b.length/\a.length<100000000/\b.length<100000000/\a.length+b.length+3<=f1.length/\a.length+b.length+3<=f2.length/\f1.length<1000000000/\f2.length<1000000000/\
 l.length+(ta-fa)<500000000/\(ta-fa)+(tb-fb)<N/\
 ∀ g1 g2 pv' hp' top' nx',g1.length=f1.length->g2.length=f2.length->(pv'=pv\/nx<=pv')->pv'<nx'->(∀ i,i<4->a0c (hp' i) (rws (a3S a b fv v1 v2 pv' g1 g2 (l++shP fa fb (a3k (a1w a fa ta) (a1w b fb tb)))) i))->nx<=nx'->
  K (.val (.tuple #[])) hp' top' nx'
def b4o (N:Nat):a0O:=a1I (d2y N)
theorem c15 {N:Nat} {a b f1 f2:List Int} {l:List (Int×Int)} {fv v1 v2 pv fa ta fb tb:Nat} {x y r s:Int} {hp:Nat->Row} {top nx:Nat} {K:AV->(Nat->Row)->Nat->Nat->Prop} (hx:x=(fa:Nat)) (hy:y=(ta:Nat)) (hr:r=(fb:Nat)) (hs:s=(tb:Nat))
  (h0:∀ i,i<4->a0c (hp i) (rws (a3S a b fv v1 v2 pv f1 f2 l) i)) (ht:3<top) (hpv:pv<nx)
  (hfa:fa<=ta) (hta:ta<=a.length) (hfb:fb<=tb) (htb:tb<=b.length) (ha:a.length<100000000) (hb:b.length<100000000) (hr1:a.length+b.length+3<=f1.length) (hr2:a.length+b.length+3<=f2.length) (hl1:f1.length<1000000000) (hl2:f2.length<1000000000)
  (hl:l.length+(ta-fa)<500000000) (hN:(ta-fa)+(tb-fb)<N)
  (hK:∀ g1 g2 pv' hp' nx',g1.length=f1.length->g2.length=f2.length->(pv'=pv\/nx<=pv')->pv'<nx'->nx<=nx'->(∀ i,i<4->hp' i=rws (a3S a b fv v1 v2 pv' g1 g2 (l++shP fa fb (a3k (a1w a fa ta) (a1w b fb tb)))) i)->(∀ i,4<=i->hp' i=hp i)->K (.val (.tuple #[])) hp' top nx') :
  b4o N [.pt 0 fv 0,.val (.int .i64 x),.val (.int .i64 y),.val (.int .i64 r),.val (.int .i64 s)] hp top nx K:=by
 subst hx hy hr hs;have w:=fun i hi=>(h0 i hi).vers
 have lt4:∀ (k q:Nat),[0,1,2,3][k]?=some q->k=q/\k<4:=fun k q hk=>by
  match k,hk with
  | 0,hk=>exact⟨oJI hk,by decide⟩
  | 1,hk=>exact⟨oJI hk,by decide⟩
  | 2,hk=>exact⟨oJI hk,by decide⟩
  | 3,hk=>exact⟨oJI hk,by decide⟩
 have mem4:∀ q,q∈[0,1,2,3]↔q<4:=fun q=>by simp;omega
 refine⟨[0,1,2,3],[.pt 0 fv 0,kI.enc (fa:Nat),kI.enc (ta:Nat),kI.enc (fb:Nat),kI.enc (tb:Nat)],rws (a3S a b fv v1 v2 pv f1 f2 l),
  by decide,fun p hp=>?_,.cons  avR  (.cons  avR  (.cons  avR  (.cons  avR  (.cons  avR  .nil)))),fun k q hk=>?_,fun k hk=>a13 (top:=4) (by simp [a3S]) k (by simpa using hk),a,b,f1,f2,l,fv,v1,v2,pv,fa,ta,fb,tb,rfl,rfl,rfl,hpv,hfa,hta,hfb,htb,ha,hb,hr1,hr2,hl1,hl2,hl,hN,fun g1 g2 pv' hp' top' nx' e1 e2 e3 e4 e5 e6=>?_⟩
 ·have:=(mem4 p).1 hp;omega
 ·obtain⟨rfl,h⟩:=lt4 k q hk;exact h0 k h
 ·refine⟨_,fun i=>if i<4 then rws (a3S a b fv v1 v2 pv' g1 g2 (l++shP fa fb (a3k (a1w a fa ta) (a1w b fb tb)))) i else hp i,avR,fun k q hk=>?_,fun q hq=>?_,fun q hq u hu=>?_,hK g1 g2 pv' _ nx' e1 e2 e3 e4 e6 (fun i hi=>if_pos hi) (fun i hi=>if_neg (by omega))⟩
  ·obtain⟨rfl,h⟩:=lt4 k q hk;simp only [if_pos h];exact e5 k h
  ·rw [mem4] at hq;exact if_neg hq
  ·rw [mem4] at hq;simp only [if_pos hq] at hu;have:=w q hq
   match q,hq with
   | 0,_=>exact .inl (this.symm.trans hu)
   | 1,_=>exact .inl (this.symm.trans hu)
   | 2,_=>exact .inl (this.symm.trans hu)
   | 3,_=>
     obtain rfl:pv'=u:=oJI hu;rcases e3 with rfl|e3
     ·exact .inl this.symm
     ·exact .inr e3
theorem AW.cutF {P:Program} {x:Code} {Q:Exit->AS->Prop} {st:AS} (fr:List (Nat×AV)) (a b:List Int) (fv v1 v2 pv:Nat) (g1 g2:List Int) (l:List (Int×Int)) (hr:∀ i,i<4->a0c (st.hp i) (rws (a3S a b fv v1 v2 pv g1 g2 l) i)) (nx:Nat) (hz:st.sz=91) (hd:st.df=[]) (hnx:st.nx=nx)
  (hfr:∀ p∈fr,a0k (st.fr p.1) p.2) (k:AW P x Q (Sh.st ⟨fr,a3S a b fv v1 v2 pv g1 g2 l,91,4,nx,[]⟩)):AW P x Q st:=by
 refine AW.cut ⟨fr,a3S a b fv v1 v2 pv g1 g2 l,91,4,nx,[]⟩ ⟨⟨⟨hz.symm,hd.symm⟩,Nat.le_of_eq hnx⟩,hfr,?_,?_⟩ k
 ·rintro p hp;simp only [a3S,List.mem_cons,List.mem_nil_iff,or_false] at hp;rcases hp with rfl|rfl|rfl|rfl
  ·exact hr 0 (by decide)
  ·exact hr 1 (by decide)
  ·exact hr 2 (by decide)
  ·exact hr 3 (by decide)
 ·rintro p hp;simp only [a3S,List.mem_cons,List.mem_nil_iff,or_false] at hp;rcases hp with rfl|rfl|rfl|rfl<;>simp
theorem d4A {p:Nat->Prop} (h0:p 0) (h1:p 1) (h2:p 2) (h3:p 3):∀ i,i<4->p i
 | 0,_=>h0
 | 1,_=>h1
 | 2,_=>h2
 | 3,_=>h3
 | i+4,h=>by omega
theorem c9U:a0g Tryz.prog 139 (b4o 0):=by
 refine a0g.frame ?_;refine a0g.mk Tryz.func139 rfl (by decide) Tryz.results139 Tryz.ntmps139 ?_;rintro args hp top nx K ⟨_,_,_,_,_,_,_,_,_,_,_,_,_,_,_,_,_,_,_,_,_,_,_,_,_,_,_,_,h,_⟩;omega
theorem c9M (N:Nat) (ih:a0g Tryz.prog 139 (b4o N)):a0g Tryz.prog 139 (b4o (N+1)):=by
 refine a0g.frame ?_;refine a0g.mk Tryz.func139 rfl (by decide) Tryz.results139 Tryz.ntmps139 ?_;rintro args hp top nx K ⟨a,b,f1,f2,l,fv,v1,v2,pv,fa,ta,fb,tb,rfl,rfl,rfl,hpv,hfa,hta,hfb,htb,ha,hb,hr1,hr2,hl1,hl2,hl,hN,hK⟩;have hΓ:GOK Tryz.prog (gam [(187,c3F),(188,d6n),(189,b41),(139,(Con.meth (b4o N)))]):=.cons c9H (.cons d6V (.cons c4u (.cons ih .nil)));refine⟨Nat.le_of_ble_eq_true rfl,?_⟩;have pA:(List.range (ta-fa)).map (fun i=>a.getD (fa+i) 0)=a1w a fa ta:=by rw [a8E a 0 (by omega)];rfl
 have pB:(List.range (tb-fb)).map (fun i=>b.getD (fb+i) 0)=a1w b fb tb:=by rw [a8E b 0 (by omega)];rfl
 have lA:(a1w a fa ta).length=ta-fa:=a2L hta;have lB:(a1w b fb tb).length=tb-fb:=a2L htb;obtain⟨A,hA⟩:∃ A,a1w a fa ta=A:=⟨_,rfl⟩;obtain⟨B,hB⟩:∃ B,a1w b fb tb=B:=⟨_,rfl⟩;have hbh:bhd (A.drop (ahd A B)) (B.drop (ahd A B))=bh A B:=rfl;rw [hA] at pA lA;rw [hB] at pB lB;refine awL hΓ [1,99999] rfl ?_;simp only [go_sem,a3S,c5I,c6f,c3F,pA,pB,hbh];have hbl:=b05 (a:=A) (b:=B);have hcl:=a9P (a:=A) (b:=B);obtain⟨h,hh⟩:∃ h,ahd A B=h:=⟨_,rfl⟩;obtain⟨e,he⟩:∃ e,bh A B=e:=⟨_,rfl⟩;rw [hh,he] at hbl hcl ⊢;refine⟨by omega,by omega,by omega,c0V (l:=l) (pv:=pv) (i:=fa) (j:=fb) (n:=h) rfl rfl rfl  rlR   rlR  (by decide) hpv (by omega) (by omega) (by omega) (by omega) fun p1 n1 hp1 hpn1 hn1=>?_⟩;simp only [a6y,a6l,a8r,a94]
 refine AW.cutF [(0,.pt 0 fv 0),(1,.val (.int .i64 fa)),(2,.val (.int .i64 ta)),(3,.val (.int .i64 fb)),(4,.val (.int .i64 tb)),(10,.val (.int .i64 h)),(11,.val (.int .i64 e))] a b fv v1 v2 p1 f1 f2 (l++prs fa fb h)
  (d4A  rlR   rlR   rlR   rlR ) n1 rfl rfl rfl ?_ ?_
 ·simp only [go_sem]
 have eG:∀ m,A.length=m->True:=fun _ _=>trivial
 by_cases hc:(a58 A B).length≠0/\(a2x A B).length≠0
 ·obtain⟨p,q,hcut,hpl,hql,hpq,hpq2,hG⟩:=b9a hc.1 hc.2;have c1:(fa:Int)+h<ta-e:=by omega
  have c2:(fb:Int)+h<tb-e:=by omega
  refine awL hΓ [5,99999] rfl ?_;simp only [go_sem,c1,c2]
  have eC:a58 A B=a1w a (fa+h) (ta-e):=by
   rw [a58,hh,he,lA,<-hA,a6V,a6R (by omega)]
   congr 1
   omega
  have eD:a2x A B=a1w b (fb+h) (tb-e):=by
   rw [a2x,hh,he,lB,<-hB,a6V,a6R (by omega)]
   congr 1
   omega
  refine⟨by omega,by omega,by omega,by omega,c0Q (a:=a) (b:=b) (f1:=f1) (f2:=f2) (fv:=fv) (v1:=v1) (v2:=v2) (fa:=fa+h) (ta:=ta-e) (fb:=fb+h) (tb:=tb-e) (p:=p) (q:=q) (by omega) (by omega) (by omega) (by omega)  rlR   rlR   rlR  (by decide)
   (by omega) (by omega) (by omega) (by omega) ha hb hr1 hr2 hl1 hl2 (by rw [<-eC,<-eD];exact hcut) fun g1 g2 n2 hg1 hg2 hn2=>?_⟩
  simp only [go_sem,tu2]
  refine AW.cutF [(0,.pt 0 fv 0),(1,.val (.int .i64 ((fa+h:Nat):Int))),(2,.val (.int .i64 ((ta-e:Nat):Int))),(3,.val (.int .i64 ((fb+h:Nat):Int))),(4,.val (.int .i64 ((tb-e:Nat):Int))),(10,.val (.int .i64 h)),(11,.val (.int .i64 e)),(12,.val (.int .i64 p)),(13,.val (.int .i64 q))] a b fv v1 v2 p1 g1 g2 (l++prs fa fb h)
   (d4A (a0c.of_eq (by show Row.box fv 198 7 (fAV a b (.ow 1 v1 f1.length) (.ow 2 v2 f2.length) (.ow 3 p1 (l.length+(prs fa fb h).length)))=_;rw [<-hg1,<-hg2,<-lAp];rfl))  rlR   rlR   rlR ) n2 rfl rfl rfl ?_ ?_
  ·simp only [go_sem];exact⟨by omega,by omega,by omega,by omega⟩
  have eP1:(a58 A B).take p=a1w a (fa+h) (fa+h+p):=by rw [eC];exact a6R (by omega)
  have eP2:(a2x A B).take q=a1w b (fb+h) (fb+h+q):=by rw [eD];exact a6R (by omega)
  have eP3:(a58 A B).drop p=a1w a (fa+h+p) (ta-e):=by rw [eC];exact a6V
  have eP4:(a2x A B).drop q=a1w b (fb+h+q) (tb-e):=by rw [eD];exact a6V
  rw [eP1,eP2,eP3,eP4] at hG
  have hG1:(a3k (a1w a (fa+h) (fa+h+p)) (a1w b (fb+h) (fb+h+q))).length<=p:=by
   have:=a5U (a1w a (fa+h) (fa+h+p)) (a1w b (fb+h) (fb+h+q));rw [b0e];rw [a2L (by omega),a2L (by omega)] at this;omega
  have hG2:(a3k (a1w a (fa+h+p) (ta-e)) (a1w b (fb+h+q) (tb-e))).length<=ta-e-(fa+h+p):=by
   have:=a5U (a1w a (fa+h+p) (ta-e)) (a1w b (fb+h+q) (tb-e));rw [b0e];rw [a2L (by omega),a2L (by omega)] at this;omega
  refine awL hΓ [6,99999] rfl ?_;simp only [go_sem]
  refine⟨by omega,by omega,c15 (a:=a) (b:=b) (f1:=g1) (f2:=g2) (fv:=fv) (v1:=v1) (v2:=v2) (pv:=p1) (l:=l++prs fa fb h) (fa:=fa+h) (ta:=fa+h+p) (fb:=fb+h) (tb:=fb+h+q) (by omega) (by omega) (by omega) (by omega) (fun i _=>rlR) (by decide) (by omega)
   (by omega) (by omega) (by omega) (by omega) ha hb (by omega) (by omega) (by omega) (by omega) (by rw [lAp,a7x];omega) (by omega) fun g3 g4 p2 hp2 n3 hg3 hg4 hpp2 hpn2 hn3 hE _=>?_⟩
  simp only [a6y,a6l,a8r,a94]
  refine AW.cutF [(0,.pt 0 fv 0),(1,.val (.int .i64 ((fa+h:Nat):Int))),(2,.val (.int .i64 ((ta-e:Nat):Int))),(3,.val (.int .i64 ((fb+h:Nat):Int))),(4,.val (.int .i64 ((tb-e:Nat):Int))),(11,.val (.int .i64 e)),(12,.val (.int .i64 p)),(13,.val (.int .i64 q))] a b fv v1 v2 p2 g3 g4 _
   (fun i hi=>a0c.of_eq (hE i hi)) n3 rfl rfl rfl ?_ ?_
  ·simp only [go_sem]
  refine awL hΓ [7,99999] rfl ?_;simp only [go_sem]
  refine⟨by omega,by omega,c15 (a:=a) (b:=b) (f1:=g3) (f2:=g4) (fv:=fv) (v1:=v1) (v2:=v2) (pv:=p2) (fa:=fa+h+p) (ta:=ta-e) (fb:=fb+h+q) (tb:=tb-e) (by omega) (by omega) (by omega) (by omega) (fun i _=>rlR) (by decide) (by omega)
   (by omega) (by omega) (by omega) (by omega) ha hb (by omega) (by omega) (by omega) (by omega) (by simp only [lAp,a7x,b26];omega) (by omega) fun g5 g6 p3 hp3 n4 hg5 hg6 hpp3 hpn3 hn4 hE2 _=>?_⟩
  simp only [go_sem];refine c0V (i:=ta-e) (j:=tb-e) (n:=e) rfl rfl rfl (a0c.of_eq (hE2 0 (by decide))) (a0c.of_eq (hE2 3 (by decide))) (by decide) (by omega) (by omega) (by omega) (by omega) (by simp only [lAp,a7x,b26];omega) fun p4 n5 hp4 hpn4 hn5=>?_
  have hfin:l++shP fa fb (a3k A B)=l++prs fa fb h++shP ((fa+h:Nat):Int) ((fb+h:Nat):Int) (a3k (a1w a (fa+h) (fa+h+p)) (a1w b (fb+h) (fb+h+q)))++shP ((fa+h+p:Nat):Int) ((fb+h+q:Nat):Int) (a3k (a1w a (fa+h+p) (ta-e)) (a1w b (fb+h+q) (tb-e)))++prs ((ta-e:Nat):Int) ((tb-e:Nat):Int) e:=by
   rw [hG,hh,he];simp only [b25,b5S,c0M,List.append_assoc,Int.add_zero]
   rw [show (fa:Int)+((A.length:Int)-e)=((ta-e:Nat):Int) by omega,show (fb:Int)+((B.length:Int)-e)=((tb-e:Nat):Int) by omega,show (fa:Int)+h=((fa+h:Nat):Int) by omega,show (fb:Int)+h=((fb+h:Nat):Int) by omega,
    show (fa:Int)+((h:Int)+p)=((fa+h+p:Nat):Int) by omega,show (fb:Int)+((h:Int)+q)=((fb+h+q:Nat):Int) by omega]
  simp only [a6y,a6l,a8r,a96,c35,true_and];refine hK g5 g6 p4 _ _ _ (by omega) (by omega) (by omega) hpn4 ?_ (by omega);rw [hA,hB,hfin];refine d4A  rlR  (a0c.of_eq (hE2 1 (by decide))) (a0c.of_eq (hE2 2 (by decide)))  rlR
 ·have c12:¬((fa:Int)+h<ta-e/\(fb:Int)+h<tb-e):=by omega
  refine awL hΓ [8,99999] rfl ?_;simp only [go_sem,c12,false_implies,not_false_eq_true,true_implies];refine⟨by omega,by omega,by omega,by omega,fun _=>?_⟩;refine c0V (i:=ta-e) (j:=tb-e) (n:=e) (by omega) (by omega) rfl  rlR   rlR  (by decide) (by omega) (by omega) (by omega) (by omega) (by simp only [lAp,a7x];omega) fun p4 n5 hp4 hpn4 hn5=>?_
  have hfin:l++shP fa fb (a3k A B)=l++prs fa fb h++prs ((ta-e:Nat):Int) ((tb-e:Nat):Int) e:=by
   rw [b8Q hc,hh,he];simp only [b25,b5S,List.append_assoc,Int.add_zero];rw [show (fa:Int)+((A.length:Int)-e)=((ta-e:Nat):Int) by omega,show (fb:Int)+((B.length:Int)-e)=((tb-e:Nat):Int) by omega]
  simp only [a6y,a6l,a8r,a96,c35,true_and];refine hK f1 f2 p4 _ _ _ rfl rfl (by omega) hpn4 ?_ (by omega);rw [hA,hB,hfin];refine d4A  rlR   rlR   rlR   rlR
theorem d3Z (N:Nat):a0g Tryz.prog 139 (b4o N):=by
 induction N with
 | zero=>exact c9U
 | succ N ih=>exact c9M N ih
end
section
open Go
attribute [local irreducible] AW a0k a1k a0c
def c3P (ks:List Int):Key->Option Value
 | .i n=>if n∈ks then some (.bool true) else none
 | .s _=>none
theorem d2S (ks:List Int) (n:Int):c3P ks (.i n)=if n∈ks then some (.bool true) else none:=rfl
theorem c3r (ks:List Int) (n:Int):a54 (c3P ks) (.i n) (.bool true)=c3P (ks++[n]):=by
 funext k
 cases k with
 | i m=>
   simp only [a54,c3P];by_cases h:m=n
   ·subst h;simp
   ·rw [if_neg (fun e=>h (by injection e))];simp [h]
 | s x=>simp [a54,c3P]
theorem c5q:c3P []=fun _=>none:=by
 funext k
 cases k<;>simp [c3P]
def a7j:a0r:=a0r.f2 (kL eI) (kL eI) (fun a b=>a.length<100000000/\b.length<100000000) (fun a b=>tu2 (sL eI (shI a b)) (sL eI (shQ a b)))
theorem c4i:a0b Tryz.prog 83 a7j:=by
 refine a0b.f2 Tryz.func83 rfl (by decide) Tryz.results83 Tryz.ntmps83 (by decide) fun a b ⟨ha,hb⟩=>?_
 have hΓ:GOK Tryz.prog (gam []):=GOK.nil;refine awZ hΓ rfl ?_;simp only [go_sem]
 refine AW.round (α:={ x:Nat×Nat // x.1<=b.length })
  (fun x=>⟨[(0,sL eI a),(6,.mp 0 0),(16,sL eI b),(17,.val (.int .i64 b.length)),(18,.val (.int .i64 x.1.1))],[(0,.mp 0 false x.1.2 (c3P (b.take x.1.1)))],46,1,1,[]⟩) (fun x=>b.length-x.1.1) ⟨(0,0),nZL _⟩ ?_ ?_
 ·simp only [go_sem];exact a0c.of_eq (by rw [List.take_zero,c5q])
 ·rintro⟨⟨i,n⟩,hi⟩;simp only at hi;refine awN hΓ rfl ?_;simp only [go_sem];refine⟨fun hlt=>⟨by omega,by omega,⟨(i+1,if (c3P (b.take i) (Key.i (b.getD i 0))).isSome=true then n else n+1),by dsimp only;omega⟩,⟨by dsimp only;omega,a0c.of_eq (by rw [c3r,<-a2o (by omega)])⟩,by dsimp only;omega⟩,fun hge=>?_⟩;obtain rfl:i=b.length:=by omega
  rw [List.take_length];refine AW.adopt 9 3 1 (fun _ _=>.any) rfl ?_;refine AW.adopt 10 3 1 (fun _ _=>.any) rfl ?_
  refine AW.round (α:={ x:Nat×Nat×Nat×Nat // x.1<=a.length })
   (fun x=>⟨[(6,.mp 0 0),(9,.ow 1 x.1.2.1 ((a.take x.1.1).filter fun y=>b.contains y).length),(10,.ow 2 x.1.2.2.1 (plc (fun y=>b.contains y) 0 (a.take x.1.1)).length),(25,sL eI a),(26,.val (.int .i64 a.length)),(27,.val (.int .i64 x.1.1))],
    [(0,.mp 0 false n (c3P b)),(1,a1a x.1.2.1 3 eI ((a.take x.1.1).filter fun y=>b.contains y)),(2,a1a x.1.2.2.1 3 eI (plc (fun y=>b.contains y) 0 (a.take x.1.1)))],46,3,x.1.2.2.2,[]⟩) (fun x=>a.length-x.1.1) ⟨(0,1,2,3),nZL _⟩ ?_ ?_
  ·simp only [go_sem];exact⟨⟨rfl,rfl⟩,rlR,a8z (E:=eI) rfl,a8z (E:=eI) rfl⟩
  ·rintro⟨⟨j,v1,v2,nx⟩,hj⟩;simp only at hj;refine awN hΓ rfl ?_;simp only [go_sem,d2S];have l1:((a.take j).filter fun y=>b.contains y).length<=j:=Nat.le_trans (List.length_filter_le _ _) (by simp;omega);have l2:=a3W (fun y=>b.contains y) 0 (a.take j);refine⟨fun hlt=>⟨by omega,?_⟩,fun hge=>?_⟩
   ·have ht:a.take (j+1)=a.take j++[a.getD j 0]:=a2o (by omega);have hp:=b8b (fun y=>b.contains y) (a.getD j 0) 0 (a.take j);have hk:(0:Int)+((a.take j).length:Int)=j:=by simp;omega
    by_cases hm:a.getD j 0∈b
    ·have hc:b.contains (a.getD j 0)=true:=by simpa using hm
     have e1:((a.take (j+1)).filter fun y=>b.contains y)=((a.take j).filter fun y=>b.contains y)++[a.getD j 0]:=by
      rw [ht,List.filter_append,List.filter_cons_of_pos hc];rfl
     have e2:plc (fun y=>b.contains y) 0 (a.take (j+1))=plc (fun y=>b.contains y) 0 (a.take j)++[(j:Int)]:=by
      rw [ht,hp,if_pos hc,hk]
     rw [if_pos hm];simp only [go_sem,Option.getD_some];refine⟨by omega,by omega,by omega,⟨(j+1,nx,nx+1,nx+2),by dsimp only;omega⟩,⟨by dsimp only;omega,⟨⟨rfl,by dsimp only;rw [e1];simp⟩,⟨rfl,by dsimp only;rw [e2];simp⟩,by dsimp only;omega⟩,rlR,?_,?_⟩,by dsimp only;omega⟩
     ·exact a1F (E:=eI) rfl e1 rfl rfl rfl (fun _ _=>avR)
     ·exact a1F (E:=eI) rfl e2 rfl rfl rfl (fun _ _=>avR)
    ·have hc:¬b.contains (a.getD j 0)=true:=by simpa using hm
     have e1:((a.take (j+1)).filter fun y=>b.contains y)=((a.take j).filter fun y=>b.contains y):=by
      rw [ht,List.filter_append,List.filter_cons_of_neg hc];simp
     have e2:plc (fun y=>b.contains y) 0 (a.take (j+1))=plc (fun y=>b.contains y) 0 (a.take j):=by
      rw [ht,hp,if_neg hc];simp
     rw [if_neg hm];simp only [go_sem,Option.getD_none];refine⟨by omega,⟨(j+1,v1,v2,nx),by dsimp only;omega⟩,⟨nLR _,⟨⟨rfl,by dsimp only;rw [e1]⟩,⟨rfl,by dsimp only;rw [e2]⟩,by dsimp only;omega⟩,rlR,by dsimp only;rw [e1];exact rlR,by dsimp only;rw [e2];exact rlR⟩,by dsimp only;omega⟩
   ·obtain rfl:j=a.length:=by omega
    rw [List.take_length];exact⟨a4p (E:=eI) (l:=shI a b) rfl rfl rfl,a4p (E:=eI) (l:=shQ a b) rfl rfl rfl⟩
end
section
open Go
attribute [local irreducible] AW a0k a1k a0c
def a8Y:a0O:=fun args hp top nx K=>∃ x l,args=[x]/\a0k x (sL eI l)/\l.length<1000000000/\∀ ver nx',nx<=ver->ver<nx'->K (.ow top ver l.length) (a0X hp top (a1a ver 3 eI l)) (top+1) nx'
theorem c5W:a0g Tryz.prog 185 a8Y:=by
 refine a0g.mk Tryz.func185 rfl (by decide) Tryz.results185 Tryz.ntmps185 ?_;rintro args hp top nx K ⟨x,l,rfl,hx,hl,hK⟩;have hΓ:GOK Tryz.prog (gam []):=GOK.nil;refine⟨Nat.le_of_ble_eq_true rfl,?_⟩;refine AW.le (a89 (.cons hx .nil)) ?_;refine awL hΓ [2,99999] rfl ?_;simp only [go_sem];refine⟨fun h0=>?_,?_⟩
 ·refine AW.adopt 2 3 1 (fun i=>eI.enc (l.getD i 0)) rfl ?_;refine awZ hΓ rfl ?_;simp only [go_sem];obtain rfl:=List.length_eq_zero_iff.1 h0;exact hK nx (nx+1) (nLR _) (Nat.lt_succ_self _)
 ·exact⟨by omega,hK nx (nx+1) (nLR _) (Nat.lt_succ_self _)⟩
def b1T:a0O:=fun args hp top nx K=>∃ l ver,args=[.ow 0 ver l.length]/\hp=rws [(0,a1a ver 3 eI l)]/\top=1/\l.length<1000000000/\
 ∀ hp' top' nx',a0c (hp' 0) (a1a ver 3 eI l.reverse)->nx<=nx'->K (.val (.tuple #[])) hp' top' nx'
theorem b44:a0g Tryz.prog 186 b1T:=by
 refine a0g.mk Tryz.func186 rfl (by decide) Tryz.results186 Tryz.ntmps186 ?_;rintro args hp top nx K ⟨l,ver,rfl,rfl,rfl,hl,hK⟩;have hΓ:GOK Tryz.prog (gam []):=GOK.nil;refine⟨Nat.le_of_ble_eq_true rfl,?_⟩;refine awL hΓ [200003] rfl ?_;simp only [go_sem];refine⟨by omega,?_⟩
 refine AW.round (α:={ x:Nat×List Int // 2*x.1<=l.length+1/\x.2.length=l.length/\∀ k,k<l.length->x.2.getD k 0=if k<x.1\/l.length-1-x.1<k then l.getD (l.length-1-k) 0 else l.getD k 0 })
  (fun x=>⟨[(0,.ow 0 ver l.length),(2,.val (.int .i64 x.1.1)),(3,.val (.int .i64 ((l.length:Int)-1-x.1.1)))],[(0,a1a ver 3 eI x.1.2)],28,1,nx,[]⟩) (fun x=>l.length-x.1.1) ⟨(0,l),by simp,rfl,fun k hk=>by simp;omega⟩ ?_ ?_
 ·simp only [go_sem];exact⟨by omega,rlR⟩
 ·rintro⟨⟨i,m⟩,hi,hm,hk⟩;simp only at hi hm hk;refine awL hΓ [200003,99999] rfl ?_;simp only [go_sem];refine⟨fun hlt=>?_,fun hge=>?_⟩
  ·refine AW.drawT hΓ mixed 13 [] (by decide +kernel) ?_;simp only [go_sem];have e1:((l.length:Int)-1-i).toNat=l.length-1-i:=by omega
   rw [e1];refine⟨by omega,by omega,by omega,by omega,by omega,by omega,by omega,by omega,by omega,by omega,⟨(i+1,(m.set i (m.getD (l.length-1-i) 0)).set (l.length-1-i) (m.getD i 0)),by dsimp only;omega,by simp [hm],fun k hk'=>?_⟩,⟨⟨by dsimp only;omega,by dsimp only;omega⟩,a0c.sl (by simp) fun k hk' j hj=>?_⟩,by dsimp only;omega⟩
   ·have h1:=hk i (by omega);have h2:=hk (l.length-1-i) (by omega);rw [if_neg (by omega)] at h1 h2;dsimp only;rw [h1,h2];by_cases c2:k=l.length-1-i
    ·subst c2;rw [if_pos (by omega)];simp only [List.getD];rw [List.getElem?_set_self (by simp;omega),show l.length-1-(l.length-1-i)=i by omega];rfl
    ·by_cases c1:k=i
     ·subst c1;rw [if_pos (by omega)];simp only [List.getD];rw [List.getElem?_set_ne (by omega),List.getElem?_set_self (by omega)];rfl
     ·have e2:((m.set i (l.getD (l.length-1-i) 0)).set (l.length-1-i) (l.getD i 0)).getD k 0=m.getD k 0:=by
       simp only [List.getD];rw [List.getElem?_set_ne (by omega),List.getElem?_set_ne (by omega)]
      rw [e2,hk k hk'];by_cases c:k<i\/l.length-1-i<k
      ·rw [if_pos c,if_pos (by omega)]
      ·rw [if_neg c,if_neg (by omega)]
   ·exact c3B (E:=eI) (n:=m.length) (by simp;omega) (c3B (E:=eI) (n:=m.length) (by omega) (fun _ _ _ _=>avR) (fun _ _=>avR)) (fun _ _=>avR) k hk' j hj
  ·have e:m=l.reverse:=by
    refine a1E 0 (by simp [hm]) fun k hk'=>?_
    rw [hk k (by omega)];simp only [List.getD];rw [List.getElem?_reverse (by omega)];by_cases c:k<i\/l.length-1-i<k
    ·rw [if_pos c]
    ·rw [if_neg c,show l.length-1-k=k by omega]
   exact hK _ _ _ (by rw [<-e];exact rlR) (nLR _)
def a4k:a0O:=a1I b1T
theorem b8Z:a0g Tryz.prog 186 a4k:=b44.frame
theorem b43 {l:List Int} {ver p n:Nat} {hp:Nat->Row} {top nx:Nat} {K:AV->(Nat->Row)->Nat->Nat->Prop} (hn:n=l.length) (h0:a0c (hp p) (a1a ver 3 eI l)) (ht:p<top) (hl:l.length<1000000000)
  (hK:∀ nx',nx<=nx'->K (.val (.tuple #[])) (a0X hp p (a1a ver 3 eI l.reverse)) top nx'):a4k [.ow p ver n] hp top nx K:=by
 subst hn;have hv:=h0.vers;refine⟨[p],[.ow 0 ver l.length],rws [(0,a1a ver 3 eI l)],by simp,by simpa using ht,.cons a0k.ow .nil,a8Z h0,fun i hi=>a13 (top:=1) (by simp) i (by simpa using hi),l,ver,rfl,rfl,rfl,hl,fun hp' top' nx' e1 e2=>?_⟩;refine⟨_,_,avR,fun k q hk=>?_,fun q hq=>?_,fun q hq u hu=>?_,hK nx' e2⟩
 ·cases k with
  | zero=>
    simp only [gCZ,oSI] at hk;subst hk;rw [a0i];exact e1
  | succ k=>simp at hk
 ·rw [a0d _ _ (by simpa using hq)]
 ·simp only [List.mem_singleton] at hq;subst hq;rw [a0i] at hu;exact .inl (hv.symm.trans hu)
def b5t:a0r:=a0r.f1 (kL eI) (fun l=>l.length<100000000) (fun l=>sL eI l.reverse)
theorem c6U:a0b Tryz.prog 138 b5t:=by
 refine a0b.f1 Tryz.func138 rfl (by decide) Tryz.results138 Tryz.ntmps138 (by decide) fun l hl=>?_
 have hΓ:GOK Tryz.prog (gam [(185,a8Y),(186,a4k)]):=(.cons c5W (.cons b8Z .nil));refine awL hΓ [1,99999] rfl ?_;simp only [go_sem,a8Y,a4k];refine⟨_,l,rfl,avR,by omega,fun ver nx' hv hv'=>?_⟩;refine awL hΓ [2,99999] rfl ?_;simp only [go_sem,a8Y,a4k];refine b43 (l:=l) (p:=0) rfl  rlR  (by decide) (by omega) fun n2 hn2=>?_
 simp only [go_sem,a8Y,a4k];refine awZ hΓ rfl ?_;simp only [go_sem,a8Y,a4k,List.length_reverse];exact a4p (E:=eI) rfl rfl (by simp)
theorem c3q {N:Nat} {a b f1 f2:List Int} {l:List (Int×Int)} {fv v1 v2 pv:Nat} {x y r s:Int} {hp:Nat->Row} {top nx:Nat} {K:AV->(Nat->Row)->Nat->Nat->Prop} {π:List Nat} {p0 p1 p2 p3:Nat} (hπ:π=[p0,p1,p2,p3]) (hnd:π.Nodup) (ht:∀ p∈π,p<top) (hx:x=0) (hy:y=a.length) (hr:r=0) (hs:s=b.length)
  (h0:a0c (hp p0) (rws (a3S a b fv v1 v2 pv f1 f2 l) 0)) (h1:a0c (hp p1) (rws (a3S a b fv v1 v2 pv f1 f2 l) 1)) (h2:a0c (hp p2) (rws (a3S a b fv v1 v2 pv f1 f2 l) 2)) (h3:a0c (hp p3) (rws (a3S a b fv v1 v2 pv f1 f2 l) 3)) (hpv:pv<nx)
  (ha:a.length<100000000) (hb:b.length<100000000) (hr1:a.length+b.length+3<=f1.length) (hr2:a.length+b.length+3<=f2.length) (hl1:f1.length<1000000000) (hl2:f2.length<1000000000)
  (hl:l.length+a.length<500000000) (hN:a.length+b.length<N)
  (hK:∀ g1 g2 pv' hp' nx',g1.length=f1.length->g2.length=f2.length->(pv'=pv\/nx<=pv')->pv'<nx'->nx<=nx'->hp' p0=rws (a3S a b fv v1 v2 pv' g1 g2 (l++a3k a b)) 0->hp' p3=rws (a3S a b fv v1 v2 pv' g1 g2 (l++a3k a b)) 3->(∀ i,¬i∈π->hp' i=hp i)->K (.val (.tuple #[])) hp' top nx') :
  b4o N [.pt p0 fv 0,.val (.int .i64 x),.val (.int .i64 y),.val (.int .i64 r),.val (.int .i64 s)] hp top nx K:=by
 subst hx hy hr hs hπ;have w0:=h0.vers;have w1:=h1.vers;have w2:=h2.vers;have w3:=h3.vers;have hfin:shP ((0:Nat):Int) ((0:Nat):Int) (a3k (a1w a 0 a.length) (a1w b 0 b.length))=a3k a b:=by rw [b3Y,b3Y];exact d5X _
 have hmem:∀ q,q∈[p0,p1,p2,p3]↔q=p0\/q=p1\/q=p2\/q=p3:=fun q=>by simp
 have n01:p1≠p0:=fun e=>by simp [e] at hnd
 have n02:p2≠p0:=fun e=>by simp [e] at hnd
 have n03:p3≠p0:=fun e=>by simp [e] at hnd
 have n12:p2≠p1:=fun e=>by simp [e] at hnd
 have n13:p3≠p1:=fun e=>by simp [e] at hnd
 have n23:p3≠p2:=fun e=>by simp [e] at hnd
 refine⟨[p0,p1,p2,p3],[.pt 0 fv 0,kI.enc ((0:Nat):Int),kI.enc (a.length:Nat),kI.enc ((0:Nat):Int),kI.enc (b.length:Nat)],rws (a3S a b fv v1 v2 pv f1 f2 l),
  hnd,ht,.cons a0k.pt (.cons  avR  (.cons  avR  (.cons  avR  (.cons  avR  .nil)))),fun k q hk=>?_,fun k hk=>a13 (top:=4) (by simp [a3S]) k (by simpa using hk),a,b,f1,f2,l,fv,v1,v2,pv,0,a.length,0,b.length,rfl,rfl,rfl,hpv,nZL _,nLR _,nZL _,nLR _,ha,hb,hr1,hr2,hl1,hl2,by omega,by omega,fun g1 g2 pv' hp' top' nx' e1 e2 e3 e4 e5 e6=>?_⟩
 ·match k,hk with
  | 0,hk=>obtain rfl:=oJI hk;exact h0
  | 1,hk=>obtain rfl:=oJI hk;exact h1
  | 2,hk=>obtain rfl:=oJI hk;exact h2
  | 3,hk=>obtain rfl:=oJI hk;exact h3
 rw [hfin] at e5;refine⟨_,a0X (a0X (a0X (a0X hp p0 (rws (a3S a b fv v1 v2 pv' g1 g2 (l++a3k a b)) 0)) p1 (rws (a3S a b fv v1 v2 pv' g1 g2 (l++a3k a b)) 1)) p2 (rws (a3S a b fv v1 v2 pv' g1 g2 (l++a3k a b)) 2)) p3 (rws (a3S a b fv v1 v2 pv' g1 g2 (l++a3k a b)) 3),avR,fun k q hk=>?_,fun q hq=>?_,fun q hq u hu=>?_,hK g1 g2 pv' _ nx' e1 e2 e3 e4 e6 ?_ ?_ fun q hq=>?_⟩
 ·match k,hk with
  | 0,hk=>obtain rfl:=oJI hk;rw [a0d _ _ n03.symm,a0d _ _ n02.symm,a0d _ _ n01.symm,a0i];exact e5 0 (by decide)
  | 1,hk=>obtain rfl:=oJI hk;rw [a0d _ _ n13.symm,a0d _ _ n12.symm,a0i];exact e5 1 (by decide)
  | 2,hk=>obtain rfl:=oJI hk;rw [a0d _ _ n23.symm,a0i];exact e5 2 (by decide)
  | 3,hk=>obtain rfl:=oJI hk;rw [a0i];exact e5 3 (by decide)
 ·rw [hmem] at hq;simp only [not_or] at hq;rw [a0d _ _ hq.2.2.2,a0d _ _ hq.2.2.1,a0d _ _ hq.2.1,a0d _ _ hq.1]
 ·rw [hmem] at hq;rcases hq with rfl|rfl|rfl|rfl
  ·rw [a0d _ _ n03.symm,a0d _ _ n02.symm,a0d _ _ n01.symm,a0i] at hu;exact .inl (w0.symm.trans hu)
  ·rw [a0d _ _ n13.symm,a0d _ _ n12.symm,a0i] at hu;exact .inl (w1.symm.trans hu)
  ·rw [a0d _ _ n23.symm,a0i] at hu;exact .inl (w2.symm.trans hu)
  ·rw [a0i] at hu;obtain rfl:pv'=u:=oJI hu;rcases e3 with rfl|e3
   ·exact .inl w3.symm
   ·exact .inr e3
 ·rw [a0d _ _ n03.symm,a0d _ _ n02.symm,a0d _ _ n01.symm,a0i]
 ·rw [a0i]
 ·rw [hmem] at hq;simp only [not_or] at hq;rw [a0d _ _ hq.2.2.2,a0d _ _ hq.2.2.1,a0d _ _ hq.2.1,a0d _ _ hq.1]
def a7e:a0O:=fun args hp top nx K=>∃ x y a b,args=[x,y]/\a0k x (sL eI a)/\a0k y (sL eI b)/\hp=rws []/\top=0/\a.length<100000000/\b.length<100000000/\
 ∀ ver hp' nx',hp' 3=a1a ver 129 (eP eI eI) (a3k a b)->ver<nx'->nx<=nx'->(∀ i,4<=i->hp' i=.dead)->K (.ow 3 ver (a3k a b).length) hp' 4 nx'
theorem c4s:a0g Tryz.prog 84 a7e:=by
 refine a0g.mk Tryz.func84 rfl (by decide) Tryz.results84 Tryz.ntmps84 ?_;rintro args hp top nx K ⟨x,y,a,b,rfl,hx,hy,rfl,rfl,ha,hb,hK⟩;have hΓ:GOK Tryz.prog (gam [(138,b5t),(139,(Con.meth (b4o (a.length+b.length+1))))]):=.cons c6U (.cons (d3Z _) .nil);refine⟨Nat.le_of_ble_eq_true rfl,?_⟩;refine AW.le (a89 (.cons hx (.cons hy .nil))) ?_;refine awL hΓ [2,99999] rfl ?_;simp only [go_sem,b5t];have eN:((a.length:Int)+b.length+3).toNat=a.length+b.length+3:=by omega
 rw [eN];refine⟨by omega,by omega,ha,hb,by omega,by omega,?_⟩;refine AW.adoptB (q:=2) 6 129 2 (fun i=>(eP eI eI).enc (([]:List (Int×Int)).getD i (0,0))) rfl rfl ?_;refine awL hΓ [3,99999] rfl ?_;simp only [go_sem];refine c3q (a:=a) (b:=b) (f1:=List.replicate (a.length+b.length+3) 0) (f2:=List.replicate (a.length+b.length+3) 0) (l:=[]) (fv:=nx+1+1) (v1:=nx) (v2:=nx+1) (pv:=nx+1+1+1) (π:=[2,0,1,3]) rfl (by decide) (by decide) rfl rfl rfl rfl ?_ ?_ ?_ ?_ (by omega) ha hb (by simp) (by simp) (by simp;omega) (by simp;omega) (by simp;omega) (by omega) ?_
 ·refine a0c.box fun j hj=>?_
  match j,hj with
  | 0,_=>exact avR
  | 1,_=>exact avR
  | 2,_=>exact avR
  | 3,_=>exact avR
  | 4,_=>show a0k (.ow 0 nx (a.length+b.length+3)) (.ow 1 nx (List.replicate (a.length+b.length+3) (0:Int)).length);rw [List.length_replicate];exact a0k.ow
  | 5,_=>show a0k (.ow 1 (nx+1) (a.length+b.length+3)) (.ow 2 (nx+1) (List.replicate (a.length+b.length+3) (0:Int)).length);rw [List.length_replicate];exact a0k.ow
  | 6,_=>exact avR
 ·refine a0c.sl (by simp) fun i hi j hj=>a0k.of_eq ?_
  match j,hj with
  | 0,_=>simp [List.getD,List.getElem?_replicate,hi,zC];rfl
 ·refine a0c.sl (by simp) fun i hi j hj=>a0k.of_eq ?_
  match j,hj with
  | 0,_=>simp [List.getD,List.getElem?_replicate,hi,zC];rfl
 ·exact rlR
 intro g1 g2 pv' hp' nx' e1 e2 e3 e4 e5 e6 e7 e8;have e6':hp' 2=.box (nx+1+1) 198 7 (fAV a b (.ow 1 nx g1.length) (.ow 2 (nx+1) g2.length) (.ow 3 pv' (a3k a b).length)):=e6;simp only [go_sem];refine awZ hΓ rfl ?_;simp only [go_sem,e6',b8P]
 exact hK pv' hp' nx' e7 e4 (by omega) fun i hi=>(e8 i (by simp;omega)).trans (by
  rw [a0d _ _ (by omega),a0d _ _ (by omega),a0d _ _ (by omega),a0d _ _ (by omega),a0d _ _ (by omega)]
  rfl)
end
section
open Go
attribute [local irreducible] AW a0k a1k a0c
def a01:a0r:=a0r.f2 (kL eI) (kL eI) (fun a b=>a.length<100000000/\b.length<100000000) (fun a b=>sL (eP eI eI) (a3N a b))
theorem c1r:a0b Tryz.prog 30 a01:=by
 refine a0b.f2 Tryz.func30 rfl (by decide) Tryz.results30 Tryz.ntmps30 (by decide) fun a b ⟨ha,hb⟩=>?_
 have hΓ:GOK Tryz.prog (gam [(83,a7j),(84,a7e)]):=(.cons c4i (.cons c4s .nil));have hA:=a3W (fun y=>b.contains y) 0 a;have hB:=a3W (fun y=>a.contains y) 0 b;have hsp:=(a47 ((shI a b).length+(shI b a).length+1) (shI a b) (shI b a) (by omega)).1;have hm:a3N a b=mapM (shQ a b) (shQ b a) (a3k (shI a b) (shI b a)):=rfl;have lA:(shI a b).length<=a.length:=List.length_filter_le _ _;have lB:(shI b a).length<=b.length:=List.length_filter_le _ _;have lG:=b0e (shI a b) (shI b a);have lG2:=a5U (shI a b) (shI b a);refine awL hΓ [3,99999] rfl ?_;simp only [go_sem,a7j,a7e];refine⟨⟨ha,hb⟩,⟨hb,ha⟩,_,_,shI a b,shI b a,rfl,avR,avR,rfl,by omega,by omega,fun ver hp' nx' h1 h2 h3 h4=>?_⟩;have eA:(shQ a b).length=(shI a b).length:=hA;have eB:(shQ b a).length=(shI b a).length:=hB
 change isM (shI a b) (shI b a) (a3k (shI a b) (shI b a)) at hsp
 generalize hG:a3k (shI a b) (shI b a)=G at *
 refine AW.cut ⟨[(6,sL eI (shQ a b)),(8,sL eI (shQ b a)),(9,.ow 3 ver G.length)],[(3,a1a ver 129 (eP eI eI) G)],50,4,nx',[]⟩ ?_ ?_
 ·simp only [go_sem,h1];exact rlR
 generalize hqa:shQ a b=qa at *
 generalize hqb:shQ b a=qb at *
 refine awZ hΓ rfl ?_;simp only [go_sem,a7j,a7e]
 refine AW.round (α:={ x:Nat×Nat // x.1<=G.length })
  (fun x=>⟨[(6,sL eI qa),(8,sL eI qb),(9,.ow 3 ver G.length),(27,.ow 3 ver G.length),(28,.val (.int .i64 G.length)),(29,.val (.int .i64 x.1.1))],[(3,a1a ver 129 (eP eI eI) (mapM qa qb (G.take x.1.1)++G.drop x.1.1))],50,4,x.1.2,[]⟩) (fun x=>G.length-x.1.1) ⟨(0,nx'),nZL _⟩ ?_ ?_
 ·simp only [go_sem,a7j,a7e];exact a0c.of_eq (by simp [mapM])
 ·rintro⟨⟨i,nx⟩,hi⟩;simp only at hi;have hmap:(mapM qa qb (G.take i)).length=i:=by simp only [mapM,List.length_map,List.length_take];omega
  refine awL hΓ [6,99999] rfl ?_;simp only [go_sem,a7j,a7e,a61];refine⟨fun hlt=>?_,fun hge=>?_⟩
  ·have hel:(mapM qa qb (G.take i)++G.drop i).getD i (0,0)=G.getD i (0,0):=by
    simp only [List.getD];rw [List.getElem?_append_right (by omega),List.getElem?_drop,hmap]
    congr 2
    omega
   obtain⟨u,v,huv⟩:∃ u v,G.getD i (0,0)=(u,v):=⟨_,_,rfl⟩;have hin:=hsp.2 (G.getD i (0,0)) (by rw [a1q _ _ (by omega)];exact List.getElem_mem _);rw [huv] at hin;unfold inM at hin;simp only at hin;refine⟨by omega,by omega,?_⟩
   refine AW.cut ⟨[(6,sL eI qa),(8,sL eI qb),(9,.ow 3 ver G.length),(10,.val (.int .i64 i)),(11,.pt 4 nx 0),(27,.ow 3 ver G.length),(28,.val (.int .i64 G.length)),(29,.val (.int .i64 i))],
    [(3,a1a ver 129 (eP eI eI) (mapM qa qb (G.take i)++G.drop i)),(4,.box nx 129 2 fun j=>if j=0 then .val (.int .i64 u) else .val (.int .i64 v))],50,5,nx+1,[]⟩ ?_ ?_
   ·simp only [go_sem];refine⟨rlR,a0c.box fun j hj=>a0k.of_eq ?_⟩
    match j,hj with
    | 0,_=>show (eP eI eI).enc ((mapM qa qb (G.take i)++G.drop i).getD i (0,0)) 0=_;rw [hel,huv];rfl
    | 1,_=>show (eP eI eI).enc ((mapM qa qb (G.take i)++G.drop i).getD i (0,0)) 1=_;rw [hel,huv];rfl
   ·refine awZ hΓ rfl ?_;simp only [go_sem,a7j,a7e,a61]
    have hset:mapM qa qb (G.take (i+1))++G.drop (i+1)=(mapM qa qb (G.take i)++G.drop i).set i (qa.getD u.toNat 0,qb.getD v.toNat 0):=by
     have hi':i<G.length:=by omega
     have hgi:G[i]=(u,v):=by rw [<-huv,a1q _ _ hi']
     rw [List.set_append_right _ _ (by omega),hmap,Nat.sub_self,List.drop_eq_getElem_cons hi',List.set_cons_zero,List.take_succ_eq_append_getElem hi',hgi];simp only [mapM,List.map_append,List.map_cons,List.map_nil,List.append_assoc,List.singleton_append]
    refine⟨by omega,by omega,by omega,by omega,by omega,⟨(i+1,nx+1),by dsimp only;omega⟩,⟨nLR _,rfl,?_⟩,by dsimp only;omega⟩;refine b2t (E:=eP eI eI) rfl hset (by simp) (by simp) fun j hj=>?_
    match j,hj with
    | 0,_=>exact avR
    | 1,_=>exact avR
  ·obtain rfl:i=G.length:=by omega
   rw [List.take_length,List.drop_length,List.append_nil,hm]
   first
    | exact⟨⟨by simp [mapM],fun i hi=>⟨rfl,rfl⟩⟩,a4p (E:=eP eI eI) rfl rfl (by simp [mapM])⟩
    | exact⟨by simp [mapM],a4p (E:=eP eI eI) rfl rfl (by simp [mapM])⟩
end
section
open Go
theorem a0k.ps {m:Nat} {c d:Nat->AV} (h:∀ j,j<m->a0k (c j) (d j)):a0k (.ps m c) (.ps m d):=by
 rintro w η L v ⟨g,o,hv,hl,hc⟩;refine⟨g,o,hv,hl,fun j hj=>?_⟩;obtain⟨u,hu,h1,hr⟩:=hc j hj;exact⟨u,hu,h1,h j hj _ _ _ _ hr⟩
end
set_option maxHeartbeats 4000000
section
open Go
attribute [local irreducible] AW a0k a1k a0c
@[go_sem] theorem d2c:a7y (.slice none 0 0)=.em:=rfl
def a5x:a0r:=a0r.f2 (kL eS) (kL eS) (fun a b=>a.length<=10000000/\b.length<=10000000) (fun a b=>sL (eP eI eI) (a60 a b))
theorem c43:a0b Tryz.prog 97 a5x:=by
 refine a0b.f2 Tryz.func97 rfl (by decide) Tryz.results97 Tryz.ntmps97 (by decide) fun a b ⟨ha,hb⟩=>?_
 have hΓ:GOK Tryz.prog (gam [(27,a0v),(30,a01)]):=(.cons b2O (.cons c1r .nil));have n0:=a8t a b;have n1:=a9y a b;have n2:(a2G [] [a,b]).length=2:=rfl;unfold a60;unfold b1a b1g at *
 refine awZ hΓ rfl ?_;simp only [go_sem,a0v,a01];exact⟨⟨by omega,by omega⟩,by omega,by omega,by omega,by omega⟩
abbrev Op:=(BS×BS×BS)×Int×Int×Int
abbrev eOp:El Op:=eP eLb (eP eI (eP eI eI))
def a9Q (o:Op):Int:=if a2a o.1=false then 3 else if o.2.2.1<7\/64<o.2.2.1 then 4 else if (a74 o.2.1&&a8l o.2.2.2)=false then 5 else 0
def a5J:a0r:=a0r.f1 (kA eOp) (fun o=>lbN o.1<=3000) (fun o=>kI.enc (a9Q o))
theorem c5D:a0b Tryz.prog 96 a5J:=by
 refine a0b.f1 Tryz.func96 rfl (by decide) Tryz.results96 Tryz.ntmps96 (by decide) fun o ho=>?_
 have hΓ:GOK Tryz.prog (gam [(150,a2r),(100,a8K)]):=(.cons b3x (.cons c72 .nil));obtain⟨⟨l1,l2,l3⟩,st,w,v⟩:=o;unfold lbN at ho;dsimp only at ho;refine awL hΓ [0] rfl ?_;simp only [go_sem,a2r,a8K];refine AW.still 1 0 0 75 6 _ rfl rfl (fun j hj=>match j,hj with|0,_=>rfl|1,_=>rfl|2,_=>rfl|3,_=>rfl|4,_=>rfl|5,_=>rfl) ?_;cases hp:a2a (l1,l2,l3) with
 | false=>
   have e:a9Q ((l1,l2,l3),st,w,v)=3:=by unfold a9Q;rw [if_pos hp]
   unfold a2a at hp;dsimp only at hp;rw [e];refine awN hΓ rfl ?_;simp only [go_sem,a2r,a8K,hp];exact⟨by omega,by omega,by omega⟩
 | true=>
   have hd:b9b ([],[],[]) [] st (l1,l2,l3) v=([],if (a74 st&&a8l v)=false then 5 else 0):=by
    unfold b9b;by_cases h:(a74 st&&a8l v)=false
    ·rw [if_pos h,if_pos h]
    ·rw [if_neg h,if_neg h,if_neg (by rw [hp];simp)];rfl
   have e:a9Q ((l1,l2,l3),st,w,v)=if w<7\/64<w then 4 else if (a74 st&&a8l v)=false then 5 else 0:=by unfold a9Q;rw [if_neg (by rw [hp];simp)]
   rw [e];unfold a2a at hp;dsimp only at hp;refine awN hΓ rfl ?_;simp only [go_sem,a2r,a8K,hp,hd];refine⟨⟨by omega,by omega,by omega⟩,fun h=>by simp [h],fun h=>?_,fun h=>⟨⟨⟨by unfold c7W;simp,by simp [a3Z]⟩,by unfold d5A;dsimp only;omega⟩,?_⟩⟩
   ·simp only [Bool.or_eq_true,decide_eq_true_eq] at h;rw [if_pos h]
   ·simp only [Bool.or_eq_false_iff,decide_eq_false_iff_not] at h;rw [if_neg (show ¬(w<7\/64<w) by omega)]
def lb3 (o:Op):BS×BS×BS:=o.1
abbrev Rt:=List Pt×List (Int×Int)×List (Int×Int)×List Ck×BS×Int×Int
abbrev eRt:El Rt:=eP (eL ePt) (eP (eL (eP eI eI)) (eP (eL (eP eI eI)) (eP (eL eCk) (eP eS (eP eI eI)))))
def rt0:Rt:=([],[],[],[],[],0,0)
def c4F (a b c:BS) (w st:Int) (lb:BS×BS×BS) (v:Int):Rt:=
 (a7s a b c st lb v,a60 (a0a a) (a0a b),a60 (a0a a) (a0a c),a5C (a02 a b c),a1x (a66 w a b c) (a7s a b c st lb v),a66 w a b c,(b2g (a02 a b c) (a5C (a02 a b c)):Int))
def b2U (a b c:BS) (o:Op):Rt:=if a9Q o=0 then c4F a b c o.2.2.1 o.2.1 o.1 o.2.2.2 else rt0
def a0R:a0r:=a0r.f4 kS kS kS (kA eOp) (fun a b c o=>okM a b c/\lbN o.1<=3000) (fun a b c o=>tu2 ((kA eRt).enc (b2U a b c o)) (kI.enc (a9Q o)))
theorem c4Z {o:Op} (h:a9Q o=0):a2a o.1=true/\(7<=o.2.2.1/\o.2.2.1<=64)/\(a74 o.2.1&&a8l o.2.2.2)=true:=by
 unfold a9Q at h;split at h
 ·omega
 ·rename_i h1;split at h
  ·omega
  ·rename_i h2;split at h
   ·omega
   ·rename_i h3;exact⟨by simpa using h1,by omega,by simpa using h3⟩
theorem d28 {c:Nat->AV} {d:List Pt} {l r:List (Int×Int)} {k:List Ck} {t:BS} {w n:Int} (h0:a0k (c 0) (sL ePt d)) (h1:a0k (c 1) (sL (eP eI eI) l)) (h2:a0k (c 2) (sL (eP eI eI) r)) (h3:a0k (c 3) (sL eCk k)) (h4:c 4=.st t) (h5:c 5=.val (.int .i64 w)) (h6:c 6=.val (.int .i64 n)):a0k (.ag 7 c) (.ag 7 (eRt.enc (d,l,r,k,t,w,n))):=
 a0k.ag fun j hj=>match j,hj with
  | 0,_=>h0
  | 1,_=>h1
  | 2,_=>h2
  | 3,_=>h3
  | 4,_=>a0k.of_eq h4
  | 5,_=>a0k.of_eq h5
  | 6,_=>a0k.of_eq h6
theorem c7U {ver ety:Nat} {c:Nat->AV} {d:List Pt} {l r:List (Int×Int)} {k:List Ck} {t:BS} {w n:Int} (h0:a0k (c 0) (sL ePt d)) (h1:a0k (c 1) (sL (eP eI eI) l)) (h2:a0k (c 2) (sL (eP eI eI) r)) (h3:a0k (c 3) (sL eCk k)) (h4:c 4=.st t) (h5:c 5=.val (.int .i64 w)) (h6:c 6=.val (.int .i64 n)):a0c (.box ver ety 7 c) (.box ver ety 7 (eRt.enc (d,l,r,k,t,w,n))):=
 a0c.box fun j hj=>match j,hj with
  | 0,_=>h0
  | 1,_=>h1
  | 2,_=>h2
  | 3,_=>h3
  | 4,_=>a0k.of_eq h4
  | 5,_=>a0k.of_eq h5
  | 6,_=>a0k.of_eq h6
theorem b46:a0b Tryz.prog 40 a0R:=by
 refine a0b.f4 Tryz.func40 rfl (by decide) Tryz.results40 Tryz.ntmps40 (by decide) fun a b c o ⟨hM,hl⟩=>?_
 have hΓ:GOK Tryz.prog (gam [(96,a5J),(26,a0w),(97,a5x),(98,a5V),(99,c6o),(100,a8K),(75,a1v),(101,a5I)]):=(.cons c5D (.cons b2z (.cons c43 (.cons c5Y (.cons d6i (.cons c72 (.cons b6l (.cons c4f .nil))))))));obtain⟨h1,h2,h3⟩:=c0i hM;by_cases he:a9Q o=0
 ·obtain⟨p1,p2,p3⟩:=c4Z he;have e:b2U a b c o=c4F a b c o.2.2.1 o.2.1 o.1 o.2.2.2:=by unfold b2U;rw [if_pos he]
  have hF:=a7J (a:=a) (b:=b) (c:=c) hM p2 o.2.1 hl p1 o.2.2.2;rw [e,he];obtain⟨⟨l1,l2,l3⟩,st,w,v⟩:=o;dsimp only at p1 p2 p3 hF hl;refine awL hΓ [0,200007] rfl ?_;simp only [go_sem,a5J,a0w,a5x,a5V,c6o,a8K,a1v,a5I];refine AW.still 7 0 0 75 6 _ rfl rfl (fun j hj=>match j,hj with|0,_=>rfl|1,_=>rfl|2,_=>rfl|3,_=>rfl|4,_=>rfl|5,_=>rfl) ?_;refine awL hΓ [6,200007] rfl ?_;simp only [go_sem,a5J,a0w,a5x,a5V,c6o,a8K,a1v,a5I,he];refine⟨⟨by omega,by omega⟩,⟨by omega,by omega⟩,fun h=>absurd h (by omega),fun _=>⟨hl,by omega,by omega,by omega,?_⟩⟩;refine AW.still 11 2 2 150 3 _ rfl rfl (fun j hj=>match j,hj with|0,_=>rfl|1,_=>rfl|2,_=>rfl) ?_;refine AW.fork ?_;refine AW.drawZ hΓ mixed 19 [] [] [] (by kernel_rfl) ?_;simp only [go_sem,a5J,a0w,a5x,a5V,c6o,a8K,a1v,a5I,b7E];have la:=a0K a;have lb:=a0K b;have lc:=a0K c;refine⟨⟨by omega,by omega⟩,⟨by omega,by omega⟩,⟨by omega,by omega,by omega⟩,?_⟩;refine AW.cut ⟨[(7,.ps 6 (eOp.enc ((l1,l2,l3),st,w,v))),(8,.pt 1 1 0),(11,.ps 3 (eFl.enc (a0a a,a0a b,a0a c))),(12,.pt 3 3 0)],[(1,.box 1 48 7 (eRt.enc rt0)),(3,.box 3 48 7 (eRt.enc ([],a60 (a0a a) (a0a b),a60 (a0a a) (a0a c),[],[],a66 w a b c,0)))],114,4,4,[]⟩ ?_ ?_
  ·simp only [go_sem,a5J,a0w,a5x,a5V,c6o,a8K,a1v,a5I];exact⟨a0k.ps fun j hj=>a0k.of_eq (match j,hj with|0,_=>rfl|1,_=>rfl|2,_=>rfl),c7U (a30 _) (a30 _) (a30 _) (a30 _) rfl rfl rfl,c7U (a30 _)  avR   avR  (a30 _) rfl rfl rfl⟩
  have hfit:c2T (a0a a).length (a0a b).length (a0a c).length (a60 (a0a a) (a0a b)) (a60 (a0a a) (a0a c))=true:=b3g (b0l (a02 a b c)).1;have hK:ofK (((a0a a).length:Int),((a0a b).length:Int),((a0a c).length:Int)) (a3E (a60 (a0a a) (a0a b)) (a60 (a0a a) (a0a c))) [] (0,0,0)=a5C (a02 a b c):=rfl;have hdoc:b9b (a0a a,a0a b,a0a c) (a5C (a02 a b c)) st (l1,l2,l3) v=(a7s a b c st (l1,l2,l3) v,0):=c8J p3 p1;have hpr:=b6T hF;have hok:=hF.ok;have hlen:=hF.len;have hsum:=hF.sum;have hdl:=hF.dlen;have hpL:=hF.pr;have hps:=b78 (Nat.le_trans hF.sump (by decide));have hcn:=c14 (a02 a b c) (a5C (a02 a b c));have p1:=b2F (a0a a) (a0a b);have p2:=b2F (a0a a) (a0a c);unfold c4F;unfold a02 at *
  generalize a7s a b c st (l1,l2,l3) v=D at *
  generalize a66 w a b c=W at *
  generalize hKe:a5C (a0a a,a0a b,a0a c)=K at *
  generalize a60 (a0a a) (a0a b)=lp at *
  generalize a60 (a0a a) (a0a c)=rp at *
  generalize a0a a=x at *
  generalize a0a b=y at *
  generalize a0a c=z at *
  refine awN hΓ rfl ?_;simp only [go_sem,a5J,a0w,a5x,a5V,c6o,a8K,a1v,a5I,hfit,hK,hdoc,hpr];unfold lbN at hl;exact⟨⟨by omega,by omega,by omega,by omega,by omega⟩,⟨⟨hok,by omega,hsum⟩,by unfold d5A;dsimp only at *;omega⟩,⟨⟨by omega,hps⟩,fun _=>hpL⟩,⟨hok,by omega⟩,d28  avR   avR   avR   avR  rfl rfl rfl⟩
 ·have e:b2U a b c o=rt0:=by unfold b2U;rw [if_neg he]
  rw [e];obtain⟨⟨l1,l2,l3⟩,st,w,v⟩:=o;refine awL hΓ [0] rfl ?_;simp only [go_sem,a5J,a0w,a5x,a5V,c6o,a8K,a1v,a5I];refine AW.still 7 0 0 75 6 _ rfl rfl (fun j hj=>match j,hj with|0,_=>rfl|1,_=>rfl|2,_=>rfl|3,_=>rfl|4,_=>rfl|5,_=>rfl) ?_;refine awN hΓ rfl ?_;simp only [go_sem,a5J,a0w,a5x,a5V,c6o,a8K,a1v,a5I,he];exact⟨⟨by omega,by omega⟩,⟨by omega,by omega⟩,fun h=>absurd h (by omega),fun _=>⟨hl,d28 (a30 _) (a30 _) (a30 _) (a30 _) rfl rfl rfl⟩⟩
end
section
open Go
attribute [local irreducible] AW a0k a1k a0c
abbrev Hw:=Int×Int×Int×BS×BS×BS
abbrev eHw:El Hw:=eP eI (eP eI (eP eI (eP eS (eP eS eS))))
def d8a (h:Hw):Prop:=h.2.2.2.1.length<=140737488351232/\h.2.2.2.2.1.length<=140737488351232/\h.2.2.2.2.2.length<=140737488351232
def a0Q:a0r:=a0r.f1 kS (fun _=>True) (fun s=>kS.enc (s.take 250))
theorem c4C:a0b Tryz.prog 25 a0Q:=by
 refine a0b.f1 Tryz.func25 rfl (by decide) Tryz.results25 Tryz.ntmps25 (by decide) fun s _=>?_
 have hΓ:GOK Tryz.prog (gam []):=GOK.nil;refine awZ hΓ rfl ?_;simp only [go_sem];have e:(min (s.length:Int) 250).toNat=min s.length 250:=by omega
 refine⟨⟨by omega,by omega⟩,?_⟩;rw [e,List.take_eq_take_iff];omega
def d8u (h:Hw):Pt:=(h.2.2.2.1,h.2.2.2.2.1,h.2.2.2.2.2,false,[],[],[],[],false)
theorem d2s {c:Nat->AV} {l1 l2 l3:BS} {a b d:Int} (h0:c 0=.st l1) (h1:c 1=.st l2) (h2:c 2=.st l3) (h3:c 3=.val (.int .i64 a)) (h4:c 4=.val (.int .i64 b)) (h5:c 5=.val (.int .i64 d)):a0k (.ag 6 c) (.ag 6 (eOp.enc ((l1,l2,l3),a,b,d))):=
 a0k.ag fun j hj=>a0k.of_eq (match j,hj with
  | 0,_=>h0
  | 1,_=>h1
  | 2,_=>h2
  | 3,_=>h3
  | 4,_=>h4
  | 5,_=>h5)
def b40:a0r:=a0r.f1 (kA eHw) (fun _=>True) (fun h=>(kA ePt).enc (d8u h))
theorem d37:a0b Tryz.prog 94 b40:=by
 refine a0b.f1 Tryz.func94 rfl (by decide) Tryz.results94 Tryz.ntmps94 (by decide) fun h _=>?_
 have hΓ:GOK Tryz.prog (gam []):=GOK.nil;obtain⟨st,w,v,l1,l2,l3⟩:=h;refine awZ hΓ rfl ?_;simp only [go_sem];exact d4g rfl rfl rfl rfl rfl rfl rfl rfl rfl
def a5k:a0r:=a0r.f0 ((kA eOp).enc (([],[],[]),0,7,0))
theorem b1R:a0b Tryz.prog 54 a5k:=by
 refine a0b.f0 Tryz.func54 rfl (by decide) Tryz.results54 Tryz.ntmps54 ?_;have hΓ:GOK Tryz.prog (gam []):=GOK.nil;refine awZ hΓ rfl ?_;simp only [go_sem];exact d2s rfl rfl rfl rfl rfl rfl
def b0u (s:BS):BS:=s.takeWhile fun c=>!(c==10)
theorem b4V:∀ (s:BS) (i:Nat),i<=s.length->(∀ k,k<i->s.getD k 0≠10)->(i<s.length->s.getD i 0=10)->b0u s=s.take i
 | [],i,h,_,_=>by simp [b0u]
 | c::s,0,_,_,h=>by
   have h:c=10:=by simpa using h (by simp)
   simp [b0u,h]
 | c::s,i+1,h,h1,h2=>by
   have h0:c≠10:=by simpa using h1 0 (by omega)
   have ih:=b4V s i (by simpa using h) (fun k hk=>by simpa using h1 (k+1) (by omega)) (fun hk=>by simpa using h2 (by simpa using hk));unfold b0u at ih ⊢;rw [List.takeWhile_cons,if_pos (by simpa using h0),ih,List.take_succ_cons]
def b01:a0r:=a0r.f1 kS (fun s=>s.length<=140737488351232) (fun s=>kS.enc (b0u s))
theorem c8Y:a0b Tryz.prog 95 b01:=by
 refine a0b.f1 Tryz.func95 rfl (by decide) Tryz.results95 Tryz.ntmps95 (by decide) fun s hs=>?_
 have hΓ:GOK Tryz.prog (gam []):=GOK.nil;refine awZ hΓ rfl ?_;simp only [go_sem];refine AW.round (α:={ i:Nat // i<=s.length/\∀ k,k<i->s.getD k 0≠10 }) (fun x=>⟨[(0,.st s),(2,.st []),(3,.val (.int .i64 x.1))],[],18,0,0,[]⟩) (fun x=>s.length-x.1) ⟨0,nZL _,fun k hk=>absurd hk (Nat.not_lt_zero _)⟩ ?_ ?_
 ·simp only [go_sem]
 ·rintro⟨i,hi,hk⟩;refine awN hΓ rfl ?_;simp only [go_sem];refine⟨fun hlt=>⟨⟨by omega,by omega⟩,fun h=>⟨⟨by omega,by omega⟩,(b4V s i hi hk fun _=>h).symm⟩,fun h=>⟨⟨by omega,by omega⟩,⟨i+1,by omega,fun k hk2=>?_⟩,by dsimp only;omega,by dsimp only;omega⟩⟩,fun hge=>?_⟩
  ·rcases Nat.lt_or_ge k i with g|g
   ·exact hk k g
   ·obtain rfl:k=i:=by omega
    exact h
  ·rw [b4V s i hi hk (fun h=>absurd h (by omega)),List.take_of_length_le (by omega)]
def d2z (n m:Int):Int:=(IntKind.u64.wrap n).tmod m
theorem b2I (n:Int) {m:Int} (h:0<m):0<=d2z n m/\d2z n m<m:=by
 unfold d2z;have h1:0<=IntKind.u64.wrap n:=by rw [IntKind.wrap_u64];omega
 rw [Int.tmod_eq_emod_of_nonneg h1];exact⟨Int.emod_nonneg _ (by omega),Int.emod_lt_of_pos _ h⟩
def d68 (h:Hw):Op:=((b0u h.2.2.2.1,b0u h.2.2.2.2.1,b0u h.2.2.2.2.2),d2z h.1 3,7+d2z h.2.1 58,0)
def a16:a0r:=a0r.f1 (kA eHw) d8a (fun h=>(kA eOp).enc (d68 h))
theorem d2R:a0b Tryz.prog 36 a16:=by
 refine a0b.f1 Tryz.func36 rfl (by decide) Tryz.results36 Tryz.ntmps36 (by decide) fun h hh=>?_
 have hΓ:GOK Tryz.prog (gam [(94,b40),(95,b01)]):=(.cons d37 (.cons c8Y .nil));obtain⟨st,w,v,l1,l2,l3⟩:=h;obtain⟨h1,h2,h3⟩:=hh;dsimp only at h1 h2 h3;refine awL hΓ [0,200002] rfl ?_;simp only [go_sem,b40,b01];refine AW.still 1 0 0 71 6 _ rfl rfl (fun j hj=>match j,hj with|0,_=>rfl|1,_=>rfl|2,_=>rfl|3,_=>rfl|4,_=>rfl|5,_=>rfl) ?_;refine awL hΓ [1,200002] rfl ?_;simp only [go_sem,b40,b01];refine AW.fork ?_;refine AW.drawZ hΓ mixed 9 [9,11,13] [9,11,13] [] (by decide +kernel) ?_;simp only [go_sem,b40,b01,b7E];refine⟨h1,h2,h3,?_⟩;refine AW.cut ⟨[(1,.ps 6 (eHw.enc (st,w,v,l1,l2,l3))),(2,.pt 1 1 0),(3,.pt 2 2 0)],[(1,.box 1 75 6 (eOp.enc (([],[],[]),0,0,0))),(2,.box 2 108 9 (ePt.enc (b0u l1,b0u l2,b0u l3,false,[],[],[],[],false)))],37,3,3,[]⟩ ?_ ?_
 ·simp only [go_sem,b40,b01];exact⟨a0c.box fun j hj=>a0k.of_eq (match j,hj with|0,_=>rfl|1,_=>rfl|2,_=>rfl|3,_=>rfl|4,_=>rfl|5,_=>rfl),b6x rfl rfl rfl rfl rfl rfl rfl rfl rfl⟩
 refine awN hΓ rfl ?_;simp only [go_sem,b40,b01];have g1:0<=(IntKind.u64.wrap st).tmod 3/\(IntKind.u64.wrap st).tmod 3<3:=b2I st (by decide);have g2:0<=(IntKind.u64.wrap w).tmod 58/\(IntKind.u64.wrap w).tmod 58<58:=b2I w (by decide);exact⟨⟨by omega,by omega⟩,⟨by omega,by omega⟩,⟨by omega,by omega⟩,d2s rfl rfl rfl rfl rfl rfl⟩
end
set_option maxHeartbeats 8000000
section
open Go
abbrev Mg:=List Pt×BS×Int×List Ck
abbrev eMg:El Mg:=eP (eL ePt) (eP eS (eP eI (eL eCk)))
abbrev Ss:=(BS×BS×BS)×Op×Option Mg
def shC (p1 p2 p3 p4 v1 v2 v3 v4:Nat) (x:Ss):Nat->AV:=fun j=>
 if j=0 then .ow p1 v1 x.1.1.length else if j=1 then .ow p2 v2 x.1.2.1.length else if j=2 then .ow p3 v3 x.1.2.2.length else if j<9 then eOp.enc x.2.1 (j-3) else if x.2.2.isSome=true then .pt p4 v4 0 else .val (.pointer none)
def mgR (v:Nat):Option Mg->Row
 | none=>.dead
 | some m=>.box v 173 4 (eMg.enc m)
section
variable (p1 p2 p3 p4 v1 v2 v3 v4:Nat) (x:Ss)
@[go_sem] theorem d9G:shC p1 p2 p3 p4 v1 v2 v3 v4 x 0=.ow p1 v1 x.1.1.length:=rfl
@[go_sem] theorem d9A:shC p1 p2 p3 p4 v1 v2 v3 v4 x 1=.ow p2 v2 x.1.2.1.length:=rfl
@[go_sem] theorem d9t:shC p1 p2 p3 p4 v1 v2 v3 v4 x 2=.ow p3 v3 x.1.2.2.length:=rfl
@[go_sem] theorem d9y:shC p1 p2 p3 p4 v1 v2 v3 v4 x 3=.st x.2.1.1.1:=rfl
@[go_sem] theorem d9K:shC p1 p2 p3 p4 v1 v2 v3 v4 x 4=.st x.2.1.1.2.1:=rfl
@[go_sem] theorem d9B:shC p1 p2 p3 p4 v1 v2 v3 v4 x 5=.st x.2.1.1.2.2:=rfl
@[go_sem] theorem d9u:shC p1 p2 p3 p4 v1 v2 v3 v4 x 6=.val (.int .i64 x.2.1.2.1):=rfl
@[go_sem] theorem d9l:shC p1 p2 p3 p4 v1 v2 v3 v4 x 7=.val (.int .i64 x.2.1.2.2.1):=rfl
@[go_sem] theorem d9o:shC p1 p2 p3 p4 v1 v2 v3 v4 x 8=.val (.int .i64 x.2.1.2.2.2):=rfl
theorem b9E:shC p1 p2 p3 p4 v1 v2 v3 v4 x 9=if x.2.2.isSome=true then .pt p4 v4 0 else .val (.pointer none):=rfl
end
theorem d1W (p1 p2 p3 p4 q1 q2 q3 q4 v v1 v2 v3 v4:Nat) (x:Ss):a0c (.box v 106 10 (shC p1 p2 p3 p4 v1 v2 v3 v4 x)) (.box v 106 10 (shC q1 q2 q3 q4 v1 v2 v3 v4 x)):=a0c.box fun j hj=>by
 unfold shC
 repeat' split
 all_goals first|exact a0k.ow|exact a0k.pt|exact avR
theorem a0c.less {ver ety sz n n':Nat} {c d:Nat->Nat->AV} (hn:n'<=n) (h:∀ i,i<n'->∀ j,j<sz->a0k (c i j) (d i j)):a0c (.sl ver ety sz n c) (.sl ver ety sz n' d):=by
 refine⟨rfl,fun w η L hr g cap he=>?_⟩;have:=hr g cap he;cases g with
 | none=>
   have:n=0:=this;show n'=0;omega
 | some b=>
   obtain⟨cur,hh,hs,hn',hm,hc⟩:=this;refine⟨cur,hh,hs,by omega,hm,fun i hi j hj=>?_⟩;obtain⟨u,hu,h1,hrep⟩:=hc i (by omega) j hj;exact⟨u,hu,h1,h i hi j hj _ _ _ _ hrep⟩
theorem b2q {u:Nat} {l:List UInt8} (k:Nat):a0c (a0l u l) (a0l u (l.take k)):=by
 refine a0c.less (by rw [List.length_take];omega) fun i hi j hj=>a0k.of_eq ?_
 unfold a2p;rw [List.length_take] at hi;rw [show (l.take k).getD i 0=l.getD i 0 by simp [List.getD,List.getElem?_take,show i<k by omega]]
def sSh (R:List AV->Ss->AV->Ss->Prop):a0O:=fun args hp top nx K=>∃ (v v1 v2 v3 v4:Nat) (xs:List AV) (a:Ss) (r:AV) (b:Ss),args=.pt 0 v 0::xs/\R xs a r b/\
 hp=rws [(0,.box v 106 10 (shC 1 2 3 4 v1 v2 v3 v4 a)),(1,a0l v1 a.1.1),(2,a0l v2 a.1.2.1),(3,a0l v3 a.1.2.2),(4,mgR v4 a.2.2)]/\top=5/\
 ∀ u1 u2 u3 u4 nx',(u1=v1\/nx<=u1)->(u2=v2\/nx<=u2)->(u3=v3\/nx<=u3)->((a.2.2.isSome=true/\u4=v4)\/nx<=u4)->nx<=nx'->
  K r (rws [(0,.box v 106 10 (shC 1 2 3 4 u1 u2 u3 u4 b)),(1,a0l u1 b.1.1),(2,a0l u2 b.1.2.1),(3,a0l u3 b.1.2.2),(4,mgR u4 b.2.2)]) 5 nx'
theorem d3v {hp:Nat->Row} {p q s t u:Nat} {a b c d e:Row} (h:a0c (hp p) a) (h2:a0c (hp q) b) (h3:a0c (hp s) c) (h4:a0c (hp t) d) (h5:a0c (hp u) e):∀ (i o:Nat),[p,q,s,t,u][i]?=some o->a0c (hp o) (rws [(0,a),(1,b),(2,c),(3,d),(4,e)] i):=by
 intro i o hq
 match i with
 | 0=>simp only [gCZ,oSI] at hq;subst hq;exact h
 | 1=>simp only [gCS,gCZ,oSI] at hq;subst hq;exact h2
 | 2=>simp only [gCS,gCZ,oSI] at hq;subst hq;exact h3
 | 3=>simp only [gCS,gCZ,oSI] at hq;subst hq;exact h4
 | 4=>simp only [gCS,gCZ,oSI] at hq;subst hq;exact h5
 | i+5=>simp at hq
theorem d3t {v:Nat} {o:Option Mg} {w:Nat} (h:(mgR v o).ver=some w):o.isSome=true/\w=v:=by
 cases o with
 | none=>cases h
 | some m=>exact⟨rfl,(oJI (show some v=some w from h)).symm⟩
end
section
open Go
attribute [local irreducible] AW a0k a1k a0c a6H
def a4n (w:List UInt8):Int:=if w=[98,97,115,101] then 0 else if w=[108,101,102,116] then 1 else if w=[114,105,103,104,116] then 2 else -1
def fl3:List (List UInt8):=[[98,97,115,101],[108,101,102,116],[114,105,103,104,116]]
def wdE:List (List UInt8):=[[111,107],[97,114,103,117,109,101,110,116],[115,105,122,101],[108,97,98,101,108],[119,105,100,116,104],[115,116,121,108,101],[109,97,108,102,111,114,109,101,100],[110,101,115,116,101,100],[115,116,114,97,121],[102,108,97,103],[117,110,99,108,111,115,101,100],[102,111,114,109],[109,97,116,99,104],[119,111,114,100]]
def b8K (e:Int):List UInt8:=wdE.getD e.toNat []
def a0N:a0r:=a0r.f1 kI (fun e=>0<=e/\e<14) (fun e=>kS.enc (b8K e))
theorem a9R:a0b Tryz.prog 116 a0N:=by
 refine a0b.f1 Tryz.func116 rfl (by decide) Tryz.results116 Tryz.ntmps116 (by decide) fun e he=>?_
 have hΓ:GOK Tryz.prog (gam []):=GOK.nil;obtain⟨k,rfl⟩:=Int.eq_ofNat_of_zero_le he.1;have hk:k=0\/k=1\/k=2\/k=3\/k=4\/k=5\/k=6\/k=7\/k=8\/k=9\/k=10\/k=11\/k=12\/k=13:=by omega
 have hI1:((k:Int)<0)=False:=eq_false (by omega);have hI2:(14<=(k:Int))=False:=eq_false (by omega);refine awN hΓ rfl ?_;simp only [go_sem,hI1,hI2];rcases hk with rfl|rfl|rfl|rfl|rfl|rfl|rfl|rfl|rfl|rfl|rfl|rfl|rfl|rfl<;>exact⟨by omega,by decide,rfl,avR⟩
def a3a (t:List UInt8) (e:Int):List UInt8:=if e=0 then a4j t else b8K e
def a0m:a0r:=a0r.f2 kS kI (fun t e=>t.length<=4000000000/\0<=e/\e<14) (fun t e=>kS.enc (a3a t e))
theorem b2D:a0b Tryz.prog 120 a0m:=by
 refine a0b.f2 Tryz.func120 rfl (by decide) Tryz.results120 Tryz.ntmps120 (by decide) fun t e ⟨ht,he⟩=>?_
 have hΓ:GOK Tryz.prog (gam [(116,a0N),(118,a2T)]):=(.cons a9R (.cons b99 .nil));refine awN hΓ rfl ?_;simp only [go_sem,a0N,a2T];unfold a3a;exact⟨fun h=>⟨he,by rw [if_neg h]⟩,fun h=>⟨ht,by rw [if_pos (Decidable.not_not.1 h)]⟩⟩
end
section
open Go
attribute [local irreducible] AW a0k a1k a0c a6H
def c3V (p v:Nat) (w:List UInt8):AV:=if a4n w=-1 then .val (.pointer none) else .pt p v (a4n w).toNat
def c2B:a0O:=fun args hp top nx K=>∃ (v:Nat) (c:Nat->AV) (w:List UInt8),args=[.pt 0 v 0,.st w]/\hp=rws [(0,.box v 106 10 c)]/\top=1/\
 ∀ nx',nx<=nx'->K (tu2 (c3V 0 v w) (kB.enc (decide (0<=a4n w)))) (rws [(0,.box v 106 10 c)]) 1 nx'
theorem c6M:a0g Tryz.prog 112 c2B:=by
 refine a0g.mk Tryz.func112 rfl (by decide) Tryz.results112 Tryz.ntmps112 ?_;rintro args hp top nx K ⟨v,c,w,rfl,rfl,rfl,hK⟩;have hΓ:GOK Tryz.prog (gam []):=GOK.nil;refine⟨Nat.le_of_ble_eq_true rfl,AW.late ?_⟩;by_cases h1:w=[98,97,115,101]
 ·subst h1;refine awN hΓ rfl ?_;simp only [go_sem];refine⟨_,a0e (fun p=>p) (l:=[(4,.pt 0 v 0),(5,.val (.bool true))]) (r:=[(0,.box v 106 10 c)]) (sz:=25) (top:=1) (nx:=nx) (df:=[]) ?_,?_⟩
  ·simp only [go_sem];exact rlR
  ·simp only [go_sem];exact hK nx (nLR _)
 by_cases h2:w=[108,101,102,116]
 ·subst h2;refine awN hΓ rfl ?_;simp only [go_sem];refine⟨fun h=>absurd h h1,fun _=>?_⟩;refine⟨_,a0e (fun p=>p) (l:=[(4,.pt 0 v 1),(5,.val (.bool true))]) (r:=[(0,.box v 106 10 c)]) (sz:=25) (top:=1) (nx:=nx) (df:=[]) ?_,?_⟩
  ·simp only [go_sem];exact rlR
  ·simp only [go_sem];exact hK nx (nLR _)
 by_cases h3:w=[114,105,103,104,116]
 ·subst h3;refine awN hΓ rfl ?_;simp only [go_sem];refine⟨fun h=>absurd h h1,fun _=>⟨fun h=>absurd h h2,fun _=>?_⟩⟩;refine⟨_,a0e (fun p=>p) (l:=[(4,.pt 0 v 2),(5,.val (.bool true))]) (r:=[(0,.box v 106 10 c)]) (sz:=25) (top:=1) (nx:=nx) (df:=[]) ?_,?_⟩
  ·simp only [go_sem];exact rlR
  ·simp only [go_sem];exact hK nx (nLR _)
 refine awN hΓ rfl ?_;simp only [go_sem,h1,h2,h3];have hf:a4n w=-1:=by unfold a4n;rw [if_neg h1,if_neg h2,if_neg h3]
 rw [show c3V 0 v w=.val (.pointer none) by unfold c3V;rw [if_pos hf],hf] at hK;refine⟨_,a0e (fun p=>p) (l:=[(4,.val (.pointer none)),(5,.val (.bool false))]) (r:=[(0,.box v 106 10 c)]) (sz:=25) (top:=1) (nx:=nx) (df:=[]) ?_,?_⟩
 ·simp only [go_sem];exact⟨a0k.of_eq rfl,rlR⟩
 ·simp only [go_sem];exact hK nx (nLR _)
def a0h:a0O:=a1I c2B
theorem b5D:a0g Tryz.prog 112 a0h:=c6M.frame
theorem b5P {w:List UInt8} {p0 v:Nat} {c:Nat->AV} {hp:Nat->Row} {top nx:Nat} {K:AV->(Nat->Row)->Nat->Nat->Prop} (ht:p0<top) (h0:a0c (hp p0) (.box v 106 10 c))
  (hK:∀ nx',nx<=nx'->K (tu2 (c3V p0 v w) (kB.enc (decide (0<=a4n w)))) (a0X hp p0 (.box v 106 10 c)) top nx'):a0h [.pt p0 v 0,.st w] hp top nx K:=by
 have w0:(hp p0).ver=some v:=h0.vers.symm;refine⟨[p0],[.pt 0 v 0,.st w],rws [(0,.box v 106 10 c)],by simp,by simpa using ht,.cons a0k.pt (a4I.same _),fun i o hq=>?_,fun i hi=>a13 (top:=1) (by simp) i (by simpa using hi),v,c,w,rfl,rfl,rfl,fun nx' hn=>?_⟩
 ·match i with
  | 0=>
    simp only [gCZ,oSI] at hq;subst hq;exact h0
  | i+1=>simp at hq
 ·refine⟨_,_,?_,fun i o ho=>?_,fun o ho=>?_,fun o ho w hv=>?_,hK nx' hn⟩
  ·refine a0k.tu fun j hj=>?_
   split
   case isFalse=>exact avR
   unfold c3V;split
   ·exact avR
   ·exact a0k.pt
  ·match i with
   | 0=>
     simp only [gCZ,oSI] at ho;subst ho;rw [a0i];exact rlR
   | i+1=>simp at ho
  ·simp only [List.mem_cons,List.not_mem_nil,or_false] at ho;rw [a0d _ _ ho]
  ·simp only [List.mem_cons,List.not_mem_nil,or_false] at ho;subst ho;rw [a0i] at hv;have:some v=some w:=hv;obtain rfl:=oJI this;exact .inl w0
def txt (a:Ss) (k:Int):List UInt8:=if k=0 then a.1.1 else if k=1 then a.1.2.1 else a.1.2.2
def b60 (a:Ss) (k:Int) (t:List UInt8):Ss:=if k=0 then ((t,a.1.2.1,a.1.2.2),a.2) else if k=1 then ((a.1.1,t,a.1.2.2),a.2) else ((a.1.1,a.1.2.1,t),a.2)
abbrev okT:List UInt8:=[111,107]
abbrev a00:List UInt8:=[119,104,97,116]
def a26 (line:List UInt8) (a:Ss):List UInt8×Ss:=if 3<=(wdL line).length/\0<=a4n ((wdL line).getD 1 []) then (okT,b60 a (a4n ((wdL line).getD 1 [])) (txt a (a4n ((wdL line).getD 1 []))++a9s 2 line++[10])) else (a00,a)
def c7E (a:Ss):Prop:=a.1.1.length<=100000000/\a.1.2.1.length<=100000000/\a.1.2.2.length<=100000000
theorem a0Z {K:AV->(Nat->Row)->Nat->Nat->Prop} {r:AV} {v v1 v2 v3 v4 nx:Nat} {a b:Ss}
  (hK:∀ u1 u2 u3 u4 nx',(u1=v1\/nx<=u1)->(u2=v2\/nx<=u2)->(u3=v3\/nx<=u3)->((a.2.2.isSome=true/\u4=v4)\/nx<=u4)->nx<=nx'->
   K r (rws [(0,.box v 106 10 (shC 1 2 3 4 u1 u2 u3 u4 b)),(1,a0l u1 b.1.1),(2,a0l u2 b.1.2.1),(3,a0l u3 b.1.2.2),(4,mgR u4 b.2.2)]) 5 nx') (hb:b.2.2=a.2.2) :
  ∀ u1 u2 u3 nx',(u1=v1\/nx<=u1)->(u2=v2\/nx<=u2)->(u3=v3\/nx<=u3)->nx<=nx'->
   K r (rws [(0,.box v 106 10 (shC 1 2 3 4 u1 u2 u3 v4 b)),(1,a0l u1 b.1.1),(2,a0l u2 b.1.2.1),(3,a0l u3 b.1.2.2),(4,mgR v4 b.2.2)]) 5 nx':=by
 intro u1 u2 u3 nx' h1 h2 h3 hn;cases hm:a.2.2 with
 | some m=>exact hK u1 u2 u3 v4 nx' h1 h2 h3 (.inl ⟨by rw [hm];rfl,rfl⟩) hn
 | none=>
   have:=hK u1 u2 u3 nx nx' h1 h2 h3 (.inr (nLR _)) hn
   have e:shC 1 2 3 4 u1 u2 u3 v4 b=shC 1 2 3 4 u1 u2 u3 nx b:=by
    funext j
    unfold shC;rw [hb,hm];rfl
   rw [e,show mgR v4 b.2.2=mgR nx b.2.2 by rw [hb,hm];rfl];exact this
def c7q (xs:List AV) (a:Ss) (r:AV) (b:Ss):Prop:=∃ line:List UInt8,xs=[.st line,sL eS (wdL line).tail]/\line.length<=1000/\c7E a/\r=.st (a26 line a).1/\b=(a26 line a).2
def c7x:a0O:=sSh c7q
theorem c1V (w:List UInt8):(a4n w=-1/\∀ p v,c3V p v w=.val (.pointer none))\/(a4n w=0/\∀ p v,c3V p v w=.pt p v 0)\/(a4n w=1/\∀ p v,c3V p v w=.pt p v 1)\/(a4n w=2/\∀ p v,c3V p v w=.pt p v 2):=by
 by_cases h1:w=[98,97,115,101]
 ·subst h1;exact .inr (.inl ⟨rfl,fun _ _=>rfl⟩)
 by_cases h2:w=[108,101,102,116]
 ·subst h2;exact .inr (.inr (.inl ⟨rfl,fun _ _=>rfl⟩))
 by_cases h3:w=[114,105,103,104,116]
 ·subst h3;exact .inr (.inr (.inr ⟨rfl,fun _ _=>rfl⟩))
 have e:a4n w=-1:=by unfold a4n;rw [if_neg h1,if_neg h2,if_neg h3]
 exact .inl ⟨e,fun p v=>by unfold c3V;rw [if_pos e]⟩
theorem a1r (l:List (List UInt8)) (i:Nat):l.tail.getD i []=l.getD (i+1) []:=by
 cases l<;>simp [List.getD]
theorem a7D:∀ (s:List UInt8) (n:Nat),(a9s n s).length<=s.length
 | [],_=>by simp [a9s]
 | c::r,n=>by
   have h1:=a7D r n;have h2:=a7D r (n-1);rw [a9s];split
   ·split
    ·simp
    ·simp;omega
   ·simp;omega
theorem b0q {nx n m k:Nat} {l s t:List UInt8} (hn:n=l.length) (hm:m=n+s.length) (hk:k=m+t.length):a0c (.sl nx 5 1 k (apC m (apC n (a2p l) (a2p s)) (a2p t))) (a0l nx (l++s++t)):=by
 subst hn hm hk;refine a0c.sl (by simp only [lAp]) fun i hi j hj=>a0k.of_eq ?_
 unfold apC a2p;by_cases h:i<l.length+s.length
 ·rw [if_pos h];by_cases h2:i<l.length
  ·rw [if_pos h2];simp [List.getD,List.append_assoc,List.getElem?_append_left h2]
  ·rw [if_neg h2];simp [List.getD,List.append_assoc,List.getElem?_append_right (Nat.le_of_not_lt h2),List.getElem?_append_left (show i-l.length<s.length by omega)]
 ·rw [if_neg h];have e:i-(l.length+s.length)=i-(l++s).length:=by rw [lAp]
  rw [e];simp only [List.getD];rw [List.getElem?_append_right (by rw [lAp];omega)]
theorem d0K {v v1 v2 v3 v4 u n:Nat} {a b:Ss} (hn:n=b.1.1.length) (h1:b.1.2.1=a.1.2.1) (h2:b.1.2.2=a.1.2.2) (hb:b.2=a.2):a0c (.box v 106 10 (stC (shC 1 2 3 4 v1 v2 v3 v4 a) 0 1 fun _=>.ow 1 u n)) (.box v 106 10 (shC 1 2 3 4 u v2 v3 v4 b)):=by
 obtain⟨⟨a1,a2,a3⟩,a4⟩:=a;obtain⟨⟨b1,b2,b3⟩,b4⟩:=b;dsimp only at hn h1 h2 hb;subst hn hb h1 h2;refine a0c.box fun j hj=>?_
 have hc:j=0\/j=1\/j=2\/j=3\/j=4\/j=5\/j=6\/j=7\/j=8\/j=9:=by omega
 rcases hc with rfl|rfl|rfl|rfl|rfl|rfl|rfl|rfl|rfl|rfl<;>exact avR
theorem c8T {v v1 v2 v3 v4 u n:Nat} {a b:Ss} (hn:n=b.1.2.1.length) (h0:b.1.1=a.1.1) (h2:b.1.2.2=a.1.2.2) (hb:b.2=a.2):a0c (.box v 106 10 (stC (shC 1 2 3 4 v1 v2 v3 v4 a) 1 1 fun _=>.ow 2 u n)) (.box v 106 10 (shC 1 2 3 4 v1 u v3 v4 b)):=by
 obtain⟨⟨a1,a2,a3⟩,a4⟩:=a;obtain⟨⟨b1,b2,b3⟩,b4⟩:=b;dsimp only at hn h0 h2 hb;subst hn hb h0 h2;refine a0c.box fun j hj=>?_
 have hc:j=0\/j=1\/j=2\/j=3\/j=4\/j=5\/j=6\/j=7\/j=8\/j=9:=by omega
 rcases hc with rfl|rfl|rfl|rfl|rfl|rfl|rfl|rfl|rfl|rfl<;>exact avR
theorem d0C {v v1 v2 v3 v4 u n:Nat} {a b:Ss} (hn:n=b.1.2.2.length) (h0:b.1.1=a.1.1) (h1:b.1.2.1=a.1.2.1) (hb:b.2=a.2):a0c (.box v 106 10 (stC (shC 1 2 3 4 v1 v2 v3 v4 a) 2 1 fun _=>.ow 3 u n)) (.box v 106 10 (shC 1 2 3 4 v1 v2 u v4 b)):=by
 obtain⟨⟨a1,a2,a3⟩,a4⟩:=a;obtain⟨⟨b1,b2,b3⟩,b4⟩:=b;dsimp only at hn h0 h1 hb;subst hn hb h0 h1;refine a0c.box fun j hj=>?_
 have hc:j=0\/j=1\/j=2\/j=3\/j=4\/j=5\/j=6\/j=7\/j=8\/j=9:=by omega
 rcases hc with rfl|rfl|rfl|rfl|rfl|rfl|rfl|rfl|rfl|rfl<;>exact avR
theorem a4A:decide ((0:Int)<=-1)=false:=rfl
theorem d0k:a0g Tryz.prog 56 c7x:=by
 refine a0g.mk Tryz.func56 rfl (by decide) Tryz.results56 Tryz.ntmps56 ?_;rintro args hp top nx K ⟨v,v1,v2,v3,v4,xs,a,r,b,rfl,⟨line,rfl,hl,hs,rfl,rfl⟩,rfl,rfl,hK⟩;have hΓ:GOK Tryz.prog (gam [(112,a0h),(113,a1m)]):=(.cons b5D (.cons c6Z .nil));refine⟨Nat.le_of_ble_eq_true rfl,AW.late ?_⟩;by_cases h3:3<=(wdL line).length
 ·have hI:(((wdL line).tail.length:Int)<2)=False:=eq_false (by rw [List.length_tail];omega);obtain⟨q1,q2⟩:=d2U h3;refine awL hΓ [6] rfl ?_;simp only [go_sem,a0h,a1m,hI,a1r];refine⟨by rw [List.length_tail];omega,?_⟩;generalize hw:(wdL line).getD 1 []=w1 at *
  refine b5P (by exact (by decide:0<5))  rlR  fun nx1 hn1=>?_
  rcases c1V w1 with⟨f1,f2⟩|⟨f1,f2⟩|⟨f1,f2⟩|⟨f1,f2⟩
  ·rw [f1,f2];have e:a26 line a=(a00,a):=by unfold a26;rw [if_neg fun h=>by rw [hw,f1] at h;omega]
   rw [e] at hK;have hk:=a0Z hK rfl;simp only [go_sem,a0h,a1m,a4A];refine⟨_,a0e (fun p=>p) (l:=[(6,.st a00)]) (r:=[(0,.box v 106 10 (shC 1 2 3 4 v1 v2 v3 v4 a)),(1,a0l v1 a.1.1),(2,a0l v2 a.1.2.1),(3,a0l v3 a.1.2.2),(4,mgR v4 a.2.2)]) (sz:=35) (top:=5) (nx:=nx1) (df:=[]) ?_,?_⟩
   ·simp only [go_sem,a0h,a1m];exact⟨rlR,rlR,rlR,rlR,rlR⟩
   ·simp only [go_sem,a0h,a1m];exact hk v1 v2 v3 nx1 (.inl rfl) (.inl rfl) (.inl rfl) hn1
  ·rw [f1,f2];simp only [go_sem,a0h,a1m,q1,q2];refine⟨by omega,?_⟩;have e:a26 line a=(okT,((a.1.1++a9s 2 line++[10],a.1.2.1,a.1.2.2),a.2)):=by unfold a26;rw [hw,f1,if_pos ⟨h3,by decide⟩];rfl
   rw [e] at hK;have hk:=a0Z hK rfl;refine AW.cut ⟨[(0,.pt 0 v 0),(7,.pt 0 v 0),(9,.st (a9s 2 line))],[(0,.box v 106 10 (shC 1 2 3 4 v1 v2 v3 v4 a)),(1,a0l v1 a.1.1),(2,a0l v2 a.1.2.1),(3,a0l v3 a.1.2.2),(4,mgR v4 a.2.2)],35,5,nx1,[]⟩ ?_ ?_
   ·simp only [go_sem,a0h,a1m];exact⟨rlR,rlR,rlR,rlR,rlR⟩
   have hbl:=a7D line 2;obtain⟨z1,z2,z3⟩:=hs;refine AW.fork (AW.regionO hΓ [false,false,false,false,false,true,true] ?_);simp only [go_sem,a0h,a1m];refine a6j rfl Tryz.underlying102 Tryz.underlying9 rfl rfl rfl (Nat.lt_of_lt_of_le (by decide:32<35) (nLR _)) ⟨a7c,by decide,by rw [a3F];decide,by rw [a3F];omega,_,b2A,rfl⟩ ?_;simp only [go_sem,a0h,a1m];refine a6j rfl Tryz.underlying102 Tryz.underlying9 rfl rfl rfl (Nat.lt_of_lt_of_le (by decide:33<35) (nLR _)) ⟨a7c,by decide,by rw [a3F];decide,by rw [a3F];simp only [lCo,List.length_nil];omega,_,b2A,rfl⟩ ?_;simp only [go_sem,a0h,a1m];refine awZ hΓ rfl ?_;simp only [go_sem,a0h,a1m];refine⟨_,a0e (fun p=>p) (l:=[(6,.st okT)]) (r:=[(0,.box v 106 10 (shC 1 2 3 4 (nx1+1) v2 v3 v4 ((a.1.1++a9s 2 line++[10],a.1.2.1,a.1.2.2),a.2))),(1,a0l (nx1+1) (a.1.1++a9s 2 line++[10])),(2,a0l v2 (a.1.2.1)),(3,a0l v3 (a.1.2.2)),(4,mgR v4 a.2.2)]) (sz:=35) (top:=5) (nx:=nx1+1+1) (df:=[]) ?_,?_⟩
   ·simp only [go_sem,a0h,a1m];refine⟨d0K (by simp;omega) rfl rfl rfl,b0q rfl rfl rfl,rlR,rlR,rlR⟩
   ·simp only [go_sem,a0h,a1m];exact hk (nx1+1) v2 v3 (nx1+1+1) (.inr (by omega)) (.inl rfl) (.inl rfl) (by omega)
  ·rw [f1,f2];simp only [go_sem,a0h,a1m,q1,q2];refine⟨by omega,?_⟩;have e:a26 line a=(okT,((a.1.1,a.1.2.1++a9s 2 line++[10],a.1.2.2),a.2)):=by unfold a26;rw [hw,f1,if_pos ⟨h3,by decide⟩];rfl
   rw [e] at hK;have hk:=a0Z hK rfl;refine AW.cut ⟨[(0,.pt 0 v 0),(7,.pt 0 v 1),(9,.st (a9s 2 line))],[(0,.box v 106 10 (shC 1 2 3 4 v1 v2 v3 v4 a)),(1,a0l v1 a.1.1),(2,a0l v2 a.1.2.1),(3,a0l v3 a.1.2.2),(4,mgR v4 a.2.2)],35,5,nx1,[]⟩ ?_ ?_
   ·simp only [go_sem,a0h,a1m];exact⟨rlR,rlR,rlR,rlR,rlR⟩
   have hbl:=a7D line 2;obtain⟨z1,z2,z3⟩:=hs;refine AW.fork (AW.regionO hΓ [false,false,false,false,false,true,true] ?_);simp only [go_sem,a0h,a1m];refine a6j rfl Tryz.underlying102 Tryz.underlying9 rfl rfl rfl (Nat.lt_of_lt_of_le (by decide:32<35) (nLR _)) ⟨a7c,by decide,by rw [a3F];decide,by rw [a3F];omega,_,b2A,rfl⟩ ?_;simp only [go_sem,a0h,a1m];refine a6j rfl Tryz.underlying102 Tryz.underlying9 rfl rfl rfl (Nat.lt_of_lt_of_le (by decide:33<35) (nLR _)) ⟨a7c,by decide,by rw [a3F];decide,by rw [a3F];simp only [lCo,List.length_nil];omega,_,b2A,rfl⟩ ?_;simp only [go_sem,a0h,a1m];refine awZ hΓ rfl ?_;simp only [go_sem,a0h,a1m];refine⟨_,a0e (fun p=>p) (l:=[(6,.st okT)]) (r:=[(0,.box v 106 10 (shC 1 2 3 4 v1 (nx1+1) v3 v4 ((a.1.1,a.1.2.1++a9s 2 line++[10],a.1.2.2),a.2))),(1,a0l v1 (a.1.1)),(2,a0l (nx1+1) (a.1.2.1++a9s 2 line++[10])),(3,a0l v3 (a.1.2.2)),(4,mgR v4 a.2.2)]) (sz:=35) (top:=5) (nx:=nx1+1+1) (df:=[]) ?_,?_⟩
   ·simp only [go_sem,a0h,a1m];refine⟨c8T (by simp;omega) rfl rfl rfl,rlR,b0q rfl rfl rfl,rlR,rlR⟩
   ·simp only [go_sem,a0h,a1m];exact hk v1 (nx1+1) v3 (nx1+1+1) (.inl rfl) (.inr (by omega)) (.inl rfl) (by omega)
  ·rw [f1,f2];simp only [go_sem,a0h,a1m,q1,q2];refine⟨by omega,?_⟩;have e:a26 line a=(okT,((a.1.1,a.1.2.1,a.1.2.2++a9s 2 line++[10]),a.2)):=by unfold a26;rw [hw,f1,if_pos ⟨h3,by decide⟩];rfl
   rw [e] at hK;have hk:=a0Z hK rfl;refine AW.cut ⟨[(0,.pt 0 v 0),(7,.pt 0 v 2),(9,.st (a9s 2 line))],[(0,.box v 106 10 (shC 1 2 3 4 v1 v2 v3 v4 a)),(1,a0l v1 a.1.1),(2,a0l v2 a.1.2.1),(3,a0l v3 a.1.2.2),(4,mgR v4 a.2.2)],35,5,nx1,[]⟩ ?_ ?_
   ·simp only [go_sem,a0h,a1m];exact⟨rlR,rlR,rlR,rlR,rlR⟩
   have hbl:=a7D line 2;obtain⟨z1,z2,z3⟩:=hs;refine AW.fork (AW.regionO hΓ [false,false,false,false,false,true,true] ?_);simp only [go_sem,a0h,a1m];refine a6j rfl Tryz.underlying102 Tryz.underlying9 rfl rfl rfl (Nat.lt_of_lt_of_le (by decide:32<35) (nLR _)) ⟨a7c,by decide,by rw [a3F];decide,by rw [a3F];omega,_,b2A,rfl⟩ ?_;simp only [go_sem,a0h,a1m];refine a6j rfl Tryz.underlying102 Tryz.underlying9 rfl rfl rfl (Nat.lt_of_lt_of_le (by decide:33<35) (nLR _)) ⟨a7c,by decide,by rw [a3F];decide,by rw [a3F];simp only [lCo,List.length_nil];omega,_,b2A,rfl⟩ ?_;simp only [go_sem,a0h,a1m];refine awZ hΓ rfl ?_;simp only [go_sem,a0h,a1m];refine⟨_,a0e (fun p=>p) (l:=[(6,.st okT)]) (r:=[(0,.box v 106 10 (shC 1 2 3 4 v1 v2 (nx1+1) v4 ((a.1.1,a.1.2.1,a.1.2.2++a9s 2 line++[10]),a.2))),(1,a0l v1 (a.1.1)),(2,a0l v2 (a.1.2.1)),(3,a0l (nx1+1) (a.1.2.2++a9s 2 line++[10])),(4,mgR v4 a.2.2)]) (sz:=35) (top:=5) (nx:=nx1+1+1) (df:=[]) ?_,?_⟩
   ·simp only [go_sem,a0h,a1m];refine⟨d0C (by simp;omega) rfl rfl rfl,rlR,rlR,b0q rfl rfl rfl,rlR⟩
   ·simp only [go_sem,a0h,a1m];exact hk v1 v2 (nx1+1) (nx1+1+1) (.inl rfl) (.inl rfl) (.inr (by omega)) (by omega)
 ·have hI:(((wdL line).tail.length:Int)<2)=True:=eq_true (by rw [List.length_tail];omega);have e:a26 line a=(a00,a):=by unfold a26;rw [if_neg fun h=>h3 h.1]
  rw [e] at hK;have hk:=a0Z hK rfl;refine awN hΓ rfl ?_;simp only [go_sem,a0h,a1m,hI];refine⟨_,a0e (fun p=>p) (l:=[(6,.st a00)]) (r:=[(0,.box v 106 10 (shC 1 2 3 4 v1 v2 v3 v4 a)),(1,a0l v1 a.1.1),(2,a0l v2 a.1.2.1),(3,a0l v3 a.1.2.2),(4,mgR v4 a.2.2)]) (sz:=35) (top:=5) (nx:=nx) (df:=[]) ?_,?_⟩
  ·simp only [go_sem,a0h,a1m];exact⟨rlR,rlR,rlR,rlR,rlR⟩
  ·simp only [go_sem,a0h,a1m];exact hk v1 v2 v3 nx (.inl rfl) (.inl rfl) (.inl rfl) (nLR _)
def a1f:a0O:=a1I c7x
theorem c78:a0g Tryz.prog 56 a1f:=d0k.frame
end
section
open Go
attribute [local irreducible] AW a0k a1k a0c a6H
def c5n (a:Ss) (verb:List UInt8) (n:Int):Ss:=(a.1,(if verb=[115,116,121,108,101] then (a.2.1.1,n,a.2.1.2.2) else if verb=[119,105,100,116,104] then (a.2.1.1,a.2.1.2.1,n,a.2.1.2.2.2) else (a.2.1.1,a.2.1.2.1,a.2.1.2.2.1,n)),a.2.2)
noncomputable def a1N (verb line:List UInt8) (a:Ss):List UInt8×Ss:=if (wdL line).length=2/\0<=b1N ((wdL line).getD 1 []) then (okT,c5n a verb (b1N ((wdL line).getD 1 []))) else (a00,a)
def b6N (xs:List AV) (a:Ss) (r:AV) (b:Ss):Prop:=∃ verb line:List UInt8,xs=[.st verb,sL eS (wdL line).tail]/\line.length<=1000/\c7E a/\r=.st (a1N verb line a).1/\b=(a1N verb line a).2
noncomputable def c7k:a0O:=sSh b6N
theorem d2J:∀ (n:Nat) (s:List UInt8),s.length<=n->∀ x∈wdL s,x.length<=s.length:=by
 intro n
 induction n with
 | zero=>
   intro s h x hx;obtain rfl:=List.length_eq_zero_iff.1 (by omega:s.length=0);simp [wdL] at hx;subst hx;simp
 | succ n ih=>
   intro s h x hx;rcases a3y 32 s with h1|⟨p,r,rfl,h1⟩
   ·rw [a68 s h1,List.mem_singleton] at hx;rw [hx];omega
   ·rw [a4g p r h1,List.mem_cons] at hx;simp at h ⊢;rcases hx with rfl|hx
    ·omega
    ·have:=ih r (by omega) x hx;omega
theorem b6b (s:List UInt8) (i:Nat):((wdL s).getD i []).length<=s.length:=by
 by_cases h:i<(wdL s).length
 ·rw [List.getD,List.getElem?_eq_getElem h,Option.getD_some];exact d2J _ s (nLR _) _ (List.getElem_mem ..)
 ·rw [List.getD,List.getElem?_eq_none (by omega)];simp
theorem c1L {v v1 v2 v3 v4:Nat} {c:Nat->AV} {x:Ss} (h:∀ j,j<10->c j=shC 1 2 3 4 v1 v2 v3 v4 x j):a0c (.box v 106 10 c) (.box v 106 10 (shC 1 2 3 4 v1 v2 v3 v4 x)):=a0c.box fun j hj=>a0k.of_eq (h j hj)
theorem c8n:a0g Tryz.prog 58 c7k:=by
 refine a0g.mk Tryz.func58 rfl (by decide) Tryz.results58 Tryz.ntmps58 ?_;rintro args hp top nx K ⟨v,v1,v2,v3,v4,xs,a,r,b,rfl,⟨verb,line,rfl,hl,hs,rfl,rfl⟩,rfl,rfl,hK⟩;have hΓ:GOK Tryz.prog (gam [(114,a0f)]):=(.cons a77 .nil);refine⟨Nat.le_of_ble_eq_true rfl,AW.late ?_⟩;have hg:=b6b line 1;by_cases h2:(wdL line).length=2
 ·have hI:((wdL line).tail.length:Int)=1:=by rw [List.length_tail];omega
  cases hn:a6H ((wdL line).getD 1 []) with
  | none=>
    have e:a1N verb line a=(a00,a):=by unfold a1N;rw [b4L hn,if_neg fun h=>by omega]
    rw [e] at hK;have hk:=a0Z hK rfl;refine awN hΓ rfl ?_;simp only [go_sem,a0f,hI,a1r,hn,nuO];refine⟨by omega,?_⟩;refine⟨_,a0e (fun p=>p) (l:=[(6,.st a00)]) (r:=[(0,.box v 106 10 (shC 1 2 3 4 v1 v2 v3 v4 a)),(1,a0l v1 a.1.1),(2,a0l v2 a.1.2.1),(3,a0l v3 a.1.2.2),(4,mgR v4 a.2.2)]) (sz:=41) (top:=5) (nx:=nx) (df:=[]) ?_,?_⟩
    ·simp only [go_sem,a0f];exact⟨rlR,rlR,rlR,rlR,rlR⟩
    ·simp only [go_sem,a0f];exact hk v1 v2 v3 nx (.inl rfl) (.inl rfl) (.inl rfl) (nLR _)
  | some n=>
    have e:a1N verb line a=(okT,c5n a verb n):=by unfold a1N;rw [a3w hn,if_pos ⟨h2,by omega⟩]
    rw [e] at hK;have hk:=a0Z hK rfl;have fin:∀ c:Nat->AV,(∀ j,j<10->c j=shC 1 2 3 4 v1 v2 v3 v4 (c5n a verb n) j)->a0c (.box v 106 10 c) (.box v 106 10 (shC 1 2 3 4 v1 v2 v3 v4 (c5n a verb n))):=fun c h=>c1L h
    by_cases g1:verb=[115,116,121,108,101]
    ·subst g1;refine awN hΓ rfl ?_;simp only [go_sem,a0f,hI,a1r,hn,nuO];refine⟨by omega,?_⟩;refine⟨_,a0e (fun p=>p) (l:=[(6,.st okT)]) (r:=[(0,.box v 106 10 (shC 1 2 3 4 v1 v2 v3 v4 (c5n a [115,116,121,108,101] n))),(1,a0l v1 a.1.1),(2,a0l v2 a.1.2.1),(3,a0l v3 a.1.2.2),(4,mgR v4 a.2.2)]) (sz:=41) (top:=5) (nx:=nx) (df:=[]) ?_,?_⟩
     ·simp only [go_sem,a0f];refine⟨fin _ fun j hj=>?_,rlR,rlR,rlR,rlR⟩;have hc:j=0\/j=1\/j=2\/j=3\/j=4\/j=5\/j=6\/j=7\/j=8\/j=9:=by omega
      rcases hc with rfl|rfl|rfl|rfl|rfl|rfl|rfl|rfl|rfl|rfl<;>rfl
     ·simp only [go_sem,a0f];exact hk v1 v2 v3 nx (.inl rfl) (.inl rfl) (.inl rfl) (nLR _)
    by_cases g2:verb=[119,105,100,116,104]
    ·subst g2;refine awN hΓ rfl ?_;simp only [go_sem,a0f,hI,a1r,hn,nuO];refine⟨by omega,fun h=>absurd h g1,fun _=>?_⟩;refine⟨_,a0e (fun p=>p) (l:=[(6,.st okT)]) (r:=[(0,.box v 106 10 (shC 1 2 3 4 v1 v2 v3 v4 (c5n a [119,105,100,116,104] n))),(1,a0l v1 a.1.1),(2,a0l v2 a.1.2.1),(3,a0l v3 a.1.2.2),(4,mgR v4 a.2.2)]) (sz:=41) (top:=5) (nx:=nx) (df:=[]) ?_,?_⟩
     ·simp only [go_sem,a0f];refine⟨fin _ fun j hj=>?_,rlR,rlR,rlR,rlR⟩;have hc:j=0\/j=1\/j=2\/j=3\/j=4\/j=5\/j=6\/j=7\/j=8\/j=9:=by omega
      rcases hc with rfl|rfl|rfl|rfl|rfl|rfl|rfl|rfl|rfl|rfl<;>rfl
     ·simp only [go_sem,a0f];exact hk v1 v2 v3 nx (.inl rfl) (.inl rfl) (.inl rfl) (nLR _)
    ·refine awN hΓ rfl ?_;simp only [go_sem,a0f,hI,a1r,hn,nuO,g1,g2];refine⟨by omega,?_⟩;have eo:c5n a verb n=(a.1,(a.2.1.1,a.2.1.2.1,a.2.1.2.2.1,(n:Int)),a.2.2):=by unfold c5n;rw [if_neg g1,if_neg g2]
     rw [eo] at fin hk;refine⟨_,a0e (fun p=>p) (l:=[(6,.st okT)]) (r:=[(0,.box v 106 10 (shC 1 2 3 4 v1 v2 v3 v4 (a.1,(a.2.1.1,a.2.1.2.1,a.2.1.2.2.1,(n:Int)),a.2.2))),(1,a0l v1 a.1.1),(2,a0l v2 a.1.2.1),(3,a0l v3 a.1.2.2),(4,mgR v4 a.2.2)]) (sz:=41) (top:=5) (nx:=nx) (df:=[]) ?_,?_⟩
     ·simp only [go_sem,a0f];refine⟨fin _ fun j hj=>?_,rlR,rlR,rlR,rlR⟩;have hc:j=0\/j=1\/j=2\/j=3\/j=4\/j=5\/j=6\/j=7\/j=8\/j=9:=by omega
      rcases hc with rfl|rfl|rfl|rfl|rfl|rfl|rfl|rfl|rfl|rfl<;>rfl
     ·simp only [go_sem,a0f];exact hk v1 v2 v3 nx (.inl rfl) (.inl rfl) (.inl rfl) (nLR _)
 ·have hI:(((wdL line).tail.length:Int)=1)=False:=eq_false (by rw [List.length_tail];have:=List.length_pos_iff.2 (a6m line);omega);have e:a1N verb line a=(a00,a):=by unfold a1N;rw [if_neg fun h=>h2 h.1]
  rw [e] at hK;have hk:=a0Z hK rfl;refine awN hΓ rfl ?_;simp only [go_sem,a0f,hI];refine⟨_,a0e (fun p=>p) (l:=[(6,.st a00)]) (r:=[(0,.box v 106 10 (shC 1 2 3 4 v1 v2 v3 v4 a)),(1,a0l v1 a.1.1),(2,a0l v2 a.1.2.1),(3,a0l v3 a.1.2.2),(4,mgR v4 a.2.2)]) (sz:=41) (top:=5) (nx:=nx) (df:=[]) ?_,?_⟩
  ·simp only [go_sem,a0f];exact⟨rlR,rlR,rlR,rlR,rlR⟩
  ·simp only [go_sem,a0f];exact hk v1 v2 v3 nx (.inl rfl) (.inl rfl) (.inl rfl) (nLR _)
def a4m (line:List UInt8) (a:Ss):List UInt8×Ss:=if (wdL line).length=4 then (okT,(a.1,((b8n ((wdL line).getD 1 []),b8n ((wdL line).getD 2 []),b8n ((wdL line).getD 3 [])),a.2.1.2),a.2.2)) else (a00,a)
def c7R (xs:List AV) (a:Ss) (r:AV) (b:Ss):Prop:=∃ line:List UInt8,xs=[sL eS (wdL line).tail]/\line.length<=1000/\c7E a/\r=.st (a4m line a).1/\b=(a4m line a).2
def c8b:a0O:=sSh c7R
theorem d09:a0g Tryz.prog 59 c8b:=by
 refine a0g.mk Tryz.func59 rfl (by decide) Tryz.results59 Tryz.ntmps59 ?_;rintro args hp top nx K ⟨v,v1,v2,v3,v4,xs,a,r,b,rfl,⟨line,rfl,hl,hs,rfl,rfl⟩,rfl,rfl,hK⟩;have hΓ:GOK Tryz.prog (gam [(115,a6e)]):=(.cons c5U .nil);refine⟨Nat.le_of_ble_eq_true rfl,AW.late ?_⟩;by_cases h2:(wdL line).length=4
 ·have hI:((wdL line).tail.length:Int)=3:=by rw [List.length_tail];omega
  have e:a4m line a=(okT,(a.1,((b8n ((wdL line).getD 1 []),b8n ((wdL line).getD 2 []),b8n ((wdL line).getD 3 [])),a.2.1.2),a.2.2)):=by unfold a4m;rw [if_pos h2]
  rw [e] at hK;have hk:=a0Z hK rfl;refine awN hΓ rfl ?_;simp only [go_sem,a6e,hI,a1r];refine⟨_,a0e (fun p=>p) (l:=[(4,.st okT)]) (r:=[(0,.box v 106 10 (shC 1 2 3 4 v1 v2 v3 v4 (a.1,((b8n ((wdL line).getD 1 []),b8n ((wdL line).getD 2 []),b8n ((wdL line).getD 3 [])),a.2.1.2),a.2.2))),(1,a0l v1 a.1.1),(2,a0l v2 a.1.2.1),(3,a0l v3 a.1.2.2),(4,mgR v4 a.2.2)]) (sz:=35) (top:=5) (nx:=nx) (df:=[]) ?_,?_⟩
  ·simp only [go_sem,a6e];refine⟨c1L fun j hj=>?_,rlR,rlR,rlR,rlR⟩;have hc:j=0\/j=1\/j=2\/j=3\/j=4\/j=5\/j=6\/j=7\/j=8\/j=9:=by omega
   rcases hc with rfl|rfl|rfl|rfl|rfl|rfl|rfl|rfl|rfl|rfl<;>rfl
  ·simp only [go_sem,a6e];exact hk v1 v2 v3 nx (.inl rfl) (.inl rfl) (.inl rfl) (nLR _)
 ·have hI:(((wdL line).tail.length:Int)=3)=False:=eq_false (by rw [List.length_tail];have:=List.length_pos_iff.2 (a6m line);omega);have e:a4m line a=(a00,a):=by unfold a4m;rw [if_neg h2]
  rw [e] at hK;have hk:=a0Z hK rfl;refine awN hΓ rfl ?_;simp only [go_sem,a6e,hI];refine⟨_,a0e (fun p=>p) (l:=[(4,.st a00)]) (r:=[(0,.box v 106 10 (shC 1 2 3 4 v1 v2 v3 v4 a)),(1,a0l v1 a.1.1),(2,a0l v2 a.1.2.1),(3,a0l v3 a.1.2.2),(4,mgR v4 a.2.2)]) (sz:=35) (top:=5) (nx:=nx) (df:=[]) ?_,?_⟩
  ·simp only [go_sem,a6e];exact⟨rlR,rlR,rlR,rlR,rlR⟩
  ·simp only [go_sem,a6e];exact hk v1 v2 v3 nx (.inl rfl) (.inl rfl) (.inl rfl) (nLR _)
noncomputable def a1i:a0O:=a1I c7k
theorem c7P:a0g Tryz.prog 58 a1i:=c8n.frame
def a1h:a0O:=a1I c8b
theorem c79:a0g Tryz.prog 59 a1h:=d09.frame
end
section
open Go
attribute [local irreducible] AW a0k a1k a0c a6H
def b0M:List UInt8:=[99,108,101,97,114]
def a7i (t:List UInt8):Option (List UInt8):=if t≠[]/\t.getD (t.length-1) 0=10 then some (t.take (t.length-1)) else none
def a4G (verb:List UInt8) (k:Int) (a:Ss):List UInt8×Ss:=if verb=b0M then (okT,b60 a k []) else match a7i (txt a k) with
 | some t=>(okT,b60 a k t)
 | none=>(a00,a)
def a1t (verb line:List UInt8) (a:Ss):List UInt8×Ss:=if (wdL line).length=2/\0<=a4n ((wdL line).getD 1 []) then a4G verb (a4n ((wdL line).getD 1 [])) a else (a00,a)
def c3D (xs:List AV) (a:Ss) (r:AV) (b:Ss):Prop:=∃ verb line:List UInt8,xs=[.st verb,sL eS (wdL line).tail]/\line.length<=1000/\c7E a/\r=.st (a1t verb line a).1/\b=(a1t verb line a).2
def c7u:a0O:=sSh c3D
theorem c8D:a0g Tryz.prog 57 c7u:=by
 refine a0g.mk Tryz.func57 rfl (by decide) Tryz.results57 Tryz.ntmps57 ?_;rintro args hp top nx K ⟨v,v1,v2,v3,v4,xs,a,r,b,rfl,⟨verb,line,rfl,hl,hs,rfl,rfl⟩,rfl,rfl,hK⟩;have hΓ:GOK Tryz.prog (gam [(112,a0h)]):=(.cons b5D .nil);refine⟨Nat.le_of_ble_eq_true rfl,AW.late ?_⟩;by_cases h2:(wdL line).length=2
 ·have hI:((wdL line).tail.length:Int)=1:=by rw [List.length_tail];omega
  refine awL hΓ [200010] rfl ?_;simp only [go_sem,a0h,hI,a1r];generalize hw:(wdL line).getD 1 []=w1 at *
  refine b5P (by exact (by decide:0<5))  rlR  fun nx1 hn1=>?_
  rcases c1V w1 with⟨f1,f2⟩|⟨f1,f2⟩|⟨f1,f2⟩|⟨f1,f2⟩
  ·rw [f1,f2];have e:a1t verb line a=(a00,a):=by unfold a1t;rw [if_neg fun h=>by rw [hw,f1] at h;omega]
   rw [e] at hK;have hk:=a0Z hK rfl;simp only [go_sem,a0h,a4A];refine⟨_,a0e (fun p=>p) (l:=[(6,.st a00)]) (r:=[(0,.box v 106 10 (shC 1 2 3 4 v1 v2 v3 v4 a)),(1,a0l v1 a.1.1),(2,a0l v2 a.1.2.1),(3,a0l v3 a.1.2.2),(4,mgR v4 a.2.2)]) (sz:=51) (top:=5) (nx:=nx1) (df:=[]) ?_,?_⟩
   ·simp only [go_sem,a0h];exact⟨rlR,rlR,rlR,rlR,rlR⟩
   ·simp only [go_sem,a0h];exact hk v1 v2 v3 nx1 (.inl rfl) (.inl rfl) (.inl rfl) hn1
  ·rw [f1,f2];have e0:a1t verb line a=a4G verb 0 a:=by unfold a1t;rw [hw,f1,if_pos ⟨h2,by decide⟩]
   by_cases hc:verb=b0M
   ·have e:a1t verb line a=(okT,(([],a.1.2.1,a.1.2.2),a.2)):=by rw [e0];unfold a4G;rw [if_pos hc];rfl
    rw [e] at hK;have hk:=a0Z hK rfl;subst hc;simp only [go_sem,a0h,b0M];refine⟨_,(a1k.adoptB (q:=0) 0 5 1 (a2p []) rfl rfl).trans (a0e (fun p=>if p=1 then 5 else p) (l:=[(6,.st okT)]) (r:=[(0,.box v 106 10 (shC 1 2 3 4 nx1 v2 v3 v4 (([],a.1.2.1,a.1.2.2),a.2))),(1,a0l nx1 ([])),(2,a0l v2 (a.1.2.1)),(3,a0l v3 (a.1.2.2)),(4,mgR v4 a.2.2)]) (sz:=51) (top:=5) (nx:=nx1+1) (df:=[]) ?_),?_⟩
    ·simp only [go_sem,a0h];refine⟨a0c.box fun j hj=>?_,rlR,rlR,rlR,rlR⟩;have hc:j=0\/j=1\/j=2\/j=3\/j=4\/j=5\/j=6\/j=7\/j=8\/j=9:=by omega
     rcases hc with rfl|rfl|rfl|rfl|rfl|rfl|rfl|rfl|rfl|rfl<;>first|exact avR|exact a0k.ow
    ·simp only [go_sem,a0h];exact hk nx1 v2 v3 (nx1+1) (.inr hn1) (.inl rfl) (.inl rfl) (by omega)
   ·have e1:a4G verb 0 a=match a7i (a.1.1) with
     | some t=>(okT,b60 a 0 t)
     | none=>(a00,a):=by unfold a4G;rw [if_neg hc];rfl
    have hc':¬verb=[99,108,101,97,114]:=hc;by_cases hz:a.1.1=[]
    ·have e:a1t verb line a=(a00,a):=by rw [e0,e1];unfold a7i;rw [if_neg fun h=>h.1 hz]
     rw [e] at hK;have hk:=a0Z hK rfl;have hlen:a.1.1.length=0:=by rw [hz];rfl
     have hI0:((a.1.1.length:Int)-1<0)=True:=eq_true (by omega);simp only [go_sem,a0h,hc'];refine⟨by omega,?_⟩;refine AW.drawK hΓ mixed 12 [] [] [] [0,1] (by decide +kernel) ?_;simp only [go_sem,a0h,hI0,a0l,a2p];refine⟨_,a0e (fun p=>p) (l:=[(6,.st a00)]) (r:=[(0,.box v 106 10 (shC 1 2 3 4 v1 v2 v3 v4 a)),(1,a0l v1 a.1.1),(2,a0l v2 a.1.2.1),(3,a0l v3 a.1.2.2),(4,mgR v4 a.2.2)]) (sz:=51) (top:=5) (nx:=nx1) (df:=[]) ?_,?_⟩
     ·simp only [go_sem,a0h];exact⟨rlR,rlR,rlR,rlR,rlR⟩
     ·simp only [go_sem,a0h];exact hk v1 v2 v3 nx1 (.inl rfl) (.inl rfl) (.inl rfl) hn1
    ·obtain⟨z1,z2,z3⟩:=hs;have hp:0<a.1.1.length:=List.length_pos_iff.2 hz;have hI0:((a.1.1.length:Int)-1<0)=False:=eq_false (by omega);have hn1':((a.1.1.length:Int)-1).toNat=a.1.1.length-1:=by omega
     simp only [go_sem,a0h,hc'];refine⟨by omega,?_⟩;refine AW.drawK hΓ mixed 12 [] [] [] [0,1] (by decide +kernel) ?_;simp only [go_sem,a0h,hI0,hn1',a0l,a2p];refine⟨⟨by omega,by omega⟩,by omega,fun hx=>?_,fun hx=>?_⟩
     ·have e:a1t verb line a=(a00,a):=by rw [e0,e1];unfold a7i;rw [if_neg fun h=>hx h.2]
      rw [e] at hK;have hk:=a0Z hK rfl;refine⟨_,a0e (fun p=>p) (l:=[(6,.st a00)]) (r:=[(0,.box v 106 10 (shC 1 2 3 4 v1 v2 v3 v4 a)),(1,a0l v1 a.1.1),(2,a0l v2 a.1.2.1),(3,a0l v3 a.1.2.2),(4,mgR v4 a.2.2)]) (sz:=51) (top:=5) (nx:=nx1) (df:=[]) ?_,?_⟩
      ·simp only [go_sem,a0h];exact⟨rlR,rlR,rlR,rlR,rlR⟩
      ·simp only [go_sem,a0h];exact hk v1 v2 v3 nx1 (.inl rfl) (.inl rfl) (.inl rfl) hn1
     ·have hx:=Decidable.not_not.1 hx;have e:a1t verb line a=(okT,((a.1.1.take (a.1.1.length-1),a.1.2.1,a.1.2.2),a.2)):=by rw [e0,e1];unfold a7i;rw [if_pos ⟨hz,hx⟩];rfl
      rw [e] at hK;have hk:=a0Z hK rfl;refine⟨⟨by omega,by omega⟩,?_⟩;refine⟨_,a0e (fun p=>p) (l:=[(6,.st okT)]) (r:=[(0,.box v 106 10 (shC 1 2 3 4 v1 v2 v3 v4 ((a.1.1.take (a.1.1.length-1),a.1.2.1,a.1.2.2),a.2))),(1,a0l v1 (a.1.1.take (a.1.1.length-1))),(2,a0l v2 (a.1.2.1)),(3,a0l v3 (a.1.2.2)),(4,mgR v4 a.2.2)]) (sz:=51) (top:=5) (nx:=nx1) (df:=[]) ?_,?_⟩
      ·simp only [go_sem,a0h];refine⟨a0c.box fun j hj=>?_,b2q _,rlR,rlR,rlR⟩;have hc:j=0\/j=1\/j=2\/j=3\/j=4\/j=5\/j=6\/j=7\/j=8\/j=9:=by omega
       have hT:(a.1.1.take (a.1.1.length-1)).length=a.1.1.length-1:=by rw [List.length_take];omega
       rcases hc with rfl|rfl|rfl|rfl|rfl|rfl|rfl|rfl|rfl|rfl
       case inl=>
        show a0k (.ow 1 v1 _) (.ow 1 v1 (a.1.1.take (a.1.1.length-1)).length);rw [hT];exact avR
       all_goals exact avR
      ·simp only [go_sem,a0h];exact hk v1 v2 v3 nx1 (.inl rfl) (.inl rfl) (.inl rfl) hn1
  ·rw [f1,f2];have e0:a1t verb line a=a4G verb 1 a:=by unfold a1t;rw [hw,f1,if_pos ⟨h2,by decide⟩]
   by_cases hc:verb=b0M
   ·have e:a1t verb line a=(okT,((a.1.1,[],a.1.2.2),a.2)):=by rw [e0];unfold a4G;rw [if_pos hc];rfl
    rw [e] at hK;have hk:=a0Z hK rfl;subst hc;simp only [go_sem,a0h,b0M];refine⟨_,(a1k.adoptB (q:=0) 1 5 1 (a2p []) rfl rfl).trans (a0e (fun p=>if p=2 then 5 else p) (l:=[(6,.st okT)]) (r:=[(0,.box v 106 10 (shC 1 2 3 4 v1 nx1 v3 v4 ((a.1.1,[],a.1.2.2),a.2))),(1,a0l v1 (a.1.1)),(2,a0l nx1 ([])),(3,a0l v3 (a.1.2.2)),(4,mgR v4 a.2.2)]) (sz:=51) (top:=5) (nx:=nx1+1) (df:=[]) ?_),?_⟩
    ·simp only [go_sem,a0h];refine⟨a0c.box fun j hj=>?_,rlR,rlR,rlR,rlR⟩;have hc:j=0\/j=1\/j=2\/j=3\/j=4\/j=5\/j=6\/j=7\/j=8\/j=9:=by omega
     rcases hc with rfl|rfl|rfl|rfl|rfl|rfl|rfl|rfl|rfl|rfl<;>first|exact avR|exact a0k.ow
    ·simp only [go_sem,a0h];exact hk v1 nx1 v3 (nx1+1) (.inl rfl) (.inr hn1) (.inl rfl) (by omega)
   ·have e1:a4G verb 1 a=match a7i (a.1.2.1) with
     | some t=>(okT,b60 a 1 t)
     | none=>(a00,a):=by unfold a4G;rw [if_neg hc];rfl
    have hc':¬verb=[99,108,101,97,114]:=hc;by_cases hz:a.1.2.1=[]
    ·have e:a1t verb line a=(a00,a):=by rw [e0,e1];unfold a7i;rw [if_neg fun h=>h.1 hz]
     rw [e] at hK;have hk:=a0Z hK rfl;have hlen:a.1.2.1.length=0:=by rw [hz];rfl
     have hI0:((a.1.2.1.length:Int)-1<0)=True:=eq_true (by omega);simp only [go_sem,a0h,hc'];refine⟨by omega,?_⟩;refine AW.drawK hΓ mixed 12 [] [] [] [0,2] (by decide +kernel) ?_;simp only [go_sem,a0h,hI0,a0l,a2p];refine⟨_,a0e (fun p=>p) (l:=[(6,.st a00)]) (r:=[(0,.box v 106 10 (shC 1 2 3 4 v1 v2 v3 v4 a)),(1,a0l v1 a.1.1),(2,a0l v2 a.1.2.1),(3,a0l v3 a.1.2.2),(4,mgR v4 a.2.2)]) (sz:=51) (top:=5) (nx:=nx1) (df:=[]) ?_,?_⟩
     ·simp only [go_sem,a0h];exact⟨rlR,rlR,rlR,rlR,rlR⟩
     ·simp only [go_sem,a0h];exact hk v1 v2 v3 nx1 (.inl rfl) (.inl rfl) (.inl rfl) hn1
    ·obtain⟨z1,z2,z3⟩:=hs;have hp:0<a.1.2.1.length:=List.length_pos_iff.2 hz;have hI0:((a.1.2.1.length:Int)-1<0)=False:=eq_false (by omega);have hn1':((a.1.2.1.length:Int)-1).toNat=a.1.2.1.length-1:=by omega
     simp only [go_sem,a0h,hc'];refine⟨by omega,?_⟩;refine AW.drawK hΓ mixed 12 [] [] [] [0,2] (by decide +kernel) ?_;simp only [go_sem,a0h,hI0,hn1',a0l,a2p];refine⟨⟨by omega,by omega⟩,by omega,fun hx=>?_,fun hx=>?_⟩
     ·have e:a1t verb line a=(a00,a):=by rw [e0,e1];unfold a7i;rw [if_neg fun h=>hx h.2]
      rw [e] at hK;have hk:=a0Z hK rfl;refine⟨_,a0e (fun p=>p) (l:=[(6,.st a00)]) (r:=[(0,.box v 106 10 (shC 1 2 3 4 v1 v2 v3 v4 a)),(1,a0l v1 a.1.1),(2,a0l v2 a.1.2.1),(3,a0l v3 a.1.2.2),(4,mgR v4 a.2.2)]) (sz:=51) (top:=5) (nx:=nx1) (df:=[]) ?_,?_⟩
      ·simp only [go_sem,a0h];exact⟨rlR,rlR,rlR,rlR,rlR⟩
      ·simp only [go_sem,a0h];exact hk v1 v2 v3 nx1 (.inl rfl) (.inl rfl) (.inl rfl) hn1
     ·have hx:=Decidable.not_not.1 hx;have e:a1t verb line a=(okT,((a.1.1,a.1.2.1.take (a.1.2.1.length-1),a.1.2.2),a.2)):=by rw [e0,e1];unfold a7i;rw [if_pos ⟨hz,hx⟩];rfl
      rw [e] at hK;have hk:=a0Z hK rfl;refine⟨⟨by omega,by omega⟩,?_⟩;refine⟨_,a0e (fun p=>p) (l:=[(6,.st okT)]) (r:=[(0,.box v 106 10 (shC 1 2 3 4 v1 v2 v3 v4 ((a.1.1,a.1.2.1.take (a.1.2.1.length-1),a.1.2.2),a.2))),(1,a0l v1 (a.1.1)),(2,a0l v2 (a.1.2.1.take (a.1.2.1.length-1))),(3,a0l v3 (a.1.2.2)),(4,mgR v4 a.2.2)]) (sz:=51) (top:=5) (nx:=nx1) (df:=[]) ?_,?_⟩
      ·simp only [go_sem,a0h];refine⟨a0c.box fun j hj=>?_,rlR,b2q _,rlR,rlR⟩;have hc:j=0\/j=1\/j=2\/j=3\/j=4\/j=5\/j=6\/j=7\/j=8\/j=9:=by omega
       have hT:(a.1.2.1.take (a.1.2.1.length-1)).length=a.1.2.1.length-1:=by rw [List.length_take];omega
       rcases hc with rfl|rfl|rfl|rfl|rfl|rfl|rfl|rfl|rfl|rfl
       case inr.inl=>
        show a0k (.ow 2 v2 _) (.ow 2 v2 (a.1.2.1.take (a.1.2.1.length-1)).length);rw [hT];exact avR
       all_goals exact avR
      ·simp only [go_sem,a0h];exact hk v1 v2 v3 nx1 (.inl rfl) (.inl rfl) (.inl rfl) hn1
  ·rw [f1,f2];have e0:a1t verb line a=a4G verb 2 a:=by unfold a1t;rw [hw,f1,if_pos ⟨h2,by decide⟩]
   by_cases hc:verb=b0M
   ·have e:a1t verb line a=(okT,((a.1.1,a.1.2.1,[]),a.2)):=by rw [e0];unfold a4G;rw [if_pos hc];rfl
    rw [e] at hK;have hk:=a0Z hK rfl;subst hc;simp only [go_sem,a0h,b0M];refine⟨_,(a1k.adoptB (q:=0) 2 5 1 (a2p []) rfl rfl).trans (a0e (fun p=>if p=3 then 5 else p) (l:=[(6,.st okT)]) (r:=[(0,.box v 106 10 (shC 1 2 3 4 v1 v2 nx1 v4 ((a.1.1,a.1.2.1,[]),a.2))),(1,a0l v1 (a.1.1)),(2,a0l v2 (a.1.2.1)),(3,a0l nx1 ([])),(4,mgR v4 a.2.2)]) (sz:=51) (top:=5) (nx:=nx1+1) (df:=[]) ?_),?_⟩
    ·simp only [go_sem,a0h];refine⟨a0c.box fun j hj=>?_,rlR,rlR,rlR,rlR⟩;have hc:j=0\/j=1\/j=2\/j=3\/j=4\/j=5\/j=6\/j=7\/j=8\/j=9:=by omega
     rcases hc with rfl|rfl|rfl|rfl|rfl|rfl|rfl|rfl|rfl|rfl<;>first|exact avR|exact a0k.ow
    ·simp only [go_sem,a0h];exact hk v1 v2 nx1 (nx1+1) (.inl rfl) (.inl rfl) (.inr hn1) (by omega)
   ·have e1:a4G verb 2 a=match a7i (a.1.2.2) with
     | some t=>(okT,b60 a 2 t)
     | none=>(a00,a):=by unfold a4G;rw [if_neg hc];rfl
    have hc':¬verb=[99,108,101,97,114]:=hc;by_cases hz:a.1.2.2=[]
    ·have e:a1t verb line a=(a00,a):=by rw [e0,e1];unfold a7i;rw [if_neg fun h=>h.1 hz]
     rw [e] at hK;have hk:=a0Z hK rfl;have hlen:a.1.2.2.length=0:=by rw [hz];rfl
     have hI0:((a.1.2.2.length:Int)-1<0)=True:=eq_true (by omega);simp only [go_sem,a0h,hc'];refine⟨by omega,?_⟩;refine AW.drawK hΓ mixed 12 [] [] [] [0,3] (by decide +kernel) ?_;simp only [go_sem,a0h,hI0,a0l,a2p];refine⟨_,a0e (fun p=>p) (l:=[(6,.st a00)]) (r:=[(0,.box v 106 10 (shC 1 2 3 4 v1 v2 v3 v4 a)),(1,a0l v1 a.1.1),(2,a0l v2 a.1.2.1),(3,a0l v3 a.1.2.2),(4,mgR v4 a.2.2)]) (sz:=51) (top:=5) (nx:=nx1) (df:=[]) ?_,?_⟩
     ·simp only [go_sem,a0h];exact⟨rlR,rlR,rlR,rlR,rlR⟩
     ·simp only [go_sem,a0h];exact hk v1 v2 v3 nx1 (.inl rfl) (.inl rfl) (.inl rfl) hn1
    ·obtain⟨z1,z2,z3⟩:=hs;have hp:0<a.1.2.2.length:=List.length_pos_iff.2 hz;have hI0:((a.1.2.2.length:Int)-1<0)=False:=eq_false (by omega);have hn1':((a.1.2.2.length:Int)-1).toNat=a.1.2.2.length-1:=by omega
     simp only [go_sem,a0h,hc'];refine⟨by omega,?_⟩;refine AW.drawK hΓ mixed 12 [] [] [] [0,3] (by decide +kernel) ?_;simp only [go_sem,a0h,hI0,hn1',a0l,a2p];refine⟨⟨by omega,by omega⟩,by omega,fun hx=>?_,fun hx=>?_⟩
     ·have e:a1t verb line a=(a00,a):=by rw [e0,e1];unfold a7i;rw [if_neg fun h=>hx h.2]
      rw [e] at hK;have hk:=a0Z hK rfl;refine⟨_,a0e (fun p=>p) (l:=[(6,.st a00)]) (r:=[(0,.box v 106 10 (shC 1 2 3 4 v1 v2 v3 v4 a)),(1,a0l v1 a.1.1),(2,a0l v2 a.1.2.1),(3,a0l v3 a.1.2.2),(4,mgR v4 a.2.2)]) (sz:=51) (top:=5) (nx:=nx1) (df:=[]) ?_,?_⟩
      ·simp only [go_sem,a0h];exact⟨rlR,rlR,rlR,rlR,rlR⟩
      ·simp only [go_sem,a0h];exact hk v1 v2 v3 nx1 (.inl rfl) (.inl rfl) (.inl rfl) hn1
     ·have hx:=Decidable.not_not.1 hx;have e:a1t verb line a=(okT,((a.1.1,a.1.2.1,a.1.2.2.take (a.1.2.2.length-1)),a.2)):=by rw [e0,e1];unfold a7i;rw [if_pos ⟨hz,hx⟩];rfl
      rw [e] at hK;have hk:=a0Z hK rfl;refine⟨⟨by omega,by omega⟩,?_⟩;refine⟨_,a0e (fun p=>p) (l:=[(6,.st okT)]) (r:=[(0,.box v 106 10 (shC 1 2 3 4 v1 v2 v3 v4 ((a.1.1,a.1.2.1,a.1.2.2.take (a.1.2.2.length-1)),a.2))),(1,a0l v1 (a.1.1)),(2,a0l v2 (a.1.2.1)),(3,a0l v3 (a.1.2.2.take (a.1.2.2.length-1))),(4,mgR v4 a.2.2)]) (sz:=51) (top:=5) (nx:=nx1) (df:=[]) ?_,?_⟩
      ·simp only [go_sem,a0h];refine⟨a0c.box fun j hj=>?_,rlR,rlR,b2q _,rlR⟩;have hc:j=0\/j=1\/j=2\/j=3\/j=4\/j=5\/j=6\/j=7\/j=8\/j=9:=by omega
       have hT:(a.1.2.2.take (a.1.2.2.length-1)).length=a.1.2.2.length-1:=by rw [List.length_take];omega
       rcases hc with rfl|rfl|rfl|rfl|rfl|rfl|rfl|rfl|rfl|rfl
       case inr.inr.inl=>
        show a0k (.ow 3 v3 _) (.ow 3 v3 (a.1.2.2.take (a.1.2.2.length-1)).length);rw [hT];exact avR
       all_goals exact avR
      ·simp only [go_sem,a0h];exact hk v1 v2 v3 nx1 (.inl rfl) (.inl rfl) (.inl rfl) hn1
 ·have hI:(((wdL line).tail.length:Int)=1)=False:=eq_false (by rw [List.length_tail];have:=List.length_pos_iff.2 (a6m line);omega);have e:a1t verb line a=(a00,a):=by unfold a1t;rw [if_neg fun h=>h2 h.1]
  rw [e] at hK;have hk:=a0Z hK rfl;refine awN hΓ rfl ?_;simp only [go_sem,a0h,hI];refine⟨_,a0e (fun p=>p) (l:=[(6,.st a00)]) (r:=[(0,.box v 106 10 (shC 1 2 3 4 v1 v2 v3 v4 a)),(1,a0l v1 a.1.1),(2,a0l v2 a.1.2.1),(3,a0l v3 a.1.2.2),(4,mgR v4 a.2.2)]) (sz:=51) (top:=5) (nx:=nx) (df:=[]) ?_,?_⟩
  ·simp only [go_sem,a0h];exact⟨rlR,rlR,rlR,rlR,rlR⟩
  ·simp only [go_sem,a0h];exact hk v1 v2 v3 nx (.inl rfl) (.inl rfl) (.inl rfl) (nLR _)
def a0B:a0O:=a1I c7u
theorem c1o:a0g Tryz.prog 57 a0B:=c8D.frame
end
section
open Go
section
variable {P:Program} {st:AS} {K:AS->Prop} {o:Oper}
theorem d3C {t t':TypeId} {x y:Operand} {p q:Int} (ho:o.op=.binOp .sub t x y t') (hxe:st.ev x=.val (.int .i64 p)) (hye:st.ev y=.val (.int .i64 q)) (hd:a0S st.sz o.dst)
  (hK:K ⟨a2k st.fr o.dst (.val (.int .i64 (IntKind.i64.wrap (p-q)))),st.hp,st.sz,st.top,st.nx,st.df⟩):OpW P o st K:=by
 refine a7n hd (fun c η a w hsr=>?_) hK;have hev:∀ x,Rep w η (a05 c η st.hp) (st.ev x) (a.eval x):=a10 hsr.slots
 have hx:a.eval x=.int .i64 p:=by
  have hx:=hev x;rw [hxe] at hx;exact hx
 have hy:a.eval y=.int .i64 q:=by
  have hy:=hev y;rw [hye] at hy;exact hy
 exact⟨.int .i64 (IntKind.i64.wrap (p-q)),by simp [execOp,ho,hx,hy,binOp,Op.intArith,eqGuard],rfl⟩
end
end
set_option maxHeartbeats 2000000
section
open Go
attribute [local irreducible] AW a0k a1k a0c
def a4i:a0r:=a0r.f1 kI (fun _=>True) (fun n=>kB.enc (b0E n))
theorem b73:a0b Tryz.prog 128 a4i:=by
 refine a0b.f1 Tryz.func128 rfl (by decide) Tryz.results128 Tryz.ntmps128 (by decide) fun n _=>?_
 have hΓ:GOK Tryz.prog (gam []):=GOK.nil;refine awZ hΓ rfl ?_;simp only [go_sem];refine⟨fun h=>by rw [decide_eq_false h];rfl,fun h=>by rw [h];rfl,?_⟩;unfold b0E;rw [Bool.or_assoc]
def a9l:a0r:=a0r.f2 (kA ePt) kI (fun _ _=>True) (fun p n=>tu2 (kS.enc (ofS p n).1) (kI.enc (ofS p n).2))
theorem d29:a0b Tryz.prog 132 a9l:=by
 refine a0b.f2 Tryz.func132 rfl (by decide) Tryz.results132 Tryz.ntmps132 (by decide) fun p n _=>?_
 have hΓ:GOK Tryz.prog (gam [(128,a4i)]):=(.cons b73 .nil);obtain⟨ll,bl,rl,h,t,l,b,r,hb⟩:=p;unfold ofS;cases hs:b0E n with
 | false=>
   refine awZ hΓ rfl ?_;simp only [go_sem,a4i,hs]
 | true=>
   rw [if_neg (by simp)];by_cases h1:n=1
   ·subst h1;refine awZ hΓ rfl ?_;simp only [go_sem,a4i,hs]
   ·rw [if_neg h1];by_cases h3:n=3
    ·subst h3;refine awZ hΓ rfl ?_;simp only [go_sem,a4i,hs]
    ·rw [if_neg h3];cases hb with
     | false=>
       refine awZ hΓ rfl ?_;simp only [go_sem,a4i,hs,h1,h3]
     | true=>
       refine awZ hΓ rfl ?_;simp only [go_sem,a4i,hs,h1,h3]
theorem b8C {d:List Pt} {i:Nat} (h:i<d.length) (j:Nat) (n:Int):a2g (d.drop i) j n=if hkP (d.getD i ePt.dflt)=true then (if n=0 then (j:Int) else a2g (d.drop (i+1)) (j+1) (n-1)) else a2g (d.drop (i+1)) (j+1) n:=by
 rw [List.drop_eq_getElem_cons h,a2g,a1q d ePt.dflt h]
theorem b8L (d:List Pt) (i:Nat) {m:Int} (h:gI m) (hd:d.length<100000000):gI (IntKind.i64.wrap (m-1))/\a2g d i (m-1)=a2g d i (IntKind.i64.wrap (m-1)):=by
 obtain⟨h1,h2⟩:=h;by_cases hm:m=-9223372036854775808
 ·subst hm;have e:IntKind.i64.wrap (-9223372036854775808-1)=9223372036854775807:=by decide +kernel
  have hc:=a5B d;rw [e,a7P d i _ (by omega),(a5f d i 9223372036854775807 (by omega)).1 (by omega)];exact⟨⟨by omega,by omega⟩,rfl⟩
 ·rw [a5R _ (by omega)];exact⟨⟨by omega,by omega⟩,rfl⟩
def a6t:a0r:=a0r.f2 (kL ePt) kI (fun l n=>l.length<100000000/\gI n) (fun l n=>kI.enc (a2g l 0 n))
theorem d0X:a0b Tryz.prog 131 a6t:=by
 refine a0b.f2 Tryz.func131 rfl (by decide) Tryz.results131 Tryz.ntmps131 (by decide) fun d n ⟨hl,hn⟩=>?_
 have hΓ:GOK Tryz.prog (gam []):=GOK.nil;refine awZ hΓ rfl ?_;simp only [go_sem]
 refine AW.round (α:={ x:Nat×Int×Nat // x.1<=d.length/\gI x.2.1/\a2g d 0 n=a2g (d.drop x.1) x.1 x.2.1 })
  (fun x=>⟨[(1,.val (.int .i64 x.1.2.1)),(7,sL ePt d),(8,.val (.int .i64 d.length)),(9,.val (.int .i64 x.1.1))],[],23,0,x.1.2.2,[]⟩) (fun x=>d.length-x.1.1) ⟨(0,n,0),nZL _,hn,rfl⟩ ?_ ?_
 ·simp only [go_sem]
 ·rintro⟨⟨i,m,nx⟩,hi,hg,he⟩;simp only at hi hg he;refine awL hΓ [3,6,99999] rfl ?_;simp only [go_sem];refine⟨fun hlt=>⟨by omega,?_⟩,fun hge=>?_⟩
  ·have hlt':i<d.length:=by omega
   rw [b8C hlt'] at he;generalize hpe:d.getD i ePt.dflt=p at *
   refine AW.cut ⟨[(1,.val (.int .i64 m)),(5,.val (.int .i64 i)),(6,.pt 0 nx 0),(7,sL ePt d),(8,.val (.int .i64 d.length)),(9,.val (.int .i64 i))],[(0,.box nx 179 9 (ePt.enc p))],23,1,nx+1,[]⟩ ?_ ?_
   ·simp only [go_sem];exact a0c.box fun j hj=>a0k.of_eq (b0x (nZL _) (by omega))
   refine AW.still 6 0 nx 179 9 _ rfl rfl (fun j hj=>match j,hj with|0,_=>rfl|1,_=>rfl|2,_=>rfl|3,_=>rfl|4,_=>rfl|5,_=>rfl|6,_=>rfl|7,_=>rfl|8,_=>rfl) ?_;obtain⟨ll,bl,rl,h,t,l,b,r,hb⟩:=p;cases h with
   | false=>
     rw [if_neg (by simp [hkP])] at he;refine awN hΓ rfl ?_;simp only [go_sem];exact⟨by omega,⟨(i+1,m,nx+1),by dsimp only;omega,hg,he⟩,⟨nLR _,by dsimp only;omega⟩,by dsimp only;omega⟩
   | true=>
     rw [if_pos rfl] at he;by_cases hm:m=0
     ·subst hm;rw [if_pos rfl] at he;refine awN hΓ rfl ?_;simp only [go_sem];rw [he]
     ·rw [if_neg hm] at he;refine AW.fork ?_;refine awZ hΓ rfl ?_;simp only [go_sem];refine AW.fork ?_;refine awZ hΓ rfl ?_;simp only [go_sem,hm];refine AW.regionO hΓ [false,true,false] ?_;simp only [go_sem];refine d3C rfl rfl rfl (Nat.lt_of_lt_of_le (by decide:21<23) (nLR _)) ?_;simp only [go_sem];obtain⟨g1,g2⟩:=b8L (d.drop (i+1)) (i+1) hg (by simp;omega);exact⟨by omega,⟨(i+1,IntKind.i64.wrap (m-1),nx+1),by dsimp only;omega,g1,he.trans g2⟩,⟨nLR _,rfl,by dsimp only;omega⟩,by dsimp only;omega⟩
  ·obtain rfl:i=d.length:=by omega
   rw [he,List.drop_length];rfl
end
section
open Go
attribute [local irreducible] AW a0k a1k a0c
def b4P (p:Pt):Nat:=p.2.2.2.2.1.length+(p.2.2.2.2.2.1.length+p.2.2.2.2.2.2.1.length+p.2.2.2.2.2.2.2.1.length)
def a7z (d:List Pt):Nat:=(d.map b4P).sum
theorem c6u {d:List Pt} {i:Nat} (h:i<d.length):a7z (d.drop i)=b4P (d.getD i ePt.dflt)+a7z (d.drop (i+1)):=by
 rw [List.drop_eq_getElem_cons h,a1q d ePt.dflt h];unfold a7z;rw [List.map_cons,List.sum_cons]
theorem b8i {d:List Pt} {i:Nat} (h:i<d.length):a0x (d.drop i)=(if hkP (d.getD i ePt.dflt)=true then 1 else 0)+a0x (d.drop (i+1)):=by
 rw [List.drop_eq_getElem_cons h,a1q d ePt.dflt h,a2W]
theorem c2q {d:List Pt} {i:Nat} (h:i<d.length) (ss:List Int) (acc:BS):a56 (d.drop i) ss acc=if hkP (d.getD i ePt.dflt)=true then (if (ofS (d.getD i ePt.dflt) (ss.getD 0 0)).2≠0 then ([],(ofS (d.getD i ePt.dflt) (ss.getD 0 0)).2) else a56 (d.drop (i+1)) ss.tail (acc++(ofS (d.getD i ePt.dflt) (ss.getD 0 0)).1)) else a56 (d.drop (i+1)) ss (acc++(d.getD i ePt.dflt).2.2.2.2.1):=by
 rw [List.drop_eq_getElem_cons h,a1q d ePt.dflt h,a56]
theorem c91 (rs:List Int):a0k (.sn (rs.length-1) 1 fun i=>eI.enc (rs.getD (1+i) 0)) (sL eI rs.tail):=by
 have e:(fun i=>eI.enc (rs.getD (1+i) 0))=fun i=>eI.enc (rs.tail.getD i 0):=by
  funext i
  simp [List.getD,Nat.add_comm]
 rw [e];exact a4p (E:=eI) rfl rfl (by simp)
def b3K:a0r:=a0r.f2 (kL ePt) (kL eI) (fun d ss=>d.length<100000000/\a0x d<=ss.length/\ss.length<1000000000/\a7z d<=90000000000) (fun d ss=>tu2 (kS.enc (a56 d ss []).1) (kI.enc (a56 d ss []).2))
theorem c81:a0b Tryz.prog 129 b3K:=by
 refine a0b.f2 Tryz.func129 rfl (by decide) Tryz.results129 Tryz.ntmps129 (by decide) fun d ss ⟨hl,hc,hss,hw⟩=>?_
 have hΓ:GOK Tryz.prog (gam [(132,a9l),(88,a0F),(92,a1P)]):=(.cons d29 (.cons b7K (.cons c7Y .nil)));refine awL hΓ [0] rfl ?_;simp only [go_sem,a9l,a0F,a1P];refine AW.fork (AW.regionO hΓ [true] ?_);simp only [go_sem,a9l,a0F,a1P];refine b2b rfl b6f (Nat.lt_of_lt_of_le (by decide:6<38) (nLR _)) ?_;simp only [go_sem,a9l,a0F,a1P];refine AW.cut ⟨[(0,sL ePt d),(1,sL eI ss),(6,.pt 0 0 0)],[(0,.box 0 138 2 (a7o false 0 0 1 0 [])),(1,a7C 0 [])],38,2,1,[]⟩ ?_ ?_
 ·simp only [go_sem,a9l,a0F,a1P];refine⟨a0c.box fun j hj=>?_,rlR⟩
  match j,hj with
  | 0,_=>exact avR
  | 1,_=>exact avR
 refine awZ hΓ rfl ?_;simp only [go_sem,a9l,a0F,a1P]
 refine AW.round (α:={ x:Nat×List Int×BS×Bool×Nat×Nat // x.1<=d.length/\a56 d ss []=a56 (d.drop x.1) x.2.1 x.2.2.1/\x.2.2.1.length+a7z (d.drop x.1)<=a7z d/\a0x (d.drop x.1)<=x.2.1.length/\x.2.1.length<=ss.length })
  (fun x=>⟨[(1,sL eI x.1.2.1),(6,.pt 0 0 0),(11,sL ePt d),(12,.val (.int .i64 d.length)),(13,.val (.int .i64 x.1.1))],
   [(0,.box 0 138 2 (a7o x.1.2.2.2.1 0 0 1 x.1.2.2.2.2.1 x.1.2.2.1)),(1,a7C x.1.2.2.2.2.1 x.1.2.2.1)],38,2,x.1.2.2.2.2.2,[]⟩) (fun x=>d.length-x.1.1) ⟨(0,ss,[],false,0,1),nZL _,rfl,by simp,hc,nLR _⟩ ?_ ?_
 ·simp only [go_sem,a9l,a0F,a1P];exact⟨rlR,rlR⟩
 ·rintro⟨⟨i,rs,acc,f,u,nx⟩,hi,he,ha,hc1,hc2⟩;simp only at hi he ha hc1 hc2;refine awL hΓ [4,99999] rfl ?_;simp only [go_sem,a9l,a0F,a1P];refine⟨fun hlt=>⟨by omega,?_⟩,fun hge=>?_⟩
  ·have hlt':i<d.length:=by omega
   rw [c2q hlt'] at he;rw [c6u hlt'] at ha;rw [b8i hlt'] at hc1;generalize hpe:d.getD i ePt.dflt=p at *
   refine AW.cut ⟨[(1,sL eI rs),(6,.pt 0 0 0),(8,.pt 2 nx 0),(11,sL ePt d),(12,.val (.int .i64 d.length)),(13,.val (.int .i64 i))],
    [(0,.box 0 138 2 (a7o f 0 0 1 u acc)),(1,a7C u acc),(2,.box nx 179 9 (ePt.enc p))],38,3,nx+1,[]⟩ ?_ ?_
   ·simp only [go_sem,a9l,a0F,a1P];exact⟨rlR,rlR,a0c.box fun j hj=>a0k.of_eq (b0x (nZL _) (by omega))⟩
   refine AW.still 8 2 nx 179 9 _ rfl rfl (fun j hj=>match j,hj with|0,_=>rfl|1,_=>rfl|2,_=>rfl|3,_=>rfl|4,_=>rfl|5,_=>rfl|6,_=>rfl|7,_=>rfl|8,_=>rfl) ?_;have hwp:=b3l p (rs.getD 0 0);unfold b4P at ha;obtain⟨ll,bl,rl,h,tx,l,b,r,hb⟩:=p;dsimp only at ha hwp;cases h with
   | true=>
     rw [if_pos rfl] at he hc1;generalize ho:ofS (ll,bl,rl,true,tx,l,b,r,hb) (rs.getD 0 0)=o at *
     obtain⟨t,e⟩:=o;dsimp only at he hwp;by_cases hz:e=0
     ·subst hz;rw [if_neg (by simp)] at he;refine awN hΓ rfl ?_;simp only [go_sem,a9l,a0F,a1P,ho];refine⟨by omega,⟨by omega,by omega⟩,?_⟩;refine a5p (by decide)  rlR   rlR  (by decide) (by omega) fun u1 n1 g1 h1=>?_
      simp only [go_sem,a9l,a0F,a1P];exact⟨by omega,⟨(i+1,rs.tail,acc++t,true,u1,n1),by dsimp only;omega,he,by dsimp only;rw [lAp];omega,by dsimp only;rw [List.length_tail];omega,by dsimp only;rw [List.length_tail];omega⟩,⟨nLR _,⟨c91 rs,by dsimp only;omega⟩,rlR,rlR⟩,by dsimp only;omega⟩
     ·rw [if_pos hz] at he;refine awN hΓ rfl ?_;simp only [go_sem,a9l,a0F,a1P,ho,hz];rw [he];exact⟨by omega,rfl,rfl⟩
   | false=>
     rw [if_neg (by simp [hkP])] at he hc1;refine awN hΓ rfl ?_;simp only [go_sem,a9l,a0F,a1P];refine a5p (by decide)  rlR   rlR  (by decide) (by omega) fun u1 n1 g1 h1=>?_
     simp only [go_sem,a9l,a0F,a1P];exact⟨by omega,⟨(i+1,rs,acc++tx,true,u1,n1),by dsimp only;omega,he,by dsimp only;rw [lAp];omega,by dsimp only;omega,hc2⟩,⟨nLR _,⟨avR,by dsimp only;omega⟩,rlR,rlR⟩,by dsimp only;omega⟩
  ·obtain rfl:i=d.length:=by omega
   rw [List.drop_length] at he ha;rw [he];exact⟨f,0,0,1,u,acc,rfl,rfl,rfl,by omega,rfl,rfl⟩
end
section
open Go
attribute [local irreducible] AW a0k a1k a0c
theorem c6I (d:List Pt):a3Z d<=a7z d:=by
 induction d with
 | nil=>exact nLR _
 | cons p d ih=>
   have e1:a3Z (p::d)=(txP p).length+a3Z d:=by
    rw [show p::d=[p]++d from rfl,a2Z,a25]
   have e2:a7z (p::d)=b4P p+a7z d:=by
    unfold a7z;rw [List.map_cons,List.sum_cons]
   rw [e1,e2];unfold b4P txP;omega
theorem c1O:∀ (d:List Pt) (k:Nat) (t:BS),t.length<=b4P (d.getD k ePt.dflt)->a7z (d.set k (a1b t))<=a7z d
 | [],_,_,_=>nLR _
 | p::d,0,t,h=>by
   have h:t.length<=b4P p:=h
   have e:∀ q,a7z (q::d)=b4P q+a7z d:=fun q=>by
    unfold a7z;rw [List.map_cons,List.sum_cons]
   rw [List.set_cons_zero,e,e]
   have:b4P (a1b t)=t.length:=by
    show t.length+(0+0+0)=_;omega
   omega
 | p::d,k+1,t,h=>by
   have ih:=c1O d k t (by simpa using h)
   have e:∀ l,a7z (p::l)=b4P p+a7z l:=fun l=>by
    unfold a7z;rw [List.map_cons,List.sum_cons]
   rw [List.set_cons_succ,e,e];omega
def a4B:a0O:=fun args hp top nx K=>∃ x l,args=[x]/\a0k x (sL ePt l)/\l.length<100000000/\∀ ver nx',nx<=ver->ver<nx'->K (.ow top ver l.length) (a0X hp top (a1a ver 179 ePt l)) (top+1) nx'
theorem c4I:a0g Tryz.prog 133 a4B:=by
 refine a0g.mk Tryz.func133 rfl (by decide) Tryz.results133 Tryz.ntmps133 ?_;rintro args hp top nx K ⟨x,l,rfl,hx,hl,hK⟩;have hΓ:GOK Tryz.prog (gam []):=GOK.nil;refine⟨Nat.le_of_ble_eq_true rfl,?_⟩;refine AW.le (a89 (.cons hx .nil)) ?_;refine awL hΓ [2,99999] rfl ?_;simp only [go_sem];refine⟨fun h0=>?_,?_⟩
 ·refine AW.adopt 2 179 9 (fun i=>ePt.enc (l.getD i ePt.dflt)) rfl ?_;refine awZ hΓ rfl ?_;simp only [go_sem];obtain rfl:=List.length_eq_zero_iff.1 h0;exact hK nx (nx+1) (nLR _) (Nat.lt_succ_self _)
 ·exact⟨by omega,hK nx (nx+1) (nLR _) (Nat.lt_succ_self _)⟩
def a5r:a0r:=a0r.f3 (kL ePt) kI kI (fun d n _=>d.length<100000000/\(∀ p∈d,b8f p)/\a7z d<=100000000/\gI n) (fun d n s=>tu2 (sL ePt (a9t d n s).1) (kI.enc (a9t d n s).2))
theorem d4i:a0b Tryz.prog 77 a5r:=by
 refine a0b.f3 Tryz.func77 rfl (by decide) Tryz.results77 Tryz.ntmps77 (by decide) fun d n side ⟨hd,hp,hw,hn⟩=>?_
 have hΓ:GOK Tryz.prog (gam [(125,a03),(131,a6t),(132,a9l),(91,a0G),(133,a4B),(134,a40)]):=(.cons b2P (.cons d0X (.cons d29 (.cons a9O (.cons c4I (.cons c8O .nil))))));unfold a9t;by_cases hr:a3g d=false
 ·rw [if_pos hr];refine awZ hΓ rfl ?_;simp only [go_sem,a03,a6t,a9l,a0G,a4B,a40,hr];exact⟨⟨hd,hp⟩,a30 _⟩
 have hr':a3g d=true:=by simpa using hr
 rw [if_neg hr]
 have hpl:a2g d 0 n=-1\/∃ k:Nat,a2g d 0 n=(k:Int)/\k<d.length:=by
  rcases Int.lt_or_le n 0 with g|g
  ·exact .inl (a7P d 0 n g)
  ·rcases Int.lt_or_le n (a0x d) with g2|g2
   ·obtain⟨k,g1,g3,_,_⟩:=(a5f d 0 n g).2 g2;exact .inr ⟨k,by simpa using g1,g3⟩
   ·exact .inl ((a5f d 0 n g).1 g2)
 rcases hpl with hpl|⟨k,hpl,hk⟩
 ·rw [hpl,if_pos (by omega)];refine awZ hΓ rfl ?_;simp only [go_sem,a03,a6t,a9l,a0G,a4B,a40,hr',hpl];exact⟨⟨hd,hp⟩,⟨hd,hn⟩,a30 _⟩
 rw [hpl,if_neg (by omega),Int.toNat_natCast];generalize hpe:d.getD k ePt.dflt=p at *
 have hwp:=b3l p side;generalize ho:ofS p side=o at *
 obtain⟨t,e⟩:=o;dsimp only at hwp ⊢
 have hpk:b8f p:=by
  rw [<-hpe,a1q d _ hk];exact hp _ (List.getElem_mem _)
 have htl:t.length<=100000000000:=by
  have:=hpk.2.2;omega
 by_cases hz:e≠0
 ·rw [if_pos hz];refine awZ hΓ rfl ?_;simp only [go_sem,a03,a6t,a9l,a0G,a4B,a40,hr',hpl,hpe,ho,hz];exact⟨⟨hd,hp⟩,⟨hd,hn⟩,fun h=>absurd h (by omega),fun _=>⟨by omega,a30 _⟩⟩
 rw [if_neg hz];have hz:e=0:=by simpa using hz
 subst hz;by_cases ht:t≠[]/\a1c t=false/\(k:Int)<(d.length:Int)-1
 ·rw [if_pos ht];obtain⟨h1,h2,h3⟩:=ht;refine awZ hΓ rfl ?_;simp only [go_sem,a03,a6t,a9l,a0G,a4B,a40,hr',hpl,hpe,ho,h1,h2];exact⟨⟨hd,hp⟩,⟨hd,hn⟩,fun h=>absurd h (by omega),fun _=>⟨by omega,htl,by omega,fun _=>a30 _,fun h=>absurd h3 h⟩⟩
 ·rw [if_neg ht];refine awL hΓ [11,12] rfl ?_;simp only [go_sem,a03,a6t,a9l,a0G,a4B,a40,hr',hpl,hpe,ho];refine⟨⟨hd,hp⟩,⟨hd,hn⟩,fun h=>absurd h (by omega),fun _=>⟨by omega,fun _=>htl,fun _=>by omega,fun⟨⟨g1,g2⟩,g3⟩=>ht ⟨g1,by simpa using g2,g3⟩,fun _=>⟨_,d,rfl,avR,hd,fun ver nx' g1 g2=>?_⟩⟩⟩;refine awL hΓ [12] rfl ?_;simp only [go_sem,a03,a6t,a9l,a0G,a4B,a40];refine⟨by omega,hk,?_⟩;refine AW.cut ⟨[(11,.ow 0 ver (d.set k (a1b t)).length)],[(0,a1a ver 179 ePt (d.set k (a1b t)))],55,1,nx',[]⟩ ?_ ?_
  ·simp only [go_sem,a03,a6t,a9l,a0G,a4B,a40,List.length_set];refine a0c.sl (by simp) fun k' hk' j hj=>?_
   refine c3B (E:=ePt) (n:=d.length) hk (fun _ _ _ _=>avR) (fun j hj=>?_) k' hk' j hj
   match j,hj with
   | 0,_=>exact avR
   | 1,_=>exact avR
   | 2,_=>exact avR
   | 3,_=>exact avR
   | 4,_=>exact avR
   | 5,_=>exact avR
   | 6,_=>exact avR
   | 7,_=>exact avR
   | 8,_=>exact avR
  have hws:=c1O d k t (by rw [hpe];unfold b4P;omega);have hls:(d.set k (a1b t)).length=d.length:=by simp
  have hst:=c6I (d.set k (a1b t));generalize d.set k (a1b t)=d' at *
  refine AW.freeze 0 ver 179 9 d'.length (fun i=>ePt.enc (d'.getD i ePt.dflt)) rfl (fun _ _ j hj=>match j,hj with|0,_=>rfl|1,_=>rfl|2,_=>rfl|3,_=>rfl|4,_=>rfl|5,_=>rfl|6,_=>rfl|7,_=>rfl|8,_=>rfl) ?_;refine AW.cut ⟨[(11,sL ePt d')],[],55,1,nx',[]⟩ ?_ ?_
  ·simp only [go_sem,a03,a6t,a9l,a0G,a4B,a40];exact a4p (E:=ePt) rfl rfl rfl
  refine awZ hΓ rfl ?_;simp only [go_sem,a03,a6t,a9l,a0G,a4B,a40];exact⟨by omega,by omega⟩
end
end Go.Proofs.YthpjjjnbkfnghaaGreatDoor
