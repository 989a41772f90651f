/-
  Part 5 of what the proof rests on: values that are told, code that is walked, what comes out.
-/
import Derived.Test.YthpjjjnbkfnghaaGreatDoorMd4
import Derived.Laws.CopyRow
set_option linter.all false
namespace Go.Proofs.YthpjjjnbkfnghaaGreatDoor
def prs (i j:Int) (n:Nat):List (Int×Int):=(List.range n).map fun r:Nat=>(i+(r:Int),j+(r:Int))
def shP (i j:Int) (l:List (Int×Int)):List (Int×Int):=l.map fun p=>(i+p.1,j+p.2)
def a17 (n:Nat):List Int:=List.replicate n (-1)
def bh (a b:List Int):Nat:=bhd (a.drop (ahd a b)) (b.drop (ahd a b))
def a5W (a b:List Int):List Int:=(a.drop (ahd a b)).take (a.length-ahd a b-bh a b)
def a2t (a b:List Int):List Int:=(b.drop (ahd a b)).take (b.length-ahd a b-bh a b)
def cutF (a b:List Int):Option (Int×Int):=c7C a b (a.length+b.length+1) 0 (a17 (a.length+b.length+3)) (a17 (a.length+b.length+3))
def b8O (g:List Int->List Int->List (Int×Int)) (a b:List Int):List (Int×Int):=
 if (a5W a b).length≠0/\(a2t a b).length≠0 then
  match cutF (a5W a b) (a2t a b) with
  | none=>[]
  | some pq=>
    shP (ahd a b) (ahd a b) (g ((a5W a b).take pq.1.toNat) ((a2t a b).take pq.2.toNat))++
    shP (ahd a b+pq.1) (ahd a b+pq.2) (g ((a5W a b).drop pq.1.toNat) ((a2t a b).drop pq.2.toNat))
 else []
def a8j:Nat->List Int->List Int->List (Int×Int)
 | 0,_,_=>[]
 | f+1,a,b=>prs 0 0 (ahd a b)++(b8O (a8j f) a b++prs ((a.length:Int)-bh a b) ((b.length:Int)-bh a b) (bh a b))
theorem a6x (f:Nat) (a b:List Int):a8j (f+1) a b=prs 0 0 (ahd a b)++(b8O (a8j f) a b++prs ((a.length:Int)-bh a b) ((b.length:Int)-bh a b) (bh a b)):=rfl
section
variable {a b:List Int}
theorem b1h:ahd a b+bh a b<=a.length/\ahd a b+bh a b<=b.length:=by
 have h1:=a65 a b
 have h2:=c2w (a.drop (ahd a b)) (b.drop (ahd a b))
 simp only [List.length_drop] at h2
 unfold bh
 omega
theorem a9L:(a5W a b).length=a.length-ahd a b-bh a b/\(a2t a b).length=b.length-ahd a b-bh a b:=by
 have:=b1h (a:=a) (b:=b)
 constructor<;>simp only [a5W,a2t,List.length_take,List.length_drop]<;>omega
theorem b1Q:a=a.take (ahd a b)++(a5W a b++a.drop (a.length-bh a b)):=by
 have h:=b1h (a:=a) (b:=b)
 rw [show a.drop (a.length-bh a b)=(a.drop (ahd a b)).drop (a.length-ahd a b-bh a b) by rw [List.drop_drop];congr 1;omega]
 rw [a5W,List.take_append_drop,List.take_append_drop]
theorem b01:b=b.take (ahd a b)++(a2t a b++b.drop (b.length-bh a b)):=by
 have h:=b1h (a:=a) (b:=b)
 rw [show b.drop (b.length-bh a b)=(b.drop (ahd a b)).drop (b.length-ahd a b-bh a b) by rw [List.drop_drop];congr 1;omega]
 rw [a2t,List.take_append_drop,List.take_append_drop]
theorem a22 (l:List Int) (i k:Nat):(l.drop i).getD k 0=l.getD (i+k) 0:=by simp [List.getD]
theorem a34 (l:List Int) {i k:Nat} (h:k<i):(l.take i).getD k 0=l.getD k 0:=by simp [List.getD,h]
theorem b1Y:a.take (ahd a b)=b.take (ahd a b):=by
 have h:=b1h (a:=a) (b:=b)
 refine a1C 0 (by simp only [List.length_take];omega) fun k hk=>?_
 simp only [List.length_take] at hk
 rw [a34 _ (by omega),a34 _ (by omega)]
 exact (a3Z 0 a b).1 k (by omega)
theorem b13:a.drop (a.length-bh a b)=b.drop (b.length-bh a b):=by
 have h:=b1h (a:=a) (b:=b)
 refine a1C 0 (by simp only [List.length_drop];omega) fun k hk=>?_
 simp only [List.length_drop] at hk
 rw [a22,a22]
 have:=(b7L 0 (a.drop (ahd a b)) (b.drop (ahd a b))).1 (bh a b-1-k) (by unfold bh at *;omega)
 simp only [List.length_drop,a22] at this
 rw [show ahd a b+(a.length-ahd a b-1-(bh a b-1-k))=a.length-bh a b+k by omega,
  show ahd a b+(b.length-ahd a b-1-(bh a b-1-k))=b.length-bh a b+k by omega] at this
 exact this
theorem b0R (h1:(a5W a b).length≠0) (h2:(a2t a b).length≠0) :
  (a5W a b).getD 0 0≠(a2t a b).getD 0 0/\(a5W a b).getD ((a5W a b).length-1) 0≠(a2t a b).getD ((a2t a b).length-1) 0:=by
 have h:=b1h (a:=a) (b:=b)
 have hl:=a9L (a:=a) (b:=b)
 rw [hl.1] at h1
 rw [hl.2] at h2
 constructor
 ·rw [a5W,a2t,a34 _ (by omega),a34 _ (by omega),a22,a22]
  exact (a3Z 0 a b).2 (by omega) (by omega)
 ·rw [hl.1,hl.2,a5W,a2t,a34 _ (by omega),a34 _ (by omega),a22,a22]
  have:=(b7L 0 (a.drop (ahd a b)) (b.drop (ahd a b))).2 (by simp only [List.length_drop];unfold bh at *;omega) (by simp only [List.length_drop];unfold bh at *;omega)
  simp only [List.length_drop,a22] at this
  change a.getD (ahd a b+(a.length-ahd a b-1-bh a b)) 0≠b.getD (ahd a b+(b.length-ahd a b-1-bh a b)) 0 at this
  rw [show a.length-ahd a b-1-bh a b=a.length-ahd a b-bh a b-1 by omega,show b.length-ahd a b-1-bh a b=b.length-ahd a b-bh a b-1 by omega] at this
  exact this
theorem c3W:a4x a b=ahd a b+a4x (a5W a b) (a2t a b)+bh a b:=by
 have h:=b1h (a:=a) (b:=b)
 have e1:=b1Q (a:=a) (b:=b)
 have e2:=b01 (a:=a) (b:=b)
 rw [<-b1Y,<-b13] at e2
 have:a4x a b=a4x (a.take (ahd a b)++(a5W a b++a.drop (a.length-bh a b))) (a.take (ahd a b)++(a2t a b++a.drop (a.length-bh a b))):=by
  rw [<-e1,<-e2]
 rw [this,b1q,b0F]
 simp only [List.length_take,List.length_drop]
 omega
end
theorem c9d {a b:List Int} (h:a.Sublist b) (hl:b.length=a.length+1):∃ u v z,a=u++v/\b=u++z::v:=by
 induction h with
 | slnil=>simp at hl
 | @cons l1 l2 x h ih=>
   simp only [List.length_cons] at hl
   have:=h.eq_of_length (by omega)
   subst this
   exact⟨[],l1,x,rfl,rfl⟩
 | @cons_cons l1 l2 x h ih=>
   simp only [List.length_cons] at hl
   obtain⟨u,v,z,e1,e2⟩:=ih (by omega)
   exact⟨x::u,v,z,by rw [e1];rfl,by rw [e2];rfl⟩
theorem c0O {a b:List Int} (h:a.Sublist b) (hl:b.length=a.length+1) (h0:a.length≠0) :
  a.getD 0 0=b.getD 0 0\/a.getD (a.length-1) 0=b.getD (b.length-1) 0:=by
 obtain⟨u,v,z,rfl,rfl⟩:=c9d h hl
 cases u with
 | cons x u=>left;rfl
 | nil=>
   right
   simp only [List.nil_append,List.length_cons] at h0 ⊢
   rw [show v.length+1-1=(v.length-1)+1 by omega]
   rfl
theorem b9Q {a b:List Int} (h1:a.length≠0) (h2:b.length≠0) (h3:a.getD 0 0≠b.getD 0 0) (h4:a.getD (a.length-1) 0≠b.getD (b.length-1) 0) :
  2<=dst a b a.length b.length:=by
 obtain⟨c,g1,g2,g3⟩:=a3M a b
 have l1:=g1.length_le
 have l2:=g2.length_le
 have hd:dst a b a.length b.length=(a.length:Int)+b.length-2*c.length:=by rw [dst,g3];rfl
 rw [hd]
 by_cases e1:a.length=c.length
 ·have:=g1.eq_of_length e1.symm
  subst this
  by_cases e2:b.length=c.length
  ·have:=g2.eq_of_length e2.symm
   subst this
   exact absurd rfl h3
  ·by_cases e3:b.length=c.length+1
   ·rcases c0O g2 e3 h1 with g|g
    ·exact absurd g h3
    ·exact absurd g h4
   ·omega
 ·by_cases e2:b.length=c.length
  ·have:=g2.eq_of_length e2.symm
   subst this
   by_cases e3:a.length=c.length+1
   ·rcases c0O g1 e3 h2 with g|g
    ·exact absurd g.symm h3
    ·exact absurd g.symm h4
   ·omega
  ·omega
theorem b3B (a b:List Int):a7Z a b 0 (a17 (a.length+b.length+3)):=by
 refine⟨by simp [a17],fun k h1 h2=>.inl ⟨?_,fun x h=>?_⟩⟩
 ·unfold rch a17
  simp only [List.getD]
  rw [List.getElem?_replicate,if_pos (by omega)]
  rfl
 ·have:=h.2.2.2.2
  have:=b12 (a:=a) (b:=b) x.toNat (x-k).toNat
  omega
theorem b6U {a b:List Int} (h1:a.length≠0) (h2:b.length≠0) (h3:a.getD 0 0≠b.getD 0 0) (h4:a.getD (a.length-1) 0≠b.getD (b.length-1) 0) :
  ∃ p q:Nat,cutF a b=some ((p:Int),(q:Int))/\p<=a.length/\q<=b.length/\0<p+q/\p+q<a.length+b.length/\a4x (a.take p) (b.take q)+a4x (a.drop p) (b.drop q)=a4x a b:=by
 have ht:=b9Q h1 h2 h3 h4
 have hle:=(b2N (a:=a) (b:=b) a.length b.length)
 have hd:dst a b a.length b.length=(a.length:Int)+b.length-2*a4x a b:=rfl
 have s2:=b3B a.reverse b.reverse
 simp only [a1x] at s2
 obtain⟨p,q,e,p1,q1,g1,g2,g3⟩:=b7o (a:=a) (b:=b) (a.length+b.length+1) 0 _ _ (b3B a b) s2 (fun _=>by omega) (fun _=>by omega) (by omega)
 have e1:=a8K (a:=a) (b:=b) p1 q1
 have e2:=a9x (a:=a) (b:=b) p1 q1
 refine⟨p,q,e,p1,q1,?_,?_,by omega⟩
 ·have:=(a5v (a.take p) (b.take q))
  omega
 ·have:¬(p=a.length/\q=b.length):=fun⟨x,y⟩=>by
   subst x;subst y
   simp only [List.drop_length,b2p] at e2
   omega
  omega
def inM (a b:List Int) (p:Int×Int):Prop:=0<=p.1/\p.1<a.length/\0<=p.2/\p.2<b.length/\a.getD p.1.toNat 0=b.getD p.2.toNat 0
def isM (a b:List Int) (l:List (Int×Int)):Prop:=l.Pairwise (fun p q=>p.1<q.1/\p.2<q.2)/\∀ p∈l,inM a b p
theorem c99 (a b:List Int):isM a b []:=⟨.nil,fun _ h=>nomatch h⟩
theorem b25 (i j:Int) (l:List (Int×Int)):(shP i j l).length=l.length:=by simp [shP]
theorem a7d (i j:Int) (n:Nat):(prs i j n).length=n:=by simp [prs]
theorem c1a (i j i' j':Int) (l:List (Int×Int)):shP i j (shP i' j' l)=shP (i+i') (j+j') l:=by
 simp only [shP,List.map_map]
 refine List.map_congr_left fun p _=>?_
 simp only [Function.comp]
 congr 1<;>omega
theorem b2O (i j:Int) (l l':List (Int×Int)):shP i j (l++l')=shP i j l++shP i j l':=by simp [shP]
theorem b5l (i j i' j':Int) (n:Nat):shP i j (prs i' j' n)=prs (i+i') (j+j') n:=by
 simp only [shP,prs,List.map_map]
 refine List.map_congr_left fun p _=>?_
 simp only [Function.comp]
 congr 1<;>omega
theorem d7K (l:List (Int×Int)):shP 0 0 l=l:=by
 simp only [shP,Int.zero_add]
 exact List.map_id l
theorem b4N {a b a' b':List Int} {l l':List (Int×Int)} (h:isM a b l) (h':isM a' b' l'):isM (a++a') (b++b') (l++shP a.length b.length l'):=by
 constructor
 ·refine List.pairwise_append.2 ⟨h.1,?_,fun p hp q hq=>?_⟩
  ·exact List.pairwise_map.2 (h'.1.imp fun {p q} hpq=>by dsimp only;omega)
  ·obtain⟨r,hr,rfl⟩:=List.mem_map.1 hq
   have h1:=h.2 p hp
   have h2:=h'.2 r hr
   unfold inM at h1 h2
   dsimp only
   omega
 ·intro p hp
  rcases List.mem_append.1 hp with hp|hp
  ·have h1:=h.2 p hp
   unfold inM at *
   simp only [List.length_append]
   refine⟨by omega,by omega,by omega,by omega,?_⟩
   simp only [List.getD]
   rw [List.getElem?_append_left (by omega),List.getElem?_append_left (by omega)]
   exact h1.2.2.2.2
  ·obtain⟨r,hr,rfl⟩:=List.mem_map.1 hp
   have h1:=h'.2 r hr
   unfold inM at *
   simp only [List.length_append]
   refine⟨by omega,by omega,by omega,by omega,?_⟩
   simp only [List.getD]
   rw [List.getElem?_append_right (by omega),List.getElem?_append_right (by omega)]
   rw [show (a.length+r.1).toNat-a.length=r.1.toNat by omega,show (b.length+r.2).toNat-b.length=r.2.toNat by omega]
   exact h1.2.2.2.2
theorem c0V (a:List Int):isM a a (prs 0 0 a.length):=by
 constructor
 ·refine List.pairwise_map.2 (List.pairwise_lt_range.imp fun {p q} hpq=>by dsimp only;omega)
 ·intro p hp
  obtain⟨r,hr,rfl⟩:=List.mem_map.1 hp
  have:=List.mem_range.1 hr
  unfold inM
  dsimp only
  refine⟨by omega,by omega,by omega,by omega,rfl⟩
theorem a4X:∀ (f:Nat) (a b:List Int),a.length+b.length<f->
  isM a b (a8j f a b)/\(a8j f a b).length=a4x a b/\∀ f',a.length+b.length<f'->a8j f' a b=a8j f a b
 | 0,a,b,h=>by omega
 | f+1,a,b,h=>by
   have hb:=b1h (a:=a) (b:=b)
   have hl:=a9L (a:=a) (b:=b)
   have e1:=b1Q (a:=a) (b:=b)
   have e2:=b01 (a:=a) (b:=b)
   have hh:=b1Y (a:=a) (b:=b)
   have ht:=b13 (a:=a) (b:=b)
   have hc:=c3W (a:=a) (b:=b)
   have key:∀ m,isM (a5W a b) (a2t a b) m->isM a b (prs 0 0 (ahd a b)++(shP (ahd a b) (ahd a b) m++prs ((a.length:Int)-bh a b) ((b.length:Int)-bh a b) (bh a b))):=by
    intro m hm
    have k1:=c0V (a.take (ahd a b))
    have k2:=c0V (a.drop (a.length-bh a b))
    have k3:=b4N k1 (b4N hm k2)
    simp only [List.length_take,List.length_drop,b2O,b5l] at k3
    rw [Nat.min_eq_left (by omega),show a.length-(a.length-bh a b)=bh a b by omega] at k3
    rw [show a.take (ahd a b)++(a2t a b++a.drop (a.length-bh a b))=b by rw [hh,ht];exact e2.symm] at k3
    rw [<-e1] at k3
    rw [show ((ahd a b:Nat):Int)+((a5W a b).length+0)=a.length-bh a b by omega,show ((ahd a b:Nat):Int)+((a2t a b).length+0)=b.length-bh a b by omega] at k3
    exact k3
   by_cases c:(a5W a b).length≠0/\(a2t a b).length≠0
   ·have hce:=b0R c.1 c.2
    obtain⟨p,q,e,p1,q1,g1,g2,g3⟩:=b6U c.1 c.2 hce.1 hce.2
    have r1:=a4X f ((a5W a b).take p) ((a2t a b).take q) (by simp only [List.length_take];omega)
    have r2:=a4X f ((a5W a b).drop p) ((a2t a b).drop q) (by simp only [List.length_drop];omega)
    have ef:∀ f',a8j (f'+1) a b=prs 0 0 (ahd a b)++(shP (ahd a b) (ahd a b) (a8j f' ((a5W a b).take p) ((a2t a b).take q)++shP p q (a8j f' ((a5W a b).drop p) ((a2t a b).drop q)))++prs ((a.length:Int)-bh a b) ((b.length:Int)-bh a b) (bh a b)):=fun f'=>by
     rw [a6x,b8O,if_pos c,e]
     simp only [Int.toNat_natCast,b2O,c1a]
    rw [ef]
    refine⟨key _ ?_,?_,fun f' hf'=>?_⟩
    ·have:=b4N r1.1 r2.1
     simp only [List.length_take] at this
     rw [List.take_append_drop,List.take_append_drop,Nat.min_eq_left p1,Nat.min_eq_left q1] at this
     exact this
    ·simp only [List.length_append,a7d,b25,r1.2.1,r2.2.1]
     omega
    ·cases f' with
     | zero=>omega
     | succ f'=>
       rw [ef,r1.2.2 f' (by simp only [List.length_take];omega),r2.2.2 f' (by simp only [List.length_drop];omega)]
   ·have ef:∀ f',a8j (f'+1) a b=prs 0 0 (ahd a b)++(shP (ahd a b) (ahd a b) []++prs ((a.length:Int)-bh a b) ((b.length:Int)-bh a b) (bh a b)):=fun f'=>by
     rw [a6x,b8O,if_neg c];rfl
    rw [ef]
    refine⟨key _ (c99 _ _),?_,fun f' hf'=>?_⟩
    ·simp only [List.length_append,a7d,b25,List.length_nil]
     rw [hc]
     have:a4x (a5W a b) (a2t a b)=0:=by
      have:=a5v (a5W a b) (a2t a b)
      omega
     omega
    ·cases f' with
     | zero=>omega
     | succ f'=>rw [ef]
end Go.Proofs.YthpjjjnbkfnghaaGreatDoor
namespace Go.Proofs.YthpjjjnbkfnghaaGreatDoor
def plc (q:Int->Bool):Int->List Int->List Int
 | _,[]=>[]
 | i,x::l=>if q x then i::plc q (i+1) l else plc q (i+1) l
def shI (a b:List Int):List Int:=a.filter fun x=>b.contains x
def shQ (a b:List Int):List Int:=plc (fun x=>b.contains x) 0 a
theorem b7I (q:Int->Bool) (x:Int):∀ (i:Int) (l:List Int),plc q i (l++[x])=plc q i l++(if q x then [i+l.length] else [])
 | i,[]=>by simp [plc]
 | i,y::l=>by
   have:=b7I q x (i+1) l
   simp only [List.cons_append,plc,List.length_cons]
   rw [this,show i+1+(l.length:Int)=i+((l.length+1:Nat):Int) by omega]
   split<;>rfl
theorem a3T (q:Int->Bool):∀ (i:Int) (l:List Int),(plc q i l).length=(l.filter q).length
 | i,[]=>rfl
 | i,y::l=>by
   have:=a3T q (i+1) l
   simp only [plc,List.filter_cons]
   split<;>simp [this]
theorem a8O (q:Int->Bool):∀ (i:Int) (l:List Int),∀ p∈plc q i l,i<=p/\p<i+l.length
 | i,[],p,h=>nomatch h
 | i,y::l,p,h=>by
   have:=a8O q (i+1) l p
   simp only [plc] at h
   simp only [List.length_cons]
   split at h
   ·rcases List.mem_cons.1 h with h|h
    ·omega
    ·have:=this h;omega
   ·have:=this h;omega
theorem b7J (q:Int->Bool):∀ (i:Int) (l:List Int),(plc q i l).Pairwise (·<·)
 | i,[]=>.nil
 | i,y::l=>by
   have:=b7J q (i+1) l
   simp only [plc]
   split
   ·exact .cons (fun p hp=>by have:=a8O q (i+1) l p hp;omega) this
   ·exact this
theorem b7y (q:Int->Bool):∀ (i:Int) (l:List Int) (k:Nat),k<(l.filter q).length->l.getD ((plc q i l).getD k 0-i).toNat 0=(l.filter q).getD k 0
 | i,[],k,h=>by simp at h
 | i,y::l,k,h=>by
   simp only [plc,List.filter_cons] at h ⊢
   split at h
   ·rename_i c
    simp only [c,if_true]
    cases k with
    | zero=>simp
    | succ k=>
      simp only [List.length_cons] at h
      have:=b7y q (i+1) l k (by omega)
      have hm:=a8O q (i+1) l ((plc q (i+1) l).getD k 0) (by
       rw [a1e _ _ (by rw [a3T];omega)];exact List.getElem_mem _)
      simp only [List.getD_cons_succ]
      rw [show ((plc q (i+1) l).getD k 0-i).toNat=((plc q (i+1) l).getD k 0-(i+1)).toNat+1 by omega,List.getD_cons_succ]
      exact this
   ·rename_i c
    simp only [c]
    have:=b7y q (i+1) l k h
    have hm:=a8O q (i+1) l ((plc q (i+1) l).getD k 0) (by
     rw [a1e _ _ (by rw [a3T];omega)];exact List.getElem_mem _)
    simp only [Bool.false_eq_true,if_false]
    rw [show ((plc q (i+1) l).getD k 0-i).toNat=((plc q (i+1) l).getD k 0-(i+1)).toNat+1 by omega,List.getD_cons_succ]
    exact this
theorem c7z {q:Int->Bool} {i:Int} {l:List Int} {k k':Nat} (h:k<k') (h':k'<(l.filter q).length):(plc q i l).getD k 0<(plc q i l).getD k' 0:=by
 have:=List.pairwise_iff_getElem.1 (b7J q i l) k k' (by rw [a3T];omega) (by rw [a3T];omega) h
 rw [a1e _ _ (by rw [a3T];omega),a1e _ _ (by rw [a3T];omega)]
 exact this
def mapM (pa pb:List Int) (l:List (Int×Int)):List (Int×Int):=l.map fun p=>(pa.getD p.1.toNat 0,pb.getD p.2.toNat 0)
def a3N (a b:List Int):List (Int×Int):=mapM (shQ a b) (shQ b a) (a8j ((shI a b).length+(shI b a).length+1) (shI a b) (shI b a))
theorem b8J (a b:List Int):a4x (shI a b) (shI b a)=a4x a b:=by
 obtain⟨c,h1,h2,h3⟩:=a3M a b
 refine a7u ⟨c,?_,?_,h3⟩ fun d g1 g2=>?_
 ·have:=h1.filter fun x=>b.contains x
  rwa [List.filter_eq_self.2 fun x hx=>by simpa using h2.subset hx] at this
 ·have:=h2.filter fun x=>a.contains x
  rwa [List.filter_eq_self.2 fun x hx=>by simpa using h1.subset hx] at this
 ·exact a6G (g1.trans List.filter_sublist) (g2.trans List.filter_sublist)
theorem a3m (a b:List Int):isM a b (a3N a b)/\(a3N a b).length=a4x a b:=by
 have h:=a4X ((shI a b).length+(shI b a).length+1) (shI a b) (shI b a) (by omega)
 refine⟨⟨?_,?_⟩,by simp only [a3N,mapM,List.length_map];rw [h.2.1,b8J]⟩
 ·refine List.pairwise_map.2 (h.1.1.imp_of_mem fun {p q} hp hq hpq=>?_)
  have h1:=h.1.2 p hp
  have h2:=h.1.2 q hq
  unfold inM shI at h1 h2
  exact⟨c7z (by omega) (by omega),c7z (by omega) (by omega)⟩
 ·intro p hp
  obtain⟨r,hr,rfl⟩:=List.mem_map.1 hp
  have h1:=h.1.2 r hr
  unfold inM shI at h1
  have ma:=a8O (fun x=>b.contains x) 0 a ((shQ a b).getD r.1.toNat 0) (by
   unfold shQ
   rw [a1e _ _ (by rw [a3T];omega)];exact List.getElem_mem _)
  have mb:=a8O (fun x=>a.contains x) 0 b ((shQ b a).getD r.2.toNat 0) (by
   unfold shQ
   rw [a1e _ _ (by rw [a3T];omega)];exact List.getElem_mem _)
  have ea:=b7y (fun x=>b.contains x) 0 a r.1.toNat (by omega)
  have eb:=b7y (fun x=>a.contains x) 0 b r.2.toNat (by omega)
  unfold inM
  dsimp only
  refine⟨by omega,by omega,by omega,by omega,?_⟩
  rw [Int.sub_zero] at ea eb
  unfold shQ
  rw [ea,eb]
  exact h1.2.2.2.2
theorem c2P {a b:List Int}:∀ (l:List (Int×Int)) (u v:Int),isM a b l->(∀ p∈l,u<p.1/\v<p.2)->rgt a b u v l=true
 | [],_,_,_,_=>rfl
 | p::l,u,v,h,hu=>by
   have h1:=h.2 p (List.mem_cons_self ..)
   have h2:=hu p (List.mem_cons_self ..)
   unfold inM at h1
   rw [rgt,Bool.and_eq_true,decide_eq_true_eq]
   refine⟨⟨h2.1,h2.2,h1.2.1,h1.2.2.2.1,h1.2.2.2.2⟩,c2P l _ _ ⟨(List.pairwise_cons.1 h.1).2,fun q hq=>h.2 q (List.mem_cons_of_mem _ hq)⟩ fun q hq=>(List.pairwise_cons.1 h.1).1 q hq⟩
theorem a5d (a b:List Int):rgt a b (-1) (-1) (a3N a b)=true:=
 c2P _ _ _ (a3m a b).1 fun p hp=>by have:=(a3m a b).1.2 p hp;unfold inM at this;omega
theorem b7D:∀ (l:List (Int×Int)) (u n:Int),l.Pairwise (fun p q=>p.1<q.1/\p.2<q.2)->(∀ p∈l,u<=p.1/\p.1<n/\u<=p.2/\p.2<n)->n-u<=l.length->l=prs u u l.length
 | [],u,n,_,_,_=>rfl
 | p::l,u,n,h,hu,hn=>by
   have h1:=hu p (List.mem_cons_self ..)
   have ⟨g1,g2⟩:=List.pairwise_cons.1 h
   simp only [List.length_cons] at hn ⊢
   have ub:∀ (l:List (Int×Int)) (w:Int),l.Pairwise (fun p q=>p.1<q.1/\p.2<q.2)->(∀ q∈l,w<q.1/\q.1<n)->w<n->(l.length:Int)<=n-w-1:=by
    intro l
    induction l with
    | nil=>intro w _ _ hw;simp;omega
    | cons q l ih=>
      intro w hp hq hw
      have ⟨k1,k2⟩:=List.pairwise_cons.1 hp
      have:=hq q (List.mem_cons_self ..)
      have:=ih q.1 k2 (fun r hr=>⟨(k1 r hr).1,(hq r (List.mem_cons_of_mem _ hr)).2⟩) this.2
      simp only [List.length_cons]
      omega
   have ub2:∀ (l:List (Int×Int)) (w:Int),l.Pairwise (fun p q=>p.1<q.1/\p.2<q.2)->(∀ q∈l,w<q.2/\q.2<n)->w<n->(l.length:Int)<=n-w-1:=by
    intro l
    induction l with
    | nil=>intro w _ _ hw;simp;omega
    | cons q l ih=>
      intro w hp hq hw
      have ⟨k1,k2⟩:=List.pairwise_cons.1 hp
      have:=hq q (List.mem_cons_self ..)
      have:=ih q.2 k2 (fun r hr=>⟨(k1 r hr).2,(hq r (List.mem_cons_of_mem _ hr)).2⟩) this.2
      simp only [List.length_cons]
      omega
   have b1:=ub l p.1 g2 (fun q hq=>⟨(g1 q hq).1,(hu q (List.mem_cons_of_mem _ hq)).2.1⟩) h1.2.1
   have b2:=ub2 l p.2 g2 (fun q hq=>⟨(g1 q hq).2,(hu q (List.mem_cons_of_mem _ hq)).2.2.2⟩) h1.2.2.2
   have e1:p.1=u:=by omega
   have e2:p.2=u:=by omega
   have:=b7D l (u+1) n g2 (fun q hq=>by
    have k1:=g1 q hq
    have k2:=hu q (List.mem_cons_of_mem _ hq)
    omega) (by omega)
   have hp:p=(u,u):=by cases p;simp only at e1 e2;rw [e1,e2]
   rw [hp]
   refine Eq.trans (congrArg ((u,u)::·) this) ?_
   unfold prs
   rw [List.range_succ_eq_map]
   simp only [List.map_cons,List.map_map,Int.natCast_zero,Int.add_zero]
   congr 1
   refine List.map_congr_left fun r _=>?_
   simp only [Function.comp]
   congr 1<;>omega
theorem b8F (a:List Int):a3N a a=prs 0 0 a.length:=by
 have h:=a3m a a
 rw [c2R] at h
 have:=b7D (a3N a a) 0 a.length h.1.1 (fun p hp=>by have:=h.1.2 p hp;unfold inM at this;omega) (by omega)
 rw [h.2] at this
 exact this
end Go.Proofs.YthpjjjnbkfnghaaGreatDoor
set_option maxRecDepth 100000
namespace Go.Proofs.YthpjjjnbkfnghaaGreatDoor
open Go
def a9Z (n:Int):Bool:=decide (n=1)||(decide (n=2)||decide (n=3))
def ofS (p:Pt) (n:Int):BS×Int:=if a9Z n=false then ([],5) else if n=1 then (p.2.2.2.2.2.1,0) else if n=3 then (p.2.2.2.2.2.2.2.1,0) else if p.2.2.2.2.2.2.2.2=false then ([],1) else (p.2.2.2.2.2.2.1,0)
theorem b2M (p:Pt) (n:Int):(ofS p n).1.length<=p.2.2.2.2.2.1.length+p.2.2.2.2.2.2.1.length+p.2.2.2.2.2.2.2.1.length:=by
 unfold ofS
 split
 ·simp
 ·split
  ·simp only;omega
  ·split
   ·simp only;omega
   ·split
    ·simp
    ·simp only;omega
def a6w:List Pt->List Int->BS->BS×Int
 | [],_,acc=>(acc,0)
 | p::d,ss,acc=>if hkP p=true then (if (ofS p (ss.getD 0 0)).2≠0 then ([],(ofS p (ss.getD 0 0)).2) else a6w d ss.tail (acc++(ofS p (ss.getD 0 0)).1)) else a6w d ss (acc++p.2.2.2.2.1)
def b8G (d:List Pt) (n:Int):BS×Int:=if a3n d=false then ([],11) else if a9Z n=false then ([],5) else a6w d (List.replicate (a0w d) n) []
theorem a2Y (p:Pt) (d:List Pt):a0w (p::d)=(if hkP p=true then 1 else 0)+a0w d:=by
 unfold a0w
 rw [List.filter_cons]
 split
 ·rw [List.length_cons];omega
 ·omega
def a16:List Pt->Nat->Int->Int
 | [],_,_=>-1
 | p::d,i,n=>if hkP p=true then (if n=0 then (i:Int) else a16 d (i+1) (n-1)) else a16 d (i+1) n
theorem a7N:∀ (d:List Pt) (i:Nat) (n:Int),n<0->a16 d i n=-1
 | [],_,_,_=>rfl
 | p::d,i,n,h=>by
   rw [a16]
   split
   ·rw [if_neg (by omega),a7N d _ _ (by omega)]
   ·exact a7N d _ _ h
theorem a43:∀ (d:List Pt) (i:Nat) (n:Int),0<=n->((a0w d:Int)<=n->a16 d i n=-1)/\(n<a0w d->∃ k:Nat,a16 d i n=((i+k:Nat):Int)/\k<d.length/\hkP (d.getD k ePt.dflt)=true/\(a0w (d.take k):Int)=n)
 | [],i,n,h=>⟨fun _=>rfl,fun h2=>by simp [a0w] at h2;omega⟩
 | p::d,i,n,h=>by
   rw [a16,a2Y]
   by_cases hk:hkP p=true
   ·rw [if_pos hk,if_pos hk]
    by_cases hn:n=0
    ·rw [if_pos hn]
     exact⟨fun h2=>by omega,fun _=>⟨0,by simp,by simp,by simpa using hk,by simp [a0w,hn]⟩⟩
    ·rw [if_neg hn]
     obtain⟨h1,h2⟩:=a43 d (i+1) (n-1) (by omega)
     refine⟨fun g=>h1 (by omega),fun g=>?_⟩
     obtain⟨k,g1,g2,g3,g4⟩:=h2 (by omega)
     refine⟨k+1,by rw [g1];congr 1;omega,by simpa using g2,by simpa using g3,?_⟩
     rw [List.take_succ_cons,a2Y,if_pos hk]
     omega
   ·rw [if_neg hk,if_neg hk]
    obtain⟨h1,h2⟩:=a43 d (i+1) n h
    refine⟨fun g=>h1 (by omega),fun g=>?_⟩
    obtain⟨k,g1,g2,g3,g4⟩:=h2 (by omega)
    refine⟨k+1,by rw [g1];congr 1;omega,by simpa using g2,by simpa using g3,?_⟩
    rw [List.take_succ_cons,a2Y,if_neg hk]
    omega
def a9q (d:List Pt) (n side:Int):List Pt×Int:=
 if a3n d=false then ([],11) else if a16 d 0 n<0 then ([],1) else
 if (ofS (d.getD (a16 d 0 n).toNat ePt.dflt) side).2≠0 then ([],(ofS (d.getD (a16 d 0 n).toNat ePt.dflt) side).2) else
 if (ofS (d.getD (a16 d 0 n).toNat ePt.dflt) side).1≠[]/\a1d (ofS (d.getD (a16 d 0 n).toNat ePt.dflt) side).1=false/\a16 d 0 n<(d.length:Int)-1 then ([],11)
 else (ofD (d.set (a16 d 0 n).toNat (a1n (ofS (d.getD (a16 d 0 n).toNat ePt.dflt) side).1)),0)
end Go.Proofs.YthpjjjnbkfnghaaGreatDoor
namespace Go.Proofs.YthpjjjnbkfnghaaGreatDoor
theorem c1V (a b:List BS):∃ φ:BS->Int,b1f a b=a.map φ/\b1g a b=b.map φ/\∀ x y,(x∈a\/x∈b)->(y∈a\/y∈b)->φ x=φ y->x=y:=by
 obtain⟨φ,e,inj⟩:=a8t a b []
 simp only [a2x,List.map_nil,List.cons.injEq] at e
 refine⟨φ,?_,?_,fun x y hx hy=>inj x y (hx.elim .inl fun h=>.inr (.inl h)) (hy.elim .inl fun h=>.inr (.inl h))⟩
 ·unfold b1f
  simp only [a2x,List.getD_cons_zero]
  exact e.1
 ·unfold b1g
  simp only [a2x,List.getD_cons_zero,List.getD_cons_succ]
  exact e.2.1
theorem b27 {x y:List BS} {φ ψ:BS->Int} (h:∀ u v,u∈x->v∈y->(φ u=φ v↔ψ u=ψ v)):∀ (n i k:Nat),i+k<=n->i<=x.length->k<=y.length->a3L (x.map φ) (y.map φ) i k=a3L (x.map ψ) (y.map ψ) i k
 | _,0,k,_,_,_=>by rw [b1p,b1p]
 | _,i+1,0,_,_,_=>by rw [a7b,a7b]
 | 0,i+1,k+1,hn,_,_=>by omega
 | n+1,i+1,k+1,hn,hi,hk=>by
   have e1:=b27 h n i k (by omega) (by omega) (by omega)
   have e2:=b27 h n i (k+1) (by omega) (by omega) hk
   have e3:=b27 h n (i+1) k (by omega) hi (by omega)
   have hx:=a3e φ 0 (show i<x.length by omega)
   have hy:=a3e φ 0 (show k<y.length by omega)
   have hx':=a3e ψ 0 (show i<x.length by omega)
   have hy':=a3e ψ 0 (show k<y.length by omega)
   have hh:=h _ _ (a4J (show i<x.length by omega)) (a4J (show k<y.length by omega))
   by_cases c:φ (x.getD i [])=φ (y.getD k [])
   ·rw [a5G (by rw [hx,hy];exact c),a5G (by rw [hx',hy'];exact hh.1 c),e1]
   ·rw [a55 (by rw [hx,hy];exact c),a55 (by rw [hx',hy'];exact fun d=>c (hh.2 d)),e2,e3]
theorem c8m {x y:List BS} {φ ψ:BS->Int} (h:∀ u v,u∈x->v∈y->(φ u=φ v↔ψ u=ψ v)):a4x (x.map φ) (y.map φ)=a4x (x.map ψ) (y.map ψ):=by
 unfold a4x
 simp only [List.length_map]
 exact b27 h _ _ _ (Nat.le_refl _) (Nat.le_refl _) (Nat.le_refl _)
theorem c1j {x y:List BS} {φ ψ:BS->Int} (h:∀ u v,u∈x->v∈y->(φ u=φ v↔ψ u=ψ v)):∀ (l:List (Int×Int)) (u v:Int),-1<=u->-1<=v->rgt (x.map φ) (y.map φ) u v l=true->rgt (x.map ψ) (y.map ψ) u v l=true
 | [],_,_,_,_,_=>rfl
 | p::l,u,v,hu,hv,g=>by
   rw [rgt,Bool.and_eq_true,decide_eq_true_eq] at g ⊢
   obtain⟨⟨g1,g2,g3,g4,g5⟩,g6⟩:=g
   simp only [List.length_map] at g3 g4
   have k1:p.1.toNat<x.length:=by omega
   have k2:p.2.toNat<y.length:=by omega
   rw [a3e φ 0 k1,a3e φ 0 k2] at g5
   refine⟨⟨g1,g2,by simpa using g3,by simpa using g4,?_⟩,c1j h l _ _ (by omega) (by omega) g6⟩
   rw [a3e ψ 0 k1,a3e ψ 0 k2]
   exact (h _ _ (a4J k1) (a4J k2)).1 g5
def a6z (x y:List BS):List (Int×Int):=a3N (b1f x y) (b1g x y)
theorem c6W {x y:List BS} {φ:BS->Int} (inj:∀ u v,u∈x->v∈y->φ u=φ v->u=v):rgt (x.map φ) (y.map φ) (-1) (-1) (a6z x y)=true/\(a6z x y).length=a4x (x.map φ) (y.map φ):=by
 obtain⟨ψ,e1,e2,i2⟩:=c1V x y
 have h:∀ u v,u∈x->v∈y->(ψ u=ψ v↔φ u=φ v):=fun u v hu hv=>⟨fun e=>by rw [i2 u v (.inl hu) (.inr hv) e],fun e=>by rw [inj u v hu hv e]⟩
 unfold a6z
 rw [e1,e2]
 exact⟨c1j h _ _ _ (Int.le_refl _) (Int.le_refl _) (a5d _ _),by rw [(a3m _ _).2,c8m h]⟩
theorem b2e (x y:List BS):(a6z x y).length<=x.length/\(a6z x y).length<=y.length:=by
 unfold a6z
 rw [(a3m _ _).2]
 have:=a5v (b1f x y) (b1g x y)
 rw [a8r,a9u] at this
 exact this
theorem b0S (f:Fl):c7I f (a6z f.1 f.2.1) (a6z f.1 f.2.2)/\(a6z f.1 f.2.1).length=a4x ((a2x [] [f.1,f.2.1,f.2.2]).getD 0 []) ((a2x [] [f.1,f.2.1,f.2.2]).getD 1 [])/\(a6z f.1 f.2.2).length=a4x ((a2x [] [f.1,f.2.1,f.2.2]).getD 0 []) ((a2x [] [f.1,f.2.1,f.2.2]).getD 2 []):=by
 obtain⟨φ,e,inj⟩:=a8t f.1 f.2.1 f.2.2
 have h1:=c6W (x:=f.1) (y:=f.2.1) (φ:=φ) fun u v hu hv=>inj u v (.inl hu) (.inr (.inl hv))
 have h2:=c6W (x:=f.1) (y:=f.2.2) (φ:=φ) fun u v hu hv=>inj u v (.inl hu) (.inr (.inr hv))
 unfold c7I
 rw [e]
 simp only [List.getD_cons_zero,List.getD_cons_succ]
 exact⟨⟨h1.1,h2.1⟩,h1.2,h2.2⟩
def a5T (f:Fl):List Ck:=d2O f (a6z f.1 f.2.1) (a6z f.1 f.2.2)
theorem b1C (f:Fl):chF (0,0,0) none (a5T f) (c7J f):=d1M (b0S f).1
theorem b6L (f:Fl):∀ c∈a5T f,a92 f c:=c5P (b0S f).1
theorem b4h {l:List BS} {n:Nat} (h:∀ x∈l,a6r x<=n):a4w l<=n:=by
 unfold a4w
 have key:∀ (l:List BS) (m:Nat),m<=n->(∀ x∈l,a6r x<=n)->l.foldl (fun n x=>max n (a6r x)) m<=n:=by
  intro l
  induction l with
  | nil=>exact fun m hm _=>hm
  | cons x l ih=>
    intro m hm hl
    rw [List.foldl_cons]
    exact ih _ (Nat.max_le.2 ⟨hm,hl x (List.mem_cons_self ..)⟩) fun y hy=>hl y (List.mem_cons_of_mem _ hy)
 exact key l 0 (Nat.zero_le _) h
theorem b3z {l:List BS} {n:Nat} (h:∀ s∈l,a4w (a0b s)<=n):a52 l<=n:=by
 unfold a52
 have key:∀ (l:List BS) (m:Nat),m<=n->(∀ x∈l,a4w (a0b x)<=n)->l.foldl (fun n s=>max n (a4w (a0b s))) m<=n:=by
  intro l
  induction l with
  | nil=>exact fun m hm _=>hm
  | cons x l ih=>
    intro m hm hl
    rw [List.foldl_cons]
    exact ih _ (Nat.max_le.2 ⟨hm,hl x (List.mem_cons_self ..)⟩) fun y hy=>hl y (List.mem_cons_of_mem _ hy)
 exact key l 0 (Nat.zero_le _) h
theorem c3n {l:List BS} {s:BS} (h:s∈l):a4w (a0b s)<=a52 l:=by
 unfold a52
 have key:∀ (l:List BS) (m:Nat),m<=l.foldl (fun n s=>max n (a4w (a0b s))) m/\∀ s∈l,a4w (a0b s)<=l.foldl (fun n s=>max n (a4w (a0b s))) m:=by
  intro l
  induction l with
  | nil=>exact fun m=>⟨Nat.le_refl _,fun s hs=>by simp at hs⟩
  | cons x l ih=>
    intro m
    rw [List.foldl_cons]
    obtain⟨h1,h2⟩:=ih (max m (a4w (a0b x)))
    refine⟨by omega,fun s hs=>?_⟩
    rcases List.mem_cons.1 hs with rfl|hs
    ·omega
    ·exact h2 s hs
 exact (key l 0).2 s h
def c6E (m:Nat) (s:BS):Prop:=∀ x∈a0b s,a6r x<m
def ftP (m:Nat) (p:Pt):Prop:=∀ s∈b3F p,c6E m s
theorem a7U (m:Nat):c6E m []:=fun x hx=>by simp [a0b] at hx
theorem b2k {m:Nat} {t:BS} (h:c6E m t):ftP m (a1n t):=by
 intro s hs
 simp only [b3F,a1n,List.mem_cons,List.not_mem_nil,or_false] at hs
 rcases hs with rfl|rfl|rfl|rfl
 ·exact h
 ·exact a7U m
 ·exact a7U m
 ·exact a7U m
theorem d2W {m:Nat} {p:Pt} (h:ftP m p):c6E m (txP p):=h _ (by simp [b3F,txP])
theorem c4P {m:Nat} {a b:BS} (ha:c6E m a) (hb:c6E m b) (he:a=[]\/a1d a=true):c6E m (a++b):=by
 intro x hx
 rw [b9f b he] at hx
 rcases List.mem_append.1 hx with hx|hx
 ·exact ha x hx
 ·exact hb x hx
theorem c8H {m:List Pt} {q:Pt} (h:SrP (m++[q])) (hq:a0C q=true):a1d (txP q)=true:=by
 have:=h m.length (by simp)
 unfold okS at this
 rw [b1A] at this
 simp only [Bool.and_eq_true,Bool.or_eq_true] at this
 rcases this.2 with h1|h1
 ·rw [b0E h1] at hq;cases hq
 ·unfold a45 at h1
  simp only [Bool.and_eq_true,Bool.or_eq_true] at h1
  simpa using h1.2.2
theorem c2G {m:Nat} {out:List Pt} {p:Pt} (h:∀ q∈out,ftP m q) (hs:SrP out) (hp:ftP m p):∀ q∈a3h out p,ftP m q:=by
 cases ht:a0C p with
 | false=>
   rw [a8L ht]
   intro q hq
   rcases List.mem_append.1 hq with hq|hq
   ·exact h q hq
   ·simp only [List.mem_singleton] at hq
    subst hq
    exact hp
 | true=>
   rcases a44 out p ht with⟨_,e⟩|⟨h0,⟨n,q,rfl,hq,e⟩|⟨hl,e⟩⟩
   ·rw [e];exact h
   ·rw [e]
    intro r hr
    rcases List.mem_append.1 hr with hr|hr
    ·exact h r (List.mem_append_left _ hr)
    ·simp only [List.mem_singleton] at hr
     subst hr
     exact b2k (c4P (d2W (h q (by simp))) (d2W hp) (.inr (c8H hs hq)))
   ·rw [e]
    intro q hq
    rcases List.mem_append.1 hq with hq|hq
    ·exact h q hq
    ·simp only [List.mem_singleton] at hq
     subst hq
     exact hp
theorem c1f {m:Nat}:∀ (l out:List Pt),SrP out->(∀ q∈out,ftP m q)->(∀ p∈l,a4e p=true\/(a0C p=true/\(txP p=[]\/a1d (txP p)=true)))->(∀ p∈l,ftP m p)->∀ q∈l.foldl a3h out,ftP m q
 | [],_,_,h,_,_=>h
 | p::l,out,hs,h,hl,hf=>c1f l _ (b4R hs (hl p (List.mem_cons_self ..))) (c2G h hs (hf p (List.mem_cons_self ..))) (fun q hq=>hl q (List.mem_cons_of_mem p hq)) fun q hq=>hf q (List.mem_cons_of_mem p hq)
theorem d70 {m:Nat} {l:List Pt} (h2:∀ p∈l.dropLast,a4e p=true\/(a0C p=true/\(txP p=[]\/a1d (txP p)=true))) (hf:∀ p∈l,ftP m p):∀ q∈ofD l,ftP m q:=by
 rw [b4l]
 rcases l.eq_nil_or_concat with rfl|⟨n,p,rfl⟩
 ·intro q hq;simp at hq
 ·rw [List.concat_eq_append] at *
  rw [List.dropLast_concat] at h2
  rw [List.foldl_append]
  exact c2G (c1f n [] (fun i hi=>by simp at hi) (fun q hq=>by simp at hq) h2 fun q hq=>hf q (by simp [hq])) (b5T n [] (fun i hi=>by simp at hi) h2) (hf p (by simp))
theorem c9w {m:Nat} (hm:0<m) {d:List Pt} (h:∀ p∈d,ftP m p):a7G d m=true:=by
 unfold a7G
 rw [Bool.and_eq_true,decide_eq_true_eq,decide_eq_true_eq]
 refine⟨by omega,fun p hp=>?_⟩
 have:=b3z (l:=b3F p) (n:=m-1) fun s hs=>b4h fun x hx=>by
  have:=h p hp s hs x hx
  omega
 omega
theorem a6h {l:List BS} (h:a09 l=true) (i j:Nat) (hj:j<=l.length):a09 (a1D l i j)=true:=by
 rw [a3i] at h ⊢
 intro k hk
 rw [a4i l hj] at hk ⊢
 rw [a6s hk hj]
 obtain⟨h1,h2⟩:=h (i+k) (by omega)
 exact⟨h1,fun h3=>h2 (by omega)⟩
theorem b9h {l:List BS} (h:a09 l=true) {n:Nat} (hn:n<=l.length):a09 (l.take n)=true:=by
 have:=a6h h 0 n hn
 simpa [a1D] using this
theorem b9d {l:List BS} (h:a09 l=true) (n:Nat):a09 (l.drop n)=true:=by
 have:=a6h h n l.length (Nat.le_refl _)
 simpa [a1D] using this
theorem a8B {l:List BS} (h:a09 l=true) (s:Sp):a09 (a60 s l)=true:=by
 unfold a60
 split
 ·rfl
 ·rename_i hc
  exact a6h h _ _ (by omega)
theorem b2Q {l:List BS} {s:Sp} {x:BS} (h:x∈a60 s l):x∈l:=by
 unfold a60 at h
 split at h
 ·simp at h
 ·exact List.mem_of_mem_take (List.mem_of_mem_drop h)
theorem a2U {m:Nat} {l:List BS} (hw:a09 l=true) (h:∀ x∈l,a6r x<m):c6E m l.flatten:=by
 unfold c6E
 rw [a9d l hw]
 exact h
def shF (m:Nat) (f:Fl):Prop:=(∀ x∈f.1,a6r x<m)/\(∀ x∈f.2.1,a6r x<m)/\∀ x∈f.2.2,a6r x<m
theorem c9V {m:Nat} {f:Fl} (hw:b0r f) (hs:shF m f) (st:Int) (lb:BS×BS×BS) (v:Int) (c:Ck):∀ p∈a4u f st lb v c,ftP m p:=by
 have wB:a09 (b00 f c)=true:=a8B hw.1 _
 have wO:a09 (a27 f c)=true:=a8B hw.2.1 _
 have wT:a09 (a3P f c)=true:=a8B hw.2.2 _
 have sB:∀ x∈b00 f c,a6r x<m:=fun x hx=>hs.1 x (b2Q hx)
 have sO:∀ x∈a27 f c,a6r x<m:=fun x hx=>hs.2.1 x (b2Q hx)
 have sT:∀ x∈a3P f c,a6r x<m:=fun x hx=>hs.2.2 x (b2Q hx)
 unfold a4u
 split
 ·have hh:=a9C st (a27 f c) (a3P f c)
  intro p hp
  simp only [a8f,List.mem_cons,List.not_mem_nil,or_false] at hp
  rcases hp with rfl|rfl|rfl
  ·exact b2k (a2U (b9h wO (by omega)) fun x hx=>sO x (List.mem_of_mem_take hx))
  ·intro s hs
   simp only [b3F,b3d,List.mem_cons,List.not_mem_nil,or_false] at hs
   rcases hs with rfl|rfl|rfl|rfl
   ·exact a7U m
   ·exact a2U (a6h wO _ _ (by omega)) fun x hx=>sO x (List.mem_of_mem_take (List.mem_of_mem_drop hx))
   ·split
    ·exact a7U m
    ·exact a2U wB sB
   ·exact a2U (a6h wT _ _ (by omega)) fun x hx=>sT x (List.mem_of_mem_take (List.mem_of_mem_drop hx))
  ·exact b2k (a2U (b9d wO _) fun x hx=>sO x (List.mem_of_mem_drop hx))
 ·intro p hp
  simp only [List.mem_singleton] at hp
  subst hp
  refine b2k ?_
  unfold a74
  split
  ·exact a2U wB sB
  ·split
   ·exact a2U wT sT
   ·split
    ·exact a2U wT sT
    ·exact a2U wO sO
theorem c5z {m:Nat} (hm:0<m) {f:Fl} (hw:b0r f) (hs:shF m f) {L:List Ck} (hc:chF (0,0,0) none L (c7J f)) (hg:∀ c∈L,a92 f c) {st:Int} {lb:BS×BS×BS} {v:Int} (hp:a2l lb=true):a7G (ofD (L.flatMap (a4u f st lb v))) m=true:=by
 refine c9w hm (d70 (fun p h=>?_) fun p h=>?_)
 ·have hends:=b5a hw L (0,0,0) none hc (a6N _) hg
  have hin:=c4n hc
  rcases L.eq_nil_or_concat with rfl|⟨n,c,rfl⟩
  ·simp at h
  ·rw [List.concat_eq_append] at h hends hin
   rw [List.flatMap_append,a9f _ _ (by simpa using b91 f st lb v c)] at h
   rcases List.mem_append.1 h with h|h
   ·obtain⟨d,hd,hd2⟩:=List.mem_flatMap.1 h
    exact b6D hp (hends d (by simpa using hd)) p hd2
   ·have h:p∈(a4u f st lb v c).dropLast:=by simpa using h
    exact b3D hw hp (hin c (by simp)) p h
 ·obtain⟨c,_,hc2⟩:=List.mem_flatMap.1 h
  exact c9V hw hs st lb v c p hc2
theorem c4E (x:List BS):a6z x x=prs 0 0 x.length:=by
 unfold a6z
 obtain⟨φ,e1,e2,_⟩:=c1V x x
 rw [e1,e2,b8F,List.length_map]
theorem d3I (f:Fl):((a5T f).map (a27 f)).flatten=f.2.1:=b2m e0Q (b1C f) rfl
theorem d2z (f:Fl):((a5T f).map (a3P f)).flatten=f.2.2:=b2m e1A (b1C f) rfl
theorem d2o (f:Fl):((a5T f).map (b00 f)).flatten=f.1:=b2m e1k (b1C f) rfl
theorem d6H {O:List BS} {u j:Nat} (h:u<=j):(O.take u).flatten.length+(a1D O u j).flatten.length+(O.drop j).flatten.length=O.flatten.length:=by
 have e:O.take u++a1D O u j++O.drop j=O:=by
  have h1:O.take u=a1D O 0 u:=by simp [a1D]
  have h2:a1D O 0 j=O.take j:=by simp [a1D]
  rw [h1,b4E O (Nat.zero_le _) h,h2,List.take_append_drop]
 have:=congrArg (fun l:List BS=>l.flatten.length) e
 simp only [List.flatten_append,List.length_append] at this
 exact this
theorem d0o {f:Fl} (st:Int) (lb:BS×BS×BS) (v:Int) (c:Ck):a3X (a4u f st lb v c)<=(b00 f c).flatten.length+(a27 f c).flatten.length+(a3P f c).flatten.length:=by
 unfold a4u
 split
 ·have hh:=a9C st (a27 f c) (a3P f c)
  have e:a3X (a8f f c st lb)=((a27 f c).take (a15 st (a27 f c) (a3P f c)).1).flatten.length+((a27 f c).drop ((a27 f c).length-(a15 st (a27 f c) (a3P f c)).2)).flatten.length:=by
   unfold a3X a8f
   simp [a1n,txP,b3d]
  have e2:=d6H (O:=a27 f c) (u:=(a15 st (a27 f c) (a3P f c)).1) (j:=(a27 f c).length-(a15 st (a27 f c) (a3P f c)).2) (by omega)
  rw [e]
  omega
 ·rw [a2W]
  show (a74 f c (a9P f c) v).flatten.length<=_
  unfold a74
  split
  ·omega
  ·split
   ·omega
   ·split<;>omega
theorem c6l (f:Fl) (st:Int) (lb:BS×BS×BS) (v:Int):a3X ((a5T f).flatMap (a4u f st lb v))<=f.1.flatten.length+f.2.1.flatten.length+f.2.2.flatten.length:=by
 have key:∀ L:List Ck,a3X (L.flatMap (a4u f st lb v))<=(L.map (b00 f)).flatten.flatten.length+(L.map (a27 f)).flatten.flatten.length+(L.map (a3P f)).flatten.flatten.length:=by
  intro L
  induction L with
  | nil=>simp [a3X]
  | cons c L ih=>
    have:=d0o (f:=f) st lb v c
    simp only [List.flatMap_cons,a2X,List.map_cons,List.flatten_cons,List.flatten_append,List.length_append]
    omega
 have:=key (a5T f)
 rw [d2o,d3I,d2z] at this
 exact this
end Go.Proofs.YthpjjjnbkfnghaaGreatDoor
set_option maxRecDepth 100000
set_option maxHeartbeats 2000000
namespace Go.Proofs.YthpjjjnbkfnghaaGreatDoor
open Go
attribute [local irreducible] AW a0e a1g a0a
abbrev eFl:El Fl:=eP (eL eS) (eP (eL eS) (eL eS))
def c69 (f:Fl):Prop:=(f.1.length<=10000000/\f.1.flatten.length<=10000000)/\(f.2.1.length<=10000000/\f.2.1.flatten.length<=10000000)/\f.2.2.length<=10000000/\f.2.2.flatten.length<=10000000
def a4y:a0s:=a0s.f1 kI (fun _=>True) (fun n=>kB.enc (a8v n))
theorem c8r:a0d Tryz.prog 157 a4y:=by
 refine a0d.f1 Tryz.func157 rfl (by decide) Tryz.results157 Tryz.ntmps157 (by decide) fun n _=>?_
 have hΓ:GOK Tryz.prog (gam []):=GOK.nil
 refine AW.of hΓ mixed [] _ _ _ rfl ?_
 simp only [go_sem]
 refine⟨fun h=>by rw [decide_eq_false h];rfl,fun h=>by rw [h];rfl,?_⟩
 unfold a8v
 rw [Bool.or_assoc]
def a4G:a0s:=a0s.f1 kI (fun _=>True) (fun n=>kB.enc (a8N n))
theorem d0h:a0d Tryz.prog 158 a4G:=by
 refine a0d.f1 Tryz.func158 rfl (by decide) Tryz.results158 Tryz.ntmps158 (by decide) fun n _=>?_
 have hΓ:GOK Tryz.prog (gam []):=GOK.nil
 refine AW.of hΓ mixed [] _ _ _ rfl ?_
 simp only [go_sem]
 refine⟨fun h=>by rw [decide_eq_false h];rfl,fun h=>by rw [h];rfl,?_⟩
 unfold a8N
 rw [Bool.or_assoc]
def a2c:a0s:=a0s.f1 (kL eS) b6H (fun l=>(kA ePt).enc (a1n l.flatten))
theorem c0T:a0d Tryz.prog 161 a2c:=by
 refine a0d.f1 Tryz.func161 rfl (by decide) Tryz.results161 Tryz.ntmps161 (by decide) fun l hl=>?_
 have hΓ:GOK Tryz.prog (gam [(53,a4L)]):=(.cons c26 .nil)
 refine AW.of hΓ mixed [] _ _ _ rfl ?_
 simp only [go_sem,a4L]
 exact⟨hl,d8v rfl rfl rfl rfl rfl rfl rfl rfl rfl⟩
def a4K:a0s:=a0s.f4 (kA eFl) (kA eCk) kI kI (fun f _ _ _=>c69 f) (fun f c k v=>sL eS (a74 f c k v))
theorem d0U:a0d Tryz.prog 162 a4K:=by
 refine a0d.f4 Tryz.func162 rfl (by decide) Tryz.results162 Tryz.ntmps162 (by decide) fun f c k v ⟨hf1,hf2,hf3⟩=>?_
 have hΓ:GOK Tryz.prog (gam [(199,a5Y)]):=(.cons c2x .nil)
 obtain⟨fb,fl,fr⟩:=f
 obtain⟨cs,⟨cb1,cb2⟩,⟨cl1,cl2⟩,cr1,cr2⟩:=c
 dsimp only at hf1 hf2 hf3
 unfold a74 b00 a3P a27
 refine AW.of hΓ mixed [99999] _ _ _ rfl ?_
 simp only [go_sem,a5Y]
 refine⟨fun h=>⟨by omega,by rw [if_pos h];exact a0e.refl _⟩,fun h=>⟨fun h2=>⟨by omega,by rw [if_neg h,if_pos h2];exact a0e.refl _⟩,fun h2=>⟨fun h3=>⟨fun h4=>⟨by omega,by rw [if_neg h,if_neg h2,if_pos ⟨h3,h4⟩];exact a0e.refl _⟩,fun h4=>⟨by omega,by rw [if_neg h,if_neg h2,if_neg fun e=>h4 e.2];exact a0e.refl _⟩⟩,fun h3=>⟨by omega,by rw [if_neg h,if_neg h2,if_neg fun e=>h3 e.1];exact a0e.refl _⟩⟩⟩⟩
def a3B:a0s:=a0s.f2 (kL eS) (kL eS) (fun a b=>a.length<1000000000/\b.length<1000000000) (fun a b=>tu2 (kI.enc (ahd a b)) (kI.enc (bhd (a.drop (ahd a b)) (b.drop (ahd a b)))))
theorem c4y:a0d Tryz.prog 201 a3B:=by
 refine a0d.f2 Tryz.func201 rfl (by decide) Tryz.results201 Tryz.ntmps201 (by decide) fun a b ⟨ha,hb⟩=>?_
 have hΓ:GOK Tryz.prog (gam [(231,c16)]):=(.cons d0j .nil)
 refine AW.of hΓ mixed [] _ _ _ rfl ?_
 simp only [go_sem,c16]
 exact⟨ha,hb⟩
theorem a9O {a b:List BS} (h:a.Sublist b):a.flatten.length<=b.flatten.length:=by
 induction h with
 | slnil=>exact Nat.le_refl _
 | cons x _ ih=>rw [List.flatten_cons,List.length_append];omega
 | cons_cons x _ ih=>rw [List.flatten_cons,List.flatten_cons,List.length_append,List.length_append];omega
theorem a3w {a b:List BS} (h:a.Sublist b) (h1:b.length<=10000000) (h2:b.flatten.length<=10000000):b6H a:=by
 have:=h.length_le
 have:=a9O h
 exact⟨by omega,by omega⟩
theorem a4F (s:Sp) (l:List BS):(a60 s l).Sublist l:=by
 unfold a60
 split
 ·exact List.nil_sublist _
 ·exact (List.drop_sublist _ _).trans (List.take_sublist _ _)
theorem c0F {ver ety:Nat} {ll bl rl:BS} {h:Bool} {t l b r:BS} {hb:Bool} {c:Nat->AV} (h0:c 0=.st ll) (h1:c 1=.st bl) (h2:c 2=.st rl) (h3:c 3=.val (.bool h)) (h4:c 4=.st t) (h5:c 5=.st l) (h6:c 6=.st b) (h7:c 7=.st r) (h8:c 8=.val (.bool hb)) :
  a0a (.box ver ety 9 c) (.box ver ety 9 (ePt.enc (ll,bl,rl,h,t,l,b,r,hb))):=
 a0a.box fun j hj=>a0e.of_eq (match j,hj with
  | 0,_=>h0
  | 1,_=>h1
  | 2,_=>h2
  | 3,_=>h3
  | 4,_=>h4
  | 5,_=>h5
  | 6,_=>h6
  | 7,_=>h7
  | 8,_=>h8)
theorem c6c {l:List (Nat->AV)} {L:List Pt} {n:Nat} (hn:n=L.length) (h:∀ i,i<n->∀ j,j<9->a0e (l.getD i (fun _=>.any) j) (ePt.enc (L.getD i ePt.dflt) j)):a0e (.sn n 9 fun i=>l.getD i fun _=>.any) (sL ePt L):=by
 subst hn
 exact a0e.sn h
def a3y:a0s:=a0s.f4 (kA eFl) (kA eCk) kI (kA eLb) (fun f _ _ _=>c69 f) (fun f c st lb=>sL ePt (a8f f c st lb))
theorem c4Q:a0d Tryz.prog 160 a3y:=by
 refine a0d.f4 Tryz.func160 rfl (by decide) Tryz.results160 Tryz.ntmps160 (by decide) fun f c st lb ⟨hf1,hf2,hf3⟩=>?_
 have hΓ:GOK Tryz.prog (gam [(199,a5Y),(201,a3B),(53,a4L),(161,a2c)]):=(.cons c2x (.cons c4y (.cons c26 (.cons c0T .nil))))
 obtain⟨fb,fl,fr⟩:=f
 obtain⟨cs,⟨cb1,cb2⟩,⟨cl1,cl2⟩,cr1,cr2⟩:=c
 obtain⟨lb1,lb2,lb3⟩:=lb
 dsimp only at hf1 hf2 hf3
 refine AW.of hΓ mixed [0] _ _ _ rfl ?_
 simp only [go_sem,a5Y,a3B,a4L,a2c]
 refine AW.still 4 0 0 150 3 _ rfl rfl (fun j hj=>match j,hj with|0,_=>rfl|1,_=>rfl|2,_=>rfl) ?_
 refine AW.still 5 1 1 216 7 _ rfl rfl (fun j hj=>match j,hj with|0,_=>rfl|1,_=>rfl|2,_=>rfl|3,_=>rfl|4,_=>rfl|5,_=>rfl|6,_=>rfl) ?_
 refine AW.still 7 2 2 73 3 _ rfl rfl (fun j hj=>match j,hj with|0,_=>rfl|1,_=>rfl|2,_=>rfl) ?_
 have g1:=a4F (cb1,cb2) fb
 have g2:=a4F (cl1,cl2) fl
 have g3:=a4F (cr1,cr2) fr
 unfold a8f b3d a27 a3P b00
 refine AW.of hΓ mixed [2] _ _ _ rfl ?_
 simp only [go_sem,a5Y,a3B,a4L,a2c]
 refine⟨by omega,by omega,?_⟩
 generalize a60 (cl1,cl2) fl=O at *
 generalize a60 (cr1,cr2) fr=T at *
 have hO:=a3w g2 hf2.1 hf2.2
 have hT:=a3w g3 hf3.1 hf3.2
 have hB:=a3w g1 hf1.1 hf1.2
 have hh:=a9C st O T
 have i1:=g2.length_le
 have i2:=g3.length_le
 refine AW.cut ⟨[(2,.val (.int .i64 st)),(4,.ps 3 (eFl.enc (fb,fl,fr))),(5,.ps 7 (eCk.enc (cs,(cb1,cb2),(cl1,cl2),cr1,cr2))),(7,.ps 3 (eLb.enc (lb1,lb2,lb3))),(9,sL eS O),(10,sL eS T),(11,.val (.int .i64 0)),(12,.val (.int .i64 0))],[],74,3,3,[]⟩ ?_ ?_
 ·simp only [go_sem,a5Y,a3B,a4L,a2c]
 refine AW.seqTo (fun _:Unit=>Sh.st ⟨[(2,.val (.int .i64 st)),(4,.ps 3 (eFl.enc (fb,fl,fr))),(5,.ps 7 (eCk.enc (cs,(cb1,cb2),(cl1,cl2),cr1,cr2))),(7,.ps 3 (eLb.enc (lb1,lb2,lb3))),(9,sL eS O),(10,sL eS T),(11,.val (.int .i64 (a15 st O T).1)),(12,.val (.int .i64 (a15 st O T).2))],[],74,3,3,[]⟩) ?_ fun _=>?_
 ·refine AW.of hΓ mixed [99999] _ _ _ rfl ?_
  simp only [go_sem,a5Y,a3B,a4L,a2c]
  refine⟨fun h2=>⟨⟨by omega,by omega⟩,(),a2D ?_⟩,fun h2=>⟨(),a2D ?_⟩⟩
  ·unfold a15
   rw [if_pos h2]
   simp only [go_sem,a5Y,a3B,a4L,a2c]
  ·unfold a15
   rw [if_neg h2]
   simp only [go_sem,a5Y,a3B,a4L,a2c]
 generalize a15 st O T=h at *
 obtain⟨u,v⟩:=h
 dsimp only at hh ⊢
 have eO:(List.range (((O.length:Int)-(v:Int)).toNat-u)).map (fun i=>O.getD (u+i) [])=a1D O u (O.length-v):=by
  rw [b5u (by omega),show ((O.length:Int)-(v:Int)).toNat-u=O.length-v-u by omega]
 have eT:(List.range (((T.length:Int)-(v:Int)).toNat-u)).map (fun i=>T.getD (u+i) [])=a1D T u (T.length-v):=by
  rw [b5u (by omega),show ((T.length:Int)-(v:Int)).toNat-u=T.length-v-u by omega]
 have sO:(a1D O u (O.length-v)).Sublist O:=(List.drop_sublist _ _).trans (List.take_sublist _ _)
 have sT:(a1D T u (T.length-v)).Sublist T:=(List.drop_sublist _ _).trans (List.take_sublist _ _)
 have kO:b6H (a1D O u (O.length-v)):=a3w (sO.trans g2) hf2.1 hf2.2
 have kT:b6H (a1D T u (T.length-v)):=a3w (sT.trans g3) hf3.1 hf3.2
 have kA1:b6H (O.take u):=a3w ((List.take_sublist _ _).trans g2) hf2.1 hf2.2
 have kA2:b6H (O.drop (O.length-v)):=a3w ((List.drop_sublist _ _).trans g2) hf2.1 hf2.2
 refine AW.of hΓ mixed [6] _ _ _ rfl ?_
 simp only [go_sem,a5Y,a3B,a4L,a2c,eO,eT]
 refine⟨⟨by omega,by omega⟩,⟨by omega,by omega,by omega⟩,kO,⟨by omega,by omega⟩,⟨by omega,by omega,by omega⟩,kT,?_⟩
 generalize (a1D O u (O.length-v)).flatten=X at *
 generalize (a1D T u (T.length-v)).flatten=Y at *
 refine AW.cut ⟨[(2,.val (.int .i64 st)),(4,.ps 3 (eFl.enc (fb,fl,fr))),(5,.ps 7 (eCk.enc (cs,(cb1,cb2),(cl1,cl2),cr1,cr2))),(9,sL eS O),(11,.val (.int .i64 u)),(12,.val (.int .i64 v)),(13,.val (.int .i64 ((O.length:Int)-v))),(14,.pt 3 3 0)],
  [(3,.box 3 179 9 (ePt.enc (lb1,lb2,lb3,true,[],X,[],Y,false)))],74,4,4,[]⟩ ?_ ?_
 ·simp only [go_sem,a5Y,a3B,a4L,a2c]
  exact c0F rfl rfl rfl rfl rfl rfl rfl rfl rfl
 refine AW.seqTo (fun _:Unit=>Sh.st ⟨[(9,sL eS O),(11,.val (.int .i64 u)),(12,.val (.int .i64 v)),(13,.val (.int .i64 ((O.length:Int)-v))),(14,.pt 3 3 0)],
  [(3,.box 3 179 9 (ePt.enc (lb1,(if st=0 then [] else lb2),lb3,true,[],X,(if st=0 then [] else (a60 (cb1,cb2) fb).flatten),Y,decide (st≠0))))],74,4,4,[]⟩) ?_ fun _=>?_
 ·refine AW.of hΓ mixed [99999] _ _ _ rfl ?_
  simp only [go_sem,a5Y,a3B,a4L,a2c]
  refine⟨fun h0=>⟨(),a2D ?_⟩,fun h0=>⟨by omega,hB,(),a2D ?_⟩⟩
  ·subst h0
   simp only [go_sem,a5Y,a3B,a4L,a2c]
   exact c0F rfl rfl rfl rfl rfl rfl rfl rfl rfl
  ·rw [if_neg h0,if_neg h0,decide_eq_true h0]
   simp only [go_sem,a5Y,a3B,a4L,a2c]
   exact c0F rfl rfl rfl rfl rfl rfl rfl rfl rfl
 have eA1:(List.range (u-0)).map (fun i=>O.getD i [])=O.take u:=by
  refine a1C [] (by simp;omega) fun k hk=>?_
  have hk:k<u:=by simpa using hk
  simp [List.getD,List.getElem?_take,hk]
 have eA2:(List.range (O.length-((O.length:Int)-(v:Int)).toNat)).map (fun i=>O.getD (((O.length:Int)-(v:Int)).toNat+i) [])=O.drop (O.length-v):=by
  have e:((O.length:Int)-(v:Int)).toNat=O.length-v:=by omega
  rw [e]
  refine a1C [] (by simp) fun k hk=>?_
  have hk:k<O.length-(O.length-v):=by simpa using hk
  simp [List.getD,hk]
  rw [List.getElem?_eq_getElem (by omega)]
  rfl
 refine AW.of hΓ mixed [] _ _ _ rfl ?_
 simp only [go_sem,a5Y,a3B,a4L,a2c,eA1,eA2]
 refine⟨⟨by omega,by omega⟩,kA1,⟨by omega,by omega,by omega⟩,kA2,?_⟩
 exact c6c rfl fun i hi j hj=>match i,hi with
  | 0,_=>a0e.refl _
  | 1,_=>a0e.refl _
  | 2,_=>a0e.refl _
end Go.Proofs.YthpjjjnbkfnghaaGreatDoor
set_option maxRecDepth 100000
set_option maxHeartbeats 2000000
namespace Go.Proofs.YthpjjjnbkfnghaaGreatDoor
open Go
attribute [local irreducible] AW a0e a1g a0a
theorem c1s (t:BS):a3X [a1n t]=t.length:=by rw [a2W];rfl
theorem b6a (s:Sp) {l:List BS} (h:l.flatten.length<=10000000):(a60 s l).flatten.length<=10000000:=Nat.le_trans (a9O (a4F s l)) h
theorem b26 (f:Fl) (st:Int) (lb:BS×BS×BS) (v:Int) (c:Ck):(a4u f st lb v c).length<=3:=by
 unfold a4u
 split
 ·exact Nat.le_refl 3
 ·exact Nat.le_of_ble_eq_true rfl
theorem c5V {f:Fl} (hf:c69 f) (st:Int) (lb:BS×BS×BS) (v:Int) (c:Ck):a3X (a4u f st lb v c)<=20000000:=by
 obtain⟨h1,h2,h3⟩:=hf
 have c1:(b00 f c).flatten.length<=10000000:=b6a _ h1.2
 have c2:(a27 f c).flatten.length<=10000000:=b6a _ h2.2
 have c3:(a3P f c).flatten.length<=10000000:=b6a _ h3.2
 unfold a4u
 split
 ·unfold a8f
  have e1:∀ a b d:Pt,a3X [a,b,d]=(txP a).length+(txP b).length+(txP d).length:=fun a b d=>by
   rw [show [a,b,d]=[a]++([b]++[d]) from rfl,a2X,a2X,a2W,a2W,a2W]
   omega
  rw [e1]
  have s1:=a9O (List.take_sublist (a15 st (a27 f c) (a3P f c)).1 (a27 f c))
  have s2:=a9O (List.drop_sublist ((a27 f c).length-(a15 st (a27 f c) (a3P f c)).2) (a27 f c))
  have z:(txP (b3d f c st lb)).length=0:=rfl
  have z1:∀ t:BS,(txP (a1n t)).length=t.length:=fun _=>rfl
  rw [z,z1,z1]
  omega
 ·rw [c1s]
  unfold a74
  split
  ·omega
  ·split
   ·omega
   ·split<;>omega
theorem b17 {f:Fl} (hf:c69 f) (st:Int) (lb:BS×BS×BS) (v:Int):∀ L:List Ck,a3X (L.flatMap (a4u f st lb v))<=20000000*L.length/\(L.flatMap (a4u f st lb v)).length<=3*L.length
 | []=>by simp [a3X]
 | c::L=>by
   obtain⟨h1,h2⟩:=b17 hf st lb v L
   have h3:=c5V hf st lb v c
   have h4:=b26 f st lb v c
   rw [List.flatMap_cons,a2X,List.length_append,List.length_cons]
   omega
def d7Z (lb:BS×BS×BS):Prop:=lb.1.length<=100000000/\lb.2.1.length<=100000000/\lb.2.2.length<=100000000
def a8w:a0s:=a0s.f5 (kA eFl) (kL eCk) kI (kA eLb) kI (fun f L st lb v=>(c69 f/\L.length<=10000/\a3X (L.flatMap (a4u f st lb v))<=1000000000)/\d7Z lb) (fun f L st lb v=>tu2 (sL ePt (b9k f L st lb v).1) (kI.enc (b9k f L st lb v).2))
theorem c7P:a0d Tryz.prog 100 a8w:=by
 refine a0d.f5 Tryz.func100 rfl (by decide) Tryz.results100 Tryz.ntmps100 (by decide) fun f L st lb v ⟨⟨hf,hL,hsum⟩,hlb1,hlb2,hlb3⟩=>?_
 have hΓ:GOK Tryz.prog (gam [(157,a4y),(158,a4G),(150,a2h),(159,a14),(160,a3y),(162,a4K),(161,a2c),(134,a4Q)]):=(.cons c8r (.cons d0h (.cons b3q (.cons b7P (.cons c4Q (.cons d0U (.cons c0T (.cons d0s .nil))))))))
 have hff:=hf
 obtain⟨fb,fl,fr⟩:=f
 obtain⟨lb1,lb2,lb3⟩:=lb
 obtain⟨hf1,hf2,hf3⟩:=hff
 dsimp only at hf1 hf2 hf3 hlb1 hlb2 hlb3
 have fs:=fun j=>b17 hf st (lb1,lb2,lb3) v (L.take j)
 have d5:(a8v st&&a8N v)=false->b9k (fb,fl,fr) L st (lb1,lb2,lb3) v=([],5):=fun h=>by unfold b9k;rw [if_pos h]
 have d3:(a8v st&&a8N v)=true->a2l (lb1,lb2,lb3)=false->b9k (fb,fl,fr) L st (lb1,lb2,lb3) v=([],3):=fun h h2=>by unfold b9k;rw [if_neg (by rw [h];simp),if_pos h2]
 have d0:(a8v st&&a8N v)=true->a2l (lb1,lb2,lb3)=true->b9k (fb,fl,fr) L st (lb1,lb2,lb3) v=(ofD (L.flatMap (a4u (fb,fl,fr) st (lb1,lb2,lb3) v)),0):=fun h h2=>by unfold b9k;rw [if_neg (by rw [h];simp),if_neg (by rw [h2];simp)]
 refine AW.of hΓ mixed [0] _ _ _ rfl ?_
 simp only [go_sem]
 refine AW.still 5 0 0 150 3 _ rfl rfl (fun j hj=>match j,hj with|0,_=>rfl|1,_=>rfl|2,_=>rfl) ?_
 refine AW.still 8 1 1 73 3 _ rfl rfl (fun j hj=>match j,hj with|0,_=>rfl|1,_=>rfl|2,_=>rfl) ?_
 cases h1:a8v st with
 | false=>
   rw [d5 (by rw [h1];rfl)]
   refine AW.of hΓ mixed [] _ _ _ rfl ?_
   simp only [go_sem,a4y,a4G,a2h,a14,a3y,a4K,a2c,a4Q,h1]
   exact a3Q _
 | true=>
   cases h2:a8N v with
   | false=>
     rw [d5 (by rw [h1,h2];rfl)]
     refine AW.of hΓ mixed [] _ _ _ rfl ?_
     simp only [go_sem,a4y,a4G,a2h,a14,a3y,a4K,a2c,a4Q,h1,h2]
     exact a3Q _
   | true=>
     cases hp:a2l (lb1,lb2,lb3) with
     | false=>
       rw [d3 (by rw [h1,h2];rfl) hp]
       unfold a2l at hp
       dsimp only at hp
       refine AW.of hΓ mixed [] _ _ _ rfl ?_
       simp only [go_sem,a4y,a4G,a2h,a14,a3y,a4K,a2c,a4Q,h1,h2,hp]
       exact⟨⟨by omega,by omega,by omega⟩,a3Q _⟩
     | true=>
       rw [d0 (by rw [h1,h2];rfl) hp]
       unfold a2l at hp
       dsimp only at hp
       refine AW.of hΓ mixed [5] _ _ _ rfl ?_
       simp only [go_sem,a4y,a4G,a2h,a14,a3y,a4K,a2c,a4Q,h1,h2,hp]
       refine⟨⟨by omega,by omega,by omega⟩,?_⟩
       refine AW.adopt 12 179 9 (fun i=>ePt.enc (([]:List Pt).getD i ePt.dflt)) rfl ?_
       refine AW.seqTo (fun x:Nat×Nat=>Sh.st ⟨[(12,.ow 2 x.1 (L.flatMap (a4u (fb,fl,fr) st (lb1,lb2,lb3) v)).length)],[(2,a05 x.1 179 ePt (L.flatMap (a4u (fb,fl,fr) st (lb1,lb2,lb3) v)))],66,3,x.2,[]⟩) ?_ fun⟨u,nx⟩=>?_
       rotate_left
       ·have fL:=b17 hf st (lb1,lb2,lb3) v L
        generalize L.flatMap (a4u (fb,fl,fr) st (lb1,lb2,lb3) v)=S at *
        refine AW.freeze 2 u 179 9 S.length (fun i=>ePt.enc (S.getD i ePt.dflt)) rfl (fun _ _ j hj=>match j,hj with|0,_=>rfl|1,_=>rfl|2,_=>rfl|3,_=>rfl|4,_=>rfl|5,_=>rfl|6,_=>rfl|7,_=>rfl|8,_=>rfl) ?_
        refine AW.cut ⟨[(12,sL ePt S)],[],66,3,nx,[]⟩ ?_ ?_
        ·simp only [go_sem,a4y,a4G,a2h,a14,a3y,a4K,a2c,a4Q]
         exact a4H (E:=ePt) rfl rfl rfl
        refine AW.of hΓ mixed [] _ _ _ rfl ?_
        simp only [go_sem,a4y,a4G,a2h,a14,a3y,a4K,a2c,a4Q]
        exact⟨by omega,by omega⟩
       refine AW.of hΓ mixed [] _ _ _ rfl ?_
       simp only [go_sem,a4y,a4G,a2h,a14,a3y,a4K,a2c,a4Q]
       refine AW.round (α:={ x:Nat×List Pt×Nat×Nat // x.1<=L.length/\x.2.1=(L.take x.1).flatMap (a4u (fb,fl,fr) st (lb1,lb2,lb3) v) })
        (fun x=>⟨[(2,.val (.int .i64 st)),(4,.val (.int .i64 v)),(5,.ps 3 (eFl.enc (fb,fl,fr))),(8,.ps 3 (eLb.enc (lb1,lb2,lb3))),(12,.ow 2 x.1.2.2.1 x.1.2.1.length),(27,sL eCk L),(28,.val (.int .i64 L.length)),(29,.val (.int .i64 x.1.1))],
         [(2,a05 x.1.2.2.1 179 ePt x.1.2.1)],66,3,x.1.2.2.2,[]⟩) (fun x=>L.length-x.1.1) ⟨(0,[],2,3),Nat.zero_le _,rfl⟩ ?_ ?_
       ·simp only [go_sem,a4y,a4G,a2h,a14,a3y,a4K,a2c,a4Q]
        exact a0a.refl _
       ·rintro⟨⟨i,S,u,nx⟩,hi,hS⟩
        simp only at hi hS
        have fi:=fs i
        rw [<-hS,List.length_take] at fi
        refine AW.of hΓ mixed [8,99999] _ _ _ rfl ?_
        simp only [go_sem,a4y,a4G,a2h,a14,a3y,a4K,a2c,a4Q]
        refine⟨fun hlt=>⟨by omega,?_⟩,fun hge=>?_⟩
        ·have hlt':i<L.length:=by omega
         have hsn:(L.take (i+1)).flatMap (a4u (fb,fl,fr) st (lb1,lb2,lb3) v)=S++a4u (fb,fl,fr) st (lb1,lb2,lb3) v (L.getD i eCk.dflt):=by
          rw [a2Q L eCk.dflt hlt',List.flatMap_append,<-hS]
          simp
         generalize L.getD i eCk.dflt=c at *
         obtain⟨cs,⟨cb1,cb2⟩,⟨cl1,cl2⟩,cr1,cr2⟩:=c
         have hcl:=b26 (fb,fl,fr) st (lb1,lb2,lb3) v (cs,(cb1,cb2),(cl1,cl2),cr1,cr2)
         have hcs:a4u (fb,fl,fr) st (lb1,lb2,lb3) v (cs,(cb1,cb2),(cl1,cl2),cr1,cr2)=if a9P (fb,fl,fr) (cs,(cb1,cb2),(cl1,cl2),cr1,cr2)=4/\v=0 then a8f (fb,fl,fr) (cs,(cb1,cb2),(cl1,cl2),cr1,cr2) st (lb1,lb2,lb3) else [a1n (a74 (fb,fl,fr) (cs,(cb1,cb2),(cl1,cl2),cr1,cr2) (a9P (fb,fl,fr) (cs,(cb1,cb2),(cl1,cl2),cr1,cr2)) v).flatten]:=rfl
         have hsd:b6H (a74 (fb,fl,fr) (cs,(cb1,cb2),(cl1,cl2),cr1,cr2) (a9P (fb,fl,fr) (cs,(cb1,cb2),(cl1,cl2),cr1,cr2)) v):=by
          unfold a74
          split
          ·exact a3w (a4F _ _) hf1.1 hf1.2
          ·split
           ·exact a3w (a4F _ _) hf3.1 hf3.2
           ·split
            ·exact a3w (a4F _ _) hf3.1 hf3.2
            ·exact a3w (a4F _ _) hf2.1 hf2.2
         have hcc:b1J (cs,(cb1,cb2),(cl1,cl2),cr1,cr2) fb fl fr=a9P (fb,fl,fr) (cs,(cb1,cb2),(cl1,cl2),cr1,cr2):=rfl
         generalize a9P (fb,fl,fr) (cs,(cb1,cb2),(cl1,cl2),cr1,cr2)=k at *
         refine AW.cut ⟨[(2,.val (.int .i64 st)),(4,.val (.int .i64 v)),(5,.ps 3 (eFl.enc (fb,fl,fr))),(8,.ps 3 (eLb.enc (lb1,lb2,lb3))),(12,.ow 2 u S.length),(14,.pt 3 nx 0),(27,sL eCk L),(28,.val (.int .i64 L.length)),(29,.val (.int .i64 i))],
          [(2,a05 u 179 ePt S),(3,.box nx 216 7 (eCk.enc (cs,(cb1,cb2),(cl1,cl2),cr1,cr2)))],66,4,nx+1,[]⟩ ?_ ?_
         ·simp only [go_sem,a4y,a4G,a2h,a14,a3y,a4K,a2c,a4Q]
          exact⟨a0a.refl _,b1K⟩
         refine AW.still 14 3 nx 216 7 _ rfl rfl (fun j hj=>match j,hj with|0,_=>rfl|1,_=>rfl|2,_=>rfl|3,_=>rfl|4,_=>rfl|5,_=>rfl|6,_=>rfl) ?_
         refine AW.of hΓ mixed [99999] _ _ _ rfl ?_
         simp only [go_sem,a4y,a4G,a2h,a14,a3y,a4K,a2c,a4Q,hcc]
         refine⟨⟨by omega,by omega,by omega⟩,fun hk=>?_,fun hk=>?_⟩
         ·rw [if_pos hk] at hcs
          rw [hcs] at hsn hcl
          refine⟨hf,by omega,⟨by omega,by omega⟩,⟨(i+1,S++a8f (fb,fl,fr) (cs,(cb1,cb2),(cl1,cl2),cr1,cr2) st (lb1,lb2,lb3),nx+1,nx+2),by dsimp only;omega,hsn.symm⟩,⟨Nat.le_refl _,⟨⟨rfl,by dsimp only;rw [List.length_append]⟩,by dsimp only;omega⟩,?_⟩,by dsimp only;omega⟩
          exact b3c (E:=ePt) rfl rfl rfl rfl (by simp) fun i _ j _=>a0e.refl _
         ·rw [if_neg (fun e=>hk e.1 e.2)] at hcs
          rw [hcs] at hsn hcl
          refine⟨hf,hsd,by omega,⟨by omega,by omega⟩,⟨(i+1,S++[a1n (a74 (fb,fl,fr) (cs,(cb1,cb2),(cl1,cl2),cr1,cr2) k v).flatten],nx+1,nx+2),by dsimp only;omega,hsn.symm⟩,⟨Nat.le_refl _,⟨⟨rfl,by simp⟩,by dsimp only;omega⟩,?_⟩,by dsimp only;omega⟩
          exact a1B (E:=ePt) rfl rfl rfl rfl (by simp) fun j _=>a0e.refl _
        ·obtain rfl:i=L.length:=by omega
         rw [List.take_length] at hS
         refine⟨(u,nx),a2D ?_⟩
         rw [<-hS]
         simp only [go_sem,a4y,a4G,a2h,a14,a3y,a4K,a2c,a4Q]
         exact a0a.refl _
theorem b9C (f:Fl) (L:List Ck):b4K f L<=L.length:=List.length_filter_le _ _
def a5l:a0s:=a0s.f2 (kA eFl) (kL eCk) (fun f L=>c69 f/\L.length<=10000) (fun f L=>kI.enc (b4K f L))
theorem c4c:a0d Tryz.prog 101 a5l:=by
 refine a0d.f2 Tryz.func101 rfl (by decide) Tryz.results101 Tryz.ntmps101 (by decide) fun f L ⟨hf,hL⟩=>?_
 have hΓ:GOK Tryz.prog (gam [(159,a14)]):=(.cons b7P .nil)
 have hff:=hf
 obtain⟨fb,fl,fr⟩:=f
 obtain⟨hf1,hf2,hf3⟩:=hff
 dsimp only at hf1 hf2 hf3
 refine AW.of hΓ mixed [0] _ _ _ rfl ?_
 simp only [go_sem,a14]
 refine AW.still 2 0 0 150 3 _ rfl rfl (fun j hj=>match j,hj with|0,_=>rfl|1,_=>rfl|2,_=>rfl) ?_
 refine AW.of hΓ mixed [] _ _ _ rfl ?_
 simp only [go_sem,a14]
 refine AW.round (α:={ x:Nat×Nat // x.1<=L.length })
  (fun x=>⟨[(2,.ps 3 (eFl.enc (fb,fl,fr))),(5,.val (.int .i64 (b4K (fb,fl,fr) (L.take x.1.1)))),(8,sL eCk L),(9,.val (.int .i64 L.length)),(10,.val (.int .i64 x.1.1))],[],27,1,x.1.2,[]⟩) (fun x=>L.length-x.1.1) ⟨(0,1),Nat.zero_le _⟩ ?_ ?_
 ·simp only [go_sem,a14]
  rfl
 ·rintro⟨⟨i,nx⟩,hi⟩
  simp only at hi
  have hcn:=b9C (fb,fl,fr) (L.take i)
  rw [List.length_take] at hcn
  refine AW.of hΓ mixed [4,99999] _ _ _ rfl ?_
  simp only [go_sem,a14]
  refine⟨fun hlt=>⟨by omega,?_⟩,fun hge=>?_⟩
  ·have hlt':i<L.length:=by omega
   have hsn:=c4o (fb,fl,fr) (L.getD i eCk.dflt) (L.take i)
   rw [<-a2Q L eCk.dflt hlt'] at hsn
   generalize L.getD i eCk.dflt=c at *
   obtain⟨cs,⟨cb1,cb2⟩,⟨cl1,cl2⟩,cr1,cr2⟩:=c
   have hcc:b1J (cs,(cb1,cb2),(cl1,cl2),cr1,cr2) fb fl fr=a9P (fb,fl,fr) (cs,(cb1,cb2),(cl1,cl2),cr1,cr2):=rfl
   generalize a9P (fb,fl,fr) (cs,(cb1,cb2),(cl1,cl2),cr1,cr2)=k at *
   refine AW.cut ⟨[(2,.ps 3 (eFl.enc (fb,fl,fr))),(5,.val (.int .i64 (b4K (fb,fl,fr) (L.take i)))),(7,.pt 1 nx 0),(8,sL eCk L),(9,.val (.int .i64 L.length)),(10,.val (.int .i64 i))],
    [(1,.box nx 216 7 (eCk.enc (cs,(cb1,cb2),(cl1,cl2),cr1,cr2)))],27,2,nx+1,[]⟩ ?_ ?_
   ·simp only [go_sem,a14]
    exact b1K
   refine AW.still 7 1 nx 216 7 _ rfl rfl (fun j hj=>match j,hj with|0,_=>rfl|1,_=>rfl|2,_=>rfl|3,_=>rfl|4,_=>rfl|5,_=>rfl|6,_=>rfl) ?_
   refine AW.of hΓ mixed [99999] _ _ _ rfl ?_
   simp only [go_sem,a14,hcc]
   refine⟨⟨by omega,by omega,by omega⟩,fun hk=>⟨⟨by omega,by omega⟩,⟨by omega,by omega⟩,⟨(i+1,nx+1),by dsimp only;omega⟩,⟨Nat.le_refl _,?_,by dsimp only;omega⟩,by dsimp only;omega⟩,fun hk=>⟨⟨by omega,by omega⟩,⟨(i+1,nx+1),by dsimp only;omega⟩,⟨Nat.le_refl _,?_,by dsimp only;omega⟩,by dsimp only;omega⟩⟩
   ·dsimp only
    rw [hsn,if_pos hk]
    omega
   ·dsimp only
    rw [hsn,if_neg hk]
    omega
  ·obtain rfl:i=L.length:=by omega
   rw [List.take_length]
end Go.Proofs.YthpjjjnbkfnghaaGreatDoor
set_option maxRecDepth 100000
set_option maxHeartbeats 2000000
namespace Go.Proofs.YthpjjjnbkfnghaaGreatDoor
open Go
attribute [local irreducible] AW a0e a1g a0a
theorem c7B {α:Type} {E:El α} {l:List α} {n s:Nat} {f:Nat->Nat->AV} (hs:s=E.sz) (hn:n=l.length) (h:∀ i,i<n->∀ j,j<s->a0e (f i j) (E.enc (l.getD i E.dflt) j)):a0e (.sn n s f) (sL E l):=by
 subst hs hn
 exact a0e.sn h
end Go.Proofs.YthpjjjnbkfnghaaGreatDoor
namespace Go.Proofs.YthpjjjnbkfnghaaGreatDoor
open Go
theorem a5D (a b:List Pt):a3v (a++b)=a3v a+a3v b:=by simp [a3v]
theorem a4D (p:Pt):a3v [p]=a3V p:=by simp [a3v]
theorem a7C (t:BS):a3V (a1n t)=t.length:=by
 show t.length+0+0+0+0+0+0=_
 omega
theorem c1B (out:List Pt) (p:Pt):a3v (a3h out p)<=a3v out+a3V p:=by
 cases hp:a0C p with
 | false=>rw [a8L hp,a5D,a4D];exact Nat.le_refl _
 | true=>
   rcases a44 out p hp with⟨_,e⟩|⟨_,⟨m,q,rfl,hq,e⟩|⟨_,e⟩⟩
   ·rw [e];omega
   ·rw [e,a5D,a5D,a4D,a4D,a7C,List.length_append]
    have h1:(txP q).length<=a3V q:=by unfold a3V txP;omega
    have h2:(txP p).length<=a3V p:=by unfold a3V txP;omega
    omega
   ·rw [e,a5D,a4D];exact Nat.le_refl _
theorem b3R:∀ (l out:List Pt),a3v (l.foldl a3h out)<=a3v out+a3v l
 | [],_=>by simp [a3v]
 | p::l,out=>by
   have h1:=b3R l (a3h out p)
   have h2:=c1B out p
   have h3:a3v (p::l)=a3V p+a3v l:=by simp [a3v]
   rw [List.foldl_cons]
   omega
theorem b6c (l:List Pt):a3v (ofD l)<=a3v l:=by
 rw [b4l]
 have:=b3R l []
 have e:a3v []=0:=rfl
 omega
theorem b7K {d:List Pt} (h:a3v d<=100000000):∀ p∈d,b7a p:=fun p hp=>by
 have:=c6u hp
 unfold a3V at this
 unfold b7a txP
 omega
end Go.Proofs.YthpjjjnbkfnghaaGreatDoor
set_option maxRecDepth 100000
set_option maxHeartbeats 4000000
namespace Go.Proofs.YthpjjjnbkfnghaaGreatDoor
open Go
attribute [local irreducible] AW a0e a1g a0a
theorem a7J {α:Type} {E:El α} {l:List α} {j i:Nat} {row:Row} {r:List (Nat×AV×Row)} {st:AS}:a98 j ((i,sL E l,row)::r) st=a98 j r st:=rfl
def a04 (a b c:BS):Fl:=(a0b a,a0b b,a0b c)
end Go.Proofs.YthpjjjnbkfnghaaGreatDoor
set_option maxRecDepth 100000
namespace Go.Proofs.YthpjjjnbkfnghaaGreatDoor
open Go
theorem c2S (a61:Pl):∀ (M:List Pl) (s:List Ck) (t:Pl),(ofK a61 M s t).length<=s.length+2*M.length+1
 | [],s,t=>by
   rw [ofK]
   split
   ·omega
   ·simp
 | p::M,s,t=>by
   rw [ofK]
   have h1:=b0X (if p=t then s else s++[btw t p]) p
   have h2:(if p=t then s else s++[btw t p]).length<=s.length+1:=by
    split
    ·omega
    ·simp
   have h3:=c2S a61 M (a1G (if p=t then s else s++[btw t p]) p) (b1i p)
   simp only [List.length_cons]
   omega
theorem c5N (f:Fl):(a5T f).length<=2*f.1.length+1/\(a5T f).length<=2*f.2.1.length+1:=by
 have h1:=c2S (f.1.length,f.2.1.length,f.2.2.length) (a3D (a6z f.1 f.2.1) (a6z f.1 f.2.2)) [] (0,0,0)
 have h2:=a8q _ (a6z f.1 f.2.1) (a6z f.1 f.2.2) (Nat.le_refl _)
 have h3:=b2e f.1 f.2.1
 unfold a5T d2O
 simp only [List.length_nil] at h1
 omega
def lbN (lb:BS×BS×BS):Nat:=lb.1.length+lb.2.1.length+lb.2.2.length
theorem c8Y {f:Fl} (st:Int) (lb:BS×BS×BS) (v:Int) (c:Ck):a3v (a4u f st lb v c)<=(b00 f c).flatten.length+(a27 f c).flatten.length+(a3P f c).flatten.length+lbN lb:=by
 unfold a4u
 split
 ·have hh:=a9C st (a27 f c) (a3P f c)
  have e1:∀ a b d:Pt,a3v [a,b,d]=a3V a+a3V b+a3V d:=fun a b d=>by
   rw [show [a,b,d]=[a]++([b]++[d]) from rfl,a5D,a5D,a4D,a4D,a4D]
   omega
  have e2:=d6H (O:=a27 f c) (u:=(a15 st (a27 f c) (a3P f c)).1) (j:=(a27 f c).length-(a15 st (a27 f c) (a3P f c)).2) (by omega)
  have e3:=d6H (O:=a3P f c) (u:=(a15 st (a27 f c) (a3P f c)).1) (j:=(a3P f c).length-(a15 st (a27 f c) (a3P f c)).2) (by omega)
  have s5:(if st=0 then [] else (b00 f c).flatten).length<=(b00 f c).flatten.length:=by
   split
   ·exact Nat.zero_le _
   ·exact Nat.le_refl _
  have s6:(if st=0 then [] else lb.2.1).length<=lb.2.1.length:=by
   split
   ·exact Nat.zero_le _
   ·exact Nat.le_refl _
  unfold a8f
  rw [e1,a7C,a7C]
  unfold a3V b3d lbN
  dsimp only
  simp only [List.length_nil]
  omega
 ·rw [a4D,a7C]
  unfold a74
  split
  ·omega
  ·split
   ·omega
   ·split<;>omega
theorem c42 (f:Fl) (st:Int) (lb:BS×BS×BS) (v:Int):a3v ((a5T f).flatMap (a4u f st lb v))<=f.1.flatten.length+f.2.1.flatten.length+f.2.2.flatten.length+(a5T f).length*lbN lb:=by
 have key:∀ L:List Ck,a3v (L.flatMap (a4u f st lb v))<=(L.map (b00 f)).flatten.flatten.length+(L.map (a27 f)).flatten.flatten.length+(L.map (a3P f)).flatten.flatten.length+L.length*lbN lb:=by
  intro L
  induction L with
  | nil=>simp [a3v]
  | cons c L ih=>
    have:=c8Y (f:=f) st lb v c
    simp only [List.flatMap_cons,a5D,List.map_cons,List.flatten_cons,List.flatten_append,List.length_append,List.length_cons,Nat.succ_mul]
    omega
 have:=key (a5T f)
 rw [d2o,d3I,d2z] at this
 exact this
theorem b11 (f:Fl) (st:Int) (lb:BS×BS×BS) (v:Int):∀ L:List Ck,(L.flatMap (a4u f st lb v)).length<=3*L.length
 | []=>by simp
 | c::L=>by
   have h1:=b11 f st lb v L
   have h4:=b26 f st lb v c
   rw [List.flatMap_cons,List.length_append,List.length_cons]
   omega
def a6Y (w:Int) (a b c:BS):Int:=max w ((a52 [a,b,c]:Nat)+1)
def a7x (a b c:BS) (st:Int) (lb:BS×BS×BS) (v:Int):List Pt:=ofD ((a5T (a04 a b c)).flatMap (a4u (a04 a b c) st lb v))
def okM (a b c:BS):Prop:=(a.length<=3000000/\b.length<=3000000/\c.length<=3000000/\((a0b a).length<=300\/(a0b b).length<=300))\/(a.length<=20000/\b.length<=20000/\c.length<=20000/\((a0b a).length<=4700\/(a0b b).length<=4700))
theorem c02 {a b c:BS} (h:okM a b c):a.length<=3000000/\b.length<=3000000/\c.length<=3000000:=by
 rcases h with⟨h1,h2,h3,_⟩|⟨h1,h2,h3,_⟩
 ·exact⟨h1,h2,h3⟩
 ·exact⟨by omega,by omega,by omega⟩
theorem c28 {d:List Pt} {m w:Int} (h:a7G d m=true) (hw:m<=w):a7G d w=true:=by
 unfold a7G at h ⊢
 rw [Bool.and_eq_true,decide_eq_true_eq,decide_eq_true_eq] at h ⊢
 exact⟨by omega,fun p hp=>by have:=h.2 p hp;omega⟩
theorem c3v (a b c:BS):b0r (a04 a b c):=⟨a2T _ a (Nat.le_refl _),a2T _ b (Nat.le_refl _),a2T _ c (Nat.le_refl _)⟩
theorem c4O (a b c:BS):shF (a52 [a,b,c]+1) (a04 a b c):=by
 have key:∀ s∈[a,b,c],∀ x∈a0b s,a6r x<a52 [a,b,c]+1:=fun s hs x hx=>by
  have h1:=c1o hx
  have h2:=c3n hs
  omega
 exact⟨key a (by simp),key b (by simp),key c (by simp)⟩
theorem b8B (a b c:BS):(a04 a b c).1.flatten=a/\(a04 a b c).2.1.flatten=b/\(a04 a b c).2.2.flatten=c:=⟨a1j a,a1j b,a1j c⟩
theorem b0k {a b c:BS} {n:Nat} (ha:a.length<=n) (hb:b.length<=n) (hc:c.length<=n):a52 [a,b,c]<=n:=by
 refine b3z fun s hs=>b4h fun x hx=>?_
 have h1:=b2E x
 have h2:x.length<=s.length:=by
  have h3:x.length<=(a0b s).flatten.length:=by
   have:=List.sublist_flatten_of_mem hx
   exact this.length_le
  rw [a1j] at h3
  exact h3
 simp only [List.mem_cons,List.not_mem_nil,or_false] at hs
 rcases hs with rfl|rfl|rfl<;>omega
structure d9q (a b c:BS) (w st:Int) (lb:BS×BS×BS) (v:Int):Prop where
 ok:c69 (a04 a b c)
 len:(a5T (a04 a b c)).length<=9401
 sum:a3X ((a5T (a04 a b c)).flatMap (a4u (a04 a b c) st lb v))<=1000000000
 right:a3n (a7x a b c st lb v)=true
 fits:a7G (a7x a b c st lb v) (a6Y w a b c)=true
 wide:a5q (a6Y w a b c)=true
 wle:a6Y w a b c<=3000001
 dlen:(a7x a b c st lb v).length<=28203
 sump:a3v (a7x a b c st lb v)<=40000000
 pr:(a1z (a6Y w a b c) (a7x a b c st lb v)).length<=90000000000
 confl:v=0->a0w (a7x a b c st lb v)=b4K (a04 a b c) (a5T (a04 a b c))
theorem a8n {a b c:BS} (h:okM a b c) {w:Int} (hw:7<=w/\w<=64) (st:Int) {lb:BS×BS×BS} (hl:lbN lb<=3000) (hp:a2l lb=true) (v:Int):d9q a b c w st lb v:=by
 obtain⟨h1,h2,h3⟩:=c02 h
 have l1:=a0M a
 have l2:=a0M b
 have l3:=a0M c
 have e1:=c5N (a04 a b c)
 have e2:(a04 a b c).1.length=(a0b a).length:=rfl
 have e3:(a04 a b c).2.1.length=(a0b b).length:=rfl
 obtain⟨f1,f2,f3⟩:=b8B a b c
 have hk2:((a5T (a04 a b c)).length<=601)\/((a5T (a04 a b c)).length<=9401/\a.length<=20000/\b.length<=20000/\c.length<=20000):=by
  rcases h with⟨_,_,_,g⟩|⟨g1,g2,g3,g⟩
  ·exact .inl (by omega)
  ·exact .inr ⟨by omega,g1,g2,g3⟩
 have hk:(a5T (a04 a b c)).length<=9401:=by omega
 have hT:=c6l (a04 a b c) st lb v
 have hS:=c42 (a04 a b c) st lb v
 have h3':=b11 (a04 a b c) st lb v (a5T (a04 a b c))
 have hD:=(b5V ((a5T (a04 a b c)).flatMap (a4u (a04 a b c) st lb v))).2
 have hE:=b6c ((a5T (a04 a b c)).flatMap (a4u (a04 a b c) st lb v))
 have hm:(a5T (a04 a b c)).length*lbN lb<=9401*3000:=Nat.mul_le_mul hk hl
 rw [f1,f2,f3] at hT hS
 have hlT:=b0k h1 h2 h3
 have hW:1<=a6Y w a b c/\a6Y w a b c<=3000001:=by unfold a6Y;omega
 have hdl:(a7x a b c st lb v).length<=28203:=by unfold a7x;omega
 have hdl2:((a7x a b c st lb v).length<=1803)\/a6Y w a b c<=20001:=by
  rcases hk2 with g|⟨_,g1,g2,g3⟩
  ·exact .inl (by unfold a7x;omega)
  ·have:=b0k g1 g2 g3
   exact .inr (by unfold a6Y;omega)
 have hsp:a3v (a7x a b c st lb v)<=40000000:=by unfold a7x;omega
 have hfit:=c5z (m:=a52 [a,b,c]+1) (Nat.succ_pos _) (c3v a b c) (c4O a b c) (b1C _) (b6L _) (st:=st) (v:=v) hp
 refine⟨⟨⟨by omega,?_⟩,⟨by omega,?_⟩,?_,?_⟩,hk,by omega,c0r (c3v a b c) (b1C _) (b6L _) hp,c28 hfit (by unfold a6Y;omega),?_,hW.2,hdl,hsp,?_,fun hv=>?_⟩
 ·rw [f1];omega
 ·rw [f2];omega
 ·show (a0b c).length<=_;omega
 ·rw [f3];omega
 ·rw [a6H];omega
 ·have q1:=a8F (a6Y w a b c) (a7x a b c st lb v)
  have q2:(a7x a b c st lb v).length*(4*(a6Y w a b c).toNat+15)<=1803*(4*3000001+15):=by
   rcases hdl2 with g|g
   ·exact Nat.mul_le_mul g (by omega)
   ·exact Nat.le_trans (Nat.mul_le_mul hdl (show 4*(a6Y w a b c).toNat+15<=80019 by omega)) (by decide)
  omega
 ·subst hv
  unfold a7x
  rw [b3b,b4u]
theorem b74 {a b c:BS} {w st:Int} {lb:BS×BS×BS} {v:Int} (h:d9q a b c w st lb v):printR (a7x a b c st lb v) (a6Y w a b c)=(a1z (a6Y w a b c) (a7x a b c st lb v),0):=by
 unfold printR
 rw [if_neg (by rw [h.wide];simp),if_neg (by rw [h.right];simp),if_neg (by rw [h.fits];simp)]
theorem c91 {a b c:BS} {st:Int} {lb:BS×BS×BS} {v:Int} (h1:(a8v st&&a8N v)=true) (h2:a2l lb=true):b9k (a04 a b c) (a5T (a04 a b c)) st lb v=(a7x a b c st lb v,0):=by
 unfold b9k
 rw [if_neg (by rw [h1];simp),if_neg (by rw [h2];simp)]
 rfl
end Go.Proofs.YthpjjjnbkfnghaaGreatDoor
set_option maxRecDepth 100000
set_option maxHeartbeats 2000000
namespace Go.Proofs.YthpjjjnbkfnghaaGreatDoor
open Go
attribute [local irreducible] AW a0e a1g a0a
def wAV (x y z:AV):AV:=.ag 3 fun j=>if j=0 then x else if j=1 then y else z
def kW:Kd (List Int×List Int×List Int) where
 enc w:=wAV (sL eI w.1) (sL eI w.2.1) (sL eI w.2.2)
 dec|.ag _ c=>(gL eI (c 0),gL eI (c 1),gL eI (c 2))
     | _=>([],[],[])
 law w:=by simp only [wAV,Nat.one_ne_zero,if_true,if_false,(by decide:(2:Nat)≠0),(by decide:(2:Nat)≠1),a5M]
theorem c6x {a b f:List Int} {c:Nat->AV} (h0:a0e (c 0) (sL eI a)) (h1:a0e (c 1) (sL eI b)) (h2:a0e (c 2) (sL eI f)) (e0:gL eI (c 0)=a) (e1:gL eI (c 1)=b) (e2:gL eI (c 2)=f):kW.ok (.ag 3 c):=by
 subst e0 e1 e2
 refine a0e.ag fun j hj=>?_
 match j,hj with
 | 0,_=>exact h0
 | 1,_=>exact h1
 | 2,_=>exact h2
theorem c13 (c:Nat->AV):kW.dec (.ag 3 c)=(gL eI (c 0),gL eI (c 1),gL eI (c 2)):=rfl
def big (n:Int):Prop:=0<=n/\n<1000000000
def a1f:a0s:=a0s.f3 kI kI kI (fun d n m=>big d/\big n/\big m) (fun d n m=>tu2 (kI.enc (a9n d.toNat m.toNat)) (kI.enc (a25 d.toNat n.toNat)))
theorem b44:a0d Tryz.prog 221 a1f:=by
 refine a0d.f3 Tryz.func221 rfl (by decide) Tryz.results221 Tryz.ntmps221 (by decide) fun d n m hd=>?_
 have hΓ:GOK Tryz.prog (gam []):=GOK.nil
 obtain⟨⟨h1,h2⟩,⟨h3,h4⟩,h5,h6⟩:=hd
 have hl:a9n d.toNat m.toNat=if m<d then -m+(d-m).tmod 2 else -d:=by
  unfold a9n
  rw [Int.toNat_of_nonneg h1,Int.toNat_of_nonneg h5]
 have hh:a25 d.toNat n.toNat=if n<d then n-(d-n).tmod 2 else d:=by
  unfold a25
  rw [Int.toNat_of_nonneg h1,Int.toNat_of_nonneg h3]
 have t1:m<d->(d-m).tmod 2=(d-m) % 2:=fun h=>c0q _ (by omega)
 have t2:n<d->(d-n).tmod 2=(d-n) % 2:=fun h=>c0q _ (by omega)
 have b1:m<d->0<=(d-m).tmod 2/\(d-m).tmod 2<=1:=fun h=>by rw [t1 h];omega
 have b2:n<d->0<=(d-n).tmod 2/\(d-n).tmod 2<=1:=fun h=>by rw [t2 h];omega
 rw [hl,hh]
 refine AW.of hΓ mixed [99999] _ _ _ rfl ?_
 simp only [go_sem]
 clear hl hh t1 t2
 generalize (d-m).tmod 2=r1 at *
 generalize (d-n).tmod 2=r2 at *
 refine⟨by omega,fun g1=>?_,fun g1=>?_⟩
 ·have:=b1 g1
  simp only [if_pos g1]
  refine⟨by omega,by omega,by omega,fun g2=>?_,fun g2=>?_⟩
  ·have:=b2 g2
   simp only [if_pos g2]
   exact⟨by omega,by omega,by trivial,by trivial⟩
  ·simp only [if_neg g2]
   exact⟨by trivial,by trivial⟩
 ·simp only [if_neg g1]
  refine⟨fun g2=>?_,fun g2=>?_⟩
  ·have:=b2 g2
   simp only [if_pos g2]
   exact⟨by omega,by omega,by trivial,by trivial⟩
  ·simp only [if_neg g2]
   exact⟨by trivial,by trivial⟩
def a1q:a0s:=a0s.f2 kW kI (fun w k=>-(w.2.1.length:Int)-1<=k/\k<=w.1.length+1/\w.2.2.length=w.1.length+w.2.1.length+3/\w.2.2.length<1000000000) (fun w k=>kI.enc (rch w.2.1.length w.2.2 k))
theorem b3A:a0d Tryz.prog 223 a1q:=by
 refine a0d.f2 Tryz.func223 rfl (by decide) Tryz.results223 Tryz.ntmps223 (by decide) fun w k hd=>?_
 have hΓ:GOK Tryz.prog (gam []):=GOK.nil
 obtain⟨a,b,far⟩:=w
 simp only at hd
 refine AW.of hΓ mixed [99999] _ _ _ rfl ?_
 simp only [go_sem,kW,wAV]
 exact⟨by omega,by omega,by omega,rfl⟩
def b1c (far:List Int):Prop:=∀ y∈far,-1<=y/\y<1000000000
theorem b0W (l r:List Int):gL eI (.sn l.length 1 fun i=>eI.enc ((l++r).getD i 0))=l:=by
 unfold gL
 simp only [eI.law]
 apply List.ext_getElem
 ·simp
 ·intro i h1 h2
  simp [List.getD,List.getElem?_append_left h2,List.getElem?_eq_getElem h2]
theorem b2u (l r:List Int):a0e (.sn l.length 1 fun i=>eI.enc ((l++r).getD i 0)) (sL eI l):=
 c7g (E:=eI) rfl rfl (by simp) (by simp)
def b4d:a0L:=fun args hp top nx K=>∃ a b far rest k ver x far',args=[wAV (sL eI a) (sL eI b) (.ow 0 ver far.length),kI.enc k]/\hp=rws [(0,a05 ver 3 eI (far++rest))]/\top=1/\
 b1c far/\a.length<100000000/\b.length<100000000/\c3S a b far k=some (x,far')/\∀ hp' top' nx',a0a (hp' 0) (a05 ver 3 eI (far'++rest))->nx<=nx'->K (kI.enc x) hp' top' nx'
theorem b88:a0i Tryz.prog 222 b4d:=by
 refine a0i.mk Tryz.func222 rfl (by decide) Tryz.results222 Tryz.ntmps222 ?_
 rintro args hp top nx K ⟨a,b,far,rest,k,ver,x,far',rfl,rfl,rfl,hfar,ha,hb,hadv,hK⟩
 have hΓ:GOK Tryz.prog (gam [(223,a1q)]):=(.cons b3A .nil)
 refine⟨Nat.le_of_ble_eq_true rfl,?_⟩
 unfold c3S at hadv
 split at hadv
 ·rename_i hc
  obtain⟨c1,c2,c3,c4,c5⟩:=hc
  have hr:∀ j:Int,-(b.length:Int)-1<=j->j<=a.length+1->-1<=rch b.length far j/\rch b.length far j<1000000000:=fun j h1 h2=>by
   unfold rch
   rw [a1e _ _ (by omega)]
   exact hfar _ (List.getElem_mem _)
  have hu:=hr (k-1) (by omega) (by omega)
  have hv:=hr (k+1) (by omega) (by omega)
  have hs:a1o a b (rch b.length far (k-1)) (rch b.length far (k+1)) k=min (min (max (rch b.length far (k-1)+1) (rch b.length far (k+1))) ↑a.length) (↑b.length+k):=rfl
  simp only [Option.some.injEq,Prod.mk.injEq] at hadv
  obtain⟨hx,hfar'⟩:=hadv
  generalize hsg:a1o a b (rch b.length far (k-1)) (rch b.length far (k+1)) k=s at *
  have s1:s<=a.length:=by omega
  have s2:s<=b.length+k:=by omega
  have hal:=a65 (a.drop s.toNat) (b.drop (s-k).toNat)
  have has:=a3Z 0 (a.drop s.toNat) (b.drop (s-k).toNat)
  simp only [List.length_drop,a22] at hal has
  refine AW.of hΓ mixed [] _ _ _ rfl ?_
  simp only [go_sem,a1q,c13,wAV,a5M,b0W]
  refine⟨by omega,⟨by omega,c6x (a:=a) (b:=b) (f:=far) (a0e.refl _) (a0e.refl _) (b2u far rest) (a5M _ _) (a5M _ _) (b0W far rest),by omega,by omega,by omega,by omega⟩,by omega,by omega,⟨by omega,c6x (a:=a) (b:=b) (f:=far) (a0e.refl _) (a0e.refl _) (b2u far rest) (a5M _ _) (a5M _ _) (b0W far rest),by omega,by omega,by omega,by omega⟩,by omega,?_⟩
  rw [<-hs]
  refine AW.round (α:={ i:Nat // i<=ahd (a.drop s.toNat) (b.drop (s-k).toNat) })
   (fun i=>⟨[(1,.val (.int .i64 k)),(2,.pt 1 nx 0),(5,.val (.int .i64 (s+i.1)))],[(0,a05 ver 3 eI (far++rest)),(1,.box nx 265 3 fun j=>if j=0 then sL eI a else if j=1 then sL eI b else .ow 0 ver far.length)],68,2,nx+1,[]⟩) (fun i=>a.length-i.1) ⟨0,Nat.zero_le _⟩ ?_ ?_
  ·simp only [go_sem,a1q]
   exact⟨by omega,a0a.refl _,a0a.refl _⟩
  ·rintro⟨i,hi⟩
   refine AW.of hΓ mixed [99999] _ _ _ rfl ?_
   simp only [go_sem,a1q]
   have t1:(s+i).toNat=s.toNat+i:=by omega
   have t2:(s+i-k).toNat=(s-k).toNat+i:=by omega
   refine⟨fun _=>by omega,fun h=>by omega,fun _=>by omega,fun h=>by omega,fun⟨⟨h1,h2⟩,h3⟩=>⟨by omega,⟨i+1,?_⟩,⟨by dsimp only;omega,a0a.refl _,a0a.refl _⟩,by dsimp only;omega⟩,fun hno=>⟨by omega,by omega,by omega,by omega,?_⟩⟩
   ·rcases Nat.lt_or_ge i (ahd (a.drop s.toNat) (b.drop (s-k).toNat)) with g|g
    ·exact g
    ·have e:ahd (a.drop s.toNat) (b.drop (s-k).toNat)=i:=by omega
     rw [e] at has
     rw [t1,t2] at h3
     exact absurd h3 (has.2 (by omega) (by omega))
   ·have e:s+(i:Int)=x:=by
     rcases Nat.lt_or_ge i (ahd (a.drop s.toNat) (b.drop (s-k).toNat)) with g|g
     ·refine absurd ?_ (hno ⟨by omega,by omega⟩)
      rw [t1,t2]
      exact has.1 i g
     ·omega
    rw [e]
    refine hK _ _ _ ?_ (by omega)
    exact b2L (E:=eI) rfl (by rw [<-hfar',hx,List.set_append_left _ _ (by omega)]) (by simp) (by simp) (fun _ _=>a0e.refl _)
 ·cases hadv
theorem b89 (far:List Int) {i:Nat} (h:i<far.length):a17 (i+1)++far.drop (i+1)=(a17 i++far.drop i).set i (-1):=by
 rw [List.set_append_right _ _ (by simp [a17]),List.drop_eq_getElem_cons h,show i-(a17 i).length=0 by simp [a17]]
 simp only [a17,List.replicate_succ',List.append_assoc,List.set_cons_zero,List.cons_append,List.nil_append]
def b3U:a0L:=fun args hp top nx K=>∃ a b far ver,args=[sL eI a,sL eI b,.ow 0 ver far.length]/\hp=rws [(0,a05 ver 3 eI far)]/\top=1/\
 a.length<100000000/\b.length<100000000/\a.length+b.length+3<=far.length/\far.length<1000000000/\
 ∀ r hp' top' nx',a0e r (wAV (sL eI a) (sL eI b) (.ow 0 ver (a.length+b.length+3)))->a0a (hp' 0) (a05 ver 3 eI (a17 (a.length+b.length+3)++far.drop (a.length+b.length+3)))->nx<=nx'->K r hp' top' nx'
theorem b8f:a0i Tryz.prog 220 b3U:=by
 refine a0i.mk Tryz.func220 rfl (by decide) Tryz.results220 Tryz.ntmps220 ?_
 rintro args hp top nx K ⟨a,b,far,ver,rfl,rfl,rfl,ha,hb,hf,hl,hK⟩
 have hΓ:GOK Tryz.prog (gam []):=GOK.nil
 refine⟨Nat.le_of_ble_eq_true rfl,?_⟩
 refine AW.of hΓ mixed [] _ _ _ rfl ?_
 simp only [go_sem]
 have en:((a.length:Int)+b.length+3).toNat=a.length+b.length+3:=by omega
 have ez:∀ i,i<=a.length+b.length+3->(a17 i++far.drop i).length=far.length:=fun i hi=>by simp [a17];omega
 rw [en]
 refine⟨by omega,by omega,by omega,?_⟩
 refine AW.round (α:={ i:Nat // i<=a.length+b.length+3 })
  (fun i=>⟨[(0,sL eI a),(1,sL eI b),(6,.pt 1 nx 0),(7,.ow 0 ver (a.length+b.length+3)),(18,.val (.int .i64 (a.length+b.length+3:Nat))),(19,.val (.int .i64 i.1))],[(0,a05 ver 3 eI (a17 i.1++far.drop i.1)),(1,.box nx 265 3 (zC [Value.slice none 0 0,Value.slice none 0 0,Value.slice none 0 0]))],30,2,nx+1,[]⟩) (fun i=>a.length+b.length+3-i.1) ⟨0,Nat.zero_le _⟩ ?_ ?_
 ·simp only [go_sem]
  exact⟨a0a.sl (by simp [a17]) fun i hi j hj=>a0e.of_eq (by simp [a17]),a0a.refl _⟩
 ·rintro⟨i,hi⟩
  refine AW.of hΓ mixed [99999] _ _ _ rfl ?_
  simp only [go_sem]
  refine⟨fun hlt=>⟨by omega,by simp [a17];omega,by omega,⟨i+1,by omega⟩,⟨by dsimp only;omega,?_,a0a.refl _⟩,by dsimp only;omega⟩,fun hge=>?_⟩
  ·exact b2L (E:=eI) (l:=a17 i++far.drop i) rfl (b89 far (by omega)) (by simp) (by simp) (fun _ _=>a0e.refl _)
  ·have hn:i=a.length+b.length+3:=by omega
   subst hn
   refine hK _ _ _ _ ?_ ?_ (by omega)
   ·refine a0e.ag fun j hj=>?_
    match j,hj with
    | 0,_=>exact a0e.refl _
    | 1,_=>exact a0e.refl _
    | 2,_=>exact a0e.refl _
   ·show a0a (Row.sl ver 3 1 ((a17 (a.length+b.length+3)).length+(far.length-(a.length+b.length+3))) fun i=>eI.enc ((a17 (a.length+b.length+3)++far.drop (a.length+b.length+3)).getD i 0)) _
    exact a0a.sl (by simp) fun _ _ _ _=>a0e.refl _
end Go.Proofs.YthpjjjnbkfnghaaGreatDoor
set_option maxRecDepth 100000
set_option maxHeartbeats 2000000
namespace Go.Proofs.YthpjjjnbkfnghaaGreatDoor
open Go
attribute [local irreducible] AW a0e a1g a0a
def a1I:a0L:=a1F b3U
theorem c0j:a0i Tryz.prog 220 a1I:=b8f.frame
theorem b1y {a b far:List Int} {ver p n:Nat} {x y:AV} {hp:Nat->Row} {top nx:Nat} {K:AV->(Nat->Row)->Nat->Nat->Prop} (hx:a0e x (sL eI a)) (hy:a0e y (sL eI b)) (hn:n=far.length) (hr:a0a (hp p) (a05 ver 3 eI far)) (hp0:p<top)
  (ha:a.length<100000000) (hb:b.length<100000000) (hf:a.length+b.length+3<=far.length) (hl:far.length<1000000000)
  (hK:∀ nx',nx<=nx'->K (wAV (sL eI a) (sL eI b) (.ow p ver (a.length+b.length+3))) (a0S hp p (a05 ver 3 eI (a17 (a.length+b.length+3)++far.drop (a.length+b.length+3)))) top nx') :
  a1I [x,y,.ow p ver n] hp top nx K:=by
 subst hn
 have hver:(hp p).ver=some ver:=hr.vers.symm
 refine⟨[p],[sL eI a,sL eI b,.ow 0 ver far.length],rws [(0,a05 ver 3 eI far)],by simp,by simpa using hp0,.cons hx (.cons hy (.cons a0e.ow .nil)),a8U hr,fun i hi=>a1Y (top:=1) (by simp) i (by simpa using hi),a,b,far,ver,rfl,rfl,rfl,ha,hb,hf,hl,fun r hp' top' nx' h1 h2 h3=>?_⟩
 refine⟨wAV (sL eI a) (sL eI b) (.ow p ver (a.length+b.length+3)),a0S hp p (a05 ver 3 eI (a17 (a.length+b.length+3)++far.drop (a.length+b.length+3))),h1.trans ?_,fun i q hq=>?_,fun q hq=>?_,fun q hq v hv=>?_,hK nx' h3⟩
 ·refine a0e.ag fun j hj=>?_
  match j,hj with
  | 0,_=>exact a0e.refl _
  | 1,_=>exact a0e.refl _
  | 2,_=>exact a0e.ow
 ·cases i with
  | zero=>
    simp only [List.getElem?_cons_zero,Option.some.injEq] at hq
    subst hq
    rw [a0k]
    exact h2
  | succ i=>simp at hq
 ·rw [a0f _ _ (by simpa using hq)]
 ·simp only [List.mem_singleton] at hq
  subst hq
  rw [a0k] at hv
  exact .inl (hver.trans hv)
def a1J:a0L:=a1F b4d
theorem c03:a0i Tryz.prog 222 a1J:=b88.frame
theorem b1X {a b far far' rest:List Int} {k x:Int} {ver p:Nat} {w:AV} {hp:Nat->Row} {top nx:Nat} {K:AV->(Nat->Row)->Nat->Nat->Prop} (hw:a0e w (wAV (sL eI a) (sL eI b) (.ow p ver far.length))) (hr:a0a (hp p) (a05 ver 3 eI (far++rest))) (hp0:p<top)
  (hfar:b1c far) (ha:a.length<100000000) (hb:b.length<100000000) (hadv:c3S a b far k=some (x,far'))
  (hK:∀ nx',nx<=nx'->K (kI.enc x) (a0S hp p (a05 ver 3 eI (far'++rest))) top nx'):a1J [w,kI.enc k] hp top nx K:=by
 have hver:(hp p).ver=some ver:=hr.vers.symm
 refine⟨[p],[wAV (sL eI a) (sL eI b) (.ow 0 ver far.length),kI.enc k],rws [(0,a05 ver 3 eI (far++rest))],by simp,by simpa using hp0,.cons (hw.trans ?_) (.cons (a0e.refl _) .nil),a8U hr,fun i hi=>a1Y (top:=1) (by simp) i (by simpa using hi),a,b,far,rest,k,ver,x,far',rfl,rfl,rfl,hfar,ha,hb,hadv,fun hp' top' nx' h2 h3=>?_⟩
 ·refine a0e.ag fun j hj=>?_
  match j,hj with
  | 0,_=>exact a0e.refl _
  | 1,_=>exact a0e.refl _
  | 2,_=>exact a0e.ow
 refine⟨kI.enc x,a0S hp p (a05 ver 3 eI (far'++rest)),a0e.refl _,fun i q hq=>?_,fun q hq=>?_,fun q hq v hv=>?_,hK nx' h3⟩
 ·cases i with
  | zero=>
    simp only [List.getElem?_cons_zero,Option.some.injEq] at hq
    subst hq
    rw [a0k]
    exact h2
  | succ i=>simp at hq
 ·rw [a0f _ _ (by simpa using hq)]
 ·simp only [List.mem_singleton] at hq
  subst hq
  rw [a0k] at hv
  exact .inl (hver.trans hv)
end Go.Proofs.YthpjjjnbkfnghaaGreatDoor
namespace Go.Proofs.YthpjjjnbkfnghaaGreatDoor
def a1r (l:List Int) (i j:Nat):List Int:=(l.drop i).take (j-i)
theorem a2M {l:List Int} {i j:Nat} (h:j<=l.length):(a1r l i j).length=j-i:=by
 simp only [a1r,List.length_take,List.length_drop];omega
theorem b3y {l:List Int} {i j:Nat} (h1:i<=j) (h:j<=l.length):a1r l.reverse (l.length-j) (l.length-i)=(a1r l i j).reverse:=by
 refine a1C 0 (by rw [a2M (by simp),List.length_reverse,a2M h];omega) fun k hk=>?_
 rw [a2M (by simp)] at hk
 have h1:k<(l.drop i).length:=by simp;omega
 unfold a1r
 simp only [List.getD]
 rw [List.getElem?_take,if_pos (by omega),List.getElem?_drop,List.getElem?_reverse (by omega),List.getElem?_reverse (by simp;omega),List.getElem?_take,if_pos (by simp;omega),List.getElem?_drop]
 congr 2
 have h2:(List.take (j-i) (List.drop i l)).length=j-i:=by simp;omega
 omega
theorem a6I {l:List Int} {i j k:Nat}:(a1r l i j).drop k=a1r l (i+k) j:=by
 unfold a1r
 rw [List.drop_take,List.drop_drop,Nat.sub_sub]
theorem a6L {l:List Int} {i j k:Nat} (h:i+k<=j):(a1r l i j).take k=a1r l i (i+k):=by
 unfold a1r
 rw [List.take_take]
 congr 1
 omega
theorem b4B (l:List Int):a1r l 0 l.length=l:=by
 unfold a1r
 simp
def a3g (a b:List Int):List (Int×Int):=a8j (a.length+b.length+1) a b
theorem c1N {a b:List Int} {f:Nat} (h:a.length+b.length<f):a8j f a b=a3g a b:=(a4X (a.length+b.length+1) a b (by omega)).2.2 f h
theorem a94 (a b:List Int):(a3g a b).length=a4x a b:=(a4X (a.length+b.length+1) a b (by omega)).2.1
theorem b8c {a b:List Int} (h:¬((a5W a b).length≠0/\(a2t a b).length≠0)):a3g a b=prs 0 0 (ahd a b)++prs ((a.length:Int)-bh a b) ((b.length:Int)-bh a b) (bh a b):=by
 unfold a3g
 rw [a6x,b8O,if_neg h]
 rfl
theorem b9g {a b:List Int} (h1:(a5W a b).length≠0) (h2:(a2t a b).length≠0):∃ p q:Nat,cutF (a5W a b) (a2t a b)=some ((p:Int),(q:Int))/\p<=(a5W a b).length/\q<=(a2t a b).length/\0<p+q/\p+q<(a5W a b).length+(a2t a b).length/\
  a3g a b=prs 0 0 (ahd a b)++((shP (ahd a b) (ahd a b) (a3g ((a5W a b).take p) ((a2t a b).take q))++shP (ahd a b+p) (ahd a b+q) (a3g ((a5W a b).drop p) ((a2t a b).drop q)))++prs ((a.length:Int)-bh a b) ((b.length:Int)-bh a b) (bh a b)):=by
 have hb:=b1h (a:=a) (b:=b)
 have hl:=a9L (a:=a) (b:=b)
 obtain⟨p,q,e,p1,q1,g1,g2,g3⟩:=b6U h1 h2 (b0R h1 h2).1 (b0R h1 h2).2
 refine⟨p,q,e,p1,q1,g1,g2,?_⟩
 rw [a3g,a6x,b8O,if_pos ⟨h1,h2⟩,e]
 simp only [Int.toNat_natCast]
 rw [c1N (by simp only [List.length_take];omega),c1N (by simp only [List.length_drop];omega)]
end Go.Proofs.YthpjjjnbkfnghaaGreatDoor
set_option maxRecDepth 100000
set_option maxHeartbeats 2000000
namespace Go.Proofs.YthpjjjnbkfnghaaGreatDoor
open Go
attribute [local irreducible] AW a0e a1g a0a
def fAV (a b:List Int) (u v z:AV):Nat->AV
 | 0=>sL eI a
 | 1=>sL eI b
 | 2=>sL eI a.reverse
 | 3=>sL eI b.reverse
 | 4=>u
 | 5=>v
 | _=>z
section
variable (a b:List Int) (u v z:AV)
theorem c6J:fAV a b u v z 0=sL eI a:=rfl
theorem c5h:fAV a b u v z 1=sL eI b:=rfl
theorem c96:fAV a b u v z 2=sL eI a.reverse:=rfl
theorem c8o:fAV a b u v z 3=sL eI b.reverse:=rfl
theorem c8s:fAV a b u v z 4=u:=rfl
theorem c9h:fAV a b u v z 5=v:=rfl
theorem b85:fAV a b u v z 6=z:=rfl
end
theorem b4a {a b far far':List Int} {k x:Int} (h:c3S a b far k=some (x,far')) (hf:b1c far):far'.length=far.length/\(a.length<1000000000->b1c far')/\0<=x/\x<=a.length/\k<=x/\x-k<=b.length/\-(b.length:Int)<=k/\k<=a.length:=by
 unfold c3S at h
 split at h
 ·rename_i hc
  obtain⟨c1,c2,c3,c4,c5⟩:=hc
  have hs:a1o a b (rch b.length far (k-1)) (rch b.length far (k+1)) k=min (min (max (rch b.length far (k-1)+1) (rch b.length far (k+1))) ↑a.length) (↑b.length+k):=rfl
  simp only [Option.some.injEq,Prod.mk.injEq] at h
  obtain⟨hx,hfar'⟩:=h
  generalize a1o a b (rch b.length far (k-1)) (rch b.length far (k+1)) k=s at *
  have hal:=a65 (a.drop s.toNat) (b.drop (s-k).toNat)
  simp only [List.length_drop] at hal
  rw [hx] at hfar'
  subst hfar'
  refine⟨by simp,fun hl y hy=>?_,by omega,by omega,by omega,by omega,c3,c4⟩
  rcases List.mem_or_eq_of_mem_set hy with hy|rfl
  ·exact hf y hy
  ·omega
 ·cases h
theorem c64 {far:List Int} {n m:Nat} {j:Int} (h:b1c far) (hl:far.length=n+m+3) (h1:-(m:Int)-1<=j) (h2:j<=n+1):-1<=rch m far j/\rch m far j<1000000000:=by
 unfold rch
 rw [a1e _ _ (by omega)]
 exact h _ (List.getElem_mem _)
theorem a8A {v t n:Nat} {l:List Int} (h:n=l.length):a0a (.sl v t 1 n fun i=>eI.enc (l.getD i 0)) (a05 v t eI l):=by
 subst h
 exact a0a.refl _
theorem b0j (n:Nat):b1c (a17 n):=fun y hy=>by
 have:=(List.mem_replicate.1 hy).2
 omega
def b7v:a0L:=fun args hp top nx K=>∃ a b f1 f2 z fv v1 v2 fa ta fb tb p q,args=[.pt 0 fv 0,kI.enc (fa:Nat),kI.enc (ta:Nat),kI.enc (fb:Nat),kI.enc (tb:Nat)]/\
 hp=rws [(0,.box fv 198 7 (fAV a b (.ow 1 v1 f1.length) (.ow 2 v2 f2.length) z)),(1,a05 v1 3 eI f1),(2,a05 v2 3 eI f2)]/\top=3/\
 fa<=ta/\ta<=a.length/\fb<=tb/\tb<=b.length/\a.length<100000000/\b.length<100000000/\a.length+b.length+3<=f1.length/\a.length+b.length+3<=f2.length/\f1.length<1000000000/\f2.length<1000000000/\
 cutF (a1r a fa ta) (a1r b fb tb)=some (p,q)/\
 ∀ g1 g2 hp' top' nx',g1.length=f1.length->g2.length=f2.length->a0a (hp' 0) (.box fv 198 7 (fAV a b (.ow 1 v1 f1.length) (.ow 2 v2 f2.length) z))->a0a (hp' 1) (a05 v1 3 eI g1)->a0a (hp' 2) (a05 v2 3 eI g2)->nx<=nx'->
  K (tu2 (kI.enc p) (kI.enc q)) hp' top' nx'
theorem b9Z:a0i Tryz.prog 189 b7v:=by
 refine a0i.mk Tryz.func189 rfl (by decide) Tryz.results189 Tryz.ntmps189 ?_
 rintro args hp top nx K ⟨a,b,f1,f2,z,fv,v1,v2,fa,ta,fb,tb,p,q,rfl,rfl,rfl,hfa,hta,hfb,htb,ha,hb,hr1,hr2,hl1,hl2,hcut,hK⟩
 have hΓ:GOK Tryz.prog (gam [(220,a1I),(222,a1J),(223,a1q),(221,a1f)]):=(.cons c0j (.cons c03 (.cons b3A (.cons b44 .nil))))
 refine⟨Nat.le_of_ble_eq_true rfl,?_⟩
 refine AW.of hΓ mixed [200002,200003] _ _ _ rfl ?_
 simp only [go_sem,a1I,a1J,a1q,a1f,c6J,c5h,c96,c8o,c8s,c9h,b85]
 refine⟨by omega,by omega,?_⟩
 refine AW.drawT hΓ mixed 18 [19] (by decide +kernel) ?_
 simp only [go_sem,a1I,a1J,a1q,a1f,c6J,c5h,c96,c8o,c8s,c9h,b85]
 have lA:(a1r a fa ta).length=ta-fa:=a2M hta
 have lB:(a1r b fb tb).length=tb-fb:=a2M htb
 refine⟨by omega,by omega,b1y (a:=a1r a fa ta) (b:=a1r b fb tb) (far:=f1) (b6z eI a (by omega)) (b6z eI b (by omega)) rfl ?_ (by decide) (by omega) (by omega) (by omega) (by omega) fun n1 hn1=>?_⟩
 ·exact a0a.refl _
 simp only [go_sem,a1I,a1J,a1q,a1f,a1u,wAV]
 refine AW.drawT hΓ mixed 42 [43] (by decide +kernel) ?_
 simp only [go_sem,a1I,a1J,a1q,a1f,c6J,c5h,c96,c8o,c8s,c9h,b85]
 have hAe:(ta:Int)-fa=((a1r a fa ta).length:Int):=by omega
 have hBe:(tb:Int)-fb=((a1r b fb tb).length:Int):=by omega
 have hAr:=b3y hfa hta
 have hBr:=b3y hfb htb
 have t1:((a.length:Int)-ta).toNat=a.length-ta:=by omega
 have t2:((a.length:Int)-fa).toNat=a.length-fa:=by omega
 have t3:((b.length:Int)-tb).toNat=b.length-tb:=by omega
 have t4:((b.length:Int)-fb).toNat=b.length-fb:=by omega
 have l1:a.reverse.length=a.length:=List.length_reverse
 have l2:b.reverse.length=b.length:=List.length_reverse
 rw [t1,t2,t3,t4]
 refine⟨by omega,by omega,by omega,by omega,by omega,by omega,b1y (a:=(a1r a fa ta).reverse) (b:=(a1r b fb tb).reverse) (far:=f2) ?_ ?_ rfl ?_ (by decide) (by simp;omega) (by simp;omega) (by simp;omega) (by omega) fun n2 hn2=>?_⟩
 ·rw [<-hAr];exact b6z eI a.reverse (by omega)
 ·rw [<-hBr];exact b6z eI b.reverse (by omega)
 ·exact a0a.refl _
 generalize a1r a fa ta=A at *
 generalize a1r b fb tb=B at *
 simp only [go_sem,a1I,a1J,a1q,a1f,a1u,wAV,hAe,hBe,a1x]
 have hod:decide (¬((A.length:Int)-B.length).tmod 2=0)=b1k A.length B.length:=rfl
 rw [hod]
 refine⟨by omega,?_⟩
 obtain⟨N,hN⟩:∃ N,A.length+B.length+3=N:=⟨_,rfl⟩
 unfold cutF at hcut
 rw [hN] at hcut ⊢
 refine AW.round (α:={ x:Nat×List Int×List Int×Nat // c7C A B (A.length+B.length+1-x.1) x.1 x.2.1 x.2.2.1=some (p,q)/\x.2.1.length=N/\x.2.2.1.length=N/\b1c x.2.1/\b1c x.2.2.1/\n2<=x.2.2.2 })
  (fun x=>⟨[(12,.val (.int .i64 A.length)),(13,.val (.int .i64 B.length)),(14,.pt 3 nx 0),(15,.pt 4 n1 0),(16,.val (.bool (b1k A.length B.length))),(17,.val (.int .i64 x.1.1))],
   [(0,.box fv 198 7 (fAV a b (.ow 1 v1 f1.length) (.ow 2 v2 f2.length) z)),(1,a05 v1 3 eI (x.1.2.1++f1.drop N)),(2,a05 v2 3 eI (x.1.2.2.1++f2.drop N)),
    (3,.box nx 265 3 fun j=>if j=0 then sL eI A else if j=1 then sL eI B else .ow 1 v1 N),(4,.box n1 265 3 fun j=>if j=0 then sL eI A.reverse else if j=1 then sL eI B.reverse else .ow 2 v2 N)],165,5,x.1.2.2.2,[]⟩)
  (fun x=>A.length+B.length+1-x.1.1) ⟨(0,a17 N,a17 N,n2),hcut,by simp [a17],by simp [a17],b0j N,b0j N,Nat.le_refl _⟩ ?_ ?_
 ·simp only [go_sem,a1I,a1J,a1q,a1f]
  exact⟨a0a.refl _,a0a.refl _,a0a.refl _,b1K,b1K⟩
 ·rintro⟨⟨d,F1,F2,n3⟩,hmid,hF1,hF2,ho1,ho2,hn3⟩
  simp only at hmid hF1 hF2 ho1 ho2 hn3
  refine AW.of hΓ mixed [] _ _ _ rfl ?_
  simp only [go_sem,a1I,a1J,a1q,a1f,Int.toNat_natCast]
  have hl:=a4W d B.length
  have hh:=a4U d A.length
  have hf:∃ f,A.length+B.length+1-d=f+1:=by
   cases h0:A.length+B.length+1-d with
   | zero=>rw [h0] at hmid;cases hmid
   | succ f=>exact⟨f,rfl⟩
  obtain⟨f,hf⟩:=hf
  rw [hf,c7C,hN] at hmid
  generalize hR:a5F A B (b1k A.length B.length) F2 (a25 d A.length) N (a9n d B.length) F1=R at hmid
  have hRn:R≠none:=by rintro rfl;cases hmid
  refine⟨⟨⟨by omega,by omega⟩,⟨by omega,by omega⟩,by omega,by omega⟩,?_⟩
  have gF2:=b0W F2 (f2.drop N)
  have pF2:=b2u F2 (f2.drop N)
  rw [hF2] at gF2 pF2
  refine AW.round (α:={ x:Nat×Int×List Int×Nat // a5F A B (b1k A.length B.length) F2 (a25 d A.length) x.1 x.2.1 x.2.2.1=R/\-(B.length:Int)<=x.2.1/\x.2.2.1.length=N/\b1c x.2.2.1/\n2<=x.2.2.2 })
   (fun x=>⟨[(12,.val (.int .i64 A.length)),(13,.val (.int .i64 B.length)),(14,.pt 3 nx 0),(15,.pt 4 n1 0),(16,.val (.bool (b1k A.length B.length))),(17,.val (.int .i64 d)),(18,.val (.int .i64 (a9n d B.length))),(19,.val (.int .i64 (a25 d A.length))),(20,.val (.int .i64 x.1.2.1))],
    [(0,.box fv 198 7 (fAV a b (.ow 1 v1 f1.length) (.ow 2 v2 f2.length) z)),(1,a05 v1 3 eI (x.1.2.2.1++f1.drop N)),(2,a05 v2 3 eI (F2++f2.drop N)),
     (3,.box nx 265 3 fun j=>if j=0 then sL eI A else if j=1 then sL eI B else .ow 1 v1 N),(4,.box n1 265 3 fun j=>if j=0 then sL eI A.reverse else if j=1 then sL eI B.reverse else .ow 2 v2 N)],165,5,x.1.2.2.2,[]⟩)
   (fun x=>x.1.1) ⟨(N,a9n d B.length,F1,n3),hR,hl.2.1,hF1,ho1,hn3⟩ ?_ ?_
  ·simp only [go_sem,a1I,a1J,a1q,a1f]
   exact⟨a0a.refl _,a0a.refl _,a0a.refl _,a0a.refl _,a0a.refl _⟩
  ·rintro⟨⟨g,k,F,n4⟩,hs,hk0,hF,hoF,hn4⟩
   simp only at hs hk0 hF hoF hn4
   by_cases hkh:k<=a25 d A.length
   ·cases g with
    | zero=>exact absurd hs.symm hRn
    | succ g=>
      rw [a5F,if_pos hkh] at hs
      cases hadv:c3S A B F k with
      | none=>rw [hadv] at hs;exact absurd hs.symm hRn
      | some xf=>
        obtain⟨x,F'⟩:=xf
        rw [hadv] at hs
        simp only at hs
        have af:=b4a hadv hoF
        have hrc:=c64 (far:=F2) (n:=A.length) (m:=B.length) (j:=A.length-B.length-k) ho2 (by omega) (by omega) (by omega)
        refine AW.of hΓ mixed [11] _ _ _ rfl ?_
        simp only [go_sem,a1I,a1J,a1q,a1f,hkh]
        refine b1X (far:=F) (far':=F') (x:=x) (rest:=f1.drop N) (p:=1) (by rw [hF];exact a0e.refl _) (a8A (by simp)) (by decide) hoF (by omega) (by omega) hadv fun n5 hn5=>?_
        simp only [go_sem,a1I,a1J,a1q,a1f]
        refine AW.of hΓ mixed [99999] _ _ _ rfl ?_
        simp only [go_sem,a1I,a1J,a1q,a1f,c13,a5M,gF2,a1x,hF2]
        have hmeet:b1k A.length B.length=true/\(A.length:Int)<=x+rch B.length F2 (A.length-B.length-k)\/¬(b1k A.length B.length=true/\(A.length:Int)<=x+rch B.length F2 (A.length-B.length-k)):=Classical.em _
        refine⟨fun _=>by omega,fun _=>by omega,fun _=>⟨by omega,c6x (a:=A.reverse) (b:=B.reverse) (f:=F2) (a0e.refl _) (a0e.refl _) pF2 (a5M _ _) (a5M _ _) gF2,by omega,by omega,by omega,by omega⟩,fun _=>by omega,fun hm=>⟨by omega,?_⟩,fun hm=>⟨by omega,⟨(g,k+2,F',n5),?_,by dsimp only;omega,by dsimp only;omega,af.2.1 (by omega),by dsimp only;omega⟩,⟨Nat.le_refl _,rfl,a0a.refl _,a0a.refl _,a0a.refl _,a0a.refl _,a0a.refl _⟩,Nat.lt_succ_self _⟩⟩
        ·rw [if_pos hm] at hs
         subst hs
         simp only [Option.some.injEq,Prod.mk.injEq] at hmid
         obtain⟨e1,e2⟩:=hmid
         rw [e2,e1]
         exact hK (F'++f1.drop N) (F2++f2.drop N) _ _ _ (by simp;omega) (by simp;omega) (a0a.refl _) (a8A (by simp)) (a8A (by simp;omega)) (by omega)
        ·rw [if_neg (fun h=>hm h.1 h.2)] at hs
         exact hs
   ·cases g with
    | zero=>exact absurd hs.symm hRn
    | succ g=>
      rw [a5F,if_neg hkh] at hs
      subst hs
      simp only at hmid
      refine AW.of hΓ mixed [] _ _ _ rfl ?_
      simp only [go_sem,a1I,a1J,a1q,a1f,hkh]
      generalize hR2:a5F A.reverse B.reverse (!b1k A.length B.length) F (a25 d A.length) N (a9n d B.length) F2=R2 at hmid
      have hRn2:R2≠none:=by rintro rfl;cases hmid
      have gF:=b0W F (f1.drop N)
      have pF:=b2u F (f1.drop N)
      rw [hF] at gF pF
      refine AW.round (α:={ x:Nat×Int×List Int×Nat // a5F A.reverse B.reverse (!b1k A.length B.length) F (a25 d A.length) x.1 x.2.1 x.2.2.1=R2/\-(B.length:Int)<=x.2.1/\x.2.2.1.length=N/\b1c x.2.2.1/\n2<=x.2.2.2 })
       (fun x=>⟨[(12,.val (.int .i64 A.length)),(13,.val (.int .i64 B.length)),(14,.pt 3 nx 0),(15,.pt 4 n1 0),(16,.val (.bool (b1k A.length B.length))),(17,.val (.int .i64 d)),(19,.val (.int .i64 (a25 d A.length))),(22,.val (.int .i64 x.1.2.1))],
        [(0,.box fv 198 7 (fAV a b (.ow 1 v1 f1.length) (.ow 2 v2 f2.length) z)),(1,a05 v1 3 eI (F++f1.drop N)),(2,a05 v2 3 eI (x.1.2.2.1++f2.drop N)),
         (3,.box nx 265 3 fun j=>if j=0 then sL eI A else if j=1 then sL eI B else .ow 1 v1 N),(4,.box n1 265 3 fun j=>if j=0 then sL eI A.reverse else if j=1 then sL eI B.reverse else .ow 2 v2 N)],165,5,x.1.2.2.2,[]⟩)
       (fun x=>x.1.1) ⟨(N,a9n d B.length,F2,n4),hR2,hl.2.1,hF2,ho2,hn4⟩ ?_ ?_
      ·simp only [go_sem,a1I,a1J,a1q,a1f]
       exact⟨a0a.refl _,a0a.refl _,a0a.refl _,a0a.refl _,a0a.refl _⟩
      ·rintro⟨⟨h,k2,G,n5⟩,hs,hk0,hG,hoG,hn5⟩
       simp only at hs hk0 hG hoG hn5
       by_cases hkh:k2<=a25 d A.length
       ·cases h with
        | zero=>exact absurd hs.symm hRn2
        | succ h=>
          rw [a5F,if_pos hkh] at hs
          cases hadv:c3S A.reverse B.reverse G k2 with
          | none=>rw [hadv] at hs;exact absurd hs.symm hRn2
          | some xf=>
            obtain⟨x,G'⟩:=xf
            rw [hadv] at hs
            simp only [a1x] at hs
            have af:=b4a hadv hoG
            simp only [a1x] at af
            have hrc:=c64 (far:=F) (n:=A.length) (m:=B.length) (j:=A.length-B.length-k2) hoF (by omega) (by omega) (by omega)
            refine AW.of hΓ mixed [17] _ _ _ rfl ?_
            simp only [go_sem,a1I,a1J,a1q,a1f,hkh]
            refine b1X (far:=G) (far':=G') (x:=x) (rest:=f2.drop N) (p:=2) (by rw [hG];exact a0e.refl _) (a8A (by simp)) (by decide) hoG (by simp;omega) (by simp;omega) hadv fun n6 hn6=>?_
            simp only [go_sem,a1I,a1J,a1q,a1f]
            refine AW.of hΓ mixed [99999] _ _ _ rfl ?_
            simp only [go_sem,a1I,a1J,a1q,a1f,c13,a5M,gF,a1x,hF]
            refine⟨fun _=>by omega,fun _=>by omega,fun _=>⟨by omega,c6x (a:=A) (b:=B) (f:=F) (a0e.refl _) (a0e.refl _) pF (a5M _ _) (a5M _ _) gF,by omega,by omega,by omega,by omega⟩,fun _=>by omega,fun hm=>?_,fun hm=>⟨by omega,⟨(h,k2+2,G',n6),?_,by dsimp only;omega,by dsimp only;omega,af.2.1 (by omega),by dsimp only;omega⟩,⟨Nat.le_refl _,rfl,a0a.refl _,a0a.refl _,a0a.refl _,a0a.refl _,a0a.refl _⟩,Nat.lt_succ_self _⟩⟩
            ·rw [if_pos ⟨by simp [hm.1],hm.2⟩] at hs
             subst hs
             simp only [Option.some.injEq,Prod.mk.injEq] at hmid
             obtain⟨e1,e2⟩:=hmid
             refine⟨by omega,by omega,by omega,?_⟩
             rw [e2,e1]
             exact hK (F++f1.drop N) (G'++f2.drop N) _ _ _ (by simp;omega) (by simp;omega) (a0a.refl _) (a8A (by simp;omega)) (a8A (by simp)) (by omega)
            ·rw [if_neg (fun hh=>hm (by simpa using hh.1) hh.2)] at hs
             exact hs
       ·cases h with
        | zero=>exact absurd hs.symm hRn2
        | succ h=>
          rw [a5F,if_neg hkh] at hs
          subst hs
          simp only at hmid
          refine AW.of hΓ mixed [] _ _ _ rfl ?_
          simp (maxSteps:=2000000) only [go_sem,a1I,a1J,a1q,a1f,hkh]
          refine⟨by omega,⟨(d+1,F,G,n5),?_,hF,hG,hoF,hoG,hn5⟩,⟨Nat.le_refl _,rfl,a0a.refl _,a0a.refl _,a0a.refl _,a0a.refl _,a0a.refl _⟩,by dsimp only;omega⟩
          dsimp only
          rw [show A.length+B.length+1-(d+1)=f by omega]
          exact hmid
end Go.Proofs.YthpjjjnbkfnghaaGreatDoor
set_option maxRecDepth 100000
set_option maxHeartbeats 2000000
namespace Go.Proofs.YthpjjjnbkfnghaaGreatDoor
open Go
attribute [local irreducible] AW a0e a1g a0a
def b54:a0L:=a1F b7v
theorem c31:a0i Tryz.prog 189 b54:=b9Z.frame
theorem c7i {a b:List Int} {u v z u' v' z':AV} (h1:a0e u u') (h2:a0e v v') (h3:a0e z z'):∀ j,a0e (fAV a b u v z j) (fAV a b u' v' z' j)
 | 0=>a0e.refl _
 | 1=>a0e.refl _
 | 2=>a0e.refl _
 | 3=>a0e.refl _
 | 4=>h1
 | 5=>h2
 | _+6=>h3
def d3s:a0L:=fun args hp top nx K=>∃ a b u v l fv pv i j n,args=[.pt 0 fv 0,kI.enc (i:Nat),kI.enc (j:Nat),kI.enc (n:Nat)]/\
 hp=rws [(0,.box fv 198 7 (fAV a b u v (.ow 1 pv l.length))),(1,a05 pv 129 (eP eI eI) l)]/\top=2/\pv<nx/\
 i<1000000000/\j<1000000000/\n<1000000000/\l.length+n<1000000000/\
 ∀ pv' hp' top' nx',(pv'=pv\/nx<=pv')->pv'<nx'->a0a (hp' 0) (.box fv 198 7 (fAV a b u v (.ow 1 pv' (l++prs i j n).length)))->a0a (hp' 1) (a05 pv' 129 (eP eI eI) (l++prs i j n))->nx<=nx'->
  K (.val (.tuple #[])) hp' top' nx'
theorem d2e:a0i Tryz.prog 188 d3s:=by
 refine a0i.mk Tryz.func188 rfl (by decide) Tryz.results188 Tryz.ntmps188 ?_
 rintro args hp top nx K ⟨a,b,u,v,l,fv,pv,i,j,n,rfl,rfl,rfl,hpv,hi,hj,hn,hl,hK⟩
 have hΓ:GOK Tryz.prog (gam []):=GOK.nil
 refine⟨Nat.le_of_ble_eq_true rfl,?_⟩
 refine AW.of hΓ mixed [] _ _ _ rfl ?_
 simp only [go_sem,b85]
 refine AW.round (α:={ x:Nat×Nat×Nat // x.1<=n/\(x.2.1=pv\/nx<=x.2.1)/\nx<=x.2.2/\x.2.1<x.2.2 })
  (fun x=>⟨[(0,.pt 0 fv 0),(1,.val (.int .i64 i)),(2,.val (.int .i64 j)),(9,.val (.int .i64 n)),(10,.val (.int .i64 x.1.1))],
   [(0,.box fv 198 7 (fAV a b u v (.ow 1 x.1.2.1 (l++prs i j x.1.1).length))),(1,a05 x.1.2.1 129 (eP eI eI) (l++prs i j x.1.1))],30,2,x.1.2.2,[]⟩) (fun x=>n-x.1.1) ⟨(0,pv,nx),by simp,.inl rfl,Nat.le_refl _,hpv⟩ ?_ ?_
 ·simp only [go_sem]
  exact⟨a0a.of_eq (by simp [prs]),a0a.of_eq (by simp [prs])⟩
 ·rintro⟨⟨k,w,m⟩,hk,hw,hm,hwm⟩
  simp only at hk hw hm hwm
  refine AW.of hΓ mixed [99999] _ _ _ rfl ?_
  simp only [go_sem,b85,a6Z]
  have hps:prs i j (k+1)=prs i j k++[((i:Int)+(k:Int),(j:Int)+(k:Int))]:=by
   unfold prs
   rw [List.range_succ,List.map_append]
   rfl
  have hpl:(prs i j k).length=k:=a7d _ _ _
  refine⟨fun hlt=>⟨by omega,by omega,by omega,by omega,⟨(k+1,m,m+1),by dsimp only;omega,.inr hm,by dsimp only;omega,Nat.lt_succ_self _⟩,⟨Nat.le_refl _,rfl,?_,?_⟩,by dsimp only;omega⟩,fun hge=>?_⟩
  ·refine a0a.box fun j' hj'=>?_
   match j',hj' with
   | 0,_=>exact a0e.refl _
   | 1,_=>exact a0e.refl _
   | 2,_=>exact a0e.refl _
   | 3,_=>exact a0e.refl _
   | 4,_=>exact a0e.refl _
   | 5,_=>exact a0e.refl _
   | 6,_=>exact a0e.of_eq (by dsimp only;rw [hps];simp [stC,fAV,Nat.add_assoc])
  ·refine a1B (E:=eP eI eI) (l:=l++prs i j k) (x:=((i:Int)+(k:Int),(j:Int)+(k:Int))) rfl (by dsimp only;rw [hps,List.append_assoc]) (by simp) (by simp) (by dsimp only;rw [hps];simp) fun j' hj'=>?_
   match j',hj' with
   | 0,_=>exact a0e.refl _
   | 1,_=>exact a0e.refl _
  ·obtain rfl:k=n:=by omega
   exact hK w _ _ _ hw hwm (a0a.of_eq (by rw [List.length_append];rfl)) (e0Z rfl rfl (by simp)) hm
def d8G:a0L:=a1F d3s
theorem d77:a0i Tryz.prog 188 d8G:=d2e.frame
theorem b9Y {a b:List Int} {u v:AV} {l:List (Int×Int)} {fv pv i j n:Nat} {x y z:Int} {hp:Nat->Row} {top nx:Nat} {K:AV->(Nat->Row)->Nat->Nat->Prop} (hx:x=(i:Nat)) (hy:y=(j:Nat)) (hz:z=(n:Nat))
  (h0:a0a (hp 0) (.box fv 198 7 (fAV a b u v (.ow 3 pv l.length)))) (h3:a0a (hp 3) (a05 pv 129 (eP eI eI) l)) (ht:3<top) (hpv:pv<nx)
  (hi:i<1000000000) (hj:j<1000000000) (hn:n<1000000000) (hl:l.length+n<1000000000)
  (hK:∀ pv' nx',(pv'=pv\/nx<=pv')->pv'<nx'->nx<=nx'->K (.val (.tuple #[])) (a0S (a0S hp 0 (.box fv 198 7 (fAV a b u v (.ow 3 pv' (l++prs i j n).length)))) 3 (a05 pv' 129 (eP eI eI) (l++prs i j n))) top nx') :
  d8G [.pt 0 fv 0,.val (.int .i64 x),.val (.int .i64 y),.val (.int .i64 z)] hp top nx K:=by
 subst hx hy hz
 have v0:=h0.vers
 have v3:=h3.vers
 refine⟨[0,3],[.pt 0 fv 0,kI.enc (i:Nat),kI.enc (j:Nat),kI.enc (n:Nat)],rws [(0,.box fv 198 7 (fAV a b u v (.ow 1 pv l.length))),(1,a05 pv 129 (eP eI eI) l)],
  by decide,fun p hp=>?_,.cons (a0e.refl _) (.cons (a0e.refl _) (.cons (a0e.refl _) (.cons (a0e.refl _) .nil))),fun k q hk=>?_,fun k hk=>a1Y (top:=2) (by simp) k (by simpa using hk),a,b,u,v,l,fv,pv,i,j,n,rfl,rfl,rfl,hpv,hi,hj,hn,hl,fun pv' hp' top' nx' e1 e2 e3 e4 e5=>?_⟩
 ·rcases List.mem_cons.1 hp with rfl|hp
  ·omega
  ·rw [List.mem_singleton.1 hp];exact ht
 ·match k,hk with
  | 0,hk=>
    obtain rfl:0=q:=Option.some.inj hk
    exact h0.trans (a0a.box fun j' hj'=>c7i (a0e.refl _) (a0e.refl _) a0e.ow j')
  | 1,hk=>
    obtain rfl:3=q:=Option.some.inj hk
    exact h3
 ·refine⟨_,_,a0e.refl _,fun k q hk=>?_,fun q hq=>?_,fun q hq w hw=>?_,hK pv' nx' e1 e2 e5⟩
  ·match k,hk with
   | 0,hk=>
     obtain rfl:0=q:=Option.some.inj hk
     exact e3.trans (a0a.box fun j' hj'=>c7i (a0e.refl _) (a0e.refl _) a0e.ow j')
   | 1,hk=>
     obtain rfl:3=q:=Option.some.inj hk
     exact e4
  ·simp only [List.mem_cons,List.mem_nil_iff,or_false,not_or] at hq
   rw [a0f _ _ hq.2,a0f _ _ hq.1]
  ·rcases List.mem_cons.1 hq with rfl|hq
   ·exact .inl (v0.symm.trans hw)
   ·obtain rfl:=List.mem_singleton.1 hq
    obtain rfl:pv'=w:=Option.some.inj hw
    rcases e1 with rfl|e1
    ·exact .inl v3.symm
    ·exact .inr e1
theorem c19 {a b f1 f2:List Int} {z:AV} {fv v1 v2 fa ta fb tb:Nat} {p q x y r s:Int} {hp:Nat->Row} {top nx:Nat} {K:AV->(Nat->Row)->Nat->Nat->Prop} (hx:x=(fa:Nat)) (hy:y=(ta:Nat)) (hr:r=(fb:Nat)) (hs:s=(tb:Nat))
  (h0:a0a (hp 0) (.box fv 198 7 (fAV a b (.ow 1 v1 f1.length) (.ow 2 v2 f2.length) z))) (h1:a0a (hp 1) (a05 v1 3 eI f1)) (h2:a0a (hp 2) (a05 v2 3 eI f2)) (ht:2<top)
  (hfa:fa<=ta) (hta:ta<=a.length) (hfb:fb<=tb) (htb:tb<=b.length) (ha:a.length<100000000) (hb:b.length<100000000) (hr1:a.length+b.length+3<=f1.length) (hr2:a.length+b.length+3<=f2.length) (hl1:f1.length<1000000000) (hl2:f2.length<1000000000)
  (hcut:cutF (a1r a fa ta) (a1r b fb tb)=some (p,q))
  (hK:∀ g1 g2 nx',g1.length=f1.length->g2.length=f2.length->nx<=nx'->
   K (tu2 (kI.enc p) (kI.enc q)) (a0S (a0S (a0S hp 0 (.box fv 198 7 (fAV a b (.ow 1 v1 f1.length) (.ow 2 v2 f2.length) z))) 1 (a05 v1 3 eI g1)) 2 (a05 v2 3 eI g2)) top nx') :
  b54 [.pt 0 fv 0,.val (.int .i64 x),.val (.int .i64 y),.val (.int .i64 r),.val (.int .i64 s)] hp top nx K:=by
 subst hx hy hr hs
 have w0:=h0.vers
 have w1:=h1.vers
 have w2:=h2.vers
 refine⟨[0,1,2],[.pt 0 fv 0,kI.enc (fa:Nat),kI.enc (ta:Nat),kI.enc (fb:Nat),kI.enc (tb:Nat)],rws [(0,.box fv 198 7 (fAV a b (.ow 1 v1 f1.length) (.ow 2 v2 f2.length) z)),(1,a05 v1 3 eI f1),(2,a05 v2 3 eI f2)],
  by decide,fun p hp=>?_,.cons (a0e.refl _) (.cons (a0e.refl _) (.cons (a0e.refl _) (.cons (a0e.refl _) (.cons (a0e.refl _) .nil)))),fun k q hk=>?_,fun k hk=>a1Y (top:=3) (by simp) k (by simpa using hk),a,b,f1,f2,z,fv,v1,v2,fa,ta,fb,tb,p,q,rfl,rfl,rfl,hfa,hta,hfb,htb,ha,hb,hr1,hr2,hl1,hl2,hcut,fun g1 g2 hp' top' nx' e1 e2 e3 e4 e5 e6=>?_⟩
 ·simp only [List.mem_cons,List.mem_nil_iff,or_false] at hp
  omega
 ·match k,hk with
  | 0,hk=>obtain rfl:0=q:=Option.some.inj hk;exact h0
  | 1,hk=>obtain rfl:1=q:=Option.some.inj hk;exact h1
  | 2,hk=>obtain rfl:2=q:=Option.some.inj hk;exact h2
 ·refine⟨_,_,a0e.refl _,fun k q hk=>?_,fun q hq=>?_,fun q hq w hw=>?_,hK g1 g2 nx' e1 e2 e6⟩
  ·match k,hk with
   | 0,hk=>obtain rfl:0=q:=Option.some.inj hk;exact e3
   | 1,hk=>obtain rfl:1=q:=Option.some.inj hk;exact e4
   | 2,hk=>obtain rfl:2=q:=Option.some.inj hk;exact e5
  ·simp only [List.mem_cons,List.mem_nil_iff,or_false,not_or] at hq
   rw [a0f _ _ hq.2.2,a0f _ _ hq.2.1,a0f _ _ hq.1]
  ·simp only [List.mem_cons,List.mem_nil_iff,or_false] at hq
   rcases hq with rfl|rfl|rfl
   ·exact .inl (w0.symm.trans hw)
   ·exact .inl (w1.symm.trans hw)
   ·exact .inl (w2.symm.trans hw)
end Go.Proofs.YthpjjjnbkfnghaaGreatDoor
set_option maxRecDepth 100000
set_option maxHeartbeats 2000000
namespace Go.Proofs.YthpjjjnbkfnghaaGreatDoor
open Go
attribute [local irreducible] AW a0e a1g a0a
def a3S (a b:List Int) (fv v1 v2 pv:Nat) (g1 g2:List Int) (l:List (Int×Int)):List (Nat×Row):=
 [(0,.box fv 198 7 (fAV a b (.ow 1 v1 g1.length) (.ow 2 v2 g2.length) (.ow 3 pv l.length))),(1,a05 v1 3 eI g1),(2,a05 v2 3 eI g2),(3,a05 pv 129 (eP eI eI) l)]
def d2i (N:Nat):a0L:=fun args hp top nx K=>∃ a b f1 f2 l fv v1 v2 pv fa ta fb tb,args=[.pt 0 fv 0,kI.enc (fa:Nat),kI.enc (ta:Nat),kI.enc (fb:Nat),kI.enc (tb:Nat)]/\
 hp=rws (a3S a b fv v1 v2 pv f1 f2 l)/\top=4/\pv<nx/\
 fa<=ta/\ta<=a.length/\fb<=tb/\tb<=b.length/\a.length<100000000/\b.length<100000000/\a.length+b.length+3<=f1.length/\a.length+b.length+3<=f2.length/\f1.length<1000000000/\f2.length<1000000000/\
 l.length+(ta-fa)<500000000/\(ta-fa)+(tb-fb)<N/\
 ∀ g1 g2 pv' hp' top' nx',g1.length=f1.length->g2.length=f2.length->(pv'=pv\/nx<=pv')->pv'<nx'->(∀ i,i<4->a0a (hp' i) (rws (a3S a b fv v1 v2 pv' g1 g2 (l++shP fa fb (a3g (a1r a fa ta) (a1r b fb tb)))) i))->nx<=nx'->
  K (.val (.tuple #[])) hp' top' nx'
def b35 (N:Nat):a0L:=a1F (d2i N)
theorem b9A {N:Nat} {a b f1 f2:List Int} {l:List (Int×Int)} {fv v1 v2 pv fa ta fb tb:Nat} {x y r s:Int} {hp:Nat->Row} {top nx:Nat} {K:AV->(Nat->Row)->Nat->Nat->Prop} (hx:x=(fa:Nat)) (hy:y=(ta:Nat)) (hr:r=(fb:Nat)) (hs:s=(tb:Nat))
  (h0:∀ i,i<4->a0a (hp i) (rws (a3S a b fv v1 v2 pv f1 f2 l) i)) (ht:3<top) (hpv:pv<nx)
  (hfa:fa<=ta) (hta:ta<=a.length) (hfb:fb<=tb) (htb:tb<=b.length) (ha:a.length<100000000) (hb:b.length<100000000) (hr1:a.length+b.length+3<=f1.length) (hr2:a.length+b.length+3<=f2.length) (hl1:f1.length<1000000000) (hl2:f2.length<1000000000)
  (hl:l.length+(ta-fa)<500000000) (hN:(ta-fa)+(tb-fb)<N)
  (hK:∀ g1 g2 pv' hp' nx',g1.length=f1.length->g2.length=f2.length->(pv'=pv\/nx<=pv')->pv'<nx'->nx<=nx'->(∀ i,i<4->hp' i=rws (a3S a b fv v1 v2 pv' g1 g2 (l++shP fa fb (a3g (a1r a fa ta) (a1r b fb tb)))) i)->(∀ i,4<=i->hp' i=hp i)->K (.val (.tuple #[])) hp' top nx') :
  b35 N [.pt 0 fv 0,.val (.int .i64 x),.val (.int .i64 y),.val (.int .i64 r),.val (.int .i64 s)] hp top nx K:=by
 subst hx hy hr hs
 have w:=fun i hi=>(h0 i hi).vers
 have lt4:∀ (k q:Nat),[0,1,2,3][k]?=some q->k=q/\k<4:=fun k q hk=>by
  match k,hk with
  | 0,hk=>exact⟨Option.some.inj hk,by decide⟩
  | 1,hk=>exact⟨Option.some.inj hk,by decide⟩
  | 2,hk=>exact⟨Option.some.inj hk,by decide⟩
  | 3,hk=>exact⟨Option.some.inj hk,by decide⟩
 have mem4:∀ q,q∈[0,1,2,3]↔q<4:=fun q=>by simp;omega
 refine⟨[0,1,2,3],[.pt 0 fv 0,kI.enc (fa:Nat),kI.enc (ta:Nat),kI.enc (fb:Nat),kI.enc (tb:Nat)],rws (a3S a b fv v1 v2 pv f1 f2 l),
  by decide,fun p hp=>?_,.cons (a0e.refl _) (.cons (a0e.refl _) (.cons (a0e.refl _) (.cons (a0e.refl _) (.cons (a0e.refl _) .nil)))),fun k q hk=>?_,fun k hk=>a1Y (top:=4) (by simp [a3S]) k (by simpa using hk),a,b,f1,f2,l,fv,v1,v2,pv,fa,ta,fb,tb,rfl,rfl,rfl,hpv,hfa,hta,hfb,htb,ha,hb,hr1,hr2,hl1,hl2,hl,hN,fun g1 g2 pv' hp' top' nx' e1 e2 e3 e4 e5 e6=>?_⟩
 ·have:=(mem4 p).1 hp;omega
 ·obtain⟨rfl,h⟩:=lt4 k q hk
  exact h0 k h
 ·refine⟨_,fun i=>if i<4 then rws (a3S a b fv v1 v2 pv' g1 g2 (l++shP fa fb (a3g (a1r a fa ta) (a1r b fb tb)))) i else hp i,a0e.refl _,fun k q hk=>?_,fun q hq=>?_,fun q hq u hu=>?_,hK g1 g2 pv' _ nx' e1 e2 e3 e4 e6 (fun i hi=>if_pos hi) (fun i hi=>if_neg (by omega))⟩
  ·obtain⟨rfl,h⟩:=lt4 k q hk
   simp only [if_pos h]
   exact e5 k h
  ·rw [mem4] at hq
   exact if_neg hq
  ·rw [mem4] at hq
   simp only [if_pos hq] at hu
   have:=w q hq
   match q,hq with
   | 0,_=>exact .inl (this.symm.trans hu)
   | 1,_=>exact .inl (this.symm.trans hu)
   | 2,_=>exact .inl (this.symm.trans hu)
   | 3,_=>
     obtain rfl:pv'=u:=Option.some.inj hu
     rcases e3 with rfl|e3
     ·exact .inl this.symm
     ·exact .inr e3
theorem AW.cutF {P:Program} {x:Code} {Q:Exit->AS->Prop} {st:AS} (fr:List (Nat×AV)) (a b:List Int) (fv v1 v2 pv:Nat) (g1 g2:List Int) (l:List (Int×Int)) (hr:∀ i,i<4->a0a (st.hp i) (rws (a3S a b fv v1 v2 pv g1 g2 l) i)) (nx:Nat) (hz:st.sz=91) (hd:st.df=[]) (hnx:st.nx=nx)
  (hfr:∀ p∈fr,a0e (st.fr p.1) p.2) (k:AW P x Q (Sh.st ⟨fr,a3S a b fv v1 v2 pv g1 g2 l,91,4,nx,[]⟩)):AW P x Q st:=by
 refine AW.cut ⟨fr,a3S a b fv v1 v2 pv g1 g2 l,91,4,nx,[]⟩ ⟨⟨⟨hz.symm,hd.symm⟩,Nat.le_of_eq hnx⟩,hfr,?_,?_⟩ k
 ·rintro p hp
  simp only [a3S,List.mem_cons,List.mem_nil_iff,or_false] at hp
  rcases hp with rfl|rfl|rfl|rfl
  ·exact hr 0 (by decide)
  ·exact hr 1 (by decide)
  ·exact hr 2 (by decide)
  ·exact hr 3 (by decide)
 ·rintro p hp
  simp only [a3S,List.mem_cons,List.mem_nil_iff,or_false] at hp
  rcases hp with rfl|rfl|rfl|rfl<;>simp
theorem d51 {p:Nat->Prop} (h0:p 0) (h1:p 1) (h2:p 2) (h3:p 3):∀ i,i<4->p i
 | 0,_=>h0
 | 1,_=>h1
 | 2,_=>h2
 | 3,_=>h3
 | i+4,h=>by omega
theorem d0y:a0i Tryz.prog 139 (b35 0):=by
 refine a0i.frame ?_
 refine a0i.mk Tryz.func139 rfl (by decide) Tryz.results139 Tryz.ntmps139 ?_
 rintro args hp top nx K ⟨_,_,_,_,_,_,_,_,_,_,_,_,_,_,_,_,_,_,_,_,_,_,_,_,_,_,_,_,h,_⟩
 omega
theorem c9B (N:Nat) (ih:a0i Tryz.prog 139 (b35 N)):a0i Tryz.prog 139 (b35 (N+1)):=by
 refine a0i.frame ?_
 refine a0i.mk Tryz.func139 rfl (by decide) Tryz.results139 Tryz.ntmps139 ?_
 rintro args hp top nx K ⟨a,b,f1,f2,l,fv,v1,v2,pv,fa,ta,fb,tb,rfl,rfl,rfl,hpv,hfa,hta,hfb,htb,ha,hb,hr1,hr2,hl1,hl2,hl,hN,hK⟩
 have hΓ:GOK Tryz.prog (gam [(187,c2z),(188,d8G),(189,b54),(139,(Con.meth (b35 N)))]):=.cons c9T (.cons d77 (.cons c31 (.cons ih .nil)))
 refine⟨Nat.le_of_ble_eq_true rfl,?_⟩
 have pA:(List.range (ta-fa)).map (fun i=>a.getD (fa+i) 0)=a1r a fa ta:=by rw [a8C a 0 (by omega)];rfl
 have pB:(List.range (tb-fb)).map (fun i=>b.getD (fb+i) 0)=a1r b fb tb:=by rw [a8C b 0 (by omega)];rfl
 have lA:(a1r a fa ta).length=ta-fa:=a2M hta
 have lB:(a1r b fb tb).length=tb-fb:=a2M htb
 obtain⟨A,hA⟩:∃ A,a1r a fa ta=A:=⟨_,rfl⟩
 obtain⟨B,hB⟩:∃ B,a1r b fb tb=B:=⟨_,rfl⟩
 have hbh:bhd (A.drop (ahd A B)) (B.drop (ahd A B))=bh A B:=rfl
 rw [hA] at pA lA
 rw [hB] at pB lB
 refine AW.of hΓ mixed [1,99999] _ _ _ rfl ?_
 simp only [go_sem,a3S,c6J,c5h,c2z,pA,pB,hbh]
 have hbl:=b1h (a:=A) (b:=B)
 have hcl:=a9L (a:=A) (b:=B)
 obtain⟨h,hh⟩:∃ h,ahd A B=h:=⟨_,rfl⟩
 obtain⟨e,he⟩:∃ e,bh A B=e:=⟨_,rfl⟩
 rw [hh,he] at hbl hcl ⊢
 refine⟨by omega,by omega,by omega,b9Y (l:=l) (pv:=pv) (i:=fa) (j:=fb) (n:=h) rfl rfl rfl (a0a.refl _) (a0a.refl _) (by decide) hpv (by omega) (by omega) (by omega) (by omega) fun p1 n1 hp1 hpn1 hn1=>?_⟩
 simp only [a59,a6e,a8h,a91]
 refine AW.cutF [(0,.pt 0 fv 0),(1,.val (.int .i64 fa)),(2,.val (.int .i64 ta)),(3,.val (.int .i64 fb)),(4,.val (.int .i64 tb)),(10,.val (.int .i64 h)),(11,.val (.int .i64 e))] a b fv v1 v2 p1 f1 f2 (l++prs fa fb h)
  (d51 (a0a.refl _) (a0a.refl _) (a0a.refl _) (a0a.refl _)) n1 rfl rfl rfl ?_ ?_
 ·simp only [go_sem]
 have eG:∀ m,A.length=m->True:=fun _ _=>trivial
 by_cases hc:(a5W A B).length≠0/\(a2t A B).length≠0
 ·obtain⟨p,q,hcut,hpl,hql,hpq,hpq2,hG⟩:=b9g hc.1 hc.2
  have c1:(fa:Int)+h<ta-e:=by omega
  have c2:(fb:Int)+h<tb-e:=by omega
  refine AW.of hΓ mixed [5,99999] _ _ _ rfl ?_
  simp only [go_sem,c1,c2]
  have eC:a5W A B=a1r a (fa+h) (ta-e):=by
   rw [a5W,hh,he,lA,<-hA,a6I,a6L (by omega)]
   congr 1
   omega
  have eD:a2t A B=a1r b (fb+h) (tb-e):=by
   rw [a2t,hh,he,lB,<-hB,a6I,a6L (by omega)]
   congr 1
   omega
  refine⟨by omega,by omega,by omega,by omega,c19 (a:=a) (b:=b) (f1:=f1) (f2:=f2) (fv:=fv) (v1:=v1) (v2:=v2) (fa:=fa+h) (ta:=ta-e) (fb:=fb+h) (tb:=tb-e) (p:=p) (q:=q) (by omega) (by omega) (by omega) (by omega) (a0a.refl _) (a0a.refl _) (a0a.refl _) (by decide)
   (by omega) (by omega) (by omega) (by omega) ha hb hr1 hr2 hl1 hl2 (by rw [<-eC,<-eD];exact hcut) fun g1 g2 n2 hg1 hg2 hn2=>?_⟩
  simp only [go_sem,tu2]
  refine AW.cutF [(0,.pt 0 fv 0),(1,.val (.int .i64 ((fa+h:Nat):Int))),(2,.val (.int .i64 ((ta-e:Nat):Int))),(3,.val (.int .i64 ((fb+h:Nat):Int))),(4,.val (.int .i64 ((tb-e:Nat):Int))),(10,.val (.int .i64 h)),(11,.val (.int .i64 e)),(12,.val (.int .i64 p)),(13,.val (.int .i64 q))] a b fv v1 v2 p1 g1 g2 (l++prs fa fb h)
   (d51 (a0a.of_eq (by show Row.box fv 198 7 (fAV a b (.ow 1 v1 f1.length) (.ow 2 v2 f2.length) (.ow 3 p1 (l.length+(prs fa fb h).length)))=_;rw [<-hg1,<-hg2,<-List.length_append];rfl)) (a0a.refl _) (a0a.refl _) (a0a.refl _)) n2 rfl rfl rfl ?_ ?_
  ·simp only [go_sem]
   exact⟨by omega,by omega,by omega,by omega⟩
  have eP1:(a5W A B).take p=a1r a (fa+h) (fa+h+p):=by rw [eC];exact a6L (by omega)
  have eP2:(a2t A B).take q=a1r b (fb+h) (fb+h+q):=by rw [eD];exact a6L (by omega)
  have eP3:(a5W A B).drop p=a1r a (fa+h+p) (ta-e):=by rw [eC];exact a6I
  have eP4:(a2t A B).drop q=a1r b (fb+h+q) (tb-e):=by rw [eD];exact a6I
  rw [eP1,eP2,eP3,eP4] at hG
  have hG1:(a3g (a1r a (fa+h) (fa+h+p)) (a1r b (fb+h) (fb+h+q))).length<=p:=by
   have:=a5v (a1r a (fa+h) (fa+h+p)) (a1r b (fb+h) (fb+h+q))
   rw [a94]
   rw [a2M (by omega),a2M (by omega)] at this
   omega
  have hG2:(a3g (a1r a (fa+h+p) (ta-e)) (a1r b (fb+h+q) (tb-e))).length<=ta-e-(fa+h+p):=by
   have:=a5v (a1r a (fa+h+p) (ta-e)) (a1r b (fb+h+q) (tb-e))
   rw [a94]
   rw [a2M (by omega),a2M (by omega)] at this
   omega
  refine AW.of hΓ mixed [6,99999] _ _ _ rfl ?_
  simp only [go_sem]
  refine⟨by omega,by omega,b9A (a:=a) (b:=b) (f1:=g1) (f2:=g2) (fv:=fv) (v1:=v1) (v2:=v2) (pv:=p1) (l:=l++prs fa fb h) (fa:=fa+h) (ta:=fa+h+p) (fb:=fb+h) (tb:=fb+h+q) (by omega) (by omega) (by omega) (by omega) (fun i _=>a0a.refl _) (by decide) (by omega)
   (by omega) (by omega) (by omega) (by omega) ha hb (by omega) (by omega) (by omega) (by omega) (by rw [List.length_append,a7d];omega) (by omega) fun g3 g4 p2 hp2 n3 hg3 hg4 hpp2 hpn2 hn3 hE _=>?_⟩
  simp only [a59,a6e,a8h,a91]
  refine AW.cutF [(0,.pt 0 fv 0),(1,.val (.int .i64 ((fa+h:Nat):Int))),(2,.val (.int .i64 ((ta-e:Nat):Int))),(3,.val (.int .i64 ((fb+h:Nat):Int))),(4,.val (.int .i64 ((tb-e:Nat):Int))),(11,.val (.int .i64 e)),(12,.val (.int .i64 p)),(13,.val (.int .i64 q))] a b fv v1 v2 p2 g3 g4 _
   (fun i hi=>a0a.of_eq (hE i hi)) n3 rfl rfl rfl ?_ ?_
  ·simp only [go_sem]
  refine AW.of hΓ mixed [7,99999] _ _ _ rfl ?_
  simp only [go_sem]
  refine⟨by omega,by omega,b9A (a:=a) (b:=b) (f1:=g3) (f2:=g4) (fv:=fv) (v1:=v1) (v2:=v2) (pv:=p2) (fa:=fa+h+p) (ta:=ta-e) (fb:=fb+h+q) (tb:=tb-e) (by omega) (by omega) (by omega) (by omega) (fun i _=>a0a.refl _) (by decide) (by omega)
   (by omega) (by omega) (by omega) (by omega) ha hb (by omega) (by omega) (by omega) (by omega) (by simp only [List.length_append,a7d,b25];omega) (by omega) fun g5 g6 p3 hp3 n4 hg5 hg6 hpp3 hpn3 hn4 hE2 _=>?_⟩
  simp only [go_sem]
  refine b9Y (i:=ta-e) (j:=tb-e) (n:=e) rfl rfl rfl (a0a.of_eq (hE2 0 (by decide))) (a0a.of_eq (hE2 3 (by decide))) (by decide) (by omega) (by omega) (by omega) (by omega) (by simp only [List.length_append,a7d,b25];omega) fun p4 n5 hp4 hpn4 hn5=>?_
  have hfin:l++shP fa fb (a3g A B)=l++prs fa fb h++shP ((fa+h:Nat):Int) ((fb+h:Nat):Int) (a3g (a1r a (fa+h) (fa+h+p)) (a1r b (fb+h) (fb+h+q)))++shP ((fa+h+p:Nat):Int) ((fb+h+q:Nat):Int) (a3g (a1r a (fa+h+p) (ta-e)) (a1r b (fb+h+q) (tb-e)))++prs ((ta-e:Nat):Int) ((tb-e:Nat):Int) e:=by
   rw [hG,hh,he]
   simp only [b2O,b5l,c1a,List.append_assoc,Int.add_zero]
   rw [show (fa:Int)+((A.length:Int)-e)=((ta-e:Nat):Int) by omega,show (fb:Int)+((B.length:Int)-e)=((tb-e:Nat):Int) by omega,show (fa:Int)+h=((fa+h:Nat):Int) by omega,show (fb:Int)+h=((fb+h:Nat):Int) by omega,
    show (fa:Int)+((h:Int)+p)=((fa+h+p:Nat):Int) by omega,show (fb:Int)+((h:Int)+q)=((fb+h+q:Nat):Int) by omega]
  simp only [a59,a6e,a8h,b0m,c5r,true_and]
  refine hK g5 g6 p4 _ _ _ (by omega) (by omega) (by omega) hpn4 ?_ (by omega)
  rw [hA,hB,hfin]
  refine d51 (a0a.refl _) (a0a.of_eq (hE2 1 (by decide))) (a0a.of_eq (hE2 2 (by decide))) (a0a.refl _)
 ·have c12:¬((fa:Int)+h<ta-e/\(fb:Int)+h<tb-e):=by omega
  refine AW.of hΓ mixed [8,99999] _ _ _ rfl ?_
  simp only [go_sem,c12,false_implies,not_false_eq_true,true_implies]
  refine⟨by omega,by omega,by omega,by omega,fun _=>?_⟩
  refine b9Y (i:=ta-e) (j:=tb-e) (n:=e) (by omega) (by omega) rfl (a0a.refl _) (a0a.refl _) (by decide) (by omega) (by omega) (by omega) (by omega) (by simp only [List.length_append,a7d];omega) fun p4 n5 hp4 hpn4 hn5=>?_
  have hfin:l++shP fa fb (a3g A B)=l++prs fa fb h++prs ((ta-e:Nat):Int) ((tb-e:Nat):Int) e:=by
   rw [b8c hc,hh,he]
   simp only [b2O,b5l,List.append_assoc,Int.add_zero]
   rw [show (fa:Int)+((A.length:Int)-e)=((ta-e:Nat):Int) by omega,show (fb:Int)+((B.length:Int)-e)=((tb-e:Nat):Int) by omega]
  simp only [a59,a6e,a8h,b0m,c5r,true_and]
  refine hK f1 f2 p4 _ _ _ rfl rfl (by omega) hpn4 ?_ (by omega)
  rw [hA,hB,hfin]
  refine d51 (a0a.refl _) (a0a.refl _) (a0a.refl _) (a0a.refl _)
theorem d3r (N:Nat):a0i Tryz.prog 139 (b35 N):=by
 induction N with
 | zero=>exact d0y
 | succ N ih=>exact c9B N ih
end Go.Proofs.YthpjjjnbkfnghaaGreatDoor
set_option maxRecDepth 100000
set_option maxHeartbeats 2000000
namespace Go.Proofs.YthpjjjnbkfnghaaGreatDoor
open Go
attribute [local irreducible] AW a0e a1g a0a
def c3P (ks:List Int):Key->Option Value
 | .i n=>if n∈ks then some (.bool true) else none
 | .s _=>none
theorem d3q (ks:List Int) (n:Int):c3P ks (.i n)=if n∈ks then some (.bool true) else none:=rfl
theorem c01 (ks:List Int) (n:Int):a5S (c3P ks) (.i n) (.bool true)=c3P (ks++[n]):=by
 funext k
 cases k with
 | i m=>
   simp only [a5S,c3P]
   by_cases h:m=n
   ·subst h;simp
   ·rw [if_neg (fun e=>h (by injection e))];simp [h]
 | s x=>simp [a5S,c3P]
theorem c4K:c3P []=fun _=>none:=by
 funext k
 cases k<;>simp [c3P]
def a7v:a0s:=a0s.f2 (kL eI) (kL eI) (fun a b=>a.length<100000000/\b.length<100000000) (fun a b=>tu2 (sL eI (shI a b)) (sL eI (shQ a b)))
theorem c5s:a0d Tryz.prog 83 a7v:=by
 refine a0d.f2 Tryz.func83 rfl (by decide) Tryz.results83 Tryz.ntmps83 (by decide) fun a b ⟨ha,hb⟩=>?_
 have hΓ:GOK Tryz.prog (gam []):=GOK.nil
 refine AW.of hΓ mixed [] _ _ _ rfl ?_
 simp only [go_sem]
 refine AW.round (α:={ x:Nat×Nat // x.1<=b.length })
  (fun x=>⟨[(0,sL eI a),(6,.mp 0 0),(16,sL eI b),(17,.val (.int .i64 b.length)),(18,.val (.int .i64 x.1.1))],[(0,.mp 0 false x.1.2 (c3P (b.take x.1.1)))],46,1,1,[]⟩) (fun x=>b.length-x.1.1) ⟨(0,0),Nat.zero_le _⟩ ?_ ?_
 ·simp only [go_sem]
  exact a0a.of_eq (by rw [List.take_zero,c4K])
 ·rintro⟨⟨i,n⟩,hi⟩
  simp only at hi
  refine AW.of hΓ mixed [99999] _ _ _ rfl ?_
  simp only [go_sem]
  refine⟨fun hlt=>⟨by omega,by omega,⟨(i+1,if (c3P (b.take i) (Key.i (b.getD i 0))).isSome=true then n else n+1),by dsimp only;omega⟩,⟨by dsimp only;omega,a0a.of_eq (by rw [c01,<-a2e (by omega)])⟩,by dsimp only;omega⟩,fun hge=>?_⟩
  obtain rfl:i=b.length:=by omega
  rw [List.take_length]
  refine AW.adopt 9 3 1 (fun _ _=>.any) rfl ?_
  refine AW.adopt 10 3 1 (fun _ _=>.any) rfl ?_
  refine AW.round (α:={ x:Nat×Nat×Nat×Nat // x.1<=a.length })
   (fun x=>⟨[(6,.mp 0 0),(9,.ow 1 x.1.2.1 ((a.take x.1.1).filter fun y=>b.contains y).length),(10,.ow 2 x.1.2.2.1 (plc (fun y=>b.contains y) 0 (a.take x.1.1)).length),(25,sL eI a),(26,.val (.int .i64 a.length)),(27,.val (.int .i64 x.1.1))],
    [(0,.mp 0 false n (c3P b)),(1,a05 x.1.2.1 3 eI ((a.take x.1.1).filter fun y=>b.contains y)),(2,a05 x.1.2.2.1 3 eI (plc (fun y=>b.contains y) 0 (a.take x.1.1)))],46,3,x.1.2.2.2,[]⟩) (fun x=>a.length-x.1.1) ⟨(0,1,2,3),Nat.zero_le _⟩ ?_ ?_
  ·simp only [go_sem]
   exact⟨⟨rfl,rfl⟩,a0a.refl _,a8V (E:=eI) rfl,a8V (E:=eI) rfl⟩
  ·rintro⟨⟨j,v1,v2,nx⟩,hj⟩
   simp only at hj
   refine AW.of hΓ mixed [99999] _ _ _ rfl ?_
   simp only [go_sem,d3q]
   have l1:((a.take j).filter fun y=>b.contains y).length<=j:=Nat.le_trans (List.length_filter_le _ _) (by simp;omega)
   have l2:=a3T (fun y=>b.contains y) 0 (a.take j)
   refine⟨fun hlt=>⟨by omega,?_⟩,fun hge=>?_⟩
   ·have ht:a.take (j+1)=a.take j++[a.getD j 0]:=a2e (by omega)
    have hp:=b7I (fun y=>b.contains y) (a.getD j 0) 0 (a.take j)
    have hk:(0:Int)+((a.take j).length:Int)=j:=by simp;omega
    by_cases hm:a.getD j 0∈b
    ·have hc:b.contains (a.getD j 0)=true:=by simpa using hm
     have e1:((a.take (j+1)).filter fun y=>b.contains y)=((a.take j).filter fun y=>b.contains y)++[a.getD j 0]:=by
      rw [ht,List.filter_append,List.filter_cons_of_pos hc];rfl
     have e2:plc (fun y=>b.contains y) 0 (a.take (j+1))=plc (fun y=>b.contains y) 0 (a.take j)++[(j:Int)]:=by
      rw [ht,hp,if_pos hc,hk]
     rw [if_pos hm]
     simp only [go_sem,Option.getD_some]
     refine⟨by omega,by omega,by omega,⟨(j+1,nx,nx+1,nx+2),by dsimp only;omega⟩,⟨by dsimp only;omega,⟨⟨rfl,by dsimp only;rw [e1];simp⟩,⟨rfl,by dsimp only;rw [e2];simp⟩,by dsimp only;omega⟩,a0a.refl _,?_,?_⟩,by dsimp only;omega⟩
     ·exact a1B (E:=eI) rfl e1 rfl rfl rfl (fun _ _=>a0e.refl _)
     ·exact a1B (E:=eI) rfl e2 rfl rfl rfl (fun _ _=>a0e.refl _)
    ·have hc:¬b.contains (a.getD j 0)=true:=by simpa using hm
     have e1:((a.take (j+1)).filter fun y=>b.contains y)=((a.take j).filter fun y=>b.contains y):=by
      rw [ht,List.filter_append,List.filter_cons_of_neg hc];simp
     have e2:plc (fun y=>b.contains y) 0 (a.take (j+1))=plc (fun y=>b.contains y) 0 (a.take j):=by
      rw [ht,hp,if_neg hc];simp
     rw [if_neg hm]
     simp only [go_sem,Option.getD_none]
     refine⟨by omega,⟨(j+1,v1,v2,nx),by dsimp only;omega⟩,⟨Nat.le_refl _,⟨⟨rfl,by dsimp only;rw [e1]⟩,⟨rfl,by dsimp only;rw [e2]⟩,by dsimp only;omega⟩,a0a.refl _,by dsimp only;rw [e1];exact a0a.refl _,by dsimp only;rw [e2];exact a0a.refl _⟩,by dsimp only;omega⟩
   ·obtain rfl:j=a.length:=by omega
    rw [List.take_length]
    exact⟨a4H (E:=eI) (l:=shI a b) rfl rfl rfl,a4H (E:=eI) (l:=shQ a b) rfl rfl rfl⟩
end Go.Proofs.YthpjjjnbkfnghaaGreatDoor
set_option maxRecDepth 100000
set_option maxHeartbeats 2000000
namespace Go.Proofs.YthpjjjnbkfnghaaGreatDoor
open Go
attribute [local irreducible] AW a0e a1g a0a
def a8Z:a0L:=fun args hp top nx K=>∃ x l,args=[x]/\a0e x (sL eI l)/\l.length<1000000000/\∀ ver nx',nx<=ver->ver<nx'->K (.ow top ver l.length) (a0S hp top (a05 ver 3 eI l)) (top+1) nx'
theorem c4h:a0i Tryz.prog 185 a8Z:=by
 refine a0i.mk Tryz.func185 rfl (by decide) Tryz.results185 Tryz.ntmps185 ?_
 rintro args hp top nx K ⟨x,l,rfl,hx,hl,hK⟩
 have hΓ:GOK Tryz.prog (gam []):=GOK.nil
 refine⟨Nat.le_of_ble_eq_true rfl,?_⟩
 refine AW.le (a9c (.cons hx .nil)) ?_
 refine AW.of hΓ mixed [2,99999] _ _ _ rfl ?_
 simp only [go_sem]
 refine⟨fun h0=>?_,?_⟩
 ·refine AW.adopt 2 3 1 (fun i=>eI.enc (l.getD i 0)) rfl ?_
  refine AW.of hΓ mixed [] _ _ _ rfl ?_
  simp only [go_sem]
  obtain rfl:=List.length_eq_zero_iff.1 h0
  exact hK nx (nx+1) (Nat.le_refl _) (Nat.lt_succ_self _)
 ·exact⟨by omega,hK nx (nx+1) (Nat.le_refl _) (Nat.lt_succ_self _)⟩
def b1r:a0L:=fun args hp top nx K=>∃ l ver,args=[.ow 0 ver l.length]/\hp=rws [(0,a05 ver 3 eI l)]/\top=1/\l.length<1000000000/\
 ∀ hp' top' nx',a0a (hp' 0) (a05 ver 3 eI l.reverse)->nx<=nx'->K (.val (.tuple #[])) hp' top' nx'
theorem b5C:a0i Tryz.prog 186 b1r:=by
 refine a0i.mk Tryz.func186 rfl (by decide) Tryz.results186 Tryz.ntmps186 ?_
 rintro args hp top nx K ⟨l,ver,rfl,rfl,rfl,hl,hK⟩
 have hΓ:GOK Tryz.prog (gam []):=GOK.nil
 refine⟨Nat.le_of_ble_eq_true rfl,?_⟩
 refine AW.of hΓ mixed [200003] _ _ _ rfl ?_
 simp only [go_sem]
 refine⟨by omega,?_⟩
 refine AW.round (α:={ x:Nat×List Int // 2*x.1<=l.length+1/\x.2.length=l.length/\∀ k,k<l.length->x.2.getD k 0=if k<x.1\/l.length-1-x.1<k then l.getD (l.length-1-k) 0 else l.getD k 0 })
  (fun x=>⟨[(0,.ow 0 ver l.length),(2,.val (.int .i64 x.1.1)),(3,.val (.int .i64 ((l.length:Int)-1-x.1.1)))],[(0,a05 ver 3 eI x.1.2)],28,1,nx,[]⟩) (fun x=>l.length-x.1.1) ⟨(0,l),by simp,rfl,fun k hk=>by simp;omega⟩ ?_ ?_
 ·simp only [go_sem]
  exact⟨by omega,a0a.refl _⟩
 ·rintro⟨⟨i,m⟩,hi,hm,hk⟩
  simp only at hi hm hk
  refine AW.of hΓ mixed [200003,99999] _ _ _ rfl ?_
  simp only [go_sem]
  refine⟨fun hlt=>?_,fun hge=>?_⟩
  ·refine AW.drawT hΓ mixed 13 [] (by decide +kernel) ?_
   simp only [go_sem]
   have e1:((l.length:Int)-1-i).toNat=l.length-1-i:=by omega
   rw [e1]
   refine⟨by omega,by omega,by omega,by omega,by omega,by omega,by omega,by omega,by omega,by omega,⟨(i+1,(m.set i (m.getD (l.length-1-i) 0)).set (l.length-1-i) (m.getD i 0)),by dsimp only;omega,by simp [hm],fun k hk'=>?_⟩,⟨⟨by dsimp only;omega,by dsimp only;omega⟩,a0a.sl (by simp) fun k hk' j hj=>?_⟩,by dsimp only;omega⟩
   ·have h1:=hk i (by omega)
    have h2:=hk (l.length-1-i) (by omega)
    rw [if_neg (by omega)] at h1 h2
    dsimp only
    rw [h1,h2]
    by_cases c2:k=l.length-1-i
    ·subst c2
     rw [if_pos (by omega)]
     simp only [List.getD]
     rw [List.getElem?_set_self (by simp;omega),show l.length-1-(l.length-1-i)=i by omega]
     rfl
    ·by_cases c1:k=i
     ·subst c1
      rw [if_pos (by omega)]
      simp only [List.getD]
      rw [List.getElem?_set_ne (by omega),List.getElem?_set_self (by omega)]
      rfl
     ·have e2:((m.set i (l.getD (l.length-1-i) 0)).set (l.length-1-i) (l.getD i 0)).getD k 0=m.getD k 0:=by
       simp only [List.getD]
       rw [List.getElem?_set_ne (by omega),List.getElem?_set_ne (by omega)]
      rw [e2,hk k hk']
      by_cases c:k<i\/l.length-1-i<k
      ·rw [if_pos c,if_pos (by omega)]
      ·rw [if_neg c,if_neg (by omega)]
   ·exact c1u (E:=eI) (n:=m.length) (by simp;omega) (c1u (E:=eI) (n:=m.length) (by omega) (fun _ _ _ _=>a0e.refl _) (fun _ _=>a0e.refl _)) (fun _ _=>a0e.refl _) k hk' j hj
  ·have e:m=l.reverse:=by
    refine a1C 0 (by simp [hm]) fun k hk'=>?_
    rw [hk k (by omega)]
    simp only [List.getD]
    rw [List.getElem?_reverse (by omega)]
    by_cases c:k<i\/l.length-1-i<k
    ·rw [if_pos c]
    ·rw [if_neg c,show l.length-1-k=k by omega]
   exact hK _ _ _ (by rw [<-e];exact a0a.refl _) (Nat.le_refl _)
def a4f:a0L:=a1F b1r
theorem b84:a0i Tryz.prog 186 a4f:=b5C.frame
theorem b5W {l:List Int} {ver p n:Nat} {hp:Nat->Row} {top nx:Nat} {K:AV->(Nat->Row)->Nat->Nat->Prop} (hn:n=l.length) (h0:a0a (hp p) (a05 ver 3 eI l)) (ht:p<top) (hl:l.length<1000000000)
  (hK:∀ nx',nx<=nx'->K (.val (.tuple #[])) (a0S hp p (a05 ver 3 eI l.reverse)) top nx'):a4f [.ow p ver n] hp top nx K:=by
 subst hn
 have hv:=h0.vers
 refine⟨[p],[.ow 0 ver l.length],rws [(0,a05 ver 3 eI l)],by simp,by simpa using ht,.cons a0e.ow .nil,a8U h0,fun i hi=>a1Y (top:=1) (by simp) i (by simpa using hi),l,ver,rfl,rfl,rfl,hl,fun hp' top' nx' e1 e2=>?_⟩
 refine⟨_,_,a0e.refl _,fun k q hk=>?_,fun q hq=>?_,fun q hq u hu=>?_,hK nx' e2⟩
 ·cases k with
  | zero=>
    simp only [List.getElem?_cons_zero,Option.some.injEq] at hk
    subst hk
    rw [a0k]
    exact e1
  | succ k=>simp at hk
 ·rw [a0f _ _ (by simpa using hq)]
 ·simp only [List.mem_singleton] at hq
  subst hq
  rw [a0k] at hu
  exact .inl (hv.symm.trans hu)
def b5w:a0s:=a0s.f1 (kL eI) (fun l=>l.length<100000000) (fun l=>sL eI l.reverse)
theorem c5H:a0d Tryz.prog 138 b5w:=by
 refine a0d.f1 Tryz.func138 rfl (by decide) Tryz.results138 Tryz.ntmps138 (by decide) fun l hl=>?_
 have hΓ:GOK Tryz.prog (gam [(185,a8Z),(186,a4f)]):=(.cons c4h (.cons b84 .nil))
 refine AW.of hΓ mixed [1,99999] _ _ _ rfl ?_
 simp only [go_sem,a8Z,a4f]
 refine⟨_,l,rfl,a0e.refl _,by omega,fun ver nx' hv hv'=>?_⟩
 refine AW.of hΓ mixed [2,99999] _ _ _ rfl ?_
 simp only [go_sem,a8Z,a4f]
 refine b5W (l:=l) (p:=0) rfl (a0a.refl _) (by decide) (by omega) fun n2 hn2=>?_
 simp only [go_sem,a8Z,a4f]
 refine AW.of hΓ mixed [] _ _ _ rfl ?_
 simp only [go_sem,a8Z,a4f,List.length_reverse]
 exact a4H (E:=eI) rfl rfl (by simp)
theorem c1e {N:Nat} {a b f1 f2:List Int} {l:List (Int×Int)} {fv v1 v2 pv:Nat} {x y r s:Int} {hp:Nat->Row} {top nx:Nat} {K:AV->(Nat->Row)->Nat->Nat->Prop} {π:List Nat} {p0 p1 p2 p3:Nat} (hπ:π=[p0,p1,p2,p3]) (hnd:π.Nodup) (ht:∀ p∈π,p<top) (hx:x=0) (hy:y=a.length) (hr:r=0) (hs:s=b.length)
  (h0:a0a (hp p0) (rws (a3S a b fv v1 v2 pv f1 f2 l) 0)) (h1:a0a (hp p1) (rws (a3S a b fv v1 v2 pv f1 f2 l) 1)) (h2:a0a (hp p2) (rws (a3S a b fv v1 v2 pv f1 f2 l) 2)) (h3:a0a (hp p3) (rws (a3S a b fv v1 v2 pv f1 f2 l) 3)) (hpv:pv<nx)
  (ha:a.length<100000000) (hb:b.length<100000000) (hr1:a.length+b.length+3<=f1.length) (hr2:a.length+b.length+3<=f2.length) (hl1:f1.length<1000000000) (hl2:f2.length<1000000000)
  (hl:l.length+a.length<500000000) (hN:a.length+b.length<N)
  (hK:∀ g1 g2 pv' hp' nx',g1.length=f1.length->g2.length=f2.length->(pv'=pv\/nx<=pv')->pv'<nx'->nx<=nx'->hp' p0=rws (a3S a b fv v1 v2 pv' g1 g2 (l++a3g a b)) 0->hp' p3=rws (a3S a b fv v1 v2 pv' g1 g2 (l++a3g a b)) 3->(∀ i,¬i∈π->hp' i=hp i)->K (.val (.tuple #[])) hp' top nx') :
  b35 N [.pt p0 fv 0,.val (.int .i64 x),.val (.int .i64 y),.val (.int .i64 r),.val (.int .i64 s)] hp top nx K:=by
 subst hx hy hr hs hπ
 have w0:=h0.vers
 have w1:=h1.vers
 have w2:=h2.vers
 have w3:=h3.vers
 have hfin:shP ((0:Nat):Int) ((0:Nat):Int) (a3g (a1r a 0 a.length) (a1r b 0 b.length))=a3g a b:=by rw [b4B,b4B];exact d7K _
 have hmem:∀ q,q∈[p0,p1,p2,p3]↔q=p0\/q=p1\/q=p2\/q=p3:=fun q=>by simp
 have n01:p1≠p0:=fun e=>by simp [e] at hnd
 have n02:p2≠p0:=fun e=>by simp [e] at hnd
 have n03:p3≠p0:=fun e=>by simp [e] at hnd
 have n12:p2≠p1:=fun e=>by simp [e] at hnd
 have n13:p3≠p1:=fun e=>by simp [e] at hnd
 have n23:p3≠p2:=fun e=>by simp [e] at hnd
 refine⟨[p0,p1,p2,p3],[.pt 0 fv 0,kI.enc ((0:Nat):Int),kI.enc (a.length:Nat),kI.enc ((0:Nat):Int),kI.enc (b.length:Nat)],rws (a3S a b fv v1 v2 pv f1 f2 l),
  hnd,ht,.cons a0e.pt (.cons (a0e.refl _) (.cons (a0e.refl _) (.cons (a0e.refl _) (.cons (a0e.refl _) .nil)))),fun k q hk=>?_,fun k hk=>a1Y (top:=4) (by simp [a3S]) k (by simpa using hk),a,b,f1,f2,l,fv,v1,v2,pv,0,a.length,0,b.length,rfl,rfl,rfl,hpv,Nat.zero_le _,Nat.le_refl _,Nat.zero_le _,Nat.le_refl _,ha,hb,hr1,hr2,hl1,hl2,by omega,by omega,fun g1 g2 pv' hp' top' nx' e1 e2 e3 e4 e5 e6=>?_⟩
 ·match k,hk with
  | 0,hk=>obtain rfl:=Option.some.inj hk;exact h0
  | 1,hk=>obtain rfl:=Option.some.inj hk;exact h1
  | 2,hk=>obtain rfl:=Option.some.inj hk;exact h2
  | 3,hk=>obtain rfl:=Option.some.inj hk;exact h3
 rw [hfin] at e5
 refine⟨_,a0S (a0S (a0S (a0S hp p0 (rws (a3S a b fv v1 v2 pv' g1 g2 (l++a3g a b)) 0)) p1 (rws (a3S a b fv v1 v2 pv' g1 g2 (l++a3g a b)) 1)) p2 (rws (a3S a b fv v1 v2 pv' g1 g2 (l++a3g a b)) 2)) p3 (rws (a3S a b fv v1 v2 pv' g1 g2 (l++a3g a b)) 3),a0e.refl _,fun k q hk=>?_,fun q hq=>?_,fun q hq u hu=>?_,hK g1 g2 pv' _ nx' e1 e2 e3 e4 e6 ?_ ?_ fun q hq=>?_⟩
 ·match k,hk with
  | 0,hk=>obtain rfl:=Option.some.inj hk;rw [a0f _ _ n03.symm,a0f _ _ n02.symm,a0f _ _ n01.symm,a0k];exact e5 0 (by decide)
  | 1,hk=>obtain rfl:=Option.some.inj hk;rw [a0f _ _ n13.symm,a0f _ _ n12.symm,a0k];exact e5 1 (by decide)
  | 2,hk=>obtain rfl:=Option.some.inj hk;rw [a0f _ _ n23.symm,a0k];exact e5 2 (by decide)
  | 3,hk=>obtain rfl:=Option.some.inj hk;rw [a0k];exact e5 3 (by decide)
 ·rw [hmem] at hq
  simp only [not_or] at hq
  rw [a0f _ _ hq.2.2.2,a0f _ _ hq.2.2.1,a0f _ _ hq.2.1,a0f _ _ hq.1]
 ·rw [hmem] at hq
  rcases hq with rfl|rfl|rfl|rfl
  ·rw [a0f _ _ n03.symm,a0f _ _ n02.symm,a0f _ _ n01.symm,a0k] at hu;exact .inl (w0.symm.trans hu)
  ·rw [a0f _ _ n13.symm,a0f _ _ n12.symm,a0k] at hu;exact .inl (w1.symm.trans hu)
  ·rw [a0f _ _ n23.symm,a0k] at hu;exact .inl (w2.symm.trans hu)
  ·rw [a0k] at hu
   obtain rfl:pv'=u:=Option.some.inj hu
   rcases e3 with rfl|e3
   ·exact .inl w3.symm
   ·exact .inr e3
 ·rw [a0f _ _ n03.symm,a0f _ _ n02.symm,a0f _ _ n01.symm,a0k]
 ·rw [a0k]
 ·rw [hmem] at hq
  simp only [not_or] at hq
  rw [a0f _ _ hq.2.2.2,a0f _ _ hq.2.2.1,a0f _ _ hq.2.1,a0f _ _ hq.1]
def a7h:a0L:=fun args hp top nx K=>∃ x y a b,args=[x,y]/\a0e x (sL eI a)/\a0e y (sL eI b)/\hp=rws []/\top=0/\a.length<100000000/\b.length<100000000/\
 ∀ ver hp' nx',hp' 3=a05 ver 129 (eP eI eI) (a3g a b)->ver<nx'->nx<=nx'->(∀ i,4<=i->hp' i=.dead)->K (.ow 3 ver (a3g a b).length) hp' 4 nx'
theorem c4b:a0i Tryz.prog 84 a7h:=by
 refine a0i.mk Tryz.func84 rfl (by decide) Tryz.results84 Tryz.ntmps84 ?_
 rintro args hp top nx K ⟨x,y,a,b,rfl,hx,hy,rfl,rfl,ha,hb,hK⟩
 have hΓ:GOK Tryz.prog (gam [(138,b5w),(139,(Con.meth (b35 (a.length+b.length+1))))]):=.cons c5H (.cons (d3r _) .nil)
 refine⟨Nat.le_of_ble_eq_true rfl,?_⟩
 refine AW.le (a9c (.cons hx (.cons hy .nil))) ?_
 refine AW.of hΓ mixed [2,99999] _ _ _ rfl ?_
 simp only [go_sem,b5w]
 have eN:((a.length:Int)+b.length+3).toNat=a.length+b.length+3:=by omega
 rw [eN]
 refine⟨by omega,by omega,ha,hb,by omega,by omega,?_⟩
 refine AW.adoptB (q:=2) 6 129 2 (fun i=>(eP eI eI).enc (([]:List (Int×Int)).getD i (0,0))) rfl rfl ?_
 refine AW.of hΓ mixed [3,99999] _ _ _ rfl ?_
 simp only [go_sem]
 refine c1e (a:=a) (b:=b) (f1:=List.replicate (a.length+b.length+3) 0) (f2:=List.replicate (a.length+b.length+3) 0) (l:=[]) (fv:=nx+1+1) (v1:=nx) (v2:=nx+1) (pv:=nx+1+1+1) (π:=[2,0,1,3]) rfl (by decide) (by decide) rfl rfl rfl rfl ?_ ?_ ?_ ?_ (by omega) ha hb (by simp) (by simp) (by simp;omega) (by simp;omega) (by simp;omega) (by omega) ?_
 ·refine a0a.box fun j hj=>?_
  match j,hj with
  | 0,_=>exact a0e.refl _
  | 1,_=>exact a0e.refl _
  | 2,_=>exact a0e.refl _
  | 3,_=>exact a0e.refl _
  | 4,_=>show a0e (.ow 0 nx (a.length+b.length+3)) (.ow 1 nx (List.replicate (a.length+b.length+3) (0:Int)).length);rw [List.length_replicate];exact a0e.ow
  | 5,_=>show a0e (.ow 1 (nx+1) (a.length+b.length+3)) (.ow 2 (nx+1) (List.replicate (a.length+b.length+3) (0:Int)).length);rw [List.length_replicate];exact a0e.ow
  | 6,_=>exact a0e.refl _
 ·refine a0a.sl (by simp) fun i hi j hj=>a0e.of_eq ?_
  match j,hj with
  | 0,_=>simp [List.getD,List.getElem?_replicate,hi,zC];rfl
 ·refine a0a.sl (by simp) fun i hi j hj=>a0e.of_eq ?_
  match j,hj with
  | 0,_=>simp [List.getD,List.getElem?_replicate,hi,zC];rfl
 ·exact a0a.refl _
 intro g1 g2 pv' hp' nx' e1 e2 e3 e4 e5 e6 e7 e8
 have e6':hp' 2=.box (nx+1+1) 198 7 (fAV a b (.ow 1 nx g1.length) (.ow 2 (nx+1) g2.length) (.ow 3 pv' (a3g a b).length)):=e6
 simp only [go_sem]
 refine AW.of hΓ mixed [] _ _ _ rfl ?_
 simp only [go_sem,e6',b85]
 exact hK pv' hp' nx' e7 e4 (by omega) fun i hi=>(e8 i (by simp;omega)).trans (by
  rw [a0f _ _ (by omega),a0f _ _ (by omega),a0f _ _ (by omega),a0f _ _ (by omega),a0f _ _ (by omega)]
  rfl)
end Go.Proofs.YthpjjjnbkfnghaaGreatDoor
set_option maxRecDepth 100000
set_option maxHeartbeats 2000000
namespace Go.Proofs.YthpjjjnbkfnghaaGreatDoor
open Go
attribute [local irreducible] AW a0e a1g a0a
def a0W:a0s:=a0s.f2 (kL eI) (kL eI) (fun a b=>a.length<100000000/\b.length<100000000) (fun a b=>sL (eP eI eI) (a3N a b))
theorem c1r:a0d Tryz.prog 30 a0W:=by
 refine a0d.f2 Tryz.func30 rfl (by decide) Tryz.results30 Tryz.ntmps30 (by decide) fun a b ⟨ha,hb⟩=>?_
 have hΓ:GOK Tryz.prog (gam [(83,a7v),(84,a7h)]):=(.cons c5s (.cons c4b .nil))
 have hA:=a3T (fun y=>b.contains y) 0 a
 have hB:=a3T (fun y=>a.contains y) 0 b
 have hsp:=(a4X ((shI a b).length+(shI b a).length+1) (shI a b) (shI b a) (by omega)).1
 have hm:a3N a b=mapM (shQ a b) (shQ b a) (a3g (shI a b) (shI b a)):=rfl
 have lA:(shI a b).length<=a.length:=List.length_filter_le _ _
 have lB:(shI b a).length<=b.length:=List.length_filter_le _ _
 have lG:=a94 (shI a b) (shI b a)
 have lG2:=a5v (shI a b) (shI b a)
 refine AW.of hΓ mixed [3,99999] _ _ _ rfl ?_
 simp only [go_sem,a7v,a7h]
 refine⟨⟨ha,hb⟩,⟨hb,ha⟩,_,_,shI a b,shI b a,rfl,a0e.refl _,a0e.refl _,rfl,by omega,by omega,fun ver hp' nx' h1 h2 h3 h4=>?_⟩
 have eA:(shQ a b).length=(shI a b).length:=hA
 have eB:(shQ b a).length=(shI b a).length:=hB
 change isM (shI a b) (shI b a) (a3g (shI a b) (shI b a)) at hsp
 generalize hG:a3g (shI a b) (shI b a)=G at *
 refine AW.cut ⟨[(6,sL eI (shQ a b)),(8,sL eI (shQ b a)),(9,.ow 3 ver G.length)],[(3,a05 ver 129 (eP eI eI) G)],50,4,nx',[]⟩ ?_ ?_
 ·simp only [go_sem,h1]
  exact a0a.refl _
 generalize hqa:shQ a b=qa at *
 generalize hqb:shQ b a=qb at *
 refine AW.of hΓ mixed [] _ _ _ rfl ?_
 simp only [go_sem,a7v,a7h]
 refine AW.round (α:={ x:Nat×Nat // x.1<=G.length })
  (fun x=>⟨[(6,sL eI qa),(8,sL eI qb),(9,.ow 3 ver G.length),(27,.ow 3 ver G.length),(28,.val (.int .i64 G.length)),(29,.val (.int .i64 x.1.1))],[(3,a05 ver 129 (eP eI eI) (mapM qa qb (G.take x.1.1)++G.drop x.1.1))],50,4,x.1.2,[]⟩) (fun x=>G.length-x.1.1) ⟨(0,nx'),Nat.zero_le _⟩ ?_ ?_
 ·simp only [go_sem,a7v,a7h]
  exact a0a.of_eq (by simp [mapM])
 ·rintro⟨⟨i,nx⟩,hi⟩
  simp only at hi
  have hmap:(mapM qa qb (G.take i)).length=i:=by simp only [mapM,List.length_map,List.length_take];omega
  refine AW.of hΓ mixed [6,99999] _ _ _ rfl ?_
  simp only [go_sem,a7v,a7h,a6Z]
  refine⟨fun hlt=>?_,fun hge=>?_⟩
  ·have hel:(mapM qa qb (G.take i)++G.drop i).getD i (0,0)=G.getD i (0,0):=by
    simp only [List.getD]
    rw [List.getElem?_append_right (by omega),List.getElem?_drop,hmap]
    congr 2
    omega
   obtain⟨u,v,huv⟩:∃ u v,G.getD i (0,0)=(u,v):=⟨_,_,rfl⟩
   have hin:=hsp.2 (G.getD i (0,0)) (by rw [a1e _ _ (by omega)];exact List.getElem_mem _)
   rw [huv] at hin
   unfold inM at hin
   simp only at hin
   refine⟨by omega,by omega,?_⟩
   refine AW.cut ⟨[(6,sL eI qa),(8,sL eI qb),(9,.ow 3 ver G.length),(10,.val (.int .i64 i)),(11,.pt 4 nx 0),(27,.ow 3 ver G.length),(28,.val (.int .i64 G.length)),(29,.val (.int .i64 i))],
    [(3,a05 ver 129 (eP eI eI) (mapM qa qb (G.take i)++G.drop i)),(4,.box nx 129 2 fun j=>if j=0 then .val (.int .i64 u) else .val (.int .i64 v))],50,5,nx+1,[]⟩ ?_ ?_
   ·simp only [go_sem]
    refine⟨a0a.refl _,a0a.box fun j hj=>a0e.of_eq ?_⟩
    match j,hj with
    | 0,_=>show (eP eI eI).enc ((mapM qa qb (G.take i)++G.drop i).getD i (0,0)) 0=_;rw [hel,huv];rfl
    | 1,_=>show (eP eI eI).enc ((mapM qa qb (G.take i)++G.drop i).getD i (0,0)) 1=_;rw [hel,huv];rfl
   ·refine AW.of hΓ mixed [] _ _ _ rfl ?_
    simp only [go_sem,a7v,a7h,a6Z]
    have hset:mapM qa qb (G.take (i+1))++G.drop (i+1)=(mapM qa qb (G.take i)++G.drop i).set i (qa.getD u.toNat 0,qb.getD v.toNat 0):=by
     have hi':i<G.length:=by omega
     have hgi:G[i]=(u,v):=by rw [<-huv,a1e _ _ hi']
     rw [List.set_append_right _ _ (by omega),hmap,Nat.sub_self,List.drop_eq_getElem_cons hi',List.set_cons_zero,List.take_succ_eq_append_getElem hi',hgi]
     simp only [mapM,List.map_append,List.map_cons,List.map_nil,List.append_assoc,List.singleton_append]
    refine⟨by omega,by omega,by omega,by omega,by omega,⟨(i+1,nx+1),by dsimp only;omega⟩,⟨Nat.le_refl _,rfl,?_⟩,by dsimp only;omega⟩
    refine b2L (E:=eP eI eI) rfl hset (by simp) (by simp) fun j hj=>?_
    match j,hj with
    | 0,_=>exact a0e.refl _
    | 1,_=>exact a0e.refl _
  ·obtain rfl:i=G.length:=by omega
   rw [List.take_length,List.drop_length,List.append_nil,hm]
   first
    | exact⟨⟨by simp [mapM],fun i hi=>⟨rfl,rfl⟩⟩,a4H (E:=eP eI eI) rfl rfl (by simp [mapM])⟩
    | exact⟨by simp [mapM],a4H (E:=eP eI eI) rfl rfl (by simp [mapM])⟩
end Go.Proofs.YthpjjjnbkfnghaaGreatDoor
namespace Go.Proofs.YthpjjjnbkfnghaaGreatDoor
open Go
theorem a0e.ps {m:Nat} {c d:Nat->AV} (h:∀ j,j<m->a0e (c j) (d j)):a0e (.ps m c) (.ps m d):=by
 rintro w η L v ⟨g,o,hv,hl,hc⟩
 refine⟨g,o,hv,hl,fun j hj=>?_⟩
 obtain⟨u,hu,h1,hr⟩:=hc j hj
 exact⟨u,hu,h1,h j hj _ _ _ _ hr⟩
end Go.Proofs.YthpjjjnbkfnghaaGreatDoor
set_option maxRecDepth 100000
set_option maxHeartbeats 4000000
namespace Go.Proofs.YthpjjjnbkfnghaaGreatDoor
open Go
attribute [local irreducible] AW a0e a1g a0a
@[go_sem] theorem d2k:a7i (.slice none 0 0)=.em:=rfl
def a5w:a0s:=a0s.f2 (kL eS) (kL eS) (fun a b=>a.length<=10000000/\b.length<=10000000) (fun a b=>sL (eP eI eI) (a6z a b))
theorem c6e:a0d Tryz.prog 97 a5w:=by
 refine a0d.f2 Tryz.func97 rfl (by decide) Tryz.results97 Tryz.ntmps97 (by decide) fun a b ⟨ha,hb⟩=>?_
 have hΓ:GOK Tryz.prog (gam [(27,a0u),(30,a0W)]):=(.cons b3e (.cons c1r .nil))
 have n0:=a8r a b
 have n1:=a9u a b
 have n2:(a2x [] [a,b]).length=2:=rfl
 unfold a6z
 unfold b1f b1g at *
 refine AW.of hΓ mixed [] _ _ _ rfl ?_
 simp only [go_sem,a0u,a0W]
 exact⟨⟨by omega,by omega⟩,by omega,by omega,by omega,by omega⟩
abbrev Op:=(BS×BS×BS)×Int×Int×Int
abbrev eOp:El Op:=eP eLb (eP eI (eP eI eI))
def b0a (o:Op):Int:=if a2l o.1=false then 3 else if o.2.2.1<7\/64<o.2.2.1 then 4 else if (a8v o.2.1&&a8N o.2.2.2)=false then 5 else 0
def a5J:a0s:=a0s.f1 (kA eOp) (fun o=>lbN o.1<=3000) (fun o=>kI.enc (b0a o))
theorem c6L:a0d Tryz.prog 96 a5J:=by
 refine a0d.f1 Tryz.func96 rfl (by decide) Tryz.results96 Tryz.ntmps96 (by decide) fun o ho=>?_
 have hΓ:GOK Tryz.prog (gam [(150,a2h),(100,a8w)]):=(.cons b3q (.cons c7P .nil))
 obtain⟨⟨l1,l2,l3⟩,st,w,v⟩:=o
 unfold lbN at ho
 dsimp only at ho
 refine AW.of hΓ mixed [0] _ _ _ rfl ?_
 simp only [go_sem,a2h,a8w]
 refine AW.still 1 0 0 75 6 _ rfl rfl (fun j hj=>match j,hj with|0,_=>rfl|1,_=>rfl|2,_=>rfl|3,_=>rfl|4,_=>rfl|5,_=>rfl) ?_
 cases hp:a2l (l1,l2,l3) with
 | false=>
   have e:b0a ((l1,l2,l3),st,w,v)=3:=by unfold b0a;rw [if_pos hp]
   unfold a2l at hp
   dsimp only at hp
   rw [e]
   refine AW.of hΓ mixed [99999] _ _ _ rfl ?_
   simp only [go_sem,a2h,a8w,hp]
   exact⟨by omega,by omega,by omega⟩
 | true=>
   have hd:b9k ([],[],[]) [] st (l1,l2,l3) v=([],if (a8v st&&a8N v)=false then 5 else 0):=by
    unfold b9k
    by_cases h:(a8v st&&a8N v)=false
    ·rw [if_pos h,if_pos h]
    ·rw [if_neg h,if_neg h,if_neg (by rw [hp];simp)]
     rfl
   have e:b0a ((l1,l2,l3),st,w,v)=if w<7\/64<w then 4 else if (a8v st&&a8N v)=false then 5 else 0:=by unfold b0a;rw [if_neg (by rw [hp];simp)]
   rw [e]
   unfold a2l at hp
   dsimp only at hp
   refine AW.of hΓ mixed [99999] _ _ _ rfl ?_
   simp only [go_sem,a2h,a8w,hp,hd]
   refine⟨⟨by omega,by omega,by omega⟩,fun h=>by simp [h],fun h=>?_,fun h=>⟨⟨⟨by unfold c69;simp,by simp [a3X]⟩,by unfold d7Z;dsimp only;omega⟩,?_⟩⟩
   ·simp only [Bool.or_eq_true,decide_eq_true_eq] at h
    rw [if_pos h]
   ·simp only [Bool.or_eq_false_iff,decide_eq_false_iff_not] at h
    rw [if_neg (show ¬(w<7\/64<w) by omega)]
def lb3 (o:Op):BS×BS×BS:=o.1
abbrev Rt:=List Pt×List (Int×Int)×List (Int×Int)×List Ck×BS×Int×Int
abbrev eRt:El Rt:=eP (eL ePt) (eP (eL (eP eI eI)) (eP (eL (eP eI eI)) (eP (eL eCk) (eP eS (eP eI eI)))))
def rt0:Rt:=([],[],[],[],[],0,0)
def d1w (a b c:BS) (w st:Int) (lb:BS×BS×BS) (v:Int):Rt:=
 (a7x a b c st lb v,a6z (a0b a) (a0b b),a6z (a0b a) (a0b c),a5T (a04 a b c),a1z (a6Y w a b c) (a7x a b c st lb v),a6Y w a b c,(b4K (a04 a b c) (a5T (a04 a b c)):Int))
def b4b (a b c:BS) (o:Op):Rt:=if b0a o=0 then d1w a b c o.2.2.1 o.2.1 o.1 o.2.2.2 else rt0
def a5a:a0s:=a0s.f4 kS kS kS (kA eOp) (fun a b c o=>okM a b c/\lbN o.1<=3000) (fun a b c o=>tu2 ((kA eRt).enc (b4b a b c o)) (kI.enc (b0a o)))
theorem c5D {o:Op} (h:b0a o=0):a2l o.1=true/\(7<=o.2.2.1/\o.2.2.1<=64)/\(a8v o.2.1&&a8N o.2.2.2)=true:=by
 unfold b0a at h
 split at h
 ·omega
 ·rename_i h1
  split at h
  ·omega
  ·rename_i h2
   split at h
   ·omega
   ·rename_i h3
    exact⟨by simpa using h1,by omega,by simpa using h3⟩
theorem d1O {c:Nat->AV} {d:List Pt} {l r:List (Int×Int)} {k:List Ck} {t:BS} {w n:Int} (h0:a0e (c 0) (sL ePt d)) (h1:a0e (c 1) (sL (eP eI eI) l)) (h2:a0e (c 2) (sL (eP eI eI) r)) (h3:a0e (c 3) (sL eCk k)) (h4:c 4=.st t) (h5:c 5=.val (.int .i64 w)) (h6:c 6=.val (.int .i64 n)):a0e (.ag 7 c) (.ag 7 (eRt.enc (d,l,r,k,t,w,n))):=
 a0e.ag fun j hj=>match j,hj with
  | 0,_=>h0
  | 1,_=>h1
  | 2,_=>h2
  | 3,_=>h3
  | 4,_=>a0e.of_eq h4
  | 5,_=>a0e.of_eq h5
  | 6,_=>a0e.of_eq h6
theorem c7S {ver ety:Nat} {c:Nat->AV} {d:List Pt} {l r:List (Int×Int)} {k:List Ck} {t:BS} {w n:Int} (h0:a0e (c 0) (sL ePt d)) (h1:a0e (c 1) (sL (eP eI eI) l)) (h2:a0e (c 2) (sL (eP eI eI) r)) (h3:a0e (c 3) (sL eCk k)) (h4:c 4=.st t) (h5:c 5=.val (.int .i64 w)) (h6:c 6=.val (.int .i64 n)):a0a (.box ver ety 7 c) (.box ver ety 7 (eRt.enc (d,l,r,k,t,w,n))):=
 a0a.box fun j hj=>match j,hj with
  | 0,_=>h0
  | 1,_=>h1
  | 2,_=>h2
  | 3,_=>h3
  | 4,_=>a0e.of_eq h4
  | 5,_=>a0e.of_eq h5
  | 6,_=>a0e.of_eq h6
theorem c9I:a0d Tryz.prog 40 a5a:=by
 refine a0d.f4 Tryz.func40 rfl (by decide) Tryz.results40 Tryz.ntmps40 (by decide) fun a b c o ⟨hM,hl⟩=>?_
 have hΓ:GOK Tryz.prog (gam [(96,a5J),(26,a0v),(97,a5w),(98,a5i),(99,c5q),(100,a8w),(75,a1s),(101,a5l)]):=(.cons c6L (.cons b23 (.cons c6e (.cons c39 (.cons d7G (.cons c7P (.cons b6E (.cons c4c .nil))))))))
 obtain⟨h1,h2,h3⟩:=c02 hM
 by_cases he:b0a o=0
 ·obtain⟨p1,p2,p3⟩:=c5D he
  have e:b4b a b c o=d1w a b c o.2.2.1 o.2.1 o.1 o.2.2.2:=by unfold b4b;rw [if_pos he]
  have hF:=a8n (a:=a) (b:=b) (c:=c) hM p2 o.2.1 hl p1 o.2.2.2
  rw [e,he]
  obtain⟨⟨l1,l2,l3⟩,st,w,v⟩:=o
  dsimp only at p1 p2 p3 hF hl
  refine AW.of hΓ mixed [0,200007] _ _ _ rfl ?_
  simp only [go_sem,a5J,a0v,a5w,a5i,c5q,a8w,a1s,a5l]
  refine AW.still 7 0 0 75 6 _ rfl rfl (fun j hj=>match j,hj with|0,_=>rfl|1,_=>rfl|2,_=>rfl|3,_=>rfl|4,_=>rfl|5,_=>rfl) ?_
  refine AW.of hΓ mixed [6,200007] _ _ _ rfl ?_
  simp only [go_sem,a5J,a0v,a5w,a5i,c5q,a8w,a1s,a5l,he]
  refine⟨⟨by omega,by omega⟩,⟨by omega,by omega⟩,fun h=>absurd h (by omega),fun _=>⟨hl,by omega,by omega,by omega,?_⟩⟩
  refine AW.still 11 2 2 150 3 _ rfl rfl (fun j hj=>match j,hj with|0,_=>rfl|1,_=>rfl|2,_=>rfl) ?_
  refine AW.fork ?_
  refine AW.drawZ hΓ mixed 19 [] [] [] (by kernel_rfl) ?_
  simp only [go_sem,a5J,a0v,a5w,a5i,c5q,a8w,a1s,a5l,a7J]
  have la:=a0M a
  have lb:=a0M b
  have lc:=a0M c
  refine⟨⟨by omega,by omega⟩,⟨by omega,by omega⟩,⟨by omega,by omega,by omega⟩,?_⟩
  refine AW.cut ⟨[(7,.ps 6 (eOp.enc ((l1,l2,l3),st,w,v))),(8,.pt 1 1 0),(11,.ps 3 (eFl.enc (a0b a,a0b b,a0b c))),(12,.pt 3 3 0)],[(1,.box 1 48 7 (eRt.enc rt0)),(3,.box 3 48 7 (eRt.enc ([],a6z (a0b a) (a0b b),a6z (a0b a) (a0b c),[],[],a6Y w a b c,0)))],114,4,4,[]⟩ ?_ ?_
  ·simp only [go_sem,a5J,a0v,a5w,a5i,c5q,a8w,a1s,a5l]
   exact⟨a0e.ps fun j hj=>a0e.of_eq (match j,hj with|0,_=>rfl|1,_=>rfl|2,_=>rfl),c7S (a3Q _) (a3Q _) (a3Q _) (a3Q _) rfl rfl rfl,c7S (a3Q _) (a0e.refl _) (a0e.refl _) (a3Q _) rfl rfl rfl⟩
  have hfit:c1h (a0b a).length (a0b b).length (a0b c).length (a6z (a0b a) (a0b b)) (a6z (a0b a) (a0b c))=true:=b3r (b0S (a04 a b c)).1
  have hK:ofK (((a0b a).length:Int),((a0b b).length:Int),((a0b c).length:Int)) (a3D (a6z (a0b a) (a0b b)) (a6z (a0b a) (a0b c))) [] (0,0,0)=a5T (a04 a b c):=rfl
  have hdoc:b9k (a0b a,a0b b,a0b c) (a5T (a04 a b c)) st (l1,l2,l3) v=(a7x a b c st (l1,l2,l3) v,0):=c91 p3 p1
  have hpr:=b74 hF
  have hok:=hF.ok
  have hlen:=hF.len
  have hsum:=hF.sum
  have hdl:=hF.dlen
  have hpL:=hF.pr
  have hps:=b7K (Nat.le_trans hF.sump (by decide))
  have hcn:=b9C (a04 a b c) (a5T (a04 a b c))
  have p1:=b2e (a0b a) (a0b b)
  have p2:=b2e (a0b a) (a0b c)
  unfold d1w
  unfold a04 at *
  generalize a7x a b c st (l1,l2,l3) v=D at *
  generalize a6Y w a b c=W at *
  generalize hKe:a5T (a0b a,a0b b,a0b c)=K at *
  generalize a6z (a0b a) (a0b b)=lp at *
  generalize a6z (a0b a) (a0b c)=rp at *
  generalize a0b a=x at *
  generalize a0b b=y at *
  generalize a0b c=z at *
  refine AW.of hΓ mixed [99999] _ _ _ rfl ?_
  simp only [go_sem,a5J,a0v,a5w,a5i,c5q,a8w,a1s,a5l,hfit,hK,hdoc,hpr]
  unfold lbN at hl
  exact⟨⟨by omega,by omega,by omega,by omega,by omega⟩,⟨⟨hok,by omega,hsum⟩,by unfold d7Z;dsimp only at *;omega⟩,⟨⟨by omega,hps⟩,fun _=>hpL⟩,⟨hok,by omega⟩,d1O (a0e.refl _) (a0e.refl _) (a0e.refl _) (a0e.refl _) rfl rfl rfl⟩
 ·have e:b4b a b c o=rt0:=by unfold b4b;rw [if_neg he]
  rw [e]
  obtain⟨⟨l1,l2,l3⟩,st,w,v⟩:=o
  refine AW.of hΓ mixed [0] _ _ _ rfl ?_
  simp only [go_sem,a5J,a0v,a5w,a5i,c5q,a8w,a1s,a5l]
  refine AW.still 7 0 0 75 6 _ rfl rfl (fun j hj=>match j,hj with|0,_=>rfl|1,_=>rfl|2,_=>rfl|3,_=>rfl|4,_=>rfl|5,_=>rfl) ?_
  refine AW.of hΓ mixed [99999] _ _ _ rfl ?_
  simp only [go_sem,a5J,a0v,a5w,a5i,c5q,a8w,a1s,a5l,he]
  exact⟨⟨by omega,by omega⟩,⟨by omega,by omega⟩,fun h=>absurd h (by omega),fun _=>⟨hl,d1O (a3Q _) (a3Q _) (a3Q _) (a3Q _) rfl rfl rfl⟩⟩
end Go.Proofs.YthpjjjnbkfnghaaGreatDoor
set_option maxRecDepth 100000
set_option maxHeartbeats 4000000
namespace Go.Proofs.YthpjjjnbkfnghaaGreatDoor
open Go
attribute [local irreducible] AW a0e a1g a0a
theorem d7m {c:Nat->AV} {l1 l2 l3:BS} {a b d:Int} (h0:c 0=.st l1) (h1:c 1=.st l2) (h2:c 2=.st l3) (h3:c 3=.val (.int .i64 a)) (h4:c 4=.val (.int .i64 b)) (h5:c 5=.val (.int .i64 d)):a0e (.ag 6 c) (.ag 6 (eOp.enc ((l1,l2,l3),a,b,d))):=
 a0e.ag fun j hj=>a0e.of_eq (match j,hj with
  | 0,_=>h0
  | 1,_=>h1
  | 2,_=>h2
  | 3,_=>h3
  | 4,_=>h4
  | 5,_=>h5)
def a7R:a0s:=a0s.f0 ((kA eOp).enc (([],[],[]),0,7,0))
theorem b8e:a0d Tryz.prog 54 a7R:=by
 refine a0d.f0 Tryz.func54 rfl (by decide) Tryz.results54 Tryz.ntmps54 ?_
 have hΓ:GOK Tryz.prog (gam []):=GOK.nil
 refine AW.of hΓ mixed [] _ _ _ rfl ?_
 simp only [go_sem]
 exact d7m rfl rfl rfl rfl rfl rfl
end Go.Proofs.YthpjjjnbkfnghaaGreatDoor
set_option maxRecDepth 100000
set_option maxHeartbeats 8000000
namespace Go.Proofs.YthpjjjnbkfnghaaGreatDoor
open Go
abbrev Mg:=List Pt×BS×Int×List Ck
abbrev eMg:El Mg:=eP (eL ePt) (eP eS (eP eI (eL eCk)))
abbrev Ss:=(BS×BS×BS)×Op×Option Mg
def shC (p1 p2 p3 p4 v1 v2 v3 v4:Nat) (x:Ss):Nat->AV:=fun j=>
 if j=0 then .ow p1 v1 x.1.1.length else if j=1 then .ow p2 v2 x.1.2.1.length else if j=2 then .ow p3 v3 x.1.2.2.length else if j<9 then eOp.enc x.2.1 (j-3) else if x.2.2.isSome=true then .pt p4 v4 0 else .val (.pointer none)
def mgR (v:Nat):Option Mg->Row
 | none=>.dead
 | some m=>.box v 173 4 (eMg.enc m)
section
variable (p1 p2 p3 p4 v1 v2 v3 v4:Nat) (x:Ss)
@[go_sem] theorem e19:shC p1 p2 p3 p4 v1 v2 v3 v4 x 0=.ow p1 v1 x.1.1.length:=rfl
@[go_sem] theorem e17:shC p1 p2 p3 p4 v1 v2 v3 v4 x 1=.ow p2 v2 x.1.2.1.length:=rfl
@[go_sem] theorem e13:shC p1 p2 p3 p4 v1 v2 v3 v4 x 2=.ow p3 v3 x.1.2.2.length:=rfl
@[go_sem] theorem e14:shC p1 p2 p3 p4 v1 v2 v3 v4 x 3=.st x.2.1.1.1:=rfl
@[go_sem] theorem e2g:shC p1 p2 p3 p4 v1 v2 v3 v4 x 4=.st x.2.1.1.2.1:=rfl
@[go_sem] theorem e1W:shC p1 p2 p3 p4 v1 v2 v3 v4 x 5=.st x.2.1.1.2.2:=rfl
@[go_sem] theorem e10:shC p1 p2 p3 p4 v1 v2 v3 v4 x 6=.val (.int .i64 x.2.1.2.1):=rfl
@[go_sem] theorem e2c:shC p1 p2 p3 p4 v1 v2 v3 v4 x 7=.val (.int .i64 x.2.1.2.2.1):=rfl
@[go_sem] theorem e2b:shC p1 p2 p3 p4 v1 v2 v3 v4 x 8=.val (.int .i64 x.2.1.2.2.2):=rfl
theorem b9t:shC p1 p2 p3 p4 v1 v2 v3 v4 x 9=if x.2.2.isSome=true then .pt p4 v4 0 else .val (.pointer none):=rfl
end
theorem d2H (p1 p2 p3 p4 q1 q2 q3 q4 v v1 v2 v3 v4:Nat) (x:Ss):a0a (.box v 106 10 (shC p1 p2 p3 p4 v1 v2 v3 v4 x)) (.box v 106 10 (shC q1 q2 q3 q4 v1 v2 v3 v4 x)):=a0a.box fun j hj=>by
 unfold shC
 repeat' split
 all_goals first|exact a0e.ow|exact a0e.pt|exact a0e.refl _
theorem a0a.less {ver ety sz n n':Nat} {c d:Nat->Nat->AV} (hn:n'<=n) (h:∀ i,i<n'->∀ j,j<sz->a0e (c i j) (d i j)):a0a (.sl ver ety sz n c) (.sl ver ety sz n' d):=by
 refine⟨rfl,fun w η L hr g cap he=>?_⟩
 have:=hr g cap he
 cases g with
 | none=>
   have:n=0:=this
   show n'=0
   omega
 | some b=>
   obtain⟨cur,hh,hs,hn',hm,hc⟩:=this
   refine⟨cur,hh,hs,by omega,hm,fun i hi j hj=>?_⟩
   obtain⟨u,hu,h1,hrep⟩:=hc i (by omega) j hj
   exact⟨u,hu,h1,h i hi j hj _ _ _ _ hrep⟩
theorem b2H {u:Nat} {l:List UInt8} (k:Nat):a0a (a0m u l) (a0m u (l.take k)):=by
 refine a0a.less (by rw [List.length_take];omega) fun i hi j hj=>a0e.of_eq ?_
 unfold a2j
 rw [List.length_take] at hi
 rw [show (l.take k).getD i 0=l.getD i 0 by simp [List.getD,List.getElem?_take,show i<k by omega]]
def sSh (R:List AV->Ss->AV->Ss->Prop):a0L:=fun args hp top nx K=>∃ (v v1 v2 v3 v4:Nat) (xs:List AV) (a:Ss) (r:AV) (b:Ss),args=.pt 0 v 0::xs/\R xs a r b/\
 hp=rws [(0,.box v 106 10 (shC 1 2 3 4 v1 v2 v3 v4 a)),(1,a0m v1 a.1.1),(2,a0m v2 a.1.2.1),(3,a0m v3 a.1.2.2),(4,mgR v4 a.2.2)]/\top=5/\
 ∀ u1 u2 u3 u4 nx',(u1=v1\/nx<=u1)->(u2=v2\/nx<=u2)->(u3=v3\/nx<=u3)->((a.2.2.isSome=true/\u4=v4)\/nx<=u4)->nx<=nx'->
  K r (rws [(0,.box v 106 10 (shC 1 2 3 4 u1 u2 u3 u4 b)),(1,a0m u1 b.1.1),(2,a0m u2 b.1.2.1),(3,a0m u3 b.1.2.2),(4,mgR u4 b.2.2)]) 5 nx'
theorem d3P {hp:Nat->Row} {p q s t u:Nat} {a b c d e:Row} (h:a0a (hp p) a) (h2:a0a (hp q) b) (h3:a0a (hp s) c) (h4:a0a (hp t) d) (h5:a0a (hp u) e):∀ (i o:Nat),[p,q,s,t,u][i]?=some o->a0a (hp o) (rws [(0,a),(1,b),(2,c),(3,d),(4,e)] i):=by
 intro i o hq
 match i with
 | 0=>simp only [List.getElem?_cons_zero,Option.some.injEq] at hq;subst hq;exact h
 | 1=>simp only [List.getElem?_cons_succ,List.getElem?_cons_zero,Option.some.injEq] at hq;subst hq;exact h2
 | 2=>simp only [List.getElem?_cons_succ,List.getElem?_cons_zero,Option.some.injEq] at hq;subst hq;exact h3
 | 3=>simp only [List.getElem?_cons_succ,List.getElem?_cons_zero,Option.some.injEq] at hq;subst hq;exact h4
 | 4=>simp only [List.getElem?_cons_succ,List.getElem?_cons_zero,Option.some.injEq] at hq;subst hq;exact h5
 | i+5=>simp at hq
theorem d22 {v:Nat} {o:Option Mg} {w:Nat} (h:(mgR v o).ver=some w):o.isSome=true/\w=v:=by
 cases o with
 | none=>cases h
 | some m=>exact⟨rfl,(Option.some.inj (show some v=some w from h)).symm⟩
end Go.Proofs.YthpjjjnbkfnghaaGreatDoor
set_option maxRecDepth 100000
set_option maxHeartbeats 8000000
namespace Go.Proofs.YthpjjjnbkfnghaaGreatDoor
open Go
attribute [local irreducible] AW a0e a1g a0a a6E
noncomputable def a1Z:a0s:=a0s.f1 kS (fun _=>True) (fun w=>kI.enc (a8R w))
theorem b9J:a0d Tryz.prog 24 a1Z:=by
 refine a0d.f1 Tryz.func24 rfl (by decide) Tryz.results24 Tryz.ntmps24 (by decide) fun w _=>?_
 have hΓ:GOK Tryz.prog (gam [(39,a6j)]):=(.cons c4C .nil)
 by_cases hs1:w.length<1
 ·have hI1:((w.length:Int)<1)=True:=eq_true (by omega)
  rw [b1R (.inl hs1)]
  refine AW.of hΓ mixed [99999] _ _ _ rfl ?_
  simp only [go_sem,a6j,hI1]
 by_cases hs2:7<w.length
 ·have hI1:((w.length:Int)<1)=False:=eq_false (by omega)
  have hI2:(7<(w.length:Int))=True:=eq_true (by omega)
  rw [b1R (.inr hs2)]
  refine AW.of hΓ mixed [99999] _ _ _ rfl ?_
  simp only [go_sem,a6j,hI1,hI2]
 ·have hI1:((w.length:Int)<1)=False:=eq_false (by omega)
  have hI2:(7<(w.length:Int))=False:=eq_false (by omega)
  generalize hg:a8R w=r
  refine AW.of hΓ mixed [] _ _ _ rfl ?_
  simp only [go_sem,a6j,hI1,hI2]
  refine AW.round (α:={ i:Nat // i<=w.length/\∀ c∈w.take i,48<=c.toNat/\c.toNat<=57 }) (fun i=>⟨[(0,.st w),(3,.val (.int .i64 (a96 (w.take i.1) 0))),(4,.val (.int .i64 i.1))],[],46,0,0,[]⟩) (fun i=>w.length-i.1) ⟨0,Nat.zero_le _,by simp⟩ ?_ ?_
  ·simp only [go_sem,a6j]
   rfl
  ·rintro⟨i,hi,hd⟩
   have hv:a96 (w.take i) 0<10 ^ (0+(w.take i).length):=c0D _ 0 0 hd (by decide)
   have hv2:a96 (w.take i) 0<100000000:=Nat.lt_of_lt_of_le hv (Nat.le_trans (Nat.pow_le_pow_right (by decide) (by rw [List.length_take];omega:0+(w.take i).length<=8)) (by decide))
   rcases Nat.lt_or_ge i w.length with hlt|hge
   ·have hlI:((i:Int)<(w.length:Nat))=True:=eq_true (by omega)
    have hm:w.getD i 0∈w:=by rw [a1e _ _ hlt];exact List.getElem_mem ..
    have hw:48<=(w.getD i 0).toNat->(w.getD i 0).toNat<=57->IntKind.u8.wrap (((w.getD i 0).toNat:Int)-48)=(((w.getD i 0).toNat-48:Nat):Int):=fun a b=>by
     have:∀ k:Nat,48<=k->k<=57->IntKind.u8.wrap ((k:Int)-48)=((k-48:Nat):Int):=fun k a b=>by
      have hk:k=48\/k=49\/k=50\/k=51\/k=52\/k=53\/k=54\/k=55\/k=56\/k=57:=by omega
      rcases hk with rfl|rfl|rfl|rfl|rfl|rfl|rfl|rfl|rfl|rfl<;>rfl
     exact this _ a b
    refine AW.of hΓ mixed [99999] _ _ _ rfl ?_
    simp only [go_sem,a6j,hlI]
    refine⟨by omega,fun _=>by omega,fun h=>by simp only [Bool.not_eq_true',decide_eq_false_iff_not];exact h,fun hb=>?_,fun hb=>?_⟩
    ·simp only [Bool.or_eq_true,decide_eq_true_eq] at hb
     rw [<-hg,a2o hm (by omega)]
    ·simp only [Bool.or_eq_false_iff,decide_eq_false_iff_not] at hb
     have b1:48<=(w.getD i 0).toNat:=by omega
     have b2:(w.getD i 0).toNat<=57:=by omega
     rw [hw b1 b2]
     refine⟨by omega,by omega,by omega,by omega,by omega,⟨i+1,hlt,fun c hc=>?_⟩,⟨?_,by dsimp only;omega⟩,by dsimp only;omega⟩
     ·rw [a1h w 0 hlt,List.mem_append,List.mem_singleton] at hc
      rcases hc with hc|rfl
      ·exact hd c hc
      ·exact⟨b1,b2⟩
     ·dsimp only
      rw [a1h w 0 hlt,b3a,a96,a96]
      omega
   ·obtain rfl:i=w.length:=by omega
    have hlI:((w.length:Int)<(w.length:Nat))=False:=eq_false (by omega)
    rw [List.take_length] at hv2
    have hr:=(hg.symm.trans (c5O w)).symm
    refine AW.of hΓ mixed [99999] _ _ _ rfl ?_
    simp only [go_sem,a6j,hlI,c0h]
    refine⟨⟨⟨by omega,by omega⟩,by omega⟩,fun h=>by simpa using h,fun hb=>?_,fun hb=>?_⟩
    ·simp only [Bool.or_eq_true,decide_eq_true_eq] at hb
     rw [<-hr,if_pos (hb.imp id (fun h=>by omega))]
    ·simp only [Bool.or_eq_false_iff,decide_eq_false_iff_not,Decidable.not_not] at hb
     rw [<-hr,if_neg]
     rintro (h|h)
     ·exact h hb.1
     ·omega
def a4v (w:List UInt8):Int:=if w=[98,97,115,101] then 0 else if w=[108,101,102,116] then 1 else if w=[114,105,103,104,116] then 2 else -1
def wdE:List (List UInt8):=[[111,107],[97,114,103,117,109,101,110,116],[115,105,122,101],[108,97,98,101,108],[119,105,100,116,104],[115,116,121,108,101],[109,97,108,102,111,114,109,101,100],[110,101,115,116,101,100],[115,116,114,97,121],[102,108,97,103],[117,110,99,108,111,115,101,100],[102,111,114,109],[109,97,116,99,104],[119,111,114,100]]
def b5I (e:Int):List UInt8:=wdE.getD e.toNat []
def a0K:a0s:=a0s.f1 kI (fun e=>0<=e/\e<14) (fun e=>kS.enc (b5I e))
theorem a9J:a0d Tryz.prog 116 a0K:=by
 refine a0d.f1 Tryz.func116 rfl (by decide) Tryz.results116 Tryz.ntmps116 (by decide) fun e he=>?_
 have hΓ:GOK Tryz.prog (gam []):=GOK.nil
 obtain⟨k,rfl⟩:=Int.eq_ofNat_of_zero_le he.1
 have hk:k=0\/k=1\/k=2\/k=3\/k=4\/k=5\/k=6\/k=7\/k=8\/k=9\/k=10\/k=11\/k=12\/k=13:=by omega
 have hI1:((k:Int)<0)=False:=eq_false (by omega)
 have hI2:(14<=(k:Int))=False:=eq_false (by omega)
 refine AW.of hΓ mixed [99999] _ _ _ rfl ?_
 simp only [go_sem,hI1,hI2]
 rcases hk with rfl|rfl|rfl|rfl|rfl|rfl|rfl|rfl|rfl|rfl|rfl|rfl|rfl|rfl<;>exact⟨by omega,by decide,rfl,a0e.refl _⟩
def a3o (t:List UInt8) (e:Int):List UInt8:=if e=0 then a7a t else b5I e
def a0n:a0s:=a0s.f2 kS kI (fun t e=>t.length<=4000000000/\0<=e/\e<14) (fun t e=>kS.enc (a3o t e))
theorem b2h:a0d Tryz.prog 120 a0n:=by
 refine a0d.f2 Tryz.func120 rfl (by decide) Tryz.results120 Tryz.ntmps120 (by decide) fun t e ⟨ht,he⟩=>?_
 have hΓ:GOK Tryz.prog (gam [(116,a0K),(118,a2N)]):=(.cons a9J (.cons c3B .nil))
 refine AW.of hΓ mixed [99999] _ _ _ rfl ?_
 simp only [go_sem,a0K,a2N]
 unfold a3o
 exact⟨fun h=>⟨he,by rw [if_neg h]⟩,fun h=>⟨ht,by rw [if_pos (Decidable.not_not.1 h)]⟩⟩
end Go.Proofs.YthpjjjnbkfnghaaGreatDoor
set_option maxRecDepth 100000
set_option maxHeartbeats 8000000
namespace Go.Proofs.YthpjjjnbkfnghaaGreatDoor
open Go
attribute [local irreducible] AW a0e a1g a0a a6E
def c3I (p v:Nat) (w:List UInt8):AV:=if a4v w=-1 then .val (.pointer none) else .pt p v (a4v w).toNat
def c14:a0L:=fun args hp top nx K=>∃ (v:Nat) (c:Nat->AV) (w:List UInt8),args=[.pt 0 v 0,.st w]/\hp=rws [(0,.box v 106 10 c)]/\top=1/\
 ∀ nx',nx<=nx'->K (tu2 (c3I 0 v w) (kB.enc (decide (0<=a4v w)))) (rws [(0,.box v 106 10 c)]) 1 nx'
theorem c36:a0i Tryz.prog 112 c14:=by
 refine a0i.mk Tryz.func112 rfl (by decide) Tryz.results112 Tryz.ntmps112 ?_
 rintro args hp top nx K ⟨v,c,w,rfl,rfl,rfl,hK⟩
 have hΓ:GOK Tryz.prog (gam []):=GOK.nil
 refine⟨Nat.le_of_ble_eq_true rfl,AW.late ?_⟩
 by_cases h1:w=[98,97,115,101]
 ·subst h1
  refine AW.of hΓ mixed [99999] _ _ _ rfl ?_
  simp only [go_sem]
  refine⟨_,a0g (fun p=>p) (l:=[(4,.pt 0 v 0),(5,.val (.bool true))]) (r:=[(0,.box v 106 10 c)]) (sz:=25) (top:=1) (nx:=nx) (df:=[]) ?_,?_⟩
  ·simp only [go_sem]
   exact a0a.refl _
  ·simp only [go_sem]
   exact hK nx (Nat.le_refl _)
 by_cases h2:w=[108,101,102,116]
 ·subst h2
  refine AW.of hΓ mixed [99999] _ _ _ rfl ?_
  simp only [go_sem]
  refine⟨fun h=>absurd h h1,fun _=>?_⟩
  refine⟨_,a0g (fun p=>p) (l:=[(4,.pt 0 v 1),(5,.val (.bool true))]) (r:=[(0,.box v 106 10 c)]) (sz:=25) (top:=1) (nx:=nx) (df:=[]) ?_,?_⟩
  ·simp only [go_sem]
   exact a0a.refl _
  ·simp only [go_sem]
   exact hK nx (Nat.le_refl _)
 by_cases h3:w=[114,105,103,104,116]
 ·subst h3
  refine AW.of hΓ mixed [99999] _ _ _ rfl ?_
  simp only [go_sem]
  refine⟨fun h=>absurd h h1,fun _=>⟨fun h=>absurd h h2,fun _=>?_⟩⟩
  refine⟨_,a0g (fun p=>p) (l:=[(4,.pt 0 v 2),(5,.val (.bool true))]) (r:=[(0,.box v 106 10 c)]) (sz:=25) (top:=1) (nx:=nx) (df:=[]) ?_,?_⟩
  ·simp only [go_sem]
   exact a0a.refl _
  ·simp only [go_sem]
   exact hK nx (Nat.le_refl _)
 refine AW.of hΓ mixed [99999] _ _ _ rfl ?_
 simp only [go_sem,h1,h2,h3]
 have hf:a4v w=-1:=by unfold a4v;rw [if_neg h1,if_neg h2,if_neg h3]
 rw [show c3I 0 v w=.val (.pointer none) by unfold c3I;rw [if_pos hf],hf] at hK
 refine⟨_,a0g (fun p=>p) (l:=[(4,.val (.pointer none)),(5,.val (.bool false))]) (r:=[(0,.box v 106 10 c)]) (sz:=25) (top:=1) (nx:=nx) (df:=[]) ?_,?_⟩
 ·simp only [go_sem]
  exact⟨a0e.of_eq rfl,a0a.refl _⟩
 ·simp only [go_sem]
  exact hK nx (Nat.le_refl _)
def a0j:a0L:=a1F c14
theorem b41:a0i Tryz.prog 112 a0j:=c36.frame
theorem b5F {w:List UInt8} {p0 v:Nat} {c:Nat->AV} {hp:Nat->Row} {top nx:Nat} {K:AV->(Nat->Row)->Nat->Nat->Prop} (ht:p0<top) (h0:a0a (hp p0) (.box v 106 10 c))
  (hK:∀ nx',nx<=nx'->K (tu2 (c3I p0 v w) (kB.enc (decide (0<=a4v w)))) (a0S hp p0 (.box v 106 10 c)) top nx'):a0j [.pt p0 v 0,.st w] hp top nx K:=by
 have w0:(hp p0).ver=some v:=h0.vers.symm
 refine⟨[p0],[.pt 0 v 0,.st w],rws [(0,.box v 106 10 c)],by simp,by simpa using ht,.cons a0e.pt (a4C.same _),fun i o hq=>?_,fun i hi=>a1Y (top:=1) (by simp) i (by simpa using hi),v,c,w,rfl,rfl,rfl,fun nx' hn=>?_⟩
 ·match i with
  | 0=>
    simp only [List.getElem?_cons_zero,Option.some.injEq] at hq
    subst hq
    exact h0
  | i+1=>simp at hq
 ·refine⟨_,_,?_,fun i o ho=>?_,fun o ho=>?_,fun o ho w hv=>?_,hK nx' hn⟩
  ·refine a0e.tu fun j hj=>?_
   split
   case isFalse=>exact a0e.refl _
   unfold c3I
   split
   ·exact a0e.refl _
   ·exact a0e.pt
  ·match i with
   | 0=>
     simp only [List.getElem?_cons_zero,Option.some.injEq] at ho
     subst ho
     rw [a0k]
     exact a0a.refl _
   | i+1=>simp at ho
  ·simp only [List.mem_cons,List.not_mem_nil,or_false] at ho
   rw [a0f _ _ ho]
  ·simp only [List.mem_cons,List.not_mem_nil,or_false] at ho
   subst ho
   rw [a0k] at hv
   have:some v=some w:=hv
   obtain rfl:=Option.some.inj this
   exact .inl w0
def txt (a:Ss) (k:Int):List UInt8:=if k=0 then a.1.1 else if k=1 then a.1.2.1 else a.1.2.2
def b8U (a:Ss) (k:Int) (t:List UInt8):Ss:=if k=0 then ((t,a.1.2.1,a.1.2.2),a.2) else if k=1 then ((a.1.1,t,a.1.2.2),a.2) else ((a.1.1,a.1.2.1,t),a.2)
abbrev okT:List UInt8:=[111,107]
abbrev a0V:List UInt8:=[119,104,97,116]
def a28 (line:List UInt8) (a:Ss):List UInt8×Ss:=if 3<=(wdL line).length/\0<=a4v ((wdL line).getD 1 []) then (okT,b8U a (a4v ((wdL line).getD 1 [])) (txt a (a4v ((wdL line).getD 1 []))++a9A 2 line++[10])) else (a0V,a)
def c7q (a:Ss):Prop:=a.1.1.length<=100000000/\a.1.2.1.length<=100000000/\a.1.2.2.length<=100000000
theorem a0U {K:AV->(Nat->Row)->Nat->Nat->Prop} {r:AV} {v v1 v2 v3 v4 nx:Nat} {a b:Ss}
  (hK:∀ u1 u2 u3 u4 nx',(u1=v1\/nx<=u1)->(u2=v2\/nx<=u2)->(u3=v3\/nx<=u3)->((a.2.2.isSome=true/\u4=v4)\/nx<=u4)->nx<=nx'->
   K r (rws [(0,.box v 106 10 (shC 1 2 3 4 u1 u2 u3 u4 b)),(1,a0m u1 b.1.1),(2,a0m u2 b.1.2.1),(3,a0m u3 b.1.2.2),(4,mgR u4 b.2.2)]) 5 nx') (hb:b.2.2=a.2.2) :
  ∀ u1 u2 u3 nx',(u1=v1\/nx<=u1)->(u2=v2\/nx<=u2)->(u3=v3\/nx<=u3)->nx<=nx'->
   K r (rws [(0,.box v 106 10 (shC 1 2 3 4 u1 u2 u3 v4 b)),(1,a0m u1 b.1.1),(2,a0m u2 b.1.2.1),(3,a0m u3 b.1.2.2),(4,mgR v4 b.2.2)]) 5 nx':=by
 intro u1 u2 u3 nx' h1 h2 h3 hn
 cases hm:a.2.2 with
 | some m=>exact hK u1 u2 u3 v4 nx' h1 h2 h3 (.inl ⟨by rw [hm];rfl,rfl⟩) hn
 | none=>
   have:=hK u1 u2 u3 nx nx' h1 h2 h3 (.inr (Nat.le_refl _)) hn
   have e:shC 1 2 3 4 u1 u2 u3 v4 b=shC 1 2 3 4 u1 u2 u3 nx b:=by
    funext j
    unfold shC
    rw [hb,hm]
    rfl
   rw [e,show mgR v4 b.2.2=mgR nx b.2.2 by rw [hb,hm];rfl]
   exact this
def c7x (xs:List AV) (a:Ss) (r:AV) (b:Ss):Prop:=∃ line:List UInt8,xs=[.st line,sL eS (wdL line).tail]/\line.length<=1000/\c7q a/\r=.st (a28 line a).1/\b=(a28 line a).2
def c7j:a0L:=sSh c7x
theorem c3j (w:List UInt8):(a4v w=-1/\∀ p v,c3I p v w=.val (.pointer none))\/(a4v w=0/\∀ p v,c3I p v w=.pt p v 0)\/(a4v w=1/\∀ p v,c3I p v w=.pt p v 1)\/(a4v w=2/\∀ p v,c3I p v w=.pt p v 2):=by
 by_cases h1:w=[98,97,115,101]
 ·subst h1;exact .inr (.inl ⟨rfl,fun _ _=>rfl⟩)
 by_cases h2:w=[108,101,102,116]
 ·subst h2;exact .inr (.inr (.inl ⟨rfl,fun _ _=>rfl⟩))
 by_cases h3:w=[114,105,103,104,116]
 ·subst h3;exact .inr (.inr (.inr ⟨rfl,fun _ _=>rfl⟩))
 have e:a4v w=-1:=by unfold a4v;rw [if_neg h1,if_neg h2,if_neg h3]
 exact .inl ⟨e,fun p v=>by unfold c3I;rw [if_pos e]⟩
theorem a1m (l:List (List UInt8)) (i:Nat):l.tail.getD i []=l.getD (i+1) []:=by
 cases l<;>simp [List.getD]
theorem a78:∀ (s:List UInt8) (n:Nat),(a9A n s).length<=s.length
 | [],_=>by simp [a9A]
 | c::r,n=>by
   have h1:=a78 r n
   have h2:=a78 r (n-1)
   rw [a9A]
   split
   ·split
    ·simp
    ·simp;omega
   ·simp;omega
theorem a99 {nx n m k:Nat} {l s t:List UInt8} (hn:n=l.length) (hm:m=n+s.length) (hk:k=m+t.length):a0a (.sl nx 5 1 k (apC m (apC n (a2j l) (a2j s)) (a2j t))) (a0m nx (l++s++t)):=by
 subst hn hm hk
 refine a0a.sl (by simp only [List.length_append]) fun i hi j hj=>a0e.of_eq ?_
 unfold apC a2j
 by_cases h:i<l.length+s.length
 ·rw [if_pos h]
  by_cases h2:i<l.length
  ·rw [if_pos h2]
   simp [List.getD,List.append_assoc,List.getElem?_append_left h2]
  ·rw [if_neg h2]
   simp [List.getD,List.append_assoc,List.getElem?_append_right (Nat.le_of_not_lt h2),List.getElem?_append_left (show i-l.length<s.length by omega)]
 ·rw [if_neg h]
  have e:i-(l.length+s.length)=i-(l++s).length:=by rw [List.length_append]
  rw [e]
  simp only [List.getD]
  rw [List.getElem?_append_right (by rw [List.length_append];omega)]
theorem c9z {v v1 v2 v3 v4 u n:Nat} {a b:Ss} (hn:n=b.1.1.length) (h1:b.1.2.1=a.1.2.1) (h2:b.1.2.2=a.1.2.2) (hb:b.2=a.2):a0a (.box v 106 10 (stC (shC 1 2 3 4 v1 v2 v3 v4 a) 0 1 fun _=>.ow 1 u n)) (.box v 106 10 (shC 1 2 3 4 u v2 v3 v4 b)):=by
 obtain⟨⟨a1,a2,a3⟩,a4⟩:=a
 obtain⟨⟨b1,b2,b3⟩,b4⟩:=b
 dsimp only at hn h1 h2 hb
 subst hn hb h1 h2
 refine a0a.box fun j hj=>?_
 have hc:j=0\/j=1\/j=2\/j=3\/j=4\/j=5\/j=6\/j=7\/j=8\/j=9:=by omega
 rcases hc with rfl|rfl|rfl|rfl|rfl|rfl|rfl|rfl|rfl|rfl<;>exact a0e.refl _
theorem d0e {v v1 v2 v3 v4 u n:Nat} {a b:Ss} (hn:n=b.1.2.1.length) (h0:b.1.1=a.1.1) (h2:b.1.2.2=a.1.2.2) (hb:b.2=a.2):a0a (.box v 106 10 (stC (shC 1 2 3 4 v1 v2 v3 v4 a) 1 1 fun _=>.ow 2 u n)) (.box v 106 10 (shC 1 2 3 4 v1 u v3 v4 b)):=by
 obtain⟨⟨a1,a2,a3⟩,a4⟩:=a
 obtain⟨⟨b1,b2,b3⟩,b4⟩:=b
 dsimp only at hn h0 h2 hb
 subst hn hb h0 h2
 refine a0a.box fun j hj=>?_
 have hc:j=0\/j=1\/j=2\/j=3\/j=4\/j=5\/j=6\/j=7\/j=8\/j=9:=by omega
 rcases hc with rfl|rfl|rfl|rfl|rfl|rfl|rfl|rfl|rfl|rfl<;>exact a0e.refl _
theorem c8B {v v1 v2 v3 v4 u n:Nat} {a b:Ss} (hn:n=b.1.2.2.length) (h0:b.1.1=a.1.1) (h1:b.1.2.1=a.1.2.1) (hb:b.2=a.2):a0a (.box v 106 10 (stC (shC 1 2 3 4 v1 v2 v3 v4 a) 2 1 fun _=>.ow 3 u n)) (.box v 106 10 (shC 1 2 3 4 v1 v2 u v4 b)):=by
 obtain⟨⟨a1,a2,a3⟩,a4⟩:=a
 obtain⟨⟨b1,b2,b3⟩,b4⟩:=b
 dsimp only at hn h0 h1 hb
 subst hn hb h0 h1
 refine a0a.box fun j hj=>?_
 have hc:j=0\/j=1\/j=2\/j=3\/j=4\/j=5\/j=6\/j=7\/j=8\/j=9:=by omega
 rcases hc with rfl|rfl|rfl|rfl|rfl|rfl|rfl|rfl|rfl|rfl<;>exact a0e.refl _
theorem a4r:decide ((0:Int)<=-1)=false:=rfl
theorem d0F:a0i Tryz.prog 56 c7j:=by
 refine a0i.mk Tryz.func56 rfl (by decide) Tryz.results56 Tryz.ntmps56 ?_
 rintro args hp top nx K ⟨v,v1,v2,v3,v4,xs,a,r,b,rfl,⟨line,rfl,hl,hs,rfl,rfl⟩,rfl,rfl,hK⟩
 have hΓ:GOK Tryz.prog (gam [(112,a0j),(113,a1i)]):=(.cons b41 (.cons c4j .nil))
 refine⟨Nat.le_of_ble_eq_true rfl,AW.late ?_⟩
 by_cases h3:3<=(wdL line).length
 ·have hI:(((wdL line).tail.length:Int)<2)=False:=eq_false (by rw [List.length_tail];omega)
  obtain⟨q1,q2⟩:=d2u h3
  refine AW.of hΓ mixed [6] _ _ _ rfl ?_
  simp only [go_sem,a0j,a1i,hI,a1m]
  refine⟨by rw [List.length_tail];omega,?_⟩
  generalize hw:(wdL line).getD 1 []=w1 at *
  refine b5F (by exact (by decide:0<5)) (a0a.refl _) fun nx1 hn1=>?_
  rcases c3j w1 with⟨f1,f2⟩|⟨f1,f2⟩|⟨f1,f2⟩|⟨f1,f2⟩
  ·rw [f1,f2]
   have e:a28 line a=(a0V,a):=by unfold a28;rw [if_neg fun h=>by rw [hw,f1] at h;omega]
   rw [e] at hK
   have hk:=a0U hK rfl
   simp only [go_sem,a0j,a1i,a4r]
   refine⟨_,a0g (fun p=>p) (l:=[(6,.st a0V)]) (r:=[(0,.box v 106 10 (shC 1 2 3 4 v1 v2 v3 v4 a)),(1,a0m v1 a.1.1),(2,a0m v2 a.1.2.1),(3,a0m v3 a.1.2.2),(4,mgR v4 a.2.2)]) (sz:=35) (top:=5) (nx:=nx1) (df:=[]) ?_,?_⟩
   ·simp only [go_sem,a0j,a1i]
    exact⟨a0a.refl _,a0a.refl _,a0a.refl _,a0a.refl _,a0a.refl _⟩
   ·simp only [go_sem,a0j,a1i]
    exact hk v1 v2 v3 nx1 (.inl rfl) (.inl rfl) (.inl rfl) hn1
  ·rw [f1,f2]
   simp only [go_sem,a0j,a1i,q1,q2]
   refine⟨by omega,?_⟩
   have e:a28 line a=(okT,((a.1.1++a9A 2 line++[10],a.1.2.1,a.1.2.2),a.2)):=by unfold a28;rw [hw,f1,if_pos ⟨h3,by decide⟩];rfl
   rw [e] at hK
   have hk:=a0U hK rfl
   refine AW.cut ⟨[(0,.pt 0 v 0),(7,.pt 0 v 0),(9,.st (a9A 2 line))],[(0,.box v 106 10 (shC 1 2 3 4 v1 v2 v3 v4 a)),(1,a0m v1 a.1.1),(2,a0m v2 a.1.2.1),(3,a0m v3 a.1.2.2),(4,mgR v4 a.2.2)],35,5,nx1,[]⟩ ?_ ?_
   ·simp only [go_sem,a0j,a1i]
    exact⟨a0a.refl _,a0a.refl _,a0a.refl _,a0a.refl _,a0a.refl _⟩
   have hbl:=a78 line 2
   obtain⟨z1,z2,z3⟩:=hs
   refine AW.fork (AW.regionO hΓ [false,false,false,false,false,true,true] ?_)
   simp only [go_sem,a0j,a1i]
   refine a6m rfl Tryz.underlying102 Tryz.underlying9 rfl rfl rfl (Nat.lt_of_lt_of_le (by decide:32<35) (Nat.le_refl _)) ⟨a64,by decide,by rw [a3F];decide,by rw [a3F];omega,_,b2G,rfl⟩ ?_
   simp only [go_sem,a0j,a1i]
   refine a6m rfl Tryz.underlying102 Tryz.underlying9 rfl rfl rfl (Nat.lt_of_lt_of_le (by decide:33<35) (Nat.le_refl _)) ⟨a64,by decide,by rw [a3F];decide,by rw [a3F];simp only [List.length_cons,List.length_nil];omega,_,b2G,rfl⟩ ?_
   simp only [go_sem,a0j,a1i]
   refine AW.of hΓ mixed [] _ _ _ rfl ?_
   simp only [go_sem,a0j,a1i]
   refine⟨_,a0g (fun p=>p) (l:=[(6,.st okT)]) (r:=[(0,.box v 106 10 (shC 1 2 3 4 (nx1+1) v2 v3 v4 ((a.1.1++a9A 2 line++[10],a.1.2.1,a.1.2.2),a.2))),(1,a0m (nx1+1) (a.1.1++a9A 2 line++[10])),(2,a0m v2 (a.1.2.1)),(3,a0m v3 (a.1.2.2)),(4,mgR v4 a.2.2)]) (sz:=35) (top:=5) (nx:=nx1+1+1) (df:=[]) ?_,?_⟩
   ·simp only [go_sem,a0j,a1i]
    refine⟨c9z (by simp;omega) rfl rfl rfl,a99 rfl rfl rfl,a0a.refl _,a0a.refl _,a0a.refl _⟩
   ·simp only [go_sem,a0j,a1i]
    exact hk (nx1+1) v2 v3 (nx1+1+1) (.inr (by omega)) (.inl rfl) (.inl rfl) (by omega)
  ·rw [f1,f2]
   simp only [go_sem,a0j,a1i,q1,q2]
   refine⟨by omega,?_⟩
   have e:a28 line a=(okT,((a.1.1,a.1.2.1++a9A 2 line++[10],a.1.2.2),a.2)):=by unfold a28;rw [hw,f1,if_pos ⟨h3,by decide⟩];rfl
   rw [e] at hK
   have hk:=a0U hK rfl
   refine AW.cut ⟨[(0,.pt 0 v 0),(7,.pt 0 v 1),(9,.st (a9A 2 line))],[(0,.box v 106 10 (shC 1 2 3 4 v1 v2 v3 v4 a)),(1,a0m v1 a.1.1),(2,a0m v2 a.1.2.1),(3,a0m v3 a.1.2.2),(4,mgR v4 a.2.2)],35,5,nx1,[]⟩ ?_ ?_
   ·simp only [go_sem,a0j,a1i]
    exact⟨a0a.refl _,a0a.refl _,a0a.refl _,a0a.refl _,a0a.refl _⟩
   have hbl:=a78 line 2
   obtain⟨z1,z2,z3⟩:=hs
   refine AW.fork (AW.regionO hΓ [false,false,false,false,false,true,true] ?_)
   simp only [go_sem,a0j,a1i]
   refine a6m rfl Tryz.underlying102 Tryz.underlying9 rfl rfl rfl (Nat.lt_of_lt_of_le (by decide:32<35) (Nat.le_refl _)) ⟨a64,by decide,by rw [a3F];decide,by rw [a3F];omega,_,b2G,rfl⟩ ?_
   simp only [go_sem,a0j,a1i]
   refine a6m rfl Tryz.underlying102 Tryz.underlying9 rfl rfl rfl (Nat.lt_of_lt_of_le (by decide:33<35) (Nat.le_refl _)) ⟨a64,by decide,by rw [a3F];decide,by rw [a3F];simp only [List.length_cons,List.length_nil];omega,_,b2G,rfl⟩ ?_
   simp only [go_sem,a0j,a1i]
   refine AW.of hΓ mixed [] _ _ _ rfl ?_
   simp only [go_sem,a0j,a1i]
   refine⟨_,a0g (fun p=>p) (l:=[(6,.st okT)]) (r:=[(0,.box v 106 10 (shC 1 2 3 4 v1 (nx1+1) v3 v4 ((a.1.1,a.1.2.1++a9A 2 line++[10],a.1.2.2),a.2))),(1,a0m v1 (a.1.1)),(2,a0m (nx1+1) (a.1.2.1++a9A 2 line++[10])),(3,a0m v3 (a.1.2.2)),(4,mgR v4 a.2.2)]) (sz:=35) (top:=5) (nx:=nx1+1+1) (df:=[]) ?_,?_⟩
   ·simp only [go_sem,a0j,a1i]
    refine⟨d0e (by simp;omega) rfl rfl rfl,a0a.refl _,a99 rfl rfl rfl,a0a.refl _,a0a.refl _⟩
   ·simp only [go_sem,a0j,a1i]
    exact hk v1 (nx1+1) v3 (nx1+1+1) (.inl rfl) (.inr (by omega)) (.inl rfl) (by omega)
  ·rw [f1,f2]
   simp only [go_sem,a0j,a1i,q1,q2]
   refine⟨by omega,?_⟩
   have e:a28 line a=(okT,((a.1.1,a.1.2.1,a.1.2.2++a9A 2 line++[10]),a.2)):=by unfold a28;rw [hw,f1,if_pos ⟨h3,by decide⟩];rfl
   rw [e] at hK
   have hk:=a0U hK rfl
   refine AW.cut ⟨[(0,.pt 0 v 0),(7,.pt 0 v 2),(9,.st (a9A 2 line))],[(0,.box v 106 10 (shC 1 2 3 4 v1 v2 v3 v4 a)),(1,a0m v1 a.1.1),(2,a0m v2 a.1.2.1),(3,a0m v3 a.1.2.2),(4,mgR v4 a.2.2)],35,5,nx1,[]⟩ ?_ ?_
   ·simp only [go_sem,a0j,a1i]
    exact⟨a0a.refl _,a0a.refl _,a0a.refl _,a0a.refl _,a0a.refl _⟩
   have hbl:=a78 line 2
   obtain⟨z1,z2,z3⟩:=hs
   refine AW.fork (AW.regionO hΓ [false,false,false,false,false,true,true] ?_)
   simp only [go_sem,a0j,a1i]
   refine a6m rfl Tryz.underlying102 Tryz.underlying9 rfl rfl rfl (Nat.lt_of_lt_of_le (by decide:32<35) (Nat.le_refl _)) ⟨a64,by decide,by rw [a3F];decide,by rw [a3F];omega,_,b2G,rfl⟩ ?_
   simp only [go_sem,a0j,a1i]
   refine a6m rfl Tryz.underlying102 Tryz.underlying9 rfl rfl rfl (Nat.lt_of_lt_of_le (by decide:33<35) (Nat.le_refl _)) ⟨a64,by decide,by rw [a3F];decide,by rw [a3F];simp only [List.length_cons,List.length_nil];omega,_,b2G,rfl⟩ ?_
   simp only [go_sem,a0j,a1i]
   refine AW.of hΓ mixed [] _ _ _ rfl ?_
   simp only [go_sem,a0j,a1i]
   refine⟨_,a0g (fun p=>p) (l:=[(6,.st okT)]) (r:=[(0,.box v 106 10 (shC 1 2 3 4 v1 v2 (nx1+1) v4 ((a.1.1,a.1.2.1,a.1.2.2++a9A 2 line++[10]),a.2))),(1,a0m v1 (a.1.1)),(2,a0m v2 (a.1.2.1)),(3,a0m (nx1+1) (a.1.2.2++a9A 2 line++[10])),(4,mgR v4 a.2.2)]) (sz:=35) (top:=5) (nx:=nx1+1+1) (df:=[]) ?_,?_⟩
   ·simp only [go_sem,a0j,a1i]
    refine⟨c8B (by simp;omega) rfl rfl rfl,a0a.refl _,a0a.refl _,a99 rfl rfl rfl,a0a.refl _⟩
   ·simp only [go_sem,a0j,a1i]
    exact hk v1 v2 (nx1+1) (nx1+1+1) (.inl rfl) (.inl rfl) (.inr (by omega)) (by omega)
 ·have hI:(((wdL line).tail.length:Int)<2)=True:=eq_true (by rw [List.length_tail];omega)
  have e:a28 line a=(a0V,a):=by unfold a28;rw [if_neg fun h=>h3 h.1]
  rw [e] at hK
  have hk:=a0U hK rfl
  refine AW.of hΓ mixed [99999] _ _ _ rfl ?_
  simp only [go_sem,a0j,a1i,hI]
  refine⟨_,a0g (fun p=>p) (l:=[(6,.st a0V)]) (r:=[(0,.box v 106 10 (shC 1 2 3 4 v1 v2 v3 v4 a)),(1,a0m v1 a.1.1),(2,a0m v2 a.1.2.1),(3,a0m v3 a.1.2.2),(4,mgR v4 a.2.2)]) (sz:=35) (top:=5) (nx:=nx) (df:=[]) ?_,?_⟩
  ·simp only [go_sem,a0j,a1i]
   exact⟨a0a.refl _,a0a.refl _,a0a.refl _,a0a.refl _,a0a.refl _⟩
  ·simp only [go_sem,a0j,a1i]
   exact hk v1 v2 v3 nx (.inl rfl) (.inl rfl) (.inl rfl) (Nat.le_refl _)
def a07:a0L:=a1F c7j
theorem c7a:a0i Tryz.prog 56 a07:=d0F.frame
end Go.Proofs.YthpjjjnbkfnghaaGreatDoor
set_option maxRecDepth 100000
set_option maxHeartbeats 8000000
namespace Go.Proofs.YthpjjjnbkfnghaaGreatDoor
open Go
attribute [local irreducible] AW a0e a1g a0a a6E
def c4G (a:Ss) (verb:List UInt8) (n:Int):Ss:=(a.1,(if verb=[115,116,121,108,101] then (a.2.1.1,n,a.2.1.2.2) else if verb=[119,105,100,116,104] then (a.2.1.1,a.2.1.2.1,n,a.2.1.2.2.2) else (a.2.1.1,a.2.1.2.1,a.2.1.2.2.1,n)),a.2.2)
noncomputable def a1R (verb line:List UInt8) (a:Ss):List UInt8×Ss:=if (wdL line).length=2/\0<=a8R ((wdL line).getD 1 []) then (okT,c4G a verb (a8R ((wdL line).getD 1 []))) else (a0V,a)
def b7u (xs:List AV) (a:Ss) (r:AV) (b:Ss):Prop:=∃ verb line:List UInt8,xs=[.st verb,sL eS (wdL line).tail]/\line.length<=1000/\c7q a/\r=.st (a1R verb line a).1/\b=(a1R verb line a).2
noncomputable def c7U:a0L:=sSh b7u
theorem d3k:∀ (n:Nat) (s:List UInt8),s.length<=n->∀ x∈wdL s,x.length<=s.length:=by
 intro n
 induction n with
 | zero=>
   intro s h x hx
   obtain rfl:=List.length_eq_zero_iff.1 (by omega:s.length=0)
   simp [wdL] at hx
   subst hx
   simp
 | succ n ih=>
   intro s h x hx
   rcases a3t 32 s with h1|⟨p,r,rfl,h1⟩
   ·rw [a86 s h1,List.mem_singleton] at hx
    rw [hx]
    omega
   ·rw [a7g p r h1,List.mem_cons] at hx
    simp at h ⊢
    rcases hx with rfl|hx
    ·omega
    ·have:=ih r (by omega) x hx
     omega
theorem b5L (s:List UInt8) (i:Nat):((wdL s).getD i []).length<=s.length:=by
 by_cases h:i<(wdL s).length
 ·rw [List.getD,List.getElem?_eq_getElem h,Option.getD_some]
  exact d3k _ s (Nat.le_refl _) _ (List.getElem_mem ..)
 ·rw [List.getD,List.getElem?_eq_none (by omega)]
  simp
theorem c2a {v v1 v2 v3 v4:Nat} {c:Nat->AV} {x:Ss} (h:∀ j,j<10->c j=shC 1 2 3 4 v1 v2 v3 v4 x j):a0a (.box v 106 10 c) (.box v 106 10 (shC 1 2 3 4 v1 v2 v3 v4 x)):=a0a.box fun j hj=>a0e.of_eq (h j hj)
theorem c9v:a0i Tryz.prog 58 c7U:=by
 refine a0i.mk Tryz.func58 rfl (by decide) Tryz.results58 Tryz.ntmps58 ?_
 rintro args hp top nx K ⟨v,v1,v2,v3,v4,xs,a,r,b,rfl,⟨verb,line,rfl,hl,hs,rfl,rfl⟩,rfl,rfl,hK⟩
 have hΓ:GOK Tryz.prog (gam [(114,a0h)]):=(.cons a8o .nil)
 refine⟨Nat.le_of_ble_eq_true rfl,AW.late ?_⟩
 have hg:=b5L line 1
 by_cases h2:(wdL line).length=2
 ·have hI:((wdL line).tail.length:Int)=1:=by rw [List.length_tail];omega
  cases hn:a6E ((wdL line).getD 1 []) with
  | none=>
    have e:a1R verb line a=(a0V,a):=by unfold a1R;rw [a6f hn,if_neg fun h=>by omega]
    rw [e] at hK
    have hk:=a0U hK rfl
    refine AW.of hΓ mixed [99999] _ _ _ rfl ?_
    simp only [go_sem,a0h,hI,a1m,hn,nuO]
    refine⟨by omega,?_⟩
    refine⟨_,a0g (fun p=>p) (l:=[(6,.st a0V)]) (r:=[(0,.box v 106 10 (shC 1 2 3 4 v1 v2 v3 v4 a)),(1,a0m v1 a.1.1),(2,a0m v2 a.1.2.1),(3,a0m v3 a.1.2.2),(4,mgR v4 a.2.2)]) (sz:=41) (top:=5) (nx:=nx) (df:=[]) ?_,?_⟩
    ·simp only [go_sem,a0h]
     exact⟨a0a.refl _,a0a.refl _,a0a.refl _,a0a.refl _,a0a.refl _⟩
    ·simp only [go_sem,a0h]
     exact hk v1 v2 v3 nx (.inl rfl) (.inl rfl) (.inl rfl) (Nat.le_refl _)
  | some n=>
    have e:a1R verb line a=(okT,c4G a verb n):=by unfold a1R;rw [a3q hn,if_pos ⟨h2,by omega⟩]
    rw [e] at hK
    have hk:=a0U hK rfl
    have fin:∀ c:Nat->AV,(∀ j,j<10->c j=shC 1 2 3 4 v1 v2 v3 v4 (c4G a verb n) j)->a0a (.box v 106 10 c) (.box v 106 10 (shC 1 2 3 4 v1 v2 v3 v4 (c4G a verb n))):=fun c h=>c2a h
    by_cases g1:verb=[115,116,121,108,101]
    ·subst g1
     refine AW.of hΓ mixed [99999] _ _ _ rfl ?_
     simp only [go_sem,a0h,hI,a1m,hn,nuO]
     refine⟨by omega,?_⟩
     refine⟨_,a0g (fun p=>p) (l:=[(6,.st okT)]) (r:=[(0,.box v 106 10 (shC 1 2 3 4 v1 v2 v3 v4 (c4G a [115,116,121,108,101] n))),(1,a0m v1 a.1.1),(2,a0m v2 a.1.2.1),(3,a0m v3 a.1.2.2),(4,mgR v4 a.2.2)]) (sz:=41) (top:=5) (nx:=nx) (df:=[]) ?_,?_⟩
     ·simp only [go_sem,a0h]
      refine⟨fin _ fun j hj=>?_,a0a.refl _,a0a.refl _,a0a.refl _,a0a.refl _⟩
      have hc:j=0\/j=1\/j=2\/j=3\/j=4\/j=5\/j=6\/j=7\/j=8\/j=9:=by omega
      rcases hc with rfl|rfl|rfl|rfl|rfl|rfl|rfl|rfl|rfl|rfl<;>rfl
     ·simp only [go_sem,a0h]
      exact hk v1 v2 v3 nx (.inl rfl) (.inl rfl) (.inl rfl) (Nat.le_refl _)
    by_cases g2:verb=[119,105,100,116,104]
    ·subst g2
     refine AW.of hΓ mixed [99999] _ _ _ rfl ?_
     simp only [go_sem,a0h,hI,a1m,hn,nuO]
     refine⟨by omega,fun h=>absurd h g1,fun _=>?_⟩
     refine⟨_,a0g (fun p=>p) (l:=[(6,.st okT)]) (r:=[(0,.box v 106 10 (shC 1 2 3 4 v1 v2 v3 v4 (c4G a [119,105,100,116,104] n))),(1,a0m v1 a.1.1),(2,a0m v2 a.1.2.1),(3,a0m v3 a.1.2.2),(4,mgR v4 a.2.2)]) (sz:=41) (top:=5) (nx:=nx) (df:=[]) ?_,?_⟩
     ·simp only [go_sem,a0h]
      refine⟨fin _ fun j hj=>?_,a0a.refl _,a0a.refl _,a0a.refl _,a0a.refl _⟩
      have hc:j=0\/j=1\/j=2\/j=3\/j=4\/j=5\/j=6\/j=7\/j=8\/j=9:=by omega
      rcases hc with rfl|rfl|rfl|rfl|rfl|rfl|rfl|rfl|rfl|rfl<;>rfl
     ·simp only [go_sem,a0h]
      exact hk v1 v2 v3 nx (.inl rfl) (.inl rfl) (.inl rfl) (Nat.le_refl _)
    ·refine AW.of hΓ mixed [99999] _ _ _ rfl ?_
     simp only [go_sem,a0h,hI,a1m,hn,nuO,g1,g2]
     refine⟨by omega,?_⟩
     have eo:c4G a verb n=(a.1,(a.2.1.1,a.2.1.2.1,a.2.1.2.2.1,(n:Int)),a.2.2):=by unfold c4G;rw [if_neg g1,if_neg g2]
     rw [eo] at fin hk
     refine⟨_,a0g (fun p=>p) (l:=[(6,.st okT)]) (r:=[(0,.box v 106 10 (shC 1 2 3 4 v1 v2 v3 v4 (a.1,(a.2.1.1,a.2.1.2.1,a.2.1.2.2.1,(n:Int)),a.2.2))),(1,a0m v1 a.1.1),(2,a0m v2 a.1.2.1),(3,a0m v3 a.1.2.2),(4,mgR v4 a.2.2)]) (sz:=41) (top:=5) (nx:=nx) (df:=[]) ?_,?_⟩
     ·simp only [go_sem,a0h]
      refine⟨fin _ fun j hj=>?_,a0a.refl _,a0a.refl _,a0a.refl _,a0a.refl _⟩
      have hc:j=0\/j=1\/j=2\/j=3\/j=4\/j=5\/j=6\/j=7\/j=8\/j=9:=by omega
      rcases hc with rfl|rfl|rfl|rfl|rfl|rfl|rfl|rfl|rfl|rfl<;>rfl
     ·simp only [go_sem,a0h]
      exact hk v1 v2 v3 nx (.inl rfl) (.inl rfl) (.inl rfl) (Nat.le_refl _)
 ·have hI:(((wdL line).tail.length:Int)=1)=False:=eq_false (by rw [List.length_tail];have:=List.length_pos_iff.2 (a62 line);omega)
  have e:a1R verb line a=(a0V,a):=by unfold a1R;rw [if_neg fun h=>h2 h.1]
  rw [e] at hK
  have hk:=a0U hK rfl
  refine AW.of hΓ mixed [99999] _ _ _ rfl ?_
  simp only [go_sem,a0h,hI]
  refine⟨_,a0g (fun p=>p) (l:=[(6,.st a0V)]) (r:=[(0,.box v 106 10 (shC 1 2 3 4 v1 v2 v3 v4 a)),(1,a0m v1 a.1.1),(2,a0m v2 a.1.2.1),(3,a0m v3 a.1.2.2),(4,mgR v4 a.2.2)]) (sz:=41) (top:=5) (nx:=nx) (df:=[]) ?_,?_⟩
  ·simp only [go_sem,a0h]
   exact⟨a0a.refl _,a0a.refl _,a0a.refl _,a0a.refl _,a0a.refl _⟩
  ·simp only [go_sem,a0h]
   exact hk v1 v2 v3 nx (.inl rfl) (.inl rfl) (.inl rfl) (Nat.le_refl _)
def a4l (line:List UInt8) (a:Ss):List UInt8×Ss:=if (wdL line).length=4 then (okT,(a.1,((b9n ((wdL line).getD 1 []),b9n ((wdL line).getD 2 []),b9n ((wdL line).getD 3 [])),a.2.1.2),a.2.2)) else (a0V,a)
def c7f (xs:List AV) (a:Ss) (r:AV) (b:Ss):Prop:=∃ line:List UInt8,xs=[sL eS (wdL line).tail]/\line.length<=1000/\c7q a/\r=.st (a4l line a).1/\b=(a4l line a).2
def c7t:a0L:=sSh c7f
theorem d0q:a0i Tryz.prog 59 c7t:=by
 refine a0i.mk Tryz.func59 rfl (by decide) Tryz.results59 Tryz.ntmps59 ?_
 rintro args hp top nx K ⟨v,v1,v2,v3,v4,xs,a,r,b,rfl,⟨line,rfl,hl,hs,rfl,rfl⟩,rfl,rfl,hK⟩
 have hΓ:GOK Tryz.prog (gam [(115,a58)]):=(.cons c4z .nil)
 refine⟨Nat.le_of_ble_eq_true rfl,AW.late ?_⟩
 by_cases h2:(wdL line).length=4
 ·have hI:((wdL line).tail.length:Int)=3:=by rw [List.length_tail];omega
  have e:a4l line a=(okT,(a.1,((b9n ((wdL line).getD 1 []),b9n ((wdL line).getD 2 []),b9n ((wdL line).getD 3 [])),a.2.1.2),a.2.2)):=by unfold a4l;rw [if_pos h2]
  rw [e] at hK
  have hk:=a0U hK rfl
  refine AW.of hΓ mixed [99999] _ _ _ rfl ?_
  simp only [go_sem,a58,hI,a1m]
  refine⟨_,a0g (fun p=>p) (l:=[(4,.st okT)]) (r:=[(0,.box v 106 10 (shC 1 2 3 4 v1 v2 v3 v4 (a.1,((b9n ((wdL line).getD 1 []),b9n ((wdL line).getD 2 []),b9n ((wdL line).getD 3 [])),a.2.1.2),a.2.2))),(1,a0m v1 a.1.1),(2,a0m v2 a.1.2.1),(3,a0m v3 a.1.2.2),(4,mgR v4 a.2.2)]) (sz:=35) (top:=5) (nx:=nx) (df:=[]) ?_,?_⟩
  ·simp only [go_sem,a58]
   refine⟨c2a fun j hj=>?_,a0a.refl _,a0a.refl _,a0a.refl _,a0a.refl _⟩
   have hc:j=0\/j=1\/j=2\/j=3\/j=4\/j=5\/j=6\/j=7\/j=8\/j=9:=by omega
   rcases hc with rfl|rfl|rfl|rfl|rfl|rfl|rfl|rfl|rfl|rfl<;>rfl
  ·simp only [go_sem,a58]
   exact hk v1 v2 v3 nx (.inl rfl) (.inl rfl) (.inl rfl) (Nat.le_refl _)
 ·have hI:(((wdL line).tail.length:Int)=3)=False:=eq_false (by rw [List.length_tail];have:=List.length_pos_iff.2 (a62 line);omega)
  have e:a4l line a=(a0V,a):=by unfold a4l;rw [if_neg h2]
  rw [e] at hK
  have hk:=a0U hK rfl
  refine AW.of hΓ mixed [99999] _ _ _ rfl ?_
  simp only [go_sem,a58,hI]
  refine⟨_,a0g (fun p=>p) (l:=[(4,.st a0V)]) (r:=[(0,.box v 106 10 (shC 1 2 3 4 v1 v2 v3 v4 a)),(1,a0m v1 a.1.1),(2,a0m v2 a.1.2.1),(3,a0m v3 a.1.2.2),(4,mgR v4 a.2.2)]) (sz:=35) (top:=5) (nx:=nx) (df:=[]) ?_,?_⟩
  ·simp only [go_sem,a58]
   exact⟨a0a.refl _,a0a.refl _,a0a.refl _,a0a.refl _,a0a.refl _⟩
  ·simp only [go_sem,a58]
   exact hk v1 v2 v3 nx (.inl rfl) (.inl rfl) (.inl rfl) (Nat.le_refl _)
noncomputable def a1b:a0L:=a1F c7U
theorem c7c:a0i Tryz.prog 58 a1b:=c9v.frame
def a08:a0L:=a1F c7t
theorem c71:a0i Tryz.prog 59 a08:=d0q.frame
end Go.Proofs.YthpjjjnbkfnghaaGreatDoor
set_option maxRecDepth 100000
set_option maxHeartbeats 8000000
namespace Go.Proofs.YthpjjjnbkfnghaaGreatDoor
open Go
attribute [local irreducible] AW a0e a1g a0a a6E
def b0K:List UInt8:=[99,108,101,97,114]
def a7c (t:List UInt8):Option (List UInt8):=if t≠[]/\t.getD (t.length-1) 0=10 then some (t.take (t.length-1)) else none
def a4B (verb:List UInt8) (k:Int) (a:Ss):List UInt8×Ss:=if verb=b0K then (okT,b8U a k []) else match a7c (txt a k) with
 | some t=>(okT,b8U a k t)
 | none=>(a0V,a)
def a1p (verb line:List UInt8) (a:Ss):List UInt8×Ss:=if (wdL line).length=2/\0<=a4v ((wdL line).getD 1 []) then a4B verb (a4v ((wdL line).getD 1 [])) a else (a0V,a)
def b9D (xs:List AV) (a:Ss) (r:AV) (b:Ss):Prop:=∃ verb line:List UInt8,xs=[.st verb,sL eS (wdL line).tail]/\line.length<=1000/\c7q a/\r=.st (a1p verb line a).1/\b=(a1p verb line a).2
def c7O:a0L:=sSh b9D
theorem c78:a0i Tryz.prog 57 c7O:=by
 refine a0i.mk Tryz.func57 rfl (by decide) Tryz.results57 Tryz.ntmps57 ?_
 rintro args hp top nx K ⟨v,v1,v2,v3,v4,xs,a,r,b,rfl,⟨verb,line,rfl,hl,hs,rfl,rfl⟩,rfl,rfl,hK⟩
 have hΓ:GOK Tryz.prog (gam [(112,a0j)]):=(.cons b41 .nil)
 refine⟨Nat.le_of_ble_eq_true rfl,AW.late ?_⟩
 by_cases h2:(wdL line).length=2
 ·have hI:((wdL line).tail.length:Int)=1:=by rw [List.length_tail];omega
  refine AW.of hΓ mixed [200010] _ _ _ rfl ?_
  simp only [go_sem,a0j,hI,a1m]
  generalize hw:(wdL line).getD 1 []=w1 at *
  refine b5F (by exact (by decide:0<5)) (a0a.refl _) fun nx1 hn1=>?_
  rcases c3j w1 with⟨f1,f2⟩|⟨f1,f2⟩|⟨f1,f2⟩|⟨f1,f2⟩
  ·rw [f1,f2]
   have e:a1p verb line a=(a0V,a):=by unfold a1p;rw [if_neg fun h=>by rw [hw,f1] at h;omega]
   rw [e] at hK
   have hk:=a0U hK rfl
   simp only [go_sem,a0j,a4r]
   refine⟨_,a0g (fun p=>p) (l:=[(6,.st a0V)]) (r:=[(0,.box v 106 10 (shC 1 2 3 4 v1 v2 v3 v4 a)),(1,a0m v1 a.1.1),(2,a0m v2 a.1.2.1),(3,a0m v3 a.1.2.2),(4,mgR v4 a.2.2)]) (sz:=51) (top:=5) (nx:=nx1) (df:=[]) ?_,?_⟩
   ·simp only [go_sem,a0j]
    exact⟨a0a.refl _,a0a.refl _,a0a.refl _,a0a.refl _,a0a.refl _⟩
   ·simp only [go_sem,a0j]
    exact hk v1 v2 v3 nx1 (.inl rfl) (.inl rfl) (.inl rfl) hn1
  ·rw [f1,f2]
   have e0:a1p verb line a=a4B verb 0 a:=by unfold a1p;rw [hw,f1,if_pos ⟨h2,by decide⟩]
   by_cases hc:verb=b0K
   ·have e:a1p verb line a=(okT,(([],a.1.2.1,a.1.2.2),a.2)):=by rw [e0];unfold a4B;rw [if_pos hc];rfl
    rw [e] at hK
    have hk:=a0U hK rfl
    subst hc
    simp only [go_sem,a0j,b0K]
    refine⟨_,(a1g.adoptB (q:=0) 0 5 1 (a2j []) rfl rfl).trans (a0g (fun p=>if p=1 then 5 else p) (l:=[(6,.st okT)]) (r:=[(0,.box v 106 10 (shC 1 2 3 4 nx1 v2 v3 v4 (([],a.1.2.1,a.1.2.2),a.2))),(1,a0m nx1 ([])),(2,a0m v2 (a.1.2.1)),(3,a0m v3 (a.1.2.2)),(4,mgR v4 a.2.2)]) (sz:=51) (top:=5) (nx:=nx1+1) (df:=[]) ?_),?_⟩
    ·simp only [go_sem,a0j]
     refine⟨a0a.box fun j hj=>?_,a0a.refl _,a0a.refl _,a0a.refl _,a0a.refl _⟩
     have hc:j=0\/j=1\/j=2\/j=3\/j=4\/j=5\/j=6\/j=7\/j=8\/j=9:=by omega
     rcases hc with rfl|rfl|rfl|rfl|rfl|rfl|rfl|rfl|rfl|rfl<;>first|exact a0e.refl _|exact a0e.ow
    ·simp only [go_sem,a0j]
     exact hk nx1 v2 v3 (nx1+1) (.inr hn1) (.inl rfl) (.inl rfl) (by omega)
   ·have e1:a4B verb 0 a=match a7c (a.1.1) with
     | some t=>(okT,b8U a 0 t)
     | none=>(a0V,a):=by unfold a4B;rw [if_neg hc];rfl
    have hc':¬verb=[99,108,101,97,114]:=hc
    by_cases hz:a.1.1=[]
    ·have e:a1p verb line a=(a0V,a):=by rw [e0,e1];unfold a7c;rw [if_neg fun h=>h.1 hz]
     rw [e] at hK
     have hk:=a0U hK rfl
     have hlen:a.1.1.length=0:=by rw [hz];rfl
     have hI0:((a.1.1.length:Int)-1<0)=True:=eq_true (by omega)
     simp only [go_sem,a0j,hc']
     refine⟨by omega,?_⟩
     refine AW.drawK hΓ mixed 12 [] [] [] [0,1] (by decide +kernel) ?_
     simp only [go_sem,a0j,hI0,a0m,a2j]
     refine⟨_,a0g (fun p=>p) (l:=[(6,.st a0V)]) (r:=[(0,.box v 106 10 (shC 1 2 3 4 v1 v2 v3 v4 a)),(1,a0m v1 a.1.1),(2,a0m v2 a.1.2.1),(3,a0m v3 a.1.2.2),(4,mgR v4 a.2.2)]) (sz:=51) (top:=5) (nx:=nx1) (df:=[]) ?_,?_⟩
     ·simp only [go_sem,a0j]
      exact⟨a0a.refl _,a0a.refl _,a0a.refl _,a0a.refl _,a0a.refl _⟩
     ·simp only [go_sem,a0j]
      exact hk v1 v2 v3 nx1 (.inl rfl) (.inl rfl) (.inl rfl) hn1
    ·obtain⟨z1,z2,z3⟩:=hs
     have hp:0<a.1.1.length:=List.length_pos_iff.2 hz
     have hI0:((a.1.1.length:Int)-1<0)=False:=eq_false (by omega)
     have hn1':((a.1.1.length:Int)-1).toNat=a.1.1.length-1:=by omega
     simp only [go_sem,a0j,hc']
     refine⟨by omega,?_⟩
     refine AW.drawK hΓ mixed 12 [] [] [] [0,1] (by decide +kernel) ?_
     simp only [go_sem,a0j,hI0,hn1',a0m,a2j]
     refine⟨⟨by omega,by omega⟩,by omega,fun hx=>?_,fun hx=>?_⟩
     ·have e:a1p verb line a=(a0V,a):=by rw [e0,e1];unfold a7c;rw [if_neg fun h=>hx h.2]
      rw [e] at hK
      have hk:=a0U hK rfl
      refine⟨_,a0g (fun p=>p) (l:=[(6,.st a0V)]) (r:=[(0,.box v 106 10 (shC 1 2 3 4 v1 v2 v3 v4 a)),(1,a0m v1 a.1.1),(2,a0m v2 a.1.2.1),(3,a0m v3 a.1.2.2),(4,mgR v4 a.2.2)]) (sz:=51) (top:=5) (nx:=nx1) (df:=[]) ?_,?_⟩
      ·simp only [go_sem,a0j]
       exact⟨a0a.refl _,a0a.refl _,a0a.refl _,a0a.refl _,a0a.refl _⟩
      ·simp only [go_sem,a0j]
       exact hk v1 v2 v3 nx1 (.inl rfl) (.inl rfl) (.inl rfl) hn1
     ·have hx:=Decidable.not_not.1 hx
      have e:a1p verb line a=(okT,((a.1.1.take (a.1.1.length-1),a.1.2.1,a.1.2.2),a.2)):=by rw [e0,e1];unfold a7c;rw [if_pos ⟨hz,hx⟩];rfl
      rw [e] at hK
      have hk:=a0U hK rfl
      refine⟨⟨by omega,by omega⟩,?_⟩
      refine⟨_,a0g (fun p=>p) (l:=[(6,.st okT)]) (r:=[(0,.box v 106 10 (shC 1 2 3 4 v1 v2 v3 v4 ((a.1.1.take (a.1.1.length-1),a.1.2.1,a.1.2.2),a.2))),(1,a0m v1 (a.1.1.take (a.1.1.length-1))),(2,a0m v2 (a.1.2.1)),(3,a0m v3 (a.1.2.2)),(4,mgR v4 a.2.2)]) (sz:=51) (top:=5) (nx:=nx1) (df:=[]) ?_,?_⟩
      ·simp only [go_sem,a0j]
       refine⟨a0a.box fun j hj=>?_,b2H _,a0a.refl _,a0a.refl _,a0a.refl _⟩
       have hc:j=0\/j=1\/j=2\/j=3\/j=4\/j=5\/j=6\/j=7\/j=8\/j=9:=by omega
       have hT:(a.1.1.take (a.1.1.length-1)).length=a.1.1.length-1:=by rw [List.length_take];omega
       rcases hc with rfl|rfl|rfl|rfl|rfl|rfl|rfl|rfl|rfl|rfl
       case inl=>
        show a0e (.ow 1 v1 _) (.ow 1 v1 (a.1.1.take (a.1.1.length-1)).length)
        rw [hT]
        exact a0e.refl _
       all_goals exact a0e.refl _
      ·simp only [go_sem,a0j]
       exact hk v1 v2 v3 nx1 (.inl rfl) (.inl rfl) (.inl rfl) hn1
  ·rw [f1,f2]
   have e0:a1p verb line a=a4B verb 1 a:=by unfold a1p;rw [hw,f1,if_pos ⟨h2,by decide⟩]
   by_cases hc:verb=b0K
   ·have e:a1p verb line a=(okT,((a.1.1,[],a.1.2.2),a.2)):=by rw [e0];unfold a4B;rw [if_pos hc];rfl
    rw [e] at hK
    have hk:=a0U hK rfl
    subst hc
    simp only [go_sem,a0j,b0K]
    refine⟨_,(a1g.adoptB (q:=0) 1 5 1 (a2j []) rfl rfl).trans (a0g (fun p=>if p=2 then 5 else p) (l:=[(6,.st okT)]) (r:=[(0,.box v 106 10 (shC 1 2 3 4 v1 nx1 v3 v4 ((a.1.1,[],a.1.2.2),a.2))),(1,a0m v1 (a.1.1)),(2,a0m nx1 ([])),(3,a0m v3 (a.1.2.2)),(4,mgR v4 a.2.2)]) (sz:=51) (top:=5) (nx:=nx1+1) (df:=[]) ?_),?_⟩
    ·simp only [go_sem,a0j]
     refine⟨a0a.box fun j hj=>?_,a0a.refl _,a0a.refl _,a0a.refl _,a0a.refl _⟩
     have hc:j=0\/j=1\/j=2\/j=3\/j=4\/j=5\/j=6\/j=7\/j=8\/j=9:=by omega
     rcases hc with rfl|rfl|rfl|rfl|rfl|rfl|rfl|rfl|rfl|rfl<;>first|exact a0e.refl _|exact a0e.ow
    ·simp only [go_sem,a0j]
     exact hk v1 nx1 v3 (nx1+1) (.inl rfl) (.inr hn1) (.inl rfl) (by omega)
   ·have e1:a4B verb 1 a=match a7c (a.1.2.1) with
     | some t=>(okT,b8U a 1 t)
     | none=>(a0V,a):=by unfold a4B;rw [if_neg hc];rfl
    have hc':¬verb=[99,108,101,97,114]:=hc
    by_cases hz:a.1.2.1=[]
    ·have e:a1p verb line a=(a0V,a):=by rw [e0,e1];unfold a7c;rw [if_neg fun h=>h.1 hz]
     rw [e] at hK
     have hk:=a0U hK rfl
     have hlen:a.1.2.1.length=0:=by rw [hz];rfl
     have hI0:((a.1.2.1.length:Int)-1<0)=True:=eq_true (by omega)
     simp only [go_sem,a0j,hc']
     refine⟨by omega,?_⟩
     refine AW.drawK hΓ mixed 12 [] [] [] [0,2] (by decide +kernel) ?_
     simp only [go_sem,a0j,hI0,a0m,a2j]
     refine⟨_,a0g (fun p=>p) (l:=[(6,.st a0V)]) (r:=[(0,.box v 106 10 (shC 1 2 3 4 v1 v2 v3 v4 a)),(1,a0m v1 a.1.1),(2,a0m v2 a.1.2.1),(3,a0m v3 a.1.2.2),(4,mgR v4 a.2.2)]) (sz:=51) (top:=5) (nx:=nx1) (df:=[]) ?_,?_⟩
     ·simp only [go_sem,a0j]
      exact⟨a0a.refl _,a0a.refl _,a0a.refl _,a0a.refl _,a0a.refl _⟩
     ·simp only [go_sem,a0j]
      exact hk v1 v2 v3 nx1 (.inl rfl) (.inl rfl) (.inl rfl) hn1
    ·obtain⟨z1,z2,z3⟩:=hs
     have hp:0<a.1.2.1.length:=List.length_pos_iff.2 hz
     have hI0:((a.1.2.1.length:Int)-1<0)=False:=eq_false (by omega)
     have hn1':((a.1.2.1.length:Int)-1).toNat=a.1.2.1.length-1:=by omega
     simp only [go_sem,a0j,hc']
     refine⟨by omega,?_⟩
     refine AW.drawK hΓ mixed 12 [] [] [] [0,2] (by decide +kernel) ?_
     simp only [go_sem,a0j,hI0,hn1',a0m,a2j]
     refine⟨⟨by omega,by omega⟩,by omega,fun hx=>?_,fun hx=>?_⟩
     ·have e:a1p verb line a=(a0V,a):=by rw [e0,e1];unfold a7c;rw [if_neg fun h=>hx h.2]
      rw [e] at hK
      have hk:=a0U hK rfl
      refine⟨_,a0g (fun p=>p) (l:=[(6,.st a0V)]) (r:=[(0,.box v 106 10 (shC 1 2 3 4 v1 v2 v3 v4 a)),(1,a0m v1 a.1.1),(2,a0m v2 a.1.2.1),(3,a0m v3 a.1.2.2),(4,mgR v4 a.2.2)]) (sz:=51) (top:=5) (nx:=nx1) (df:=[]) ?_,?_⟩
      ·simp only [go_sem,a0j]
       exact⟨a0a.refl _,a0a.refl _,a0a.refl _,a0a.refl _,a0a.refl _⟩
      ·simp only [go_sem,a0j]
       exact hk v1 v2 v3 nx1 (.inl rfl) (.inl rfl) (.inl rfl) hn1
     ·have hx:=Decidable.not_not.1 hx
      have e:a1p verb line a=(okT,((a.1.1,a.1.2.1.take (a.1.2.1.length-1),a.1.2.2),a.2)):=by rw [e0,e1];unfold a7c;rw [if_pos ⟨hz,hx⟩];rfl
      rw [e] at hK
      have hk:=a0U hK rfl
      refine⟨⟨by omega,by omega⟩,?_⟩
      refine⟨_,a0g (fun p=>p) (l:=[(6,.st okT)]) (r:=[(0,.box v 106 10 (shC 1 2 3 4 v1 v2 v3 v4 ((a.1.1,a.1.2.1.take (a.1.2.1.length-1),a.1.2.2),a.2))),(1,a0m v1 (a.1.1)),(2,a0m v2 (a.1.2.1.take (a.1.2.1.length-1))),(3,a0m v3 (a.1.2.2)),(4,mgR v4 a.2.2)]) (sz:=51) (top:=5) (nx:=nx1) (df:=[]) ?_,?_⟩
      ·simp only [go_sem,a0j]
       refine⟨a0a.box fun j hj=>?_,a0a.refl _,b2H _,a0a.refl _,a0a.refl _⟩
       have hc:j=0\/j=1\/j=2\/j=3\/j=4\/j=5\/j=6\/j=7\/j=8\/j=9:=by omega
       have hT:(a.1.2.1.take (a.1.2.1.length-1)).length=a.1.2.1.length-1:=by rw [List.length_take];omega
       rcases hc with rfl|rfl|rfl|rfl|rfl|rfl|rfl|rfl|rfl|rfl
       case inr.inl=>
        show a0e (.ow 2 v2 _) (.ow 2 v2 (a.1.2.1.take (a.1.2.1.length-1)).length)
        rw [hT]
        exact a0e.refl _
       all_goals exact a0e.refl _
      ·simp only [go_sem,a0j]
       exact hk v1 v2 v3 nx1 (.inl rfl) (.inl rfl) (.inl rfl) hn1
  ·rw [f1,f2]
   have e0:a1p verb line a=a4B verb 2 a:=by unfold a1p;rw [hw,f1,if_pos ⟨h2,by decide⟩]
   by_cases hc:verb=b0K
   ·have e:a1p verb line a=(okT,((a.1.1,a.1.2.1,[]),a.2)):=by rw [e0];unfold a4B;rw [if_pos hc];rfl
    rw [e] at hK
    have hk:=a0U hK rfl
    subst hc
    simp only [go_sem,a0j,b0K]
    refine⟨_,(a1g.adoptB (q:=0) 2 5 1 (a2j []) rfl rfl).trans (a0g (fun p=>if p=3 then 5 else p) (l:=[(6,.st okT)]) (r:=[(0,.box v 106 10 (shC 1 2 3 4 v1 v2 nx1 v4 ((a.1.1,a.1.2.1,[]),a.2))),(1,a0m v1 (a.1.1)),(2,a0m v2 (a.1.2.1)),(3,a0m nx1 ([])),(4,mgR v4 a.2.2)]) (sz:=51) (top:=5) (nx:=nx1+1) (df:=[]) ?_),?_⟩
    ·simp only [go_sem,a0j]
     refine⟨a0a.box fun j hj=>?_,a0a.refl _,a0a.refl _,a0a.refl _,a0a.refl _⟩
     have hc:j=0\/j=1\/j=2\/j=3\/j=4\/j=5\/j=6\/j=7\/j=8\/j=9:=by omega
     rcases hc with rfl|rfl|rfl|rfl|rfl|rfl|rfl|rfl|rfl|rfl<;>first|exact a0e.refl _|exact a0e.ow
    ·simp only [go_sem,a0j]
     exact hk v1 v2 nx1 (nx1+1) (.inl rfl) (.inl rfl) (.inr hn1) (by omega)
   ·have e1:a4B verb 2 a=match a7c (a.1.2.2) with
     | some t=>(okT,b8U a 2 t)
     | none=>(a0V,a):=by unfold a4B;rw [if_neg hc];rfl
    have hc':¬verb=[99,108,101,97,114]:=hc
    by_cases hz:a.1.2.2=[]
    ·have e:a1p verb line a=(a0V,a):=by rw [e0,e1];unfold a7c;rw [if_neg fun h=>h.1 hz]
     rw [e] at hK
     have hk:=a0U hK rfl
     have hlen:a.1.2.2.length=0:=by rw [hz];rfl
     have hI0:((a.1.2.2.length:Int)-1<0)=True:=eq_true (by omega)
     simp only [go_sem,a0j,hc']
     refine⟨by omega,?_⟩
     refine AW.drawK hΓ mixed 12 [] [] [] [0,3] (by decide +kernel) ?_
     simp only [go_sem,a0j,hI0,a0m,a2j]
     refine⟨_,a0g (fun p=>p) (l:=[(6,.st a0V)]) (r:=[(0,.box v 106 10 (shC 1 2 3 4 v1 v2 v3 v4 a)),(1,a0m v1 a.1.1),(2,a0m v2 a.1.2.1),(3,a0m v3 a.1.2.2),(4,mgR v4 a.2.2)]) (sz:=51) (top:=5) (nx:=nx1) (df:=[]) ?_,?_⟩
     ·simp only [go_sem,a0j]
      exact⟨a0a.refl _,a0a.refl _,a0a.refl _,a0a.refl _,a0a.refl _⟩
     ·simp only [go_sem,a0j]
      exact hk v1 v2 v3 nx1 (.inl rfl) (.inl rfl) (.inl rfl) hn1
    ·obtain⟨z1,z2,z3⟩:=hs
     have hp:0<a.1.2.2.length:=List.length_pos_iff.2 hz
     have hI0:((a.1.2.2.length:Int)-1<0)=False:=eq_false (by omega)
     have hn1':((a.1.2.2.length:Int)-1).toNat=a.1.2.2.length-1:=by omega
     simp only [go_sem,a0j,hc']
     refine⟨by omega,?_⟩
     refine AW.drawK hΓ mixed 12 [] [] [] [0,3] (by decide +kernel) ?_
     simp only [go_sem,a0j,hI0,hn1',a0m,a2j]
     refine⟨⟨by omega,by omega⟩,by omega,fun hx=>?_,fun hx=>?_⟩
     ·have e:a1p verb line a=(a0V,a):=by rw [e0,e1];unfold a7c;rw [if_neg fun h=>hx h.2]
      rw [e] at hK
      have hk:=a0U hK rfl
      refine⟨_,a0g (fun p=>p) (l:=[(6,.st a0V)]) (r:=[(0,.box v 106 10 (shC 1 2 3 4 v1 v2 v3 v4 a)),(1,a0m v1 a.1.1),(2,a0m v2 a.1.2.1),(3,a0m v3 a.1.2.2),(4,mgR v4 a.2.2)]) (sz:=51) (top:=5) (nx:=nx1) (df:=[]) ?_,?_⟩
      ·simp only [go_sem,a0j]
       exact⟨a0a.refl _,a0a.refl _,a0a.refl _,a0a.refl _,a0a.refl _⟩
      ·simp only [go_sem,a0j]
       exact hk v1 v2 v3 nx1 (.inl rfl) (.inl rfl) (.inl rfl) hn1
     ·have hx:=Decidable.not_not.1 hx
      have e:a1p verb line a=(okT,((a.1.1,a.1.2.1,a.1.2.2.take (a.1.2.2.length-1)),a.2)):=by rw [e0,e1];unfold a7c;rw [if_pos ⟨hz,hx⟩];rfl
      rw [e] at hK
      have hk:=a0U hK rfl
      refine⟨⟨by omega,by omega⟩,?_⟩
      refine⟨_,a0g (fun p=>p) (l:=[(6,.st okT)]) (r:=[(0,.box v 106 10 (shC 1 2 3 4 v1 v2 v3 v4 ((a.1.1,a.1.2.1,a.1.2.2.take (a.1.2.2.length-1)),a.2))),(1,a0m v1 (a.1.1)),(2,a0m v2 (a.1.2.1)),(3,a0m v3 (a.1.2.2.take (a.1.2.2.length-1))),(4,mgR v4 a.2.2)]) (sz:=51) (top:=5) (nx:=nx1) (df:=[]) ?_,?_⟩
      ·simp only [go_sem,a0j]
       refine⟨a0a.box fun j hj=>?_,a0a.refl _,a0a.refl _,b2H _,a0a.refl _⟩
       have hc:j=0\/j=1\/j=2\/j=3\/j=4\/j=5\/j=6\/j=7\/j=8\/j=9:=by omega
       have hT:(a.1.2.2.take (a.1.2.2.length-1)).length=a.1.2.2.length-1:=by rw [List.length_take];omega
       rcases hc with rfl|rfl|rfl|rfl|rfl|rfl|rfl|rfl|rfl|rfl
       case inr.inr.inl=>
        show a0e (.ow 3 v3 _) (.ow 3 v3 (a.1.2.2.take (a.1.2.2.length-1)).length)
        rw [hT]
        exact a0e.refl _
       all_goals exact a0e.refl _
      ·simp only [go_sem,a0j]
       exact hk v1 v2 v3 nx1 (.inl rfl) (.inl rfl) (.inl rfl) hn1
 ·have hI:(((wdL line).tail.length:Int)=1)=False:=eq_false (by rw [List.length_tail];have:=List.length_pos_iff.2 (a62 line);omega)
  have e:a1p verb line a=(a0V,a):=by unfold a1p;rw [if_neg fun h=>h2 h.1]
  rw [e] at hK
  have hk:=a0U hK rfl
  refine AW.of hΓ mixed [99999] _ _ _ rfl ?_
  simp only [go_sem,a0j,hI]
  refine⟨_,a0g (fun p=>p) (l:=[(6,.st a0V)]) (r:=[(0,.box v 106 10 (shC 1 2 3 4 v1 v2 v3 v4 a)),(1,a0m v1 a.1.1),(2,a0m v2 a.1.2.1),(3,a0m v3 a.1.2.2),(4,mgR v4 a.2.2)]) (sz:=51) (top:=5) (nx:=nx) (df:=[]) ?_,?_⟩
  ·simp only [go_sem,a0j]
   exact⟨a0a.refl _,a0a.refl _,a0a.refl _,a0a.refl _,a0a.refl _⟩
  ·simp only [go_sem,a0j]
   exact hk v1 v2 v3 nx (.inl rfl) (.inl rfl) (.inl rfl) (Nat.le_refl _)
def a0y:a0L:=a1F c7O
theorem c0J:a0i Tryz.prog 57 a0y:=c78.frame
end Go.Proofs.YthpjjjnbkfnghaaGreatDoor
namespace Go.Proofs.YthpjjjnbkfnghaaGreatDoor
open Go
section
variable {P:Program} {st:AS} {K:AS->Prop} {o:Oper}
theorem d1P {t t':TypeId} {x y:Operand} {p q:Int} (ho:o.op=.binOp .sub t x y t') (hxe:st.ev x=.val (.int .i64 p)) (hye:st.ev y=.val (.int .i64 q)) (hd:a0N st.sz o.dst)
  (hK:K ⟨a2b st.fr o.dst (.val (.int .i64 (IntKind.i64.wrap (p-q)))),st.hp,st.sz,st.top,st.nx,st.df⟩):OpW P o st K:=by
 refine a7t hd (fun c η a w hsr=>?_) hK
 have hev:∀ x,Rep w η (a0Y c η st.hp) (st.ev x) (a.eval x):=a1X hsr.slots
 have hx:a.eval x=.int .i64 p:=by
  have hx:=hev x
  rw [hxe] at hx
  exact hx
 have hy:a.eval y=.int .i64 q:=by
  have hy:=hev y
  rw [hye] at hy
  exact hy
 exact⟨.int .i64 (IntKind.i64.wrap (p-q)),by simp [execOp,ho,hx,hy,binOp,Op.intArith,eqGuard],rfl⟩
end
end Go.Proofs.YthpjjjnbkfnghaaGreatDoor
set_option maxRecDepth 100000
set_option maxHeartbeats 2000000
namespace Go.Proofs.YthpjjjnbkfnghaaGreatDoor
open Go
attribute [local irreducible] AW a0e a1g a0a
def a4n:a0s:=a0s.f1 kI (fun _=>True) (fun n=>kB.enc (a9Z n))
theorem b6X:a0d Tryz.prog 128 a4n:=by
 refine a0d.f1 Tryz.func128 rfl (by decide) Tryz.results128 Tryz.ntmps128 (by decide) fun n _=>?_
 have hΓ:GOK Tryz.prog (gam []):=GOK.nil
 refine AW.of hΓ mixed [] _ _ _ rfl ?_
 simp only [go_sem]
 refine⟨fun h=>by rw [decide_eq_false h];rfl,fun h=>by rw [h];rfl,?_⟩
 unfold a9Z
 rw [Bool.or_assoc]
def a9p:a0s:=a0s.f2 (kA ePt) kI (fun _ _=>True) (fun p n=>tu2 (kS.enc (ofS p n).1) (kI.enc (ofS p n).2))
theorem d3f:a0d Tryz.prog 132 a9p:=by
 refine a0d.f2 Tryz.func132 rfl (by decide) Tryz.results132 Tryz.ntmps132 (by decide) fun p n _=>?_
 have hΓ:GOK Tryz.prog (gam [(128,a4n)]):=(.cons b6X .nil)
 obtain⟨ll,bl,rl,h,t,l,b,r,hb⟩:=p
 unfold ofS
 cases hs:a9Z n with
 | false=>
   refine AW.of hΓ mixed [] _ _ _ rfl ?_
   simp only [go_sem,a4n,hs]
 | true=>
   rw [if_neg (by simp)]
   by_cases h1:n=1
   ·subst h1
    refine AW.of hΓ mixed [] _ _ _ rfl ?_
    simp only [go_sem,a4n,hs]
   ·rw [if_neg h1]
    by_cases h3:n=3
    ·subst h3
     refine AW.of hΓ mixed [] _ _ _ rfl ?_
     simp only [go_sem,a4n,hs]
    ·rw [if_neg h3]
     cases hb with
     | false=>
       refine AW.of hΓ mixed [] _ _ _ rfl ?_
       simp only [go_sem,a4n,hs,h1,h3]
     | true=>
       refine AW.of hΓ mixed [] _ _ _ rfl ?_
       simp only [go_sem,a4n,hs,h1,h3]
theorem b8A {d:List Pt} {i:Nat} (h:i<d.length) (j:Nat) (n:Int):a16 (d.drop i) j n=if hkP (d.getD i ePt.dflt)=true then (if n=0 then (j:Int) else a16 (d.drop (i+1)) (j+1) (n-1)) else a16 (d.drop (i+1)) (j+1) n:=by
 rw [List.drop_eq_getElem_cons h,a16,a1e d ePt.dflt h]
theorem b8Q (d:List Pt) (i:Nat) {m:Int} (h:gI m) (hd:d.length<100000000):gI (IntKind.i64.wrap (m-1))/\a16 d i (m-1)=a16 d i (IntKind.i64.wrap (m-1)):=by
 obtain⟨h1,h2⟩:=h
 by_cases hm:m=-9223372036854775808
 ·subst hm
  have e:IntKind.i64.wrap (-9223372036854775808-1)=9223372036854775807:=by decide +kernel
  have hc:=a5z d
  rw [e,a7N d i _ (by omega),(a43 d i 9223372036854775807 (by omega)).1 (by omega)]
  exact⟨⟨by omega,by omega⟩,rfl⟩
 ·rw [a5N _ (by omega)]
  exact⟨⟨by omega,by omega⟩,rfl⟩
def a6o:a0s:=a0s.f2 (kL ePt) kI (fun l n=>l.length<100000000/\gI n) (fun l n=>kI.enc (a16 l 0 n))
theorem c9a:a0d Tryz.prog 131 a6o:=by
 refine a0d.f2 Tryz.func131 rfl (by decide) Tryz.results131 Tryz.ntmps131 (by decide) fun d n ⟨hl,hn⟩=>?_
 have hΓ:GOK Tryz.prog (gam []):=GOK.nil
 refine AW.of hΓ mixed [] _ _ _ rfl ?_
 simp only [go_sem]
 refine AW.round (α:={ x:Nat×Int×Nat // x.1<=d.length/\gI x.2.1/\a16 d 0 n=a16 (d.drop x.1) x.1 x.2.1 })
  (fun x=>⟨[(1,.val (.int .i64 x.1.2.1)),(7,sL ePt d),(8,.val (.int .i64 d.length)),(9,.val (.int .i64 x.1.1))],[],23,0,x.1.2.2,[]⟩) (fun x=>d.length-x.1.1) ⟨(0,n,0),Nat.zero_le _,hn,rfl⟩ ?_ ?_
 ·simp only [go_sem]
 ·rintro⟨⟨i,m,nx⟩,hi,hg,he⟩
  simp only at hi hg he
  refine AW.of hΓ mixed [3,6,99999] _ _ _ rfl ?_
  simp only [go_sem]
  refine⟨fun hlt=>⟨by omega,?_⟩,fun hge=>?_⟩
  ·have hlt':i<d.length:=by omega
   rw [b8A hlt'] at he
   generalize hpe:d.getD i ePt.dflt=p at *
   refine AW.cut ⟨[(1,.val (.int .i64 m)),(5,.val (.int .i64 i)),(6,.pt 0 nx 0),(7,sL ePt d),(8,.val (.int .i64 d.length)),(9,.val (.int .i64 i))],[(0,.box nx 179 9 (ePt.enc p))],23,1,nx+1,[]⟩ ?_ ?_
   ·simp only [go_sem]
    exact a0a.box fun j hj=>a0e.of_eq (a9T (Nat.zero_le _) (by omega))
   refine AW.still 6 0 nx 179 9 _ rfl rfl (fun j hj=>match j,hj with|0,_=>rfl|1,_=>rfl|2,_=>rfl|3,_=>rfl|4,_=>rfl|5,_=>rfl|6,_=>rfl|7,_=>rfl|8,_=>rfl) ?_
   obtain⟨ll,bl,rl,h,t,l,b,r,hb⟩:=p
   cases h with
   | false=>
     rw [if_neg (by simp [hkP])] at he
     refine AW.of hΓ mixed [99999] _ _ _ rfl ?_
     simp only [go_sem]
     exact⟨by omega,⟨(i+1,m,nx+1),by dsimp only;omega,hg,he⟩,⟨Nat.le_refl _,by dsimp only;omega⟩,by dsimp only;omega⟩
   | true=>
     rw [if_pos rfl] at he
     by_cases hm:m=0
     ·subst hm
      rw [if_pos rfl] at he
      refine AW.of hΓ mixed [99999] _ _ _ rfl ?_
      simp only [go_sem]
      rw [he]
     ·rw [if_neg hm] at he
      refine AW.fork ?_
      refine AW.of hΓ mixed [] _ _ _ rfl ?_
      simp only [go_sem]
      refine AW.fork ?_
      refine AW.of hΓ mixed [] _ _ _ rfl ?_
      simp only [go_sem,hm]
      refine AW.regionO hΓ [false,true,false] ?_
      simp only [go_sem]
      refine d1P rfl rfl rfl (Nat.lt_of_lt_of_le (by decide:21<23) (Nat.le_refl _)) ?_
      simp only [go_sem]
      obtain⟨g1,g2⟩:=b8Q (d.drop (i+1)) (i+1) hg (by simp;omega)
      exact⟨by omega,⟨(i+1,IntKind.i64.wrap (m-1),nx+1),by dsimp only;omega,g1,he.trans g2⟩,⟨Nat.le_refl _,rfl,by dsimp only;omega⟩,by dsimp only;omega⟩
  ·obtain rfl:i=d.length:=by omega
   rw [he,List.drop_length]
   rfl
end Go.Proofs.YthpjjjnbkfnghaaGreatDoor
set_option maxRecDepth 100000
set_option maxHeartbeats 2000000
namespace Go.Proofs.YthpjjjnbkfnghaaGreatDoor
open Go
attribute [local irreducible] AW a0e a1g a0a
def b4L (p:Pt):Nat:=p.2.2.2.2.1.length+(p.2.2.2.2.2.1.length+p.2.2.2.2.2.2.1.length+p.2.2.2.2.2.2.2.1.length)
def a7y (d:List Pt):Nat:=(d.map b4L).sum
theorem c6M {d:List Pt} {i:Nat} (h:i<d.length):a7y (d.drop i)=b4L (d.getD i ePt.dflt)+a7y (d.drop (i+1)):=by
 rw [List.drop_eq_getElem_cons h,a1e d ePt.dflt h]
 unfold a7y
 rw [List.map_cons,List.sum_cons]
theorem b8X {d:List Pt} {i:Nat} (h:i<d.length):a0w (d.drop i)=(if hkP (d.getD i ePt.dflt)=true then 1 else 0)+a0w (d.drop (i+1)):=by
 rw [List.drop_eq_getElem_cons h,a1e d ePt.dflt h,a2Y]
theorem c3i {d:List Pt} {i:Nat} (h:i<d.length) (ss:List Int) (acc:BS):a6w (d.drop i) ss acc=if hkP (d.getD i ePt.dflt)=true then (if (ofS (d.getD i ePt.dflt) (ss.getD 0 0)).2≠0 then ([],(ofS (d.getD i ePt.dflt) (ss.getD 0 0)).2) else a6w (d.drop (i+1)) ss.tail (acc++(ofS (d.getD i ePt.dflt) (ss.getD 0 0)).1)) else a6w (d.drop (i+1)) ss (acc++(d.getD i ePt.dflt).2.2.2.2.1):=by
 rw [List.drop_eq_getElem_cons h,a1e d ePt.dflt h,a6w]
theorem c8T (rs:List Int):a0e (.sn (rs.length-1) 1 fun i=>eI.enc (rs.getD (1+i) 0)) (sL eI rs.tail):=by
 have e:(fun i=>eI.enc (rs.getD (1+i) 0))=fun i=>eI.enc (rs.tail.getD i 0):=by
  funext i
  simp [List.getD,Nat.add_comm]
 rw [e]
 exact a4H (E:=eI) rfl rfl (by simp)
def b4f:a0s:=a0s.f2 (kL ePt) (kL eI) (fun d ss=>d.length<100000000/\a0w d<=ss.length/\ss.length<1000000000/\a7y d<=90000000000) (fun d ss=>tu2 (kS.enc (a6w d ss []).1) (kI.enc (a6w d ss []).2))
theorem c8J:a0d Tryz.prog 129 b4f:=by
 refine a0d.f2 Tryz.func129 rfl (by decide) Tryz.results129 Tryz.ntmps129 (by decide) fun d ss ⟨hl,hc,hss,hw⟩=>?_
 have hΓ:GOK Tryz.prog (gam [(132,a9p),(88,a0D),(92,a1K)]):=(.cons d3f (.cons b7N (.cons c77 .nil)))
 refine AW.of hΓ mixed [0] _ _ _ rfl ?_
 simp only [go_sem,a9p,a0D,a1K]
 refine AW.fork (AW.regionO hΓ [true] ?_)
 simp only [go_sem,a9p,a0D,a1K]
 refine b3l rfl b5g (Nat.lt_of_lt_of_le (by decide:6<38) (Nat.le_refl _)) ?_
 simp only [go_sem,a9p,a0D,a1K]
 refine AW.cut ⟨[(0,sL ePt d),(1,sL eI ss),(6,.pt 0 0 0)],[(0,.box 0 138 2 (a7e false 0 0 1 0 [])),(1,a8m 0 [])],38,2,1,[]⟩ ?_ ?_
 ·simp only [go_sem,a9p,a0D,a1K]
  refine⟨a0a.box fun j hj=>?_,a0a.refl _⟩
  match j,hj with
  | 0,_=>exact a0e.refl _
  | 1,_=>exact a0e.refl _
 refine AW.of hΓ mixed [] _ _ _ rfl ?_
 simp only [go_sem,a9p,a0D,a1K]
 refine AW.round (α:={ x:Nat×List Int×BS×Bool×Nat×Nat // x.1<=d.length/\a6w d ss []=a6w (d.drop x.1) x.2.1 x.2.2.1/\x.2.2.1.length+a7y (d.drop x.1)<=a7y d/\a0w (d.drop x.1)<=x.2.1.length/\x.2.1.length<=ss.length })
  (fun x=>⟨[(1,sL eI x.1.2.1),(6,.pt 0 0 0),(11,sL ePt d),(12,.val (.int .i64 d.length)),(13,.val (.int .i64 x.1.1))],
   [(0,.box 0 138 2 (a7e x.1.2.2.2.1 0 0 1 x.1.2.2.2.2.1 x.1.2.2.1)),(1,a8m x.1.2.2.2.2.1 x.1.2.2.1)],38,2,x.1.2.2.2.2.2,[]⟩) (fun x=>d.length-x.1.1) ⟨(0,ss,[],false,0,1),Nat.zero_le _,rfl,by simp,hc,Nat.le_refl _⟩ ?_ ?_
 ·simp only [go_sem,a9p,a0D,a1K]
  exact⟨a0a.refl _,a0a.refl _⟩
 ·rintro⟨⟨i,rs,acc,f,u,nx⟩,hi,he,ha,hc1,hc2⟩
  simp only at hi he ha hc1 hc2
  refine AW.of hΓ mixed [4,99999] _ _ _ rfl ?_
  simp only [go_sem,a9p,a0D,a1K]
  refine⟨fun hlt=>⟨by omega,?_⟩,fun hge=>?_⟩
  ·have hlt':i<d.length:=by omega
   rw [c3i hlt'] at he
   rw [c6M hlt'] at ha
   rw [b8X hlt'] at hc1
   generalize hpe:d.getD i ePt.dflt=p at *
   refine AW.cut ⟨[(1,sL eI rs),(6,.pt 0 0 0),(8,.pt 2 nx 0),(11,sL ePt d),(12,.val (.int .i64 d.length)),(13,.val (.int .i64 i))],
    [(0,.box 0 138 2 (a7e f 0 0 1 u acc)),(1,a8m u acc),(2,.box nx 179 9 (ePt.enc p))],38,3,nx+1,[]⟩ ?_ ?_
   ·simp only [go_sem,a9p,a0D,a1K]
    exact⟨a0a.refl _,a0a.refl _,a0a.box fun j hj=>a0e.of_eq (a9T (Nat.zero_le _) (by omega))⟩
   refine AW.still 8 2 nx 179 9 _ rfl rfl (fun j hj=>match j,hj with|0,_=>rfl|1,_=>rfl|2,_=>rfl|3,_=>rfl|4,_=>rfl|5,_=>rfl|6,_=>rfl|7,_=>rfl|8,_=>rfl) ?_
   have hwp:=b2M p (rs.getD 0 0)
   unfold b4L at ha
   obtain⟨ll,bl,rl,h,tx,l,b,r,hb⟩:=p
   dsimp only at ha hwp
   cases h with
   | true=>
     rw [if_pos rfl] at he hc1
     generalize ho:ofS (ll,bl,rl,true,tx,l,b,r,hb) (rs.getD 0 0)=o at *
     obtain⟨t,e⟩:=o
     dsimp only at he hwp
     by_cases hz:e=0
     ·subst hz
      rw [if_neg (by simp)] at he
      refine AW.of hΓ mixed [99999] _ _ _ rfl ?_
      simp only [go_sem,a9p,a0D,a1K,ho]
      refine⟨by omega,⟨by omega,by omega⟩,?_⟩
      refine a5b (by decide) (a0a.refl _) (a0a.refl _) (by decide) (by omega) fun u1 n1 g1 h1=>?_
      simp only [go_sem,a9p,a0D,a1K]
      exact⟨by omega,⟨(i+1,rs.tail,acc++t,true,u1,n1),by dsimp only;omega,he,by dsimp only;rw [List.length_append];omega,by dsimp only;rw [List.length_tail];omega,by dsimp only;rw [List.length_tail];omega⟩,⟨Nat.le_refl _,⟨c8T rs,by dsimp only;omega⟩,a0a.refl _,a0a.refl _⟩,by dsimp only;omega⟩
     ·rw [if_pos hz] at he
      refine AW.of hΓ mixed [99999] _ _ _ rfl ?_
      simp only [go_sem,a9p,a0D,a1K,ho,hz]
      rw [he]
      exact⟨by omega,rfl,rfl⟩
   | false=>
     rw [if_neg (by simp [hkP])] at he hc1
     refine AW.of hΓ mixed [99999] _ _ _ rfl ?_
     simp only [go_sem,a9p,a0D,a1K]
     refine a5b (by decide) (a0a.refl _) (a0a.refl _) (by decide) (by omega) fun u1 n1 g1 h1=>?_
     simp only [go_sem,a9p,a0D,a1K]
     exact⟨by omega,⟨(i+1,rs,acc++tx,true,u1,n1),by dsimp only;omega,he,by dsimp only;rw [List.length_append];omega,by dsimp only;omega,hc2⟩,⟨Nat.le_refl _,⟨a0e.refl _,by dsimp only;omega⟩,a0a.refl _,a0a.refl _⟩,by dsimp only;omega⟩
  ·obtain rfl:i=d.length:=by omega
   rw [List.drop_length] at he ha
   rw [he]
   exact⟨f,0,0,1,u,acc,rfl,rfl,rfl,by omega,rfl,rfl⟩
end Go.Proofs.YthpjjjnbkfnghaaGreatDoor
set_option maxRecDepth 100000
set_option maxHeartbeats 2000000
namespace Go.Proofs.YthpjjjnbkfnghaaGreatDoor
open Go
attribute [local irreducible] AW a0e a1g a0a
theorem c4p (d:List Pt):a3X d<=a7y d:=by
 induction d with
 | nil=>exact Nat.le_refl _
 | cons p d ih=>
   have e1:a3X (p::d)=(txP p).length+a3X d:=by
    rw [show p::d=[p]++d from rfl,a2X,a2W]
   have e2:a7y (p::d)=b4L p+a7y d:=by
    unfold a7y
    rw [List.map_cons,List.sum_cons]
   rw [e1,e2]
   unfold b4L txP
   omega
theorem c0Y:∀ (d:List Pt) (k:Nat) (t:BS),t.length<=b4L (d.getD k ePt.dflt)->a7y (d.set k (a1n t))<=a7y d
 | [],_,_,_=>Nat.le_refl _
 | p::d,0,t,h=>by
   have h:t.length<=b4L p:=h
   have e:∀ q,a7y (q::d)=b4L q+a7y d:=fun q=>by
    unfold a7y
    rw [List.map_cons,List.sum_cons]
   rw [List.set_cons_zero,e,e]
   have:b4L (a1n t)=t.length:=by
    show t.length+(0+0+0)=_
    omega
   omega
 | p::d,k+1,t,h=>by
   have ih:=c0Y d k t (by simpa using h)
   have e:∀ l,a7y (p::l)=b4L p+a7y l:=fun l=>by
    unfold a7y
    rw [List.map_cons,List.sum_cons]
   rw [List.set_cons_succ,e,e]
   omega
def a4j:a0L:=fun args hp top nx K=>∃ x l,args=[x]/\a0e x (sL ePt l)/\l.length<100000000/\∀ ver nx',nx<=ver->ver<nx'->K (.ow top ver l.length) (a0S hp top (a05 ver 179 ePt l)) (top+1) nx'
theorem c59:a0i Tryz.prog 133 a4j:=by
 refine a0i.mk Tryz.func133 rfl (by decide) Tryz.results133 Tryz.ntmps133 ?_
 rintro args hp top nx K ⟨x,l,rfl,hx,hl,hK⟩
 have hΓ:GOK Tryz.prog (gam []):=GOK.nil
 refine⟨Nat.le_of_ble_eq_true rfl,?_⟩
 refine AW.le (a9c (.cons hx .nil)) ?_
 refine AW.of hΓ mixed [2,99999] _ _ _ rfl ?_
 simp only [go_sem]
 refine⟨fun h0=>?_,?_⟩
 ·refine AW.adopt 2 179 9 (fun i=>ePt.enc (l.getD i ePt.dflt)) rfl ?_
  refine AW.of hΓ mixed [] _ _ _ rfl ?_
  simp only [go_sem]
  obtain rfl:=List.length_eq_zero_iff.1 h0
  exact hK nx (nx+1) (Nat.le_refl _) (Nat.lt_succ_self _)
 ·exact⟨by omega,hK nx (nx+1) (Nat.le_refl _) (Nat.lt_succ_self _)⟩
def a5m:a0s:=a0s.f3 (kL ePt) kI kI (fun d n _=>d.length<100000000/\(∀ p∈d,b7a p)/\a7y d<=100000000/\gI n) (fun d n s=>tu2 (sL ePt (a9q d n s).1) (kI.enc (a9q d n s).2))
theorem d2w:a0d Tryz.prog 77 a5m:=by
 refine a0d.f3 Tryz.func77 rfl (by decide) Tryz.results77 Tryz.ntmps77 (by decide) fun d n side ⟨hd,hp,hw,hn⟩=>?_
 have hΓ:GOK Tryz.prog (gam [(125,a0X),(131,a6o),(132,a9p),(91,a0F),(133,a4j),(134,a4Q)]):=(.cons b2T (.cons c9a (.cons d3f (.cons a9s (.cons c59 (.cons d0s .nil))))))
 unfold a9q
 by_cases hr:a3n d=false
 ·rw [if_pos hr]
  refine AW.of hΓ mixed [] _ _ _ rfl ?_
  simp only [go_sem,a0X,a6o,a9p,a0F,a4j,a4Q,hr]
  exact⟨⟨hd,hp⟩,a3Q _⟩
 have hr':a3n d=true:=by simpa using hr
 rw [if_neg hr]
 have hpl:a16 d 0 n=-1\/∃ k:Nat,a16 d 0 n=(k:Int)/\k<d.length:=by
  rcases Int.lt_or_le n 0 with g|g
  ·exact .inl (a7N d 0 n g)
  ·rcases Int.lt_or_le n (a0w d) with g2|g2
   ·obtain⟨k,g1,g3,_,_⟩:=(a43 d 0 n g).2 g2
    exact .inr ⟨k,by simpa using g1,g3⟩
   ·exact .inl ((a43 d 0 n g).1 g2)
 rcases hpl with hpl|⟨k,hpl,hk⟩
 ·rw [hpl,if_pos (by omega)]
  refine AW.of hΓ mixed [] _ _ _ rfl ?_
  simp only [go_sem,a0X,a6o,a9p,a0F,a4j,a4Q,hr',hpl]
  exact⟨⟨hd,hp⟩,⟨hd,hn⟩,a3Q _⟩
 rw [hpl,if_neg (by omega),Int.toNat_natCast]
 generalize hpe:d.getD k ePt.dflt=p at *
 have hwp:=b2M p side
 generalize ho:ofS p side=o at *
 obtain⟨t,e⟩:=o
 dsimp only at hwp ⊢
 have hpk:b7a p:=by
  rw [<-hpe,a1e d _ hk]
  exact hp _ (List.getElem_mem _)
 have htl:t.length<=100000000000:=by
  have:=hpk.2.2
  omega
 by_cases hz:e≠0
 ·rw [if_pos hz]
  refine AW.of hΓ mixed [] _ _ _ rfl ?_
  simp only [go_sem,a0X,a6o,a9p,a0F,a4j,a4Q,hr',hpl,hpe,ho,hz]
  exact⟨⟨hd,hp⟩,⟨hd,hn⟩,fun h=>absurd h (by omega),fun _=>⟨by omega,a3Q _⟩⟩
 rw [if_neg hz]
 have hz:e=0:=by simpa using hz
 subst hz
 by_cases ht:t≠[]/\a1d t=false/\(k:Int)<(d.length:Int)-1
 ·rw [if_pos ht]
  obtain⟨h1,h2,h3⟩:=ht
  refine AW.of hΓ mixed [] _ _ _ rfl ?_
  simp only [go_sem,a0X,a6o,a9p,a0F,a4j,a4Q,hr',hpl,hpe,ho,h1,h2]
  exact⟨⟨hd,hp⟩,⟨hd,hn⟩,fun h=>absurd h (by omega),fun _=>⟨by omega,htl,by omega,fun _=>a3Q _,fun h=>absurd h3 h⟩⟩
 ·rw [if_neg ht]
  refine AW.of hΓ mixed [11,12] _ _ _ rfl ?_
  simp only [go_sem,a0X,a6o,a9p,a0F,a4j,a4Q,hr',hpl,hpe,ho]
  refine⟨⟨hd,hp⟩,⟨hd,hn⟩,fun h=>absurd h (by omega),fun _=>⟨by omega,fun _=>htl,fun _=>by omega,fun⟨⟨g1,g2⟩,g3⟩=>ht ⟨g1,by simpa using g2,g3⟩,fun _=>⟨_,d,rfl,a0e.refl _,hd,fun ver nx' g1 g2=>?_⟩⟩⟩
  refine AW.of hΓ mixed [12] _ _ _ rfl ?_
  simp only [go_sem,a0X,a6o,a9p,a0F,a4j,a4Q]
  refine⟨by omega,hk,?_⟩
  refine AW.cut ⟨[(11,.ow 0 ver (d.set k (a1n t)).length)],[(0,a05 ver 179 ePt (d.set k (a1n t)))],55,1,nx',[]⟩ ?_ ?_
  ·simp only [go_sem,a0X,a6o,a9p,a0F,a4j,a4Q,List.length_set]
   refine a0a.sl (by simp) fun k' hk' j hj=>?_
   refine c1u (E:=ePt) (n:=d.length) hk (fun _ _ _ _=>a0e.refl _) (fun j hj=>?_) k' hk' j hj
   match j,hj with
   | 0,_=>exact a0e.refl _
   | 1,_=>exact a0e.refl _
   | 2,_=>exact a0e.refl _
   | 3,_=>exact a0e.refl _
   | 4,_=>exact a0e.refl _
   | 5,_=>exact a0e.refl _
   | 6,_=>exact a0e.refl _
   | 7,_=>exact a0e.refl _
   | 8,_=>exact a0e.refl _
  have hws:=c0Y d k t (by rw [hpe];unfold b4L;omega)
  have hls:(d.set k (a1n t)).length=d.length:=by simp
  have hst:=c4p (d.set k (a1n t))
  generalize d.set k (a1n t)=d' at *
  refine AW.freeze 0 ver 179 9 d'.length (fun i=>ePt.enc (d'.getD i ePt.dflt)) rfl (fun _ _ j hj=>match j,hj with|0,_=>rfl|1,_=>rfl|2,_=>rfl|3,_=>rfl|4,_=>rfl|5,_=>rfl|6,_=>rfl|7,_=>rfl|8,_=>rfl) ?_
  refine AW.cut ⟨[(11,sL ePt d')],[],55,1,nx',[]⟩ ?_ ?_
  ·simp only [go_sem,a0X,a6o,a9p,a0F,a4j,a4Q]
   exact a4H (E:=ePt) rfl rfl rfl
  refine AW.of hΓ mixed [] _ _ _ rfl ?_
  simp only [go_sem,a0X,a6o,a9p,a0F,a4j,a4Q]
  exact⟨by omega,by omega⟩
end Go.Proofs.YthpjjjnbkfnghaaGreatDoor
set_option maxRecDepth 100000
namespace Go.Proofs.YthpjjjnbkfnghaaGreatDoor
open Go
def obS (v k n:Nat):AV:=.ob fun η u=>∃ g cap,η v=some (some g,cap)/\u=.slice (some ⟨g,k,none⟩) (n-k) (cap-k)
def cpC (cc:Nat->Nat->AV) (k m:Nat) (dd:Nat->Nat->AV):Nat->Nat->AV:=fun i j=>if k<=i/\i<k+m then dd (i-k) j else cc i j
section
variable {P:Program} {st:AS} {o:Oper} {K:AS->Prop}
theorem c6t {t e:TypeId} {x y:Operand} {p v n:Nat} {k:Int} (ho:o.op=.slice t x (some y) none none) (ht:P.underlying t=some (.slice e)) (hs:P.cellsOf e=1) (hx:st.ev x=.ow p v n) (hy:st.ev y=.val (.int .i64 k)) (h0:0<=k) (hn:k<n) (hd:a0N st.sz o.dst)
  (hK:K ⟨a2b st.fr o.dst (obS v k.toNat n),st.hp,st.sz,st.top,st.nx,st.df⟩):OpM P o st K:=by
 intro fr' hl
 have ex:=hl x (by rw [ho];simp [Op.operands])
 have ey:=hl y (by rw [ho];simp [Op.operands])
 refine a7t (z:=obS v k.toNat n) hd (fun c η a w hsr=>?_) ⟨_,rfl,rfl,hK⟩
 have hev:∀ x,Rep w η (a0Y c η st.hp) (a9b fr' x) (a.eval x):=a1X hsr.slots
 have hxv:=hev x
 have hyv:=hev y
 rw [ex,show a9b st.fr x=_ from hx] at hxv
 rw [ey,show a9b st.fr y=_ from hy] at hyv
 obtain⟨g,cap,hη,hv⟩:=hxv
 have hyv:a.eval y=.int .i64 k:=hyv
 cases g with
 | none=>obtain⟨hv,_⟩:=hv;omega
 | some g=>
   obtain⟨hv,hcap⟩:=hv
   refine⟨.slice (some ⟨g,k.toNat,none⟩) (n-k.toNat) (cap-k.toNat),?_,η,fun _ _ h=>h,g,cap,hη,rfl⟩
   have hb:=a39 (P:=P) (w:=w) (η:=η) (L:=fun _=>False) (isS:=true) (len:=n) (cap:=cap) (lo:=some (.val (.int .i64 k))) (hi:=none) (vlo:=some (.int .i64 k)) (vhi:=none) (a:=k) (b:=n) rfl rfl h0 (by omega) (by omega) (.some rfl) .none
   unfold execOp
   rw [ho]
   simp [Instr.sliceAt,run_underlying ht,Instr.slice,hb,a0P (P:=P) (w:=w) hs Nat.one_pos,hv,hyv]
   rw [if_neg (by omega)]
   simp [a3A]
theorem c1O {t t' e:TypeId} {x y:Operand} {p v n k m:Nat} {cc dd:Nat->Nat->AV} (ho:o.op=.call ⟨.builtin .copy,⟨[x,y]⟩,⟨[t,t']⟩⟩) (ht:P.underlying t=some (.slice e)) (hs:(P.info? e).map (·.size)=some 1) (hrow:st.hp p=.sl v e 1 n cc) (hd:a0N st.sz o.dst)
  (h:∀ (c:Ctx) (η:Env) (a:Act) (w:World),SR c st η a w->∃ g cap dl dc,η v=some (some g,cap)/\a.eval x=.slice (some ⟨g,k,none⟩) dl dc/\k+dl<=n/\∃ ad sl sc,a.eval y=.slice (some ad) sl sc/\m=Nat.min sl dl/\
   ∀ i,i<m->∃ u,w.cell? (ad.add i)=some u/\u.oneCell'=true/\Rep w η (a0Y c η st.hp) (dd i 0) u)
  (hK:K ⟨a2b st.fr o.dst (.val (.int .i64 m)),a0S st.hp p (.sl v e 1 n (cpC cc k m dd)),st.sz,st.top,st.nx,st.df⟩):OpW P o st K:=by
 intro c η a w next Q hsr hnext
 obtain⟨g,cap,dl,dc,hη,hxv,hkd,ad,sl,sc,hyv,hm,hcell⟩:=h c η a w hsr
 have hr:=hsr.hs.rows p
 rw [hrow] at hr
 obtain⟨cur,hh,hsz,hnc,hcm,hc⟩:=hr _ _ hη
 have hmd:m<=dl:=by rw [hm];exact Nat.min_le_right _ _
 obtain⟨cs,hcl,hcs⟩:∃ cs:List Value,cs.length=m/\∀ i,i<m->w.cell? (ad.add i)=cs[i]?/\∃ u,cs[i]?=some u/\u.oneCell'=true/\Rep w η (a0Y c η st.hp) (dd i 0) u:=by
  refine⟨(List.range m).map fun i=>(w.cell? (ad.add i)).getD undef,by simp,fun i hi=>?_⟩
  obtain⟨u,hu,h1,h2⟩:=hcell i hi
  have:((List.range m).map fun i=>(w.cell? (ad.add i)).getD undef)[i]?=some u:=by simp [hi,hu]
  rw [this,hu]
  exact⟨rfl,u,rfl,h1,h2⟩
 have hblk:(st.hp p).blk η=some g:=by rw [hrow];simp [Row.blk,Row.ver,hη]
 have hf:=a6u w g (cur.toList.take k++cs++cur.toList.drop (k+cs.length)).toArray
 have hO:∀ k,k<w.heap.size->k=g->a0Y c η st.hp k:=fun k _ e=>.inr ⟨p,by rw [e];exact hblk⟩
 have hcur:cur.size=cap:=by rw [hsz,Nat.mul_one]
 have hrun:=run_copy_row P w t t' o.type e g k dl dc ad sl sc cur e cs ht hs hh (by rw [hcl,hm]) (fun j u hj=>by
   have hj':j<m:=by rw [<-hcl];exact (List.getElem?_eq_some_iff.1 hj).1
   rw [(hcs j hj').1,hj]) (by rw [hcl];omega) (fun u hu=>by
   obtain⟨j,hj,rfl⟩:=List.getElem_of_mem hu
   obtain⟨_,u,h1,h2,_⟩:=hcs j (by omega)
   rw [List.getElem?_eq_getElem hj] at h1
   rw [Option.some.inj h1]
   exact h2)
 rw [hcl] at hrun
 have hwr:=hsr.hs.write (row:=.sl v e 1 n (cpC cc k m dd)) hblk (by rw [hrow];rfl) hf (by
  intro g' cap' he
  rw [hη] at he
  simp only [Option.some.injEq,Prod.mk.injEq] at he
  obtain⟨rfl,rfl⟩:=he
  refine⟨_,setRow_heap w g cur _ e (0,0) hh,by simp [hcl];omega,hnc,hcm,fun i hi j hj=>?_⟩
  obtain rfl:j=0:=by omega
  rw [b0y cur cs k _ (by omega)]
  unfold cpC
  by_cases hki:k<=i/\i<k+m
  ·rw [if_pos (by omega),if_pos hki]
   obtain⟨_,u,h1,h2,h3⟩:=hcs (i-k) (by omega)
   exact⟨u,by rw [show i*1+0-k=i-k by omega];exact h1,h2,Rep.keep hf hO (fun _ _ h=>h) _ _ _ _ (Env.le_refl _) h3⟩
  ·rw [if_neg (by omega),if_neg hki]
   obtain⟨u,hu,h1,hrep⟩:=hc i hi 0 hj
   exact⟨u,hu,h1,Rep.keep hf hO (fun _ _ h=>h) _ _ _ _ (Env.le_refl _) hrep⟩)
 unfold Oper.wp
 have:(execOp a.eval o).run P w=.ok (.value (.int .i64 m)) (w.setRow g (cur.toList.take k++cs++cur.toList.drop (k+cs.length)).toArray):=by
  unfold execOp
  rw [ho]
  simp only [resolve,invoke,builtin,hxv,hyv,List.map_cons,List.map_nil]
  simp [hxv,hyv,hrun,goInt,hcl]
 rw [this]
 refine hnext _ η _ _ (hsr.put (z:=.val (.int .i64 m)) hd hwr.1 (fun q hq=>?_) hwr.2 rfl) hK
 by_cases e:q=p
 ·subst e;rw [hsr.dead q hq] at hrow;cases hrow
 ·rw [a0f _ _ e];exact hsr.dead q hq
theorem c8c {t t' e:TypeId} {x y:Operand} {p q v n k l:Nat} {cc:Nat->Nat->AV} (ho:o.op=.call ⟨.builtin .copy,⟨[x,y]⟩,⟨[t,t']⟩⟩) (ht:P.underlying t=some (.slice e)) (hs:(P.info? e).map (·.size)=some 1) (hx:st.ev x=obS v k n) (hy:st.ev y=.ow q v l) (hl:l<=n) (hk:k<=n)
  (hrow:st.hp p=.sl v e 1 n cc) (hd:a0N st.sz o.dst)
  (hK:K ⟨a2b st.fr o.dst (.val (.int .i64 (Nat.min l (n-k):Nat))),a0S st.hp p (.sl v e 1 n (cpC cc k (Nat.min l (n-k)) cc)),st.sz,st.top,st.nx,st.df⟩):OpM P o st K:=by
 intro fr' hlk
 have ex:=hlk x (by rw [ho];simp [Op.operands,Call.operands])
 have ey:=hlk y (by rw [ho];simp [Op.operands,Call.operands])
 refine c1O (st:=⟨fr',st.hp,st.sz,st.top,st.nx,st.df⟩) ho ht hs hrow hd (k:=k) (m:=Nat.min l (n-k)) (dd:=cc) (fun c η a w hsr=>?_) ⟨_,rfl,rfl,hK⟩
 have hev:∀ x,Rep w η (a0Y c η st.hp) (a9b fr' x) (a.eval x):=a1X hsr.slots
 have hxv:=hev x
 have hyv:=hev y
 rw [ex,show a9b st.fr x=_ from hx] at hxv
 rw [ey,show a9b st.fr y=_ from hy] at hyv
 obtain⟨η0,hle,g,cap,hη,hxv⟩:=hxv
 have hη:=hle _ _ hη
 obtain⟨g',cap',hη',hyv⟩:=hyv
 rw [hη] at hη'
 simp only [Option.some.injEq,Prod.mk.injEq] at hη'
 obtain⟨rfl,rfl⟩:=hη'
 obtain⟨hyv,hlc⟩:=hyv
 have hr:=hsr.hs.rows p
 rw [show (⟨fr',st.hp,st.sz,st.top,st.nx,st.df⟩:AS).hp p=_ from hrow] at hr
 obtain⟨cur,hh,hsz,hnc,hcm,hc⟩:=hr _ _ hη
 have hmin:Nat.min l (n-k)<=n:=Nat.le_trans (Nat.min_le_left _ _) hl
 refine⟨g,cap,n-k,cap-k,hη,hxv,by omega,⟨g,0,none⟩,l,cap,hyv,rfl,fun i hi=>?_⟩
 obtain⟨u,hu,h1,h2⟩:=hc i (by omega) 0 Nat.one_pos
 exact⟨u,by rw [a3A,a0Z hh,<-hu];congr 1,h1,h2⟩
theorem c8U {t t' e:TypeId} {x y:Operand} {p v n l:Nat} {cc dd:Nat->Nat->AV} (ho:o.op=.call ⟨.builtin .copy,⟨[x,y]⟩,⟨[t,t']⟩⟩) (ht:P.underlying t=some (.slice e)) (hs:(P.info? e).map (·.size)=some 1) (hx:st.ev x=.ow p v n) (hy:st.ev y=.sn l 1 dd) (hn:0<n) (hl:0<l)
  (hrow:st.hp p=.sl v e 1 n cc) (hd:a0N st.sz o.dst)
  (hK:K ⟨a2b st.fr o.dst (.val (.int .i64 (Nat.min l n:Nat))),a0S st.hp p (.sl v e 1 n (cpC cc 0 (Nat.min l n) dd)),st.sz,st.top,st.nx,st.df⟩):OpW P o st K:=by
 refine c1O ho ht hs hrow hd (k:=0) (m:=Nat.min l n) (dd:=dd) (fun c η a w hsr=>?_) hK
 have hxv:=a1X hsr.slots x
 have hyv:=a1X hsr.slots y
 rw [show a9b st.fr x=_ from hx] at hxv
 rw [show a9b st.fr y=_ from hy] at hyv
 obtain⟨g,cap,hη,hxv⟩:=hxv
 obtain⟨ad,cap',hyv,_,hc⟩:=hyv
 obtain⟨b,off,rfl,_,hc⟩:=hc hl Nat.one_pos
 cases g with
 | none=>obtain⟨h,_⟩:=hxv;omega
 | some g=>
   obtain⟨hxv,hcap⟩:=hxv
   refine⟨g,cap,n,cap,hη,hxv,by omega,_,l,cap',hyv,rfl,fun i hi=>?_⟩
   have:Nat.min l n<=l:=Nat.min_le_left _ _
   obtain⟨u,hu,h1,h2⟩:=hc i (by omega) 0 Nat.one_pos
   exact⟨u,by rw [a3A,<-hu];congr 2;omega,h1,h2.up⟩
theorem c6B {t t' e:TypeId} {x y:Operand} (ho:o.op=.call ⟨.builtin .copy,⟨[x,y]⟩,⟨[t,t']⟩⟩) (ht:P.underlying t=some (.slice e)) (hs:(P.info? e).map (·.size)=some 1) (hd:a0N st.sz o.dst)
  (h:∀ (c:Ctx) (η:Env) (a:Act) (w:World),SR c st η a w->∃ d dl dc s sl sc,a.eval x=.slice d dl dc/\a.eval y=.slice s sl sc/\Nat.min sl dl=0)
  (hK:K ⟨a2b st.fr o.dst (.val (.int .i64 0)),st.hp,st.sz,st.top,st.nx,st.df⟩):OpW P o st K:=by
 refine a7t hd (fun c η a w hsr=>?_) hK
 obtain⟨d,dl,dc,s,sl,sc,hxv,hyv,h0⟩:=h c η a w hsr
 refine⟨.int .i64 0,?_,rfl⟩
 have hrun:=run_copy_none (P:=P) w t t' o.type e d s dl dc sl sc ht hs h0
 unfold execOp
 rw [ho]
 simp [resolve,invoke,builtin,hxv,hyv,hrun,goInt]
theorem c11 {t t' e:TypeId} {x y:Operand} {p v l:Nat} {dd:Nat->Nat->AV} (ho:o.op=.call ⟨.builtin .copy,⟨[x,y]⟩,⟨[t,t']⟩⟩) (ht:P.underlying t=some (.slice e)) (hs:(P.info? e).map (·.size)=some 1) (hx:st.ev x=.ow p v 0) (hy:st.ev y=.sn l 1 dd)
  (hd:a0N st.sz o.dst) (hK:K ⟨a2b st.fr o.dst (.val (.int .i64 0)),st.hp,st.sz,st.top,st.nx,st.df⟩):OpW P o st K:=by
 refine c6B ho ht hs hd (fun c η a w hsr=>?_) hK
 have hxv:=a1X hsr.slots x
 have hyv:=a1X hsr.slots y
 rw [show a9b st.fr x=_ from hx] at hxv
 rw [show a9b st.fr y=_ from hy] at hyv
 obtain⟨g,cap,hη,hxv⟩:=hxv
 obtain⟨ad,cap',hyv,_,hc⟩:=hyv
 cases g with
 | none=>
   obtain⟨_,d,hxv⟩:=hxv
   exact⟨_,_,_,_,_,_,hxv,hyv,Nat.min_zero _⟩
 | some g=>
   obtain⟨hxv,hcap⟩:=hxv
   exact⟨_,_,_,_,_,_,hxv,hyv,Nat.min_zero _⟩
end
end Go.Proofs.YthpjjjnbkfnghaaGreatDoor
