/-
  Part 6 of what the proof rests on: values that are told, code that is walked, what comes out.
-/
import Derived.Test.YthpjjjnbkfnghaaGreatDoorMd5
set_option maxRecDepth 100000
set_option linter.all false
namespace Go.Proofs.YthpjjjnbkfnghaaGreatDoor
open Go
theorem c8e (a:Int) (now:BS) (c:Pt) (ps:List Pt) (m:Mk):(0<=(a1z a now c ps m).1/\(a1z a now c ps m).1<14)/\(a1z a now c ps m).2.2.2.length<=ps.length+1:=by
 unfold a1z
 split
 ·exact⟨⟨by dsimp only;omega,by dsimp only;omega⟩,by dsimp only;omega⟩
 ·split
  ·exact⟨⟨by dsimp only;omega,by dsimp only;omega⟩,by dsimp only;omega⟩
  ·split
   ·exact⟨⟨by dsimp only;omega,by dsimp only;omega⟩,by dsimp only;omega⟩
   ·refine⟨⟨by dsimp only;omega,by dsimp only;omega⟩,?_⟩
    dsimp only
    unfold a7m
    repeat' split
    all_goals simp
theorem c3H (l:BS) (w:Int):0<=(a1c l w).2.2/\(a1c l w).2.2<14:=by
 unfold a1c
 repeat' split
 all_goals exact⟨by dsimp only;omega,by dsimp only;omega⟩
theorem b5R (w:Int):∀ (ls:List BS) (a:Int) (now:BS) (c:Pt) (ps:List Pt) (i:Nat),(0<=(a87 w ls a now c ps i).2.1/\(a87 w ls a now c ps i).2.1<14)/\(0<=(a87 w ls a now c ps i).2.2/\(a87 w ls a now c ps i).2.2<=i+ls.length+1)/\(a87 w ls a now c ps i).1.length<=ps.length+ls.length+1
 | [],a,now,c,ps,i=>by
   rw [a87]
   split
   ·exact⟨⟨by dsimp only;omega,by dsimp only;omega⟩,⟨by dsimp only;omega,by dsimp only [List.length_nil];omega⟩,Nat.zero_le _⟩
   ·refine⟨⟨by dsimp only;omega,by dsimp only;omega⟩,⟨by dsimp only;omega,by dsimp only;omega⟩,?_⟩
    exact Nat.le_trans (b5o _).2 (by simp)
 | l::ls,a,now,c,ps,i=>by
   have ht:=c8e a now c ps (a1c l w).1
   have hr:=c3H l w
   rw [a87,List.length_cons]
   split
   ·split
    ·exact⟨ht.1,⟨by dsimp only;omega,by dsimp only;omega⟩,Nat.zero_le _⟩
    ·have:=b5R w ls (a1z a now c ps (a1c l w).1).2.1 [] (a1z a now c ps (a1c l w).1).2.2.1 (a1z a now c ps (a1c l w).1).2.2.2 (i+1)
     exact⟨this.1,⟨this.2.1.1,by omega⟩,by omega⟩
   ·split
    ·exact⟨hr,⟨by dsimp only;omega,by dsimp only;omega⟩,Nat.zero_le _⟩
    ·have:=b5R w ls a (now++l) c ps (i+1)
     exact⟨this.1,⟨this.2.1.1,by omega⟩,by omega⟩
theorem b7K (s:BS) (w:Int):(0<=(a2N s w).2.1/\(a2N s w).2.1<14)/\(0<=(a2N s w).2.2/\(a2N s w).2.2<=(a0b s).length+1)/\(a2N s w).1.length<=(a0b s).length+1:=by
 unfold a2N
 split
 ·exact⟨⟨by dsimp only;omega,by dsimp only;omega⟩,⟨by dsimp only;omega,by dsimp only;omega⟩,Nat.zero_le _⟩
 ·have:=b5R w (a0b s) 0 [] ePt.dflt [] 0
  exact⟨this.1,⟨this.2.1.1,by have:=this.2.1.2;omega⟩,by have:=this.2.2;simpa using this⟩
end Go.Proofs.YthpjjjnbkfnghaaGreatDoor
set_option maxRecDepth 100000
set_option maxHeartbeats 2000000
namespace Go.Proofs.YthpjjjnbkfnghaaGreatDoor
open Go
attribute [local irreducible] AW a0e a1g a0a
theorem c4M (d:List Pt):a7x d<=a3A d:=by
 induction d with
 | nil=>exact Nat.le_refl _
 | cons p d ih=>
   have e1:a7x (p::d)=b4H p+a7x d:=by unfold a7x;rw [List.map_cons,List.sum_cons]
   have e2:a3A (p::d)=a3W p+a3A d:=by simp [a3A]
   have:b4H p<=a3W p:=by unfold b4H a3W;omega
   omega
end Go.Proofs.YthpjjjnbkfnghaaGreatDoor
set_option maxRecDepth 100000
namespace Go.Proofs.YthpjjjnbkfnghaaGreatDoor
open Go
theorem c9b {r:BS} {f:Bool} {l:BS} (h:rdT r=some (f,l)):l.length<=r.length:=by
 unfold rdT at h
 dsimp only at h
 generalize hr:(if decide (r.getD 0 0=33)=true then r.drop 1 else r)=r1 at h
 have h1:r1.length<=r.length:=by
  rw [<-hr]
  split
  ·rw [List.length_drop];omega
  ·omega
 generalize hl:(if 1<r1.length/\r1.getD 0 0=32 then (r1.take (r1.length-1)).drop 1 else [])=x at h
 have h2:x.length<=r1.length:=by
  rw [<-hl]
  split
  ·simp only [List.length_drop,List.length_take];omega
  ·simp
 split at h
 ·injection h with h
  injection h with _ h
  rw [<-h]
  omega
 ·cases h
theorem c3f (l:BS) (w:Int):(a1c l w).1.2.2.length<=l.length:=by
 unfold a1c
 split
 ·exact Nat.zero_le _
 ·split
  ·exact Nat.zero_le _
  ·split
   ·rename_i f x h
    have:=c9b h
    rw [List.length_drop] at this
    split
    ·show x.length<=_;omega
    ·exact Nat.zero_le _
   ·exact Nat.zero_le _
theorem c5r (s:BS):(a5R s).length<=s.length:=by
 unfold a5R
 split
 ·rw [List.length_take];omega
 ·omega
theorem b9O {m:Mk} {now sd:BS} (h:b2J m now=some sd):sd.length<=now.length:=by
 unfold b2J at h
 split at h
 ·split at h
  ·cases h
  ·injection h with h
   rw [<-h]
   exact c5r now
 ·injection h with h
  rw [h]
  exact Nat.le_refl _
theorem a8y (t:BS):a3W (a1m t)=t.length:=by simp [a3W,a1m]
theorem c4o (a:Int) (sd:BS) (c:Pt):a3W (b3x a sd c)<=a3W c+sd.length:=by
 obtain⟨ll,bl,rl,h,t,l,b,r,hb⟩:=c
 unfold b3x
 split
 ·simp only [a3W,c0n];omega
 ·split
  ·simp only [a3W,c1e];omega
  ·split
   ·simp only [a3W,b7m];omega
   ·omega
theorem c2W (c:Pt) (s:BS):a3W (c25 c s)<=a3W c+s.length:=by
 obtain⟨ll,bl,rl,h,t,l,b,r,hb⟩:=c
 simp only [a3W,c25];omega
theorem b9P (c:Pt) (s:BS):a3W (b3Q c s)<=a3W c+s.length:=by
 obtain⟨ll,bl,rl,h,t,l,b,r,hb⟩:=c
 simp only [a3W,b3Q];omega
def c4C (a:Int) (c:Pt):Nat:=if a=0 then 0 else a3W c
theorem c3o (a:Int) (c:Pt):c4C a c<=a3W c:=by
 unfold c4C
 split
 ·exact Nat.zero_le _
 ·exact Nat.le_refl _
theorem c40 {a:Int} {now:BS} {c:Pt} {ps:List Pt} {m:Mk} (h:(a1z a now c ps m).1=0) :
  a3A (a1z a now c ps m).2.2.2+c4C (a1z a now c ps m).2.1 (a1z a now c ps m).2.2.1<=a3A ps+c4C a c+now.length+m.2.2.length:=by
 unfold a1z at h ⊢
 split at h
 ·exact absurd h (show ¬(7:Int)=0 by decide)
 ·rename_i h1
  rw [if_neg h1]
  split at h
  ·exact absurd h (show ¬(8:Int)=0 by decide)
  ·rename_i h2
   rw [if_neg h2]
   split at h
   ·exact absurd h (show ¬(9:Int)=0 by decide)
   ·rename_i sd hs
    have hl:=b9O hs
    dsimp only
    have hS:=c4o a sd c
    have hB:=c2W (b3x a sd c) m.2.2
    have hR:=b9P (b3x a sd c) m.2.2
    by_cases k1:m.1=60
    ·have ea:a=0:=by
      by_cases e:a=0
      ·exact e
      ·exact absurd ⟨k1,e⟩ h1
     have o1:=c3o (if m.1=62 then 0 else m.1) (b1E a m sd c)
     have e1:b1E a m sd c=(m.2.2,[],[],true,[],[],[],[],false):=by unfold b1E;rw [if_pos k1]
     have e2:a7m a m now sd c ps=ps++[a1m now]:=by unfold a7m;rw [if_pos k1]
     rw [e2,b0G,a8y]
     have e3:a3W (b1E a m sd c)=m.2.2.length:=by rw [e1];simp [a3W]
     omega
    ·have ea:c4C a c=a3W c:=by
      unfold c4C
      rw [if_neg]
      rintro rfl
      apply h2
      unfold a6U
      rw [if_neg k1]
      split
      ·rfl
      ·split<;>rfl
     have o1:=c3o (if m.1=62 then 0 else m.1) (b1E a m sd c)
     by_cases k2:m.1=62
     ·have e1:b1E a m sd c=b3Q (b3x a sd c) m.2.2:=by unfold b1E;rw [if_neg k1,if_neg (by omega),if_pos k2]
      have e2:a7m a m now sd c ps=ps++[b1E a m sd c]:=by unfold a7m;rw [if_neg k1,if_pos k2]
      have e3:c4C (if m.1=62 then 0 else m.1) (b1E a m sd c)=0:=by rw [if_pos k2];rfl
      rw [e2,b0G,e3,e1]
      omega
     ·have e2:a7m a m now sd c ps=ps:=by unfold a7m;rw [if_neg k1,if_neg k2]
      have e3:a3W (b1E a m sd c)<=a3W c+sd.length+m.2.2.length:=by
       unfold b1E
       rw [if_neg k1]
       split
       ·omega
       ·first|omega|(rw [if_neg k2];omega)
      rw [e2]
      omega
theorem b20 (w:Int):∀ (ls:List BS) (a:Int) (now:BS) (c:Pt) (ps:List Pt) (i:Nat),a3A (a87 w ls a now c ps i).1<=a3A ps+c4C a c+now.length+ls.flatten.length
 | [],a,now,c,ps,i=>by
   rw [a87]
   split
   ·exact Nat.zero_le _
   ·have:=b5Y (ps++[a1m now])
    rw [b0G,a8y] at this
    dsimp only
    omega
 | l::ls,a,now,c,ps,i=>by
   have hr:=c3f l w
   rw [a87,List.flatten_cons,List.length_append]
   split
   ·split
    ·exact Nat.zero_le _
    ·rename_i h
     have ht:=c40 (Decidable.not_not.1 h)
     have:=b20 w ls (a1z a now c ps (a1c l w).1).2.1 [] (a1z a now c ps (a1c l w).1).2.2.1 (a1z a now c ps (a1c l w).1).2.2.2 (i+1)
     rw [List.length_nil] at this
     omega
   ·split
    ·exact Nat.zero_le _
    ·have:=b20 w ls a (now++l) c ps (i+1)
     rw [List.length_append] at this
     omega
theorem c24 (s:BS) (w:Int):a3A (a2N s w).1<=s.length:=by
 unfold a2N
 split
 ·exact Nat.zero_le _
 ·have:=b20 w (a0b s) 0 [] ePt.dflt [] 0
  rw [a1j] at this
  have e:a3A ([]:List Pt)=0:=rfl
  have e2:c4C 0 ePt.dflt=0:=rfl
  rw [e,e2,List.length_nil] at this
  omega
theorem c6c {d:List Pt} {k:Nat} {t:BS} (h:t.length<=a3W (d.getD k ePt.dflt)):a3A (d.set k (a1m t))<=a3A d:=by
 induction d generalizing k with
 | nil=>simp
 | cons p d ih=>
   have e:∀ (q:Pt) (l:List Pt),a3A (q::l)=a3W q+a3A l:=fun q l=>by simp [a3A]
   cases k with
   | zero=>
     rw [List.set_cons_zero,e,e,a8y]
     have:t.length<=a3W p:=h
     omega
   | succ k=>
     rw [List.set_cons_succ,e,e]
     have:=ih (k:=k) h
     omega
theorem c5n (d:List Pt) (n s:Int):a3A (a9j d n s).1<=a3A d:=by
 unfold a9j
 repeat' split
 all_goals first|exact Nat.zero_le _|skip
 refine Nat.le_trans (b5Y _) (c6c ?_)
 have:=b3n (d.getD (a16 d 0 n).toNat ePt.dflt) s
 unfold a3W
 omega
theorem a9O (w:Int):∀ (d:List Pt),(a1y w d).length<=a0w d*(4*w.toNat+15)+a3A d
 | []=>by simp [a1y]
 | p::d=>by
   have h1:=a9O w d
   have h2:=b1T w p
   have e:a3A (p::d)=a3W p+a3A d:=by simp [a3A]
   have e2:a1y w (p::d)=a5d w p++a1y w d:=by simp [a1y]
   rw [e2,List.length_append,e,a2W]
   by_cases hh:hkP p=true
   ·rw [if_pos hh,Nat.add_mul,Nat.one_mul]
    omega
   ·rw [if_neg hh,Nat.zero_add]
    have e3:a5d w p=txP p:=by unfold a5d;rw [if_neg hh]
    have e4:(txP p).length<=a3W p:=by unfold a3W txP;omega
    rw [e3]
    omega
theorem b86 {l:BS} {w:Int} (h:(a1c l w).2.1=true):w.toNat<=l.length:=by
 unfold a1c at h
 split at h
 ·cases h
 ·split at h
  ·cases h
  ·have:=b18 l
   omega
theorem b83 {a:Int} {now:BS} {c:Pt} {ps:List Pt} {m:Mk}:a0w (a1z a now c ps m).2.2.2<=a0w ps+1:=by
 unfold a1z
 split
 ·exact Nat.le_succ _
 ·split
  ·exact Nat.le_succ _
  ·split
   ·exact Nat.le_succ _
   ·dsimp only
    unfold a7m
    split
    ·rw [a6N];split<;>omega
    ·split
     ·rw [a6N];split<;>omega
     ·exact Nat.le_succ _
theorem a8Q (w:Int):∀ (ls:List BS) (a:Int) (now:BS) (c:Pt) (ps:List Pt) (i:Nat),a0w (a87 w ls a now c ps i).1*w.toNat<=a0w ps*w.toNat+ls.flatten.length
 | [],a,now,c,ps,i=>by
   rw [a87]
   split
   ·simp [a0w]
   ·dsimp only
    rw [b3o,a6N]
    simp [a1m]
 | l::ls,a,now,c,ps,i=>by
   rw [a87,List.flatten_cons,List.length_append]
   split
   ·rename_i hr
    have hw:=b86 hr
    split
    ·simp [a0w]
    ·have ht:a0w (a1z a now c ps (a1c l w).1).2.2.2*w.toNat<=(a0w ps+1)*w.toNat:=Nat.mul_le_mul_right _ b83
     have:=a8Q w ls (a1z a now c ps (a1c l w).1).2.1 [] (a1z a now c ps (a1c l w).1).2.2.1 (a1z a now c ps (a1c l w).1).2.2.2 (i+1)
     rw [Nat.add_mul,Nat.one_mul] at ht
     omega
   ·split
    ·simp [a0w]
    ·have:=a8Q w ls a (now++l) c ps (i+1)
     omega
theorem b46 (s:BS) (w:Int):a0w (a2N s w).1*w.toNat<=s.length:=by
 unfold a2N
 split
 ·simp [a0w]
 ·have:=a8Q w (a0b s) 0 [] ePt.dflt [] 0
  rw [a1j] at this
  simpa [a0w] using this
theorem c0e {d:List Pt} {k:Nat} {t:BS}:a0w (d.set k (a1m t))<=a0w d:=by
 induction d generalizing k with
 | nil=>simp
 | cons p d ih=>
   cases k with
   | zero=>rw [List.set_cons_zero,a2W,a2W];simp [a1m]
   | succ k=>
     rw [List.set_cons_succ,a2W,a2W]
     have:=ih (k:=k)
     omega
theorem b8B (d:List Pt) (n s:Int):a0w (a9j d n s).1<=a0w d:=by
 unfold a9j
 repeat' split
 all_goals first|exact Nat.zero_le _|skip
 rw [b3o]
 exact c0e
def c3N (l:List Ck):Prop:=l.length<=20000/\∀ c∈l,((0<=c.2.1.1/\c.2.1.1<=1000000)/\0<=c.2.1.2/\c.2.1.2<=1000000)/\((0<=c.2.2.1.1/\c.2.2.1.1<=1000000)/\0<=c.2.2.1.2/\c.2.2.1.2<=1000000)/\(0<=c.2.2.2.1/\c.2.2.2.1<=1000000)/\0<=c.2.2.2.2/\c.2.2.2.2<=1000000
theorem d0v {f:Fl} (h1:f.1.length<=1000000) (h2:f.2.1.length<=1000000) (h3:f.2.2.length<=1000000) (hl:(a5O f).length<=20000):c3N (a5O f):=by
 refine⟨hl,fun c hc=>?_⟩
 obtain⟨⟨g1,g2,g3⟩,⟨g4,g5,g6⟩,g7,g8,g9⟩:=c3J (b1h f) c hc
 obtain⟨b,⟨x1,x2⟩,⟨y1,y2⟩,z1,z2⟩:=c
 simp only [a3O,toP,c7N] at g1 g2 g3 g4 g5 g6 g7 g8 g9
 dsimp only
 refine⟨⟨⟨?_,?_⟩,?_,?_⟩,⟨⟨?_,?_⟩,?_,?_⟩,⟨?_,?_⟩,?_,?_⟩<;>omega
structure b8O (m:Mg):Prop where
 len:m.1.length<=30000
 sum:a3A m.1<=40000000
 w0:0<=m.2.2.1
 w1:m.2.2.1<=3000001
 pr:a0w m.1*(4*m.2.2.1.toNat+15)<=2000000000
 txt:m.2.1.length<=3000000000
 cks:c3N m.2.2.2
theorem b8O.ok {m:Mg} (h:b8O m):d6a m:=⟨Nat.lt_of_le_of_lt h.len (by decide),b7U (Nat.le_trans h.sum (by decide)),Nat.le_trans (c4M m.1) (Nat.le_trans h.sum (by decide))⟩
theorem b8O.print {m:Mg} (h:b8O m):(a1y m.2.2.1 m.1).length<=3000000000:=by
 have h1:=a9O m.2.2.1 m.1
 have h2:=h.pr
 have h3:=h.sum
 omega
theorem b8O.printR {m:Mg} (h:b8O m):(printR m.1 m.2.2.1).1.length<=3000000000/\0<=(printR m.1 m.2.2.1).2/\(printR m.1 m.2.2.1).2<14:=by
 have:=h.print
 unfold Go.Proofs.YthpjjjnbkfnghaaGreatDoor.printR
 repeat' split
 all_goals exact⟨by first|exact this|exact Nat.zero_le _,by dsimp only;omega,by dsimp only;omega⟩
theorem b8O.pick {m:Mg} (h:b8O m) (n s:Int):b8O ((a9j m.1 n s).1,m.2):=by
 have h1:=b6w m.1 n s
 have h2:=c5n m.1 n s
 have h3:=h.len
 have h4:=h.sum
 exact⟨Nat.le_trans h1 h3,Nat.le_trans h2 h4,h.w0,h.w1,Nat.le_trans (Nat.mul_le_mul_right _ (b8B m.1 n s)) h.pr,h.txt,h.cks⟩
theorem b8x {s:BS} (hs:s.length<=9500) {w:Nat} (hw:w<=1000000):b8O ((a2N s w).1,s,(w:Int),[]):=by
 have h1:=(b7K s w).2.2
 have h2:=a0M s
 have h3:=c24 s w
 have h4:(a2N s w).1.length<=9501:=by omega
 refine⟨?_,?_,?_,?_,?_,?_,?_,?_⟩
 ·dsimp only;omega
 ·dsimp only;omega
 ·dsimp only;omega
 ·dsimp only;omega
 ·dsimp only
  have h5:=b46 s w
  have h6:=a5m (a2N s w).1
  rw [Int.toNat_natCast] at h5 ⊢
  rw [Nat.mul_add,Nat.mul_left_comm]
  omega
 ·dsimp only;omega
 ·exact Nat.zero_le _
 ·intro c hc;cases hc
def mgT (r:Rt):Mg:=(r.1,r.2.2.2.2.1,r.2.2.2.2.2.1,r.2.2.2.1)
theorem b0J {a b c:BS} (h:a.length+b.length+c.length<=9400):okM a b c:=by
 have h1:=a0M a
 have h2:=a0M b
 refine .inr ⟨by omega,by omega,by omega,?_⟩
 rcases Nat.lt_or_ge 4700 (a0b a).length with g|g
 ·exact .inr (by omega)
 ·exact .inl g
theorem b8Y {a b c:BS} (h:a.length+b.length+c.length<=9400) {o:Op} (ho:a99 o=0) (hl:lbN o.1<=3000):b8O (mgT (b4x a b c o)):=by
 have hM:=b0J h
 obtain⟨p1,p2,p3⟩:=c5q ho
 have hF:=a8g (a:=a) (b:=b) (c:=c) hM p2 o.2.1 hl p1 o.2.2.2
 have e:b4x a b c o=d1b a b c o.2.2.1 o.2.1 o.1 o.2.2.2:=by unfold b4x;rw [if_pos ho]
 have hW:a6Z o.2.2.1 a b c<=9501/\7<=a6Z o.2.2.1 a b c:=by
  have:=a9R (a:=a) (b:=b) (c:=c) (n:=9400) (by omega) (by omega) (by omega)
  unfold a6Z
  omega
 rw [e]
 have s1:=a0M a
 have s2:=a0M b
 have s3:=a0M c
 have k1:=hF.dlen
 have k2:=hF.sump
 refine⟨Nat.le_trans hF.dlen (by decide),hF.sump,?_,?_,?_,?_,d0v ?_ ?_ ?_ (Nat.le_trans hF.len (by decide))⟩
 ·show 0<=a6Z o.2.2.1 a b c;omega
 ·show a6Z o.2.2.1 a b c<=_;omega
 ·show a0w (a7w a b c o.2.1 o.1 o.2.2.2)*(4*(a6Z o.2.2.1 a b c).toNat+15)<=_
  exact Nat.le_trans (Nat.mul_le_mul (Nat.le_trans (a5m _) k1) (by omega:4*(a6Z o.2.2.1 a b c).toNat+15<=38100)) (by decide)
 ·show (a1y (a6Z o.2.2.1 a b c) (a7w a b c o.2.1 o.1 o.2.2.2)).length<=_
  have g1:=a8T (a6Z o.2.2.1 a b c) (a7w a b c o.2.1 o.1 o.2.2.2)
  have g2:=Nat.mul_le_mul k1 (by omega:4*(a6Z o.2.2.1 a b c).toNat+15<=38100)
  omega
 ·show (a0b a).length<=_;omega
 ·show (a0b b).length<=_;omega
 ·show (a0b c).length<=_;omega
end Go.Proofs.YthpjjjnbkfnghaaGreatDoor
set_option maxRecDepth 100000
set_option maxHeartbeats 8000000
namespace Go.Proofs.YthpjjjnbkfnghaaGreatDoor
open Go
attribute [local irreducible] AW a0e a1g a0a a6w
def a0J:a0s:=a0s.f2 (kL eS) kS (fun l b=>l.length<=100000000/\(Lib.join l b).length<=100000000000) (fun l b=>kS.enc (Lib.join l b))
theorem c8q:a0d Tryz.prog 110 a0J:=by
 refine a0d.raw Tryz.func110 rfl (by decide) fun args hp w L vs hL ha=>?_
 match args,hp with
 | [x,y],hp=>
   obtain⟨h1,h2,h3,h4⟩:=hp
   cases ha with
   | cons hx hr=>cases hr with
     | cons hy hr=>cases hr with
       | nil=>
         have ex:=b08 h1 hx
         have ey:=b08 h2 hy
         show Calls _ _ _ _ fun e w'=>∃ v,e=.returned v/\Fr (fun _=>False) w w'/\Rep w' a1l L (kS.enc (Lib.join ((kL eS).dec x) (kS.dec y))) v
         generalize (kL eS).dec x=l at *
         generalize kS.dec y=sp at *
         obtain⟨a,cap,rfl,hcap,hc⟩:=ex
         obtain rfl:=ey
         rcases Nat.eq_zero_or_pos l.length with h0|h0
         ·rw [h0]
          refine (Tryz.strings_Join_none a cap ⟨sp.toArray⟩ w).mono ?_
          rintro e w' ⟨rfl,rfl⟩
          have:l=[]:=List.length_eq_zero_iff.1 h0
          subst this
          exact⟨_,rfl,Fr.refl _ _,rfl⟩
         ·obtain⟨b,off,rfl,hb,hcells⟩:=hc h0 (by decide)
          have hget:∀ (j:Nat) y,(l.map fun y=>(⟨y.toArray⟩:ByteArray))[j]?=some y->w.cell? ⟨b,off+j,none⟩=some (.string y):=fun j y hj=>by
           rw [List.getElem?_map] at hj
           cases hl:l[j]? with
           | none=>rw [hl] at hj;cases hj
           | some z=>
             rw [hl] at hj
             simp only [Option.map_some,Option.some.injEq] at hj
             subst hj
             obtain⟨hlt,_⟩:=List.getElem?_eq_some_iff.1 hl
             obtain⟨u,hu,_,hrep⟩:=hcells j hlt 0 (by decide)
             have e:l.getD j eS.dflt=z:=by simp [List.getD,hl]
             have hrep:Rep w a1l L (eS.enc (l.getD j eS.dflt) 0) u:=hrep
             rw [e] at hrep
             have:u=.string ⟨z.toArray⟩:=hrep
             subst this
             simpa [d1P] using hu
          have e1:(l.map fun y=>(⟨y.toArray⟩:ByteArray)).map (·.data.toList)=l:=by simp [Function.comp_def]
          have hbs:b<w.heap.size:=by
           obtain⟨u,hu,_⟩:=hcells 0 h0 0 (by decide)
           exact World.block_lt_of_cell? w _ hu
          have hJ:=Tryz.strings_Join b off cap (l.map fun y=>⟨y.toArray⟩) ⟨sp.toArray⟩ w hget hbs (by simp;omega) (by simpa using hcap) (by rw [e1];show (Lib.join l sp).length<=_;omega)
          rw [e1,List.length_map] at hJ
          refine hJ.mono ?_
          rintro e w' ⟨rfl,hbel⟩
          exact⟨_,rfl,Fr.of_below hbel _,rfl⟩
theorem a93 (sp:List UInt8) {k:Nat}:∀ {l:List (List UInt8)},(∀ x∈l,x.length<=k)->(Lib.joinTail sp l).length<=l.length*(k+sp.length)
 | [],_=>Nat.zero_le _
 | x::l,h=>by
   have h1:=h x (List.mem_cons_self ..)
   have h2:=a93 sp fun y hy=>h y (List.mem_cons_of_mem x hy)
   have e:Lib.joinTail sp (x::l)=sp++x++Lib.joinTail sp l:=by simp [Lib.joinTail]
   rw [e,List.length_append,List.length_append,List.length_cons,Nat.succ_mul]
   omega
theorem c0z (sp:List UInt8) {k:Nat} {l:List (List UInt8)} (h:∀ x∈l,x.length<=k):(Lib.join l sp).length<=l.length*(k+sp.length):=by
 cases l with
 | nil=>exact Nat.zero_le _
 | cons x l=>
   have h1:=h x (List.mem_cons_self ..)
   have h2:=a93 sp fun y hy=>h y (List.mem_cons_of_mem x hy)
   rw [Lib.join_cons,List.length_append,List.length_cons,Nat.succ_mul]
   omega
abbrev d7R:List UInt8:=[110,111,110,101]
def stW (b:Bool):List UInt8:=if b=true then [115] else [99]
def b00 (c:Ck):List UInt8:=Lib.join [stW c.1,Lib.itoa c.2.1.1,Lib.itoa c.2.1.2,Lib.itoa c.2.2.1.1,Lib.itoa c.2.2.1.2,Lib.itoa c.2.2.2.1,Lib.itoa c.2.2.2.2] [32]
def b5v (l:List Ck):List UInt8:=if l=[] then d7R else Lib.join (l.map b00) [59]
theorem a4V {n:Int} (h:0<=n/\n<=1000000):(Lib.itoa n).length<=7:=by
 obtain⟨k,rfl⟩:=Int.eq_ofNat_of_zero_le h.1
 exact b3y (by omega)
theorem c9x (b:Bool):(stW b).length=1:=by cases b<;>rfl
theorem b7n {c:Ck} (h:((0<=c.2.1.1/\c.2.1.1<=1000000)/\0<=c.2.1.2/\c.2.1.2<=1000000)/\((0<=c.2.2.1.1/\c.2.2.1.1<=1000000)/\0<=c.2.2.1.2/\c.2.2.1.2<=1000000)/\(0<=c.2.2.2.1/\c.2.2.2.1<=1000000)/\0<=c.2.2.2.2/\c.2.2.2.2<=1000000):(b00 c).length<=56:=by
 obtain⟨⟨h1,h2⟩,⟨h3,h4⟩,h5,h6⟩:=h
 refine Nat.le_trans (c0z (k:=7) [32] fun x hx=>?_) (Nat.le_refl _)
 simp only [List.mem_cons,List.not_mem_nil,or_false] at hx
 rcases hx with rfl|rfl|rfl|rfl|rfl|rfl|rfl
 ·rw [c9x];omega
 all_goals first|exact a4V h1|exact a4V h2|exact a4V h3|exact a4V h4|exact a4V h5|exact a4V h6
theorem b2m {l:List Ck} (h:c3N l):(Lib.join (l.map b00) [59]).length<=2000000:=by
 obtain⟨h1,h2⟩:=h
 have:=c0z (k:=56) [59] (l:=l.map b00) fun x hx=>by
  obtain⟨c,hc,rfl⟩:=List.mem_map.1 hx
  exact b7n (h2 c hc)
 rw [List.length_map] at this
 have h3:=Nat.mul_le_mul_right 57 h1
 simp only [List.length_cons,List.length_nil] at this
 omega
theorem b1I {P:Program} {st:AS} {K:AS->Prop} {o:Oper} {t e:TypeId} {x i:Operand} {n m sz:Nat} {k:Int} {c:Nat->AV} (ho:o.op=.index t x i) (hu:P.underlying t=some (.array n e)) (ha:a5M P e=some true) (hs:P.cellsOf e=sz) (h0:0<sz)
  (hx:st.ev x=.ag m c) (hi:st.ev i=.val (.int .i64 k)) (hk:0<=k/\k<n) (hm:k.toNat*sz+sz<=m) (hd:a0R st.sz o.dst)
  (hK:K ⟨a2b st.fr o.dst (.ag sz fun j=>c (k.toNat*sz+j)),st.hp,st.sz,st.top,st.nx,st.df⟩):OpW P o st K:=by
 refine a7e hd (fun c' η a w hsr=>?_) hK
 have hv:=a1W hsr.slots x
 have hw:=a1W hsr.slots i
 unfold AS.ev at hx hi
 rw [hx] at hv
 rw [hi] at hw
 obtain⟨cs,hv,hcm,hc⟩:=hv
 have hw:a.eval i=.int .i64 k:=hw
 refine⟨.agg (cs.extract (k.toNat*sz) (k.toNat*sz+sz)),?_,cs.extract (k.toNat*sz) (k.toNat*sz+sz),rfl,by simp;omega,fun j hj=>?_⟩
 ·unfold execOp
  rw [ho]
  simp [hv,hw,Instr.index,asIntOf,run_underlying hu,hk,part,a4g ha,a0O (P:=P) (w:=w) hs h0]
 ·obtain⟨r,hr,hrep⟩:=hc (k.toNat*sz+j) (by omega)
  exact⟨r,by rw [Array.getElem?_extract];simpa [show j<min (k.toNat*sz+sz) cs.size-k.toNat*sz by omega] using hr,hrep⟩
theorem b66 {α:Type} (l:List α) (d:α):(List.range l.length).map (fun i=>l.getD i d)=l:=by
 refine List.ext_getElem (by simp) fun i h1 h2=>?_
 simp only [List.getElem_map,List.getElem_range]
 exact a1h l d h2
theorem c2N {α:Type} {n:Nat} (l:List α) (d:α) (h:n=l.length):(List.range n).map (fun i=>l.getD i d)=l:=by rw [h];exact b66 l d
def a27:a0s:=a0s.f1 (kL eCk) c3N (fun l=>kS.enc (b5v l))
theorem c9M:a0d Tryz.prog 119 a27:=by
 refine a0d.f1 Tryz.func119 rfl (by decide) Tryz.results119 Tryz.ntmps119 (by decide) fun l hok=>?_
 have hΓ:GOK Tryz.prog (gam [(117,a0t),(110,a0J)]):=(.cons b0P (.cons c8q .nil))
 by_cases h0:l=[]
 ·subst h0
  refine AW.of hΓ a0c [99999] _ _ _ rfl ?_
  simp only [go_sem,a0t,a0J]
  rfl
 have hp:0<l.length:=List.length_pos_iff.2 h0
 have hI:((l.length:Int)=0)=False:=eq_false (by omega)
 refine AW.of hΓ a0c [] _ _ _ rfl ?_
 simp only [go_sem,a0t,a0J,hI]
 refine AW.adopt 3 9 1 (fun _ _=>.any) rfl ?_
 refine AW.round (α:={ x:Nat×Nat×Nat // x.1<=l.length }) (fun x=>⟨[(3,.ow 0 x.1.2.1 x.1.1),(12,sL eCk l),(13,.val (.int .i64 l.length)),(14,.val (.int .i64 x.1.1))],[(0,a05 x.1.2.1 9 eS ((l.take x.1.1).map b00))],51,1,x.1.2.2,[]⟩) (fun x=>l.length-x.1.1) ⟨(0,0,1),Nat.zero_le _⟩ ?_ ?_
 ·simp only [go_sem,a0t,a0J]
  exact a8G rfl
 rintro⟨⟨i,u,nx⟩,hi⟩
 dsimp only at hi
 rcases Nat.lt_or_ge i l.length with hlt|hge
 ·have hlI:((i:Int)<(l.length:Nat))=True:=eq_true (by omega)
  obtain⟨⟨cs,⟨x1,x2⟩,⟨y1,y2⟩,z1,z2⟩,hg⟩:∃ c,l.getD i eCk.dflt=c:=⟨_,rfl⟩
  have hc:=hok.2 _ (hg▸a1h l eCk.dflt hlt▸List.getElem_mem hlt)
  have hw:=b7n hc
  dsimp only at hc
  obtain⟨⟨⟨c1,c1'⟩,c2,c2'⟩,⟨⟨c3,c3'⟩,c4,c4'⟩,⟨c5,c5'⟩,c6,c6'⟩:=hc
  have hall:∀ ws:List BS,ws=[stW cs,Lib.itoa x1,Lib.itoa x2,Lib.itoa y1,Lib.itoa y2,Lib.itoa z1,Lib.itoa z2]->Lib.join ws [32]=b00 (cs,(x1,x2),(y1,y2),z1,z2):=fun ws h=>by rw [h];rfl
  cases cs with
  | true=>
    refine AW.of hΓ a0c [6] _ _ _ rfl ?_
    simp only [go_sem,a0t,a0J,hlI,hg]
    refine⟨by omega,AW.fork (AW.regionO hΓ [true] ?_)⟩
    simp only [go_sem,a0t,a0J]
    refine a9o rfl ?_
    simp only [go_sem,a0t,a0J]
    refine AW.of hΓ a0c [] _ _ _ rfl ?_
    simp only [go_sem,a0t,a0J]
    refine AW.fork ?_
    refine AW.of hΓ a0c [] _ _ _ rfl ?_
    simp only [go_sem,a0t,a0J]
    refine AW.seqTo (fun x:Nat×Nat=>Sh.st ⟨[(3,.ow 0 u i),(6,.ow 2 x.1 7),(12,sL eCk l),(13,.val (.int .i64 l.length)),(14,.val (.int .i64 i))],[(0,a05 u 9 eS ((l.take i).map b00)),(2,a05 x.1 9 eS [stW true,Lib.itoa x1,Lib.itoa x2,Lib.itoa y1,Lib.itoa y2,Lib.itoa z1,Lib.itoa z2])],51,3,x.2,[]⟩) ?_ fun⟨u2,nx2⟩=>?_
    ·refine AW.of hΓ a0c [] _ _ _ rfl ?_
     simp only [go_sem,a0t,a0J]
     refine AW.round (α:={ x:Nat×Nat×Nat // x.1<=3 }) (fun x=>⟨[(3,.ow 0 u i),(6,.ow 2 x.1.2.1 (1+2*x.1.1)),(12,sL eCk l),(13,.val (.int .i64 l.length)),(14,.val (.int .i64 i)),(29,.ag 6 ((eP eSp (eP eSp eSp)).enc ((x1,x2),(y1,y2),z1,z2))),(30,.val (.int .i64 x.1.1))],[(0,a05 u 9 eS ((l.take i).map b00)),(2,a05 x.1.2.1 9 eS ([stW true,Lib.itoa x1,Lib.itoa x2,Lib.itoa y1,Lib.itoa y2,Lib.itoa z1,Lib.itoa z2].take (1+2*x.1.1)))],51,3,x.1.2.2,[]⟩) (fun x=>3-x.1.1) ⟨(0,nx+1,nx+2),Nat.zero_le _⟩ ?_ ?_
     ·simp only [go_sem,a0t,a0J]
      refine⟨a0e.ag fun j hj=>?_,a0a.refl _,a0a.sl rfl fun i hi j hj=>?_⟩
      ·have hc:j=0\/j=1\/j=2\/j=3\/j=4\/j=5:=by omega
       rcases hc with rfl|rfl|rfl|rfl|rfl|rfl<;>exact a0e.refl _
      ·obtain rfl:j=0:=by omega
       obtain rfl:i=0:=by omega
       exact a0e.refl _
     ·rintro⟨⟨k,u2,nx2⟩,hk⟩
      have hc:k=0\/k=1\/k=2\/k=3:=by dsimp only at hk;omega
      rcases hc with rfl|rfl|rfl|rfl
      ·refine AW.of hΓ a0c [11] _ _ _ rfl ?_
       simp only [go_sem,a0t,a0J]
       refine AW.fork ?_
       refine AW.of hΓ a0c [11] _ _ _ rfl ?_
       simp only [go_sem,a0t,a0J]
       refine AW.fork (AW.block (AW.fork (AW.regionO hΓ [true] ?_)))
       simp only [go_sem,a0t,a0J]
       refine b1I rfl Tryz.underlying230 b1i a6D (by decide) rfl rfl (by decide) (by decide) (by exact (by decide:32<51)) ?_
       simp only [go_sem,a0t,a0J]
       refine AW.drawZ hΓ a0c 7 [] [] [] (by kernel_rfl) ?_
       simp only [go_sem,a0t,a0J]
       refine⟨⟨by omega,by omega⟩,⟨by omega,by omega⟩,rfl,?_⟩
       refine AW.of hΓ a0c [99999] _ _ _ rfl ?_
       simp only [go_sem,a0t,a0J]
       refine⟨⟨(1,nx2+1,nx2+1+1),by dsimp only;omega⟩,⟨Nat.le_refl _,⟨⟨rfl,rfl⟩,rfl⟩,a0a.refl _,a0a.sl rfl fun i hi j hj=>?_⟩,by dsimp only;omega⟩
       obtain rfl:j=0:=by omega
       have hc:i=0\/i=1\/i=2:=by omega
       rcases hc with rfl|rfl|rfl<;>exact a0e.refl _
      ·refine AW.of hΓ a0c [11] _ _ _ rfl ?_
       simp only [go_sem,a0t,a0J]
       refine AW.fork ?_
       refine AW.of hΓ a0c [11] _ _ _ rfl ?_
       simp only [go_sem,a0t,a0J]
       refine AW.fork (AW.block (AW.fork (AW.regionO hΓ [true] ?_)))
       simp only [go_sem,a0t,a0J]
       refine b1I rfl Tryz.underlying230 b1i a6D (by decide) rfl rfl (by decide) (by decide) (by exact (by decide:32<51)) ?_
       simp only [go_sem,a0t,a0J]
       refine AW.drawZ hΓ a0c 7 [] [] [] (by kernel_rfl) ?_
       simp only [go_sem,a0t,a0J]
       refine⟨⟨by omega,by omega⟩,⟨by omega,by omega⟩,rfl,?_⟩
       refine AW.of hΓ a0c [99999] _ _ _ rfl ?_
       simp only [go_sem,a0t,a0J]
       refine⟨⟨(2,nx2+1,nx2+1+1),by dsimp only;omega⟩,⟨Nat.le_refl _,⟨⟨rfl,rfl⟩,rfl⟩,a0a.refl _,a0a.sl rfl fun i hi j hj=>?_⟩,by dsimp only;omega⟩
       obtain rfl:j=0:=by omega
       have hc:i=0\/i=1\/i=2\/i=3\/i=4:=by omega
       rcases hc with rfl|rfl|rfl|rfl|rfl<;>exact a0e.refl _
      ·refine AW.of hΓ a0c [11] _ _ _ rfl ?_
       simp only [go_sem,a0t,a0J]
       refine AW.fork ?_
       refine AW.of hΓ a0c [11] _ _ _ rfl ?_
       simp only [go_sem,a0t,a0J]
       refine AW.fork (AW.block (AW.fork (AW.regionO hΓ [true] ?_)))
       simp only [go_sem,a0t,a0J]
       refine b1I rfl Tryz.underlying230 b1i a6D (by decide) rfl rfl (by decide) (by decide) (by exact (by decide:32<51)) ?_
       simp only [go_sem,a0t,a0J]
       refine AW.drawZ hΓ a0c 7 [] [] [] (by kernel_rfl) ?_
       simp only [go_sem,a0t,a0J]
       refine⟨⟨by omega,by omega⟩,⟨by omega,by omega⟩,rfl,?_⟩
       refine AW.of hΓ a0c [99999] _ _ _ rfl ?_
       simp only [go_sem,a0t,a0J]
       refine⟨⟨(3,nx2+1,nx2+1+1),by dsimp only;omega⟩,⟨Nat.le_refl _,⟨⟨rfl,rfl⟩,rfl⟩,a0a.refl _,a0a.sl rfl fun i hi j hj=>?_⟩,by dsimp only;omega⟩
       obtain rfl:j=0:=by omega
       have hc:i=0\/i=1\/i=2\/i=3\/i=4\/i=5\/i=6:=by omega
       rcases hc with rfl|rfl|rfl|rfl|rfl|rfl|rfl<;>exact a0e.refl _
      ·refine AW.of hΓ a0c [99999] _ _ _ rfl ?_
       simp only [go_sem,a0t,a0J]
       refine⟨(u2,nx2),a2B ?_⟩
       simp only [go_sem,a0t,a0J]
       exact⟨a0a.refl _,a0a.refl _⟩
    ·refine AW.of hΓ a0c [99999] _ _ _ rfl ?_
     simp only [go_sem,a0t,a0J]
     have hj:=hall _ rfl
     rw [show List.range 0++[0]++[1]++[2]++[3]++[4]++[5]++[6]=[0,1,2,3,4,5,6] from rfl]
     simp only [List.map_cons,List.map_nil,List.getD_cons_zero,List.getD_cons_succ]
     rw [hj]
     have hn:=hok.1
     refine⟨⟨by decide,by omega⟩,⟨by omega,by omega⟩,⟨by omega,by omega⟩,⟨(i+1,nx2,nx2+1),hlt⟩,⟨Nat.le_refl _,⟨⟨rfl,rfl⟩,rfl⟩,?_⟩,by dsimp only;omega⟩
     dsimp only
     have e:=a1A (E:=eS) (v:=nx2) (e:=9) (s:=1) (d:=[]) (l:=(l.take i).map b00) (l':=(l.take (i+1)).map b00) (n:=i) (n':=i+1) (m:=((l.take (i+1)).map b00).length) (dd:=fun i=>([fun x=>AV.st (b00 (true,(x1,x2),(y1,y2),z1,z2))]:List (Nat->AV)).getD i fun _=>.any) (x:=b00 (true,(x1,x2),(y1,y2),z1,z2)) rfl (by rw [a1f l eCk.dflt hlt,hg,List.map_append];rfl) (by rw [List.length_map,List.length_take];omega) rfl rfl fun _ _=>a0e.refl _
     rw [List.length_map,List.length_take] at e
     exact e
  | false=>
    refine AW.of hΓ a0c [6] _ _ _ rfl ?_
    simp only [go_sem,a0t,a0J,hlI,hg]
    refine⟨by omega,AW.fork (AW.regionO hΓ [true] ?_)⟩
    simp only [go_sem,a0t,a0J]
    refine a9o rfl ?_
    simp only [go_sem,a0t,a0J]
    refine AW.of hΓ a0c [] _ _ _ rfl ?_
    simp only [go_sem,a0t,a0J]
    refine AW.fork ?_
    refine AW.of hΓ a0c [] _ _ _ rfl ?_
    simp only [go_sem,a0t,a0J]
    refine AW.seqTo (fun x:Nat×Nat=>Sh.st ⟨[(3,.ow 0 u i),(6,.ow 2 x.1 7),(12,sL eCk l),(13,.val (.int .i64 l.length)),(14,.val (.int .i64 i))],[(0,a05 u 9 eS ((l.take i).map b00)),(2,a05 x.1 9 eS [stW false,Lib.itoa x1,Lib.itoa x2,Lib.itoa y1,Lib.itoa y2,Lib.itoa z1,Lib.itoa z2])],51,3,x.2,[]⟩) ?_ fun⟨u2,nx2⟩=>?_
    ·refine AW.of hΓ a0c [] _ _ _ rfl ?_
     simp only [go_sem,a0t,a0J]
     refine AW.round (α:={ x:Nat×Nat×Nat // x.1<=3 }) (fun x=>⟨[(3,.ow 0 u i),(6,.ow 2 x.1.2.1 (1+2*x.1.1)),(12,sL eCk l),(13,.val (.int .i64 l.length)),(14,.val (.int .i64 i)),(29,.ag 6 ((eP eSp (eP eSp eSp)).enc ((x1,x2),(y1,y2),z1,z2))),(30,.val (.int .i64 x.1.1))],[(0,a05 u 9 eS ((l.take i).map b00)),(2,a05 x.1.2.1 9 eS ([stW false,Lib.itoa x1,Lib.itoa x2,Lib.itoa y1,Lib.itoa y2,Lib.itoa z1,Lib.itoa z2].take (1+2*x.1.1)))],51,3,x.1.2.2,[]⟩) (fun x=>3-x.1.1) ⟨(0,nx+1,nx+2),Nat.zero_le _⟩ ?_ ?_
     ·simp only [go_sem,a0t,a0J]
      refine⟨a0e.ag fun j hj=>?_,a0a.refl _,a0a.sl rfl fun i hi j hj=>?_⟩
      ·have hc:j=0\/j=1\/j=2\/j=3\/j=4\/j=5:=by omega
       rcases hc with rfl|rfl|rfl|rfl|rfl|rfl<;>exact a0e.refl _
      ·obtain rfl:j=0:=by omega
       obtain rfl:i=0:=by omega
       exact a0e.refl _
     ·rintro⟨⟨k,u2,nx2⟩,hk⟩
      have hc:k=0\/k=1\/k=2\/k=3:=by dsimp only at hk;omega
      rcases hc with rfl|rfl|rfl|rfl
      ·refine AW.of hΓ a0c [11] _ _ _ rfl ?_
       simp only [go_sem,a0t,a0J]
       refine AW.fork ?_
       refine AW.of hΓ a0c [11] _ _ _ rfl ?_
       simp only [go_sem,a0t,a0J]
       refine AW.fork (AW.block (AW.fork (AW.regionO hΓ [true] ?_)))
       simp only [go_sem,a0t,a0J]
       refine b1I rfl Tryz.underlying230 b1i a6D (by decide) rfl rfl (by decide) (by decide) (by exact (by decide:32<51)) ?_
       simp only [go_sem,a0t,a0J]
       refine AW.drawZ hΓ a0c 7 [] [] [] (by kernel_rfl) ?_
       simp only [go_sem,a0t,a0J]
       refine⟨⟨by omega,by omega⟩,⟨by omega,by omega⟩,rfl,?_⟩
       refine AW.of hΓ a0c [99999] _ _ _ rfl ?_
       simp only [go_sem,a0t,a0J]
       refine⟨⟨(1,nx2+1,nx2+1+1),by dsimp only;omega⟩,⟨Nat.le_refl _,⟨⟨rfl,rfl⟩,rfl⟩,a0a.refl _,a0a.sl rfl fun i hi j hj=>?_⟩,by dsimp only;omega⟩
       obtain rfl:j=0:=by omega
       have hc:i=0\/i=1\/i=2:=by omega
       rcases hc with rfl|rfl|rfl<;>exact a0e.refl _
      ·refine AW.of hΓ a0c [11] _ _ _ rfl ?_
       simp only [go_sem,a0t,a0J]
       refine AW.fork ?_
       refine AW.of hΓ a0c [11] _ _ _ rfl ?_
       simp only [go_sem,a0t,a0J]
       refine AW.fork (AW.block (AW.fork (AW.regionO hΓ [true] ?_)))
       simp only [go_sem,a0t,a0J]
       refine b1I rfl Tryz.underlying230 b1i a6D (by decide) rfl rfl (by decide) (by decide) (by exact (by decide:32<51)) ?_
       simp only [go_sem,a0t,a0J]
       refine AW.drawZ hΓ a0c 7 [] [] [] (by kernel_rfl) ?_
       simp only [go_sem,a0t,a0J]
       refine⟨⟨by omega,by omega⟩,⟨by omega,by omega⟩,rfl,?_⟩
       refine AW.of hΓ a0c [99999] _ _ _ rfl ?_
       simp only [go_sem,a0t,a0J]
       refine⟨⟨(2,nx2+1,nx2+1+1),by dsimp only;omega⟩,⟨Nat.le_refl _,⟨⟨rfl,rfl⟩,rfl⟩,a0a.refl _,a0a.sl rfl fun i hi j hj=>?_⟩,by dsimp only;omega⟩
       obtain rfl:j=0:=by omega
       have hc:i=0\/i=1\/i=2\/i=3\/i=4:=by omega
       rcases hc with rfl|rfl|rfl|rfl|rfl<;>exact a0e.refl _
      ·refine AW.of hΓ a0c [11] _ _ _ rfl ?_
       simp only [go_sem,a0t,a0J]
       refine AW.fork ?_
       refine AW.of hΓ a0c [11] _ _ _ rfl ?_
       simp only [go_sem,a0t,a0J]
       refine AW.fork (AW.block (AW.fork (AW.regionO hΓ [true] ?_)))
       simp only [go_sem,a0t,a0J]
       refine b1I rfl Tryz.underlying230 b1i a6D (by decide) rfl rfl (by decide) (by decide) (by exact (by decide:32<51)) ?_
       simp only [go_sem,a0t,a0J]
       refine AW.drawZ hΓ a0c 7 [] [] [] (by kernel_rfl) ?_
       simp only [go_sem,a0t,a0J]
       refine⟨⟨by omega,by omega⟩,⟨by omega,by omega⟩,rfl,?_⟩
       refine AW.of hΓ a0c [99999] _ _ _ rfl ?_
       simp only [go_sem,a0t,a0J]
       refine⟨⟨(3,nx2+1,nx2+1+1),by dsimp only;omega⟩,⟨Nat.le_refl _,⟨⟨rfl,rfl⟩,rfl⟩,a0a.refl _,a0a.sl rfl fun i hi j hj=>?_⟩,by dsimp only;omega⟩
       obtain rfl:j=0:=by omega
       have hc:i=0\/i=1\/i=2\/i=3\/i=4\/i=5\/i=6:=by omega
       rcases hc with rfl|rfl|rfl|rfl|rfl|rfl|rfl<;>exact a0e.refl _
      ·refine AW.of hΓ a0c [99999] _ _ _ rfl ?_
       simp only [go_sem,a0t,a0J]
       refine⟨(u2,nx2),a2B ?_⟩
       simp only [go_sem,a0t,a0J]
       exact⟨a0a.refl _,a0a.refl _⟩
    ·refine AW.of hΓ a0c [99999] _ _ _ rfl ?_
     simp only [go_sem,a0t,a0J]
     have hj:=hall _ rfl
     rw [show List.range 0++[0]++[1]++[2]++[3]++[4]++[5]++[6]=[0,1,2,3,4,5,6] from rfl]
     simp only [List.map_cons,List.map_nil,List.getD_cons_zero,List.getD_cons_succ]
     rw [hj]
     have hn:=hok.1
     refine⟨⟨by decide,by omega⟩,⟨by omega,by omega⟩,⟨by omega,by omega⟩,⟨(i+1,nx2,nx2+1),hlt⟩,⟨Nat.le_refl _,⟨⟨rfl,rfl⟩,rfl⟩,?_⟩,by dsimp only;omega⟩
     dsimp only
     have e:=a1A (E:=eS) (v:=nx2) (e:=9) (s:=1) (d:=[]) (l:=(l.take i).map b00) (l':=(l.take (i+1)).map b00) (n:=i) (n':=i+1) (m:=((l.take (i+1)).map b00).length) (dd:=fun i=>([fun x=>AV.st (b00 (false,(x1,x2),(y1,y2),z1,z2))]:List (Nat->AV)).getD i fun _=>.any) (x:=b00 (false,(x1,x2),(y1,y2),z1,z2)) rfl (by rw [a1f l eCk.dflt hlt,hg,List.map_append];rfl) (by rw [List.length_map,List.length_take];omega) rfl rfl fun _ _=>a0e.refl _
     rw [List.length_map,List.length_take] at e
     exact e
 ·obtain rfl:i=l.length:=by omega
  have hlI:((l.length:Int)<(l.length:Nat))=False:=eq_false (by omega)
  refine AW.of hΓ a0c [99999] _ _ _ rfl ?_
  simp only [go_sem,a0t,a0J,hlI]
  have e:=c2N (n:=l.length) (List.map b00 l) [] (by rw [List.length_map])
  have hj:=b2m hok
  have h1:=hok.1
  rw [e,List.length_range]
  exact⟨⟨by omega,by omega⟩,by unfold b5v;rw [if_neg h0]⟩
end Go.Proofs.YthpjjjnbkfnghaaGreatDoor
set_option maxRecDepth 100000
set_option maxHeartbeats 8000000
namespace Go.Proofs.YthpjjjnbkfnghaaGreatDoor
open Go
attribute [local irreducible] AW a0e a1g a0a a6w
abbrev d6d:List UInt8:=[116,101,120,116]
abbrev d7f:List UInt8:=[119,105,100,101]
abbrev c8A:List UInt8:=[99,104,117,110,107,115]
def b54 (verb:List UInt8) (m:Mg):List UInt8:=if verb=d6d then a7n m.2.1 else if verb=d7f then Lib.itoa m.2.2.1 else if verb=c8A then b5v m.2.2.2 else a3m (printR m.1 m.2.2.1).1 (printR m.1 m.2.2.1).2
def a2g (verb line:List UInt8) (a:Ss):List UInt8:=if (wdL line).length=1 then match a.2.2 with
 | none=>a7V
 | some m=>b54 verb m else a0V
def b0I (xs:List AV) (a:Ss) (r:AV) (b:Ss):Prop:=∃ verb line:List UInt8,xs=[.st verb,sL eS (wdL line).tail]/\line.length<=1000/\(∀ m,a.2.2=some m->b8O m)/\r=.st (a2g verb line a)/\b=a
def b9w:a0L:=sSh b0I
theorem c4m:a0i Tryz.prog 61 b9w:=by
 refine a0i.mk Tryz.func61 rfl (by decide) Tryz.results61 Tryz.ntmps61 ?_
 rintro args hp top nx K ⟨v,v1,v2,v3,v4,xs,a,r,b,rfl,⟨verb,line,rfl,hl,hm,rfl,rfl⟩,rfl,rfl,hK⟩
 have hΓ:GOK Tryz.prog (gam [(118,a2P),(117,a0t),(119,a27),(75,a1q),(120,a0n)]):=(.cons c1U (.cons b0P (.cons c9M (.cons b6i (.cons b2E .nil)))))
 refine⟨Nat.le_of_ble_eq_true rfl,AW.late ?_⟩
 have hk:=a0U hK rfl
 by_cases h2:(wdL line).length=1
 ·have hI:((wdL line).tail.length:Int)=0:=by rw [List.length_tail];omega
  cases hb:b.2.2 with
  | none=>
    have e:a2g verb line b=a7V:=by unfold a2g;rw [if_pos h2,hb]
    rw [e] at hk
    refine AW.of hΓ a0c [99999] _ _ _ rfl ?_
    simp only [go_sem,a2P,a0t,a27,a1q,a0n,hI,b9i,hb]
    refine⟨_,a0g (fun p=>p) (l:=[(6,.st a7V)]) (r:=[(0,.box v 106 10 (shC 1 2 3 4 v1 v2 v3 v4 b)),(1,a0m v1 b.1.1),(2,a0m v2 b.1.2.1),(3,a0m v3 b.1.2.2),(4,mgR v4 b.2.2)]) (sz:=64) (top:=5) (nx:=nx) (df:=[]) ?_,?_⟩
    ·simp only [go_sem,a2P,a0t,a27,a1q,a0n]
     exact⟨a0a.refl _,a0a.refl _,a0a.refl _,a0a.refl _,by rw [hb];exact a0a.refl _⟩
    ·simp only [go_sem,a2P,a0t,a27,a1q,a0n]
     exact hk v1 v2 v3 nx (.inl rfl) (.inl rfl) (.inl rfl) (Nat.le_refl _)
  | some m=>
    have hmm:=hm m hb
    have e:a2g verb line b=b54 verb m:=by unfold a2g;rw [if_pos h2,hb]
    rw [e] at hk
    by_cases g1:verb=[116,101,120,116]
    ·subst g1
     have e2:b54 [116,101,120,116] m=a7n m.2.1:=rfl
     rw [e2] at hk
     have ht:=hmm.txt
     refine AW.of hΓ a0c [99999] _ _ _ rfl ?_
     simp only [go_sem,a2P,a0t,a27,a1q,a0n,hI,b9i,hb,mgR]
     refine⟨by omega,?_⟩
     refine⟨_,a0g (fun p=>p) (l:=[(6,.st (a7n m.2.1))]) (r:=[(0,.box v 106 10 (shC 1 2 3 4 v1 v2 v3 v4 b)),(1,a0m v1 b.1.1),(2,a0m v2 b.1.2.1),(3,a0m v3 b.1.2.2),(4,mgR v4 b.2.2)]) (sz:=64) (top:=5) (nx:=nx) (df:=[]) ?_,?_⟩
     ·simp only [go_sem,a2P,a0t,a27,a1q,a0n]
      exact⟨a0a.refl _,a0a.refl _,a0a.refl _,a0a.refl _,by rw [hb];exact a0a.refl _⟩
     ·simp only [go_sem,a2P,a0t,a27,a1q,a0n]
      exact hk v1 v2 v3 nx (.inl rfl) (.inl rfl) (.inl rfl) (Nat.le_refl _)
    by_cases g2:verb=[119,105,100,101]
    ·subst g2
     have e2:b54 [119,105,100,101] m=Lib.itoa m.2.2.1:=rfl
     rw [e2] at hk
     have ht:=hmm.w0
     have ht1:=hmm.w1
     refine AW.of hΓ a0c [99999] _ _ _ rfl ?_
     simp only [go_sem,a2P,a0t,a27,a1q,a0n,hI,b9i,hb,mgR]
     refine⟨fun h=>absurd h (by decide),fun _=>⟨⟨by omega,by omega⟩,?_⟩⟩
     refine⟨_,a0g (fun p=>p) (l:=[(6,.st (Lib.itoa m.2.2.1))]) (r:=[(0,.box v 106 10 (shC 1 2 3 4 v1 v2 v3 v4 b)),(1,a0m v1 b.1.1),(2,a0m v2 b.1.2.1),(3,a0m v3 b.1.2.2),(4,mgR v4 b.2.2)]) (sz:=64) (top:=5) (nx:=nx) (df:=[]) ?_,?_⟩
     ·simp only [go_sem,a2P,a0t,a27,a1q,a0n]
      exact⟨a0a.refl _,a0a.refl _,a0a.refl _,a0a.refl _,by rw [hb];exact a0a.refl _⟩
     ·simp only [go_sem,a2P,a0t,a27,a1q,a0n]
      exact hk v1 v2 v3 nx (.inl rfl) (.inl rfl) (.inl rfl) (Nat.le_refl _)
    by_cases g3:verb=[99,104,117,110,107,115]
    ·subst g3
     have e2:b54 [99,104,117,110,107,115] m=b5v m.2.2.2:=rfl
     rw [e2] at hk
     refine AW.of hΓ a0c [99999] _ _ _ rfl ?_
     simp only [go_sem,a2P,a0t,a27,a1q,a0n,hI,b9i,hb,mgR]
     refine⟨fun h=>absurd h (by decide),fun _=>⟨fun h=>absurd h (by decide),fun _=>⟨hmm.cks,?_⟩⟩⟩
     refine⟨_,a0g (fun p=>p) (l:=[(6,.st (b5v m.2.2.2))]) (r:=[(0,.box v 106 10 (shC 1 2 3 4 v1 v2 v3 v4 b)),(1,a0m v1 b.1.1),(2,a0m v2 b.1.2.1),(3,a0m v3 b.1.2.2),(4,mgR v4 b.2.2)]) (sz:=64) (top:=5) (nx:=nx) (df:=[]) ?_,?_⟩
     ·simp only [go_sem,a2P,a0t,a27,a1q,a0n]
      exact⟨a0a.refl _,a0a.refl _,a0a.refl _,a0a.refl _,by rw [hb];exact a0a.refl _⟩
     ·simp only [go_sem,a2P,a0t,a27,a1q,a0n]
      exact hk v1 v2 v3 nx (.inl rfl) (.inl rfl) (.inl rfl) (Nat.le_refl _)
    ·refine AW.of hΓ a0c [200006] _ _ _ rfl ?_
     simp only [go_sem,a2P,a0t,a27,a1q,a0n,hI,b9i,hb,mgR,g1,g2,g3]
     have e2:b54 verb m=a3m (printR m.1 m.2.2.1).1 (printR m.1 m.2.2.1).2:=by unfold b54;rw [if_neg g1,if_neg g2,if_neg g3]
     rw [e2] at hk
     have hpr:=hmm.printR
     have hpl:=hmm.print
     have hok:=hmm.ok
     refine AW.drawK hΓ a0c 19 [] [] [] [0,4] (by decide +kernel) ?_
     simp only [go_sem,a2P,a0t,a27,a1q,a0n,b9i,hb,mgR]
     refine⟨⟨⟨hok.1,hok.2.1⟩,fun _=>by omega⟩,⟨by omega,hpr.2⟩,?_⟩
     refine⟨_,a0g (fun p=>p) (l:=[(6,.st (a3m (printR m.1 m.2.2.1).1 (printR m.1 m.2.2.1).2))]) (r:=[(0,.box v 106 10 (shC 1 2 3 4 v1 v2 v3 v4 b)),(1,a0m v1 b.1.1),(2,a0m v2 b.1.2.1),(3,a0m v3 b.1.2.2),(4,mgR v4 b.2.2)]) (sz:=64) (top:=5) (nx:=nx) (df:=[]) ?_,?_⟩
     ·simp only [go_sem,a2P,a0t,a27,a1q,a0n]
      exact⟨a0a.refl _,a0a.refl _,a0a.refl _,a0a.refl _,by rw [hb];exact a0a.refl _⟩
     ·simp only [go_sem,a2P,a0t,a27,a1q,a0n]
      exact hk v1 v2 v3 nx (.inl rfl) (.inl rfl) (.inl rfl) (Nat.le_refl _)
 ·have hI:(((wdL line).tail.length:Int)=0)=False:=eq_false (by rw [List.length_tail];have:=List.length_pos_iff.2 (a64 line);omega)
  have e:a2g verb line b=a0V:=by unfold a2g;rw [if_neg h2]
  rw [e] at hk
  refine AW.of hΓ a0c [99999] _ _ _ rfl ?_
  simp only [go_sem,a2P,a0t,a27,a1q,a0n,hI]
  refine⟨_,a0g (fun p=>p) (l:=[(6,.st a0V)]) (r:=[(0,.box v 106 10 (shC 1 2 3 4 v1 v2 v3 v4 b)),(1,a0m v1 b.1.1),(2,a0m v2 b.1.2.1),(3,a0m v3 b.1.2.2),(4,mgR v4 b.2.2)]) (sz:=64) (top:=5) (nx:=nx) (df:=[]) ?_,?_⟩
  ·simp only [go_sem,a2P,a0t,a27,a1q,a0n]
   exact⟨a0a.refl _,a0a.refl _,a0a.refl _,a0a.refl _,a0a.refl _⟩
  ·simp only [go_sem,a2P,a0t,a27,a1q,a0n]
   exact hk v1 v2 v3 nx (.inl rfl) (.inl rfl) (.inl rfl) (Nat.le_refl _)
def a0x:a0L:=a1D b9w
theorem c2X:a0i Tryz.prog 61 a0x:=c4m.frame
end Go.Proofs.YthpjjjnbkfnghaaGreatDoor
set_option maxRecDepth 100000
set_option maxHeartbeats 2000000
namespace Go.Proofs.YthpjjjnbkfnghaaGreatDoor
open Go
abbrev Rs:=BS×Nat×Nat×Int×Pt×List Pt
def rdC (x:Rs) (r u:Nat):Nat->AV:=fun j=>if j=0 then .st x.1 else if j=1 then .val (.int .i64 x.2.1) else if j=2 then .val (.int .i64 x.2.2.1) else if j=3 then .val (.int .u8 x.2.2.2.1) else if j<13 then ePt.enc x.2.2.2.2.1 (j-4) else .ow r u x.2.2.2.2.2.length
section
variable (x:Rs) (r u:Nat)
@[go_sem] theorem e1A:rdC x r u 0=.st x.1:=rfl
@[go_sem] theorem e1L:rdC x r u 1=.val (.int .i64 x.2.1):=rfl
@[go_sem] theorem e1O:rdC x r u 2=.val (.int .i64 x.2.2.1):=rfl
@[go_sem] theorem e1M:rdC x r u 3=.val (.int .u8 x.2.2.2.1):=rfl
@[go_sem] theorem e0v:rdC x r u 13=.ow r u x.2.2.2.2.2.length:=rfl
@[go_sem] theorem e1S:rdC x r u 4=.st x.2.2.2.2.1.1:=rfl
@[go_sem] theorem e1U:rdC x r u 5=.st x.2.2.2.2.1.2.1:=rfl
@[go_sem] theorem e1F:rdC x r u 6=.st x.2.2.2.2.1.2.2.1:=rfl
@[go_sem] theorem e1y:rdC x r u 7=.val (.bool x.2.2.2.2.1.2.2.2.1):=rfl
@[go_sem] theorem e1C:rdC x r u 8=.st x.2.2.2.2.1.2.2.2.2.1:=rfl
@[go_sem] theorem e1H:rdC x r u 9=.st x.2.2.2.2.1.2.2.2.2.2.1:=rfl
@[go_sem] theorem e03:rdC x r u 10=.st x.2.2.2.2.1.2.2.2.2.2.2.1:=rfl
@[go_sem] theorem e0y:rdC x r u 11=.st x.2.2.2.2.1.2.2.2.2.2.2.2.1:=rfl
@[go_sem] theorem e0w:rdC x r u 12=.val (.bool x.2.2.2.2.1.2.2.2.2.2.2.2.2):=rfl
end
theorem a5Q {v:Nat} {t:TypeId} {c:Nat->AV} {x:Rs} {r u:Nat} (h0:c 0=rdC x r u 0) (h1:c 1=rdC x r u 1) (h2:c 2=rdC x r u 2) (h3:c 3=rdC x r u 3) (h4:c 4=rdC x r u 4) (h5:c 5=rdC x r u 5) (h6:c 6=rdC x r u 6) (h7:c 7=rdC x r u 7)
  (h8:c 8=rdC x r u 8) (h9:c 9=rdC x r u 9) (h10:c 10=rdC x r u 10) (h11:c 11=rdC x r u 11) (h12:c 12=rdC x r u 12) (h13:c 13=rdC x r u 13):a0a (.box v t 14 c) (.box v t 14 (rdC x r u)):=a0a.box fun j hj=>a0e.of_eq (match j,hj with
 | 0,_=>h0
 | 1,_=>h1
 | 2,_=>h2
 | 3,_=>h3
 | 4,_=>h4
 | 5,_=>h5
 | 6,_=>h6
 | 7,_=>h7
 | 8,_=>h8
 | 9,_=>h9
 | 10,_=>h10
 | 11,_=>h11
 | 12,_=>h12
 | 13,_=>h13)
theorem c9k {u n:Nat} {t:TypeId} {l:List Pt} (h:l.length=n):a0a (.sl u t 9 l.length fun i=>ePt.enc (l.getD i ePt.dflt)) (.sl u t 9 n fun i=>ePt.enc (l.getD i ePt.dflt)):=by
 subst h
 exact a0a.refl _
theorem d2z (x:Rs) (v r r' u:Nat):a0a (.box v 192 14 (rdC x r u)) (.box v 192 14 (rdC x r' u)):=a0a.box fun j hj=>by
 by_cases h:j<13
 ·refine a0e.of_eq ?_
  unfold rdC
  simp only [h,if_true]
 ·obtain rfl:j=13:=by omega
  exact a0e.ow
def sRd (R:List AV->Rs->AV->Rs->Prop):a0L:=fun args hp top nx K=>∃ (v u:Nat) (xs:List AV) (a:Rs) (r:AV) (b:Rs),args=.pt 0 v 0::xs/\R xs a r b/\
 hp=rws [(0,.box v 192 14 (rdC a 1 u)),(1,a05 u 179 ePt a.2.2.2.2.2)]/\top=2/\
 ∀ u' nx',(u'=u\/nx<=u')->nx<=nx'->K r (rws [(0,.box v 192 14 (rdC b 1 u')),(1,a05 u' 179 ePt b.2.2.2.2.2)]) 2 nx'
theorem c5p {R:List AV->Rs->AV->Rs->Prop} {xs:List AV} {a b:Rs} {z:AV} {p q v u:Nat} {hp:Nat->Row} {top nx:Nat} {K:AV->(Nat->Row)->Nat->Nat->Prop} (hd:R xs a z b) (hpq:p≠q)
  (hr:a0a (hp p) (.box v 192 14 (rdC a q u))) (hr2:a0a (hp q) (a05 u 179 ePt a.2.2.2.2.2)) (ht:p<top/\q<top)
  (hK:∀ u' nx',(u'=u\/nx<=u')->nx<=nx'->K z (a0S (a0S hp p (.box v 192 14 (rdC b q u'))) q (a05 u' 179 ePt b.2.2.2.2.2)) top nx') :
  a1D (sRd R) (.pt p v 0::xs) hp top nx K:=by
 have e1:(hp p).ver=some v:=hr.vers.symm
 have e2:(hp q).ver=some u:=hr2.vers.symm
 refine⟨[p,q],.pt 0 v 0::xs,rws [(0,.box v 192 14 (rdC a 1 u)),(1,a05 u 179 ePt a.2.2.2.2.2)],by simp [hpq],by simp;omega,.cons a0e.pt (a4D.same xs),b3v (hr.trans (d2z a v q 1 u)) hr2,fun i hi=>a1X (top:=2) (by simp) i (by simpa using hi),v,u,xs,a,z,b,rfl,hd,rfl,rfl,fun u' nx' h1 h3=>?_⟩
 refine⟨_,_,a0e.refl _,fun i o ho=>?_,fun o ho=>?_,fun o ho w hv=>?_,hK u' nx' h1 h3⟩
 ·match i with
  | 0=>
    simp only [List.getElem?_cons_zero,Option.some.injEq] at ho
    subst ho
    rw [a0f _ _ hpq,a0k]
    exact d2z b v 1 q u'
  | 1=>
    simp only [List.getElem?_cons_succ,List.getElem?_cons_zero,Option.some.injEq] at ho
    subst ho
    rw [a0k]
    exact a0a.refl _
  | i+2=>simp at ho
 ·simp only [List.mem_cons,List.not_mem_nil,or_false,not_or] at ho
  rw [a0f _ _ ho.2,a0f _ _ ho.1]
 ·simp only [List.mem_cons,List.not_mem_nil,or_false] at ho
  rcases ho with rfl|rfl
  ·rw [a0f _ _ hpq,a0k] at hv
   have:some v=some w:=hv
   obtain rfl:=Option.some.inj this
   exact .inl e1
  ·rw [a0k] at hv
   have:some u'=some w:=hv
   obtain rfl:=Option.some.inj this
   rcases h1 with rfl|h1
   ·exact .inl e2
   ·exact .inr h1
attribute [local irreducible] AW a0e a1g a0a
def a0Q:a0s:=a0s.f2 kU kU (fun _ _=>True) (fun a k=>kB.enc (a6U a k))
theorem b9d:a0d Tryz.prog 183 a0Q:=by
 refine a0d.f2 Tryz.func183 rfl (by decide) Tryz.results183 Tryz.ntmps183 (by decide) fun a k _=>?_
 have hΓ:GOK Tryz.prog (gam []):=GOK.nil
 by_cases h1:k=60
 ·subst h1
  refine AW.of hΓ a0c [] _ _ _ rfl ?_
  simp only [go_sem]
  rfl
 by_cases h2:k=124
 ·subst h2
  refine AW.of hΓ a0c [] _ _ _ rfl ?_
  simp only [go_sem]
  rfl
 by_cases h3:k=61
 ·subst h3
  refine AW.of hΓ a0c [] _ _ _ rfl ?_
  simp only [go_sem]
  exact⟨fun h=>by rw [decide_eq_false h];rfl,rfl⟩
 ·refine AW.of hΓ a0c [] _ _ _ rfl ?_
  simp only [go_sem,h1,h2,h3]
  simp [a6U,h1,h2,h3]
def c1k:a0s:=a0s.f2 kS kS (fun a b=>a.length<=100000000000/\b=[10]) (fun a _=>kS.enc (a5R a))
theorem c7W:a0d Tryz.prog 190 c1k:=by
 refine a0d.f2 Tryz.func190 rfl (by decide) Tryz.results190 Tryz.ntmps190 (by decide) fun a b ⟨ha,h⟩=>?_
 have hΓ:GOK Tryz.prog (gam [(149,a5n)]):=(.cons a9T .nil)
 subst h
 unfold a5R
 refine AW.of hΓ a0c [] _ _ _ rfl ?_
 simp only [go_sem,a5n]
 have hp:a1d a=true->0<a.length:=fun h=>by
  cases a with
  | nil=>cases h
  | cons _ _=>simp
 refine⟨ha,fun h=>?_,fun h=>?_⟩
 ·have:=hp h
  refine⟨by omega,by omega,?_⟩
  rw [if_pos h]
  congr 1
  omega
 ·rw [if_neg (by simp [h])]
def a18:a0s:=a0s.f2 kS kS (fun a b=>a.length<=100000000000/\b=[10]) (fun a _=>kS.enc (a5R a))
theorem c8P:a0d Tryz.prog 141 a18:=by
 refine a0d.f2 Tryz.func141 rfl (by decide) Tryz.results141 Tryz.ntmps141 (by decide) fun a b ⟨ha,h⟩=>?_
 have hΓ:GOK Tryz.prog (gam [(190,c1k)]):=(.cons c7W .nil)
 subst h
 refine AW.of hΓ a0c [] _ _ _ rfl ?_
 simp only [go_sem,c1k]
 exact ha
def a58 (a:Rs):BS:=(a.1.take a.2.2.1).drop a.2.1
def c8l (a:Rs):Prop:=a.2.1<=a.2.2.1/\a.2.2.1<=a.1.length/\a.1.length<=100000000/\a.2.2.2.2.2.length<1000000000
def b0V (a:Rs) (ps:List Pt):Rs:=(a.1,a.2.1,a.2.2.1,a.2.2.2.1,a.2.2.2.2.1,ps)
def c66:a0L:=sRd fun xs a r b=>xs=[]/\r=.val (.tuple #[])/\c8l a/\b=b0V a (a.2.2.2.2.2++[a1m (a58 a)])
theorem c8t:a0i Tryz.prog 137 c66:=by
 refine a0i.mk Tryz.func137 rfl (by decide) Tryz.results137 Tryz.ntmps137 ?_
 rintro args hp top nx K ⟨v,u,xs,a,r,b,rfl,⟨rfl,rfl,⟨g1,g2,g3,g4⟩,rfl⟩,rfl,rfl,hK⟩
 have hΓ:GOK Tryz.prog (gam []):=GOK.nil
 refine⟨Nat.le_of_ble_eq_true rfl,AW.late ?_⟩
 refine AW.of hΓ a0c [200000] _ _ _ rfl ?_
 simp only [go_sem]
 refine AW.drawT hΓ a0c 20 [] (by decide +kernel) ?_
 simp only [go_sem]
 refine⟨⟨by omega,by omega,by omega⟩,by omega,_,a0g (fun p=>p) (l:=[]) (r:=[(0,.box v 192 14 (rdC (b0V a (a.2.2.2.2.2++[a1m (a58 a)])) 1 nx)),(1,a05 nx 179 ePt (a.2.2.2.2.2++[a1m (a58 a)]))]) (sz:=25) (top:=2) (nx:=nx+1) (df:=[]) ?_,?_⟩
 ·simp only [go_sem]
  refine⟨a5Q rfl rfl rfl rfl rfl rfl rfl rfl rfl rfl rfl rfl rfl ?_,?_⟩
  ·exact congrArg (AV.ow 1 nx) (by simp [b0V])
  ·refine a1A (E:=ePt) rfl rfl rfl rfl (by simp) fun j hj=>?_
   match j,hj with
   | 0,_=>exact a0e.refl _
   | 1,_=>exact a0e.refl _
   | 2,_=>exact a0e.refl _
   | 3,_=>exact a0e.refl _
   | 4,_=>exact a0e.refl _
   | 5,_=>exact a0e.refl _
   | 6,_=>exact a0e.refl _
   | 7,_=>exact a0e.refl _
   | 8,_=>exact a0e.refl _
 ·exact⟨rfl,hK nx (nx+1) (.inr (Nat.le_refl _)) (by omega)⟩
def a2i:a0L:=a1D c66
theorem c6L:a0i Tryz.prog 137 a2i:=c8t.frame
def c6P:a0L:=sRd fun xs a r b=>∃ (m:Mk) (sd:BS),xs=[(kA eMk).enc m,.st sd]/\r=.val (.tuple #[])/\c8l a/\b8q m.1/\b=(a.1,a.2.1,a.2.2.1,a.2.2.2.1,b1E a.2.2.2.1 m sd a.2.2.2.2.1,a7m a.2.2.2.1 m (a58 a) sd a.2.2.2.2.1 a.2.2.2.2.2)
theorem c8E:a0i Tryz.prog 184 c6P:=by
 refine a0i.mk Tryz.func184 rfl (by decide) Tryz.results184 Tryz.ntmps184 ?_
 rintro args hp top nx K ⟨v,u,xs,a,r,b,rfl,⟨m,sd,rfl,rfl,⟨g1,g2,g3,g4⟩,hsg,rfl⟩,rfl,rfl,hK⟩
 have hΓ:GOK Tryz.prog (gam [(137,a2i)]):=(.cons c6L .nil)
 refine⟨Nat.le_of_ble_eq_true rfl,AW.late ?_⟩
 obtain⟨s,fr,at_,af,c,ps⟩:=a
 obtain⟨k,f,lab⟩:=m
 simp only at g1 g2 g3 g4 hsg hK
 refine AW.of hΓ a0c [0,200014,200017] _ _ _ rfl ?_
 simp only [go_sem,a2i]
 refine AW.cut ⟨[(0,.pt 0 v 0),(2,.st sd),(4,.pt 2 nx 0)],[(0,.box v 192 14 (rdC (s,fr,at_,af,c,ps) 1 u)),(1,a05 u 179 ePt ps),(2,.box nx 188 3 (eMk.enc (k,f,lab)))],83,3,nx+1,[]⟩ ?_ ?_
 ·simp only [go_sem,a2i]
  exact⟨a0a.refl _,a0a.refl _,a0a.refl _⟩
 refine AW.still 4 2 nx 188 3 _ rfl rfl (fun j hj=>match j,hj with|0,_=>rfl|1,_=>rfl|2,_=>rfl) ?_
 refine AW.seqTo (fun _:Unit=>Sh.st ⟨[(0,.pt 0 v 0),(2,.st sd),(4,.ps 3 (eMk.enc (k,f,lab)))],[(0,.box v 192 14 (rdC (s,fr,at_,af,b3x af sd c,ps) 1 u)),(1,a05 u 179 ePt ps)],83,3,nx+1,[]⟩) ?_ fun _=>?_
 ·by_cases h1:af=60
  ·subst h1
   refine AW.of hΓ a0c [200014,200017] _ _ _ rfl ?_
   simp only [go_sem,a2i]
   refine⟨(),a0g (fun p=>p) ?_⟩
   simp only [go_sem,a2i]
   exact⟨a5Q rfl rfl rfl rfl rfl rfl rfl rfl rfl rfl rfl rfl rfl rfl,a0a.refl _⟩
  by_cases h2:af=124
  ·subst h2
   refine AW.of hΓ a0c [200014,200017] _ _ _ rfl ?_
   simp only [go_sem,a2i]
   refine⟨(),a0g (fun p=>p) ?_⟩
   simp only [go_sem,a2i]
   exact⟨a5Q rfl rfl rfl rfl rfl rfl rfl rfl rfl rfl rfl rfl rfl rfl,a0a.refl _⟩
  by_cases h3:af=61
  ·subst h3
   refine AW.of hΓ a0c [200014,200017] _ _ _ rfl ?_
   simp only [go_sem,a2i]
   refine⟨(),a0g (fun p=>p) ?_⟩
   simp only [go_sem,a2i]
   exact⟨a5Q rfl rfl rfl rfl rfl rfl rfl rfl rfl rfl rfl rfl rfl rfl,a0a.refl _⟩
  ·refine AW.of hΓ a0c [200014,200017] _ _ _ rfl ?_
   simp only [go_sem,a2i,h1,h2,h3]
   refine⟨(),a0g (fun p=>p) ?_⟩
   have e:b3x af sd c=c:=by
    unfold b3x
    rw [if_neg h1,if_neg h2,if_neg h3]
   simp only [go_sem,a2i,e]
   exact⟨a0a.refl _,a0a.refl _⟩
 have hpc:b1E af (k,f,lab) sd c=if k=60 then (lab,[],[],true,[],[],[],[],false) else if k=124 then c25 (b3x af sd c) lab else if k=62 then b3Q (b3x af sd c) lab else b3x af sd c:=rfl
 have hpl:a7m af (k,f,lab) (a58 (s,fr,at_,af,c,ps)) sd c ps=if k=60 then ps++[a1m ((s.take at_).drop fr)] else if k=62 then ps++[b1E af (k,f,lab) sd c] else ps:=rfl
 rw [hpl,hpc] at hK
 generalize b3x af sd c=d at *
 rcases hsg with rfl|rfl|rfl|rfl
 ·rw [if_pos rfl,if_pos rfl] at hK
  refine AW.of hΓ a0c [200014,200017] _ _ _ rfl ?_
  simp only [go_sem,a2i]
  refine c5p (a:=(s,fr,at_,af,d,ps)) ⟨rfl,rfl,⟨g1,g2,g3,g4⟩,rfl⟩ (by decide) (a0a.refl _) (a0a.refl _) (by decide) fun u1 n1 q1 h1=>?_
  simp only [go_sem,a2i]
  refine⟨_,a0g (fun p=>p) (l:=[]) (r:=[(0,.box v 192 14 (rdC (s,fr,at_,af,(lab,[],[],true,[],[],[],[],false),ps++[a1m ((s.take at_).drop fr)]) 1 u1)),(1,a05 u1 179 ePt (ps++[a1m ((s.take at_).drop fr)]))]) (sz:=83) (top:=2) (nx:=n1) (df:=[]) ?_,?_⟩
  ·simp only [go_sem,a2i]
   exact⟨a5Q rfl rfl rfl rfl rfl rfl rfl rfl rfl rfl rfl rfl rfl (congrArg (AV.ow 1 u1) (by simp [b0V])),c9k (by simp [b0V])⟩
  ·exact⟨rfl,hK u1 n1 (by omega) (by omega)⟩
 ·rw [if_neg (by decide),if_pos rfl,if_neg (by decide),if_neg (by decide)] at hK
  refine AW.of hΓ a0c [200014,200017] _ _ _ rfl ?_
  simp only [go_sem,a2i]
  refine AW.drawZ hΓ a0c 7 [8,9,10,11] [2,3,8,9,10,11] [] (by decide +kernel) ?_
  simp only [go_sem,a2i]
  refine⟨_,a0g (fun p=>p) (l:=[]) (r:=[(0,.box v 192 14 (rdC (s,fr,at_,af,c25 d lab,ps) 1 u)),(1,a05 u 179 ePt (ps))]) (sz:=83) (top:=2) (nx:=nx+1) (df:=[]) ?_,?_⟩
  ·simp only [go_sem,a2i]
   exact⟨a5Q rfl rfl rfl rfl rfl rfl rfl rfl rfl rfl rfl rfl rfl rfl,a0a.refl _⟩
  ·exact⟨rfl,hK u (nx+1) (.inl rfl) (by omega)⟩
 ·rw [if_neg (by decide),if_neg (by decide),if_neg (by decide),if_neg (by decide),if_neg (by decide)] at hK
  refine AW.of hΓ a0c [200014,200017] _ _ _ rfl ?_
  simp only [go_sem,a2i]
  refine⟨_,a0g (fun p=>p) (l:=[]) (r:=[(0,.box v 192 14 (rdC (s,fr,at_,af,d,ps) 1 u)),(1,a05 u 179 ePt (ps))]) (sz:=83) (top:=2) (nx:=nx+1) (df:=[]) ?_,?_⟩
  ·simp only [go_sem,a2i]
   exact⟨a0a.refl _,a0a.refl _⟩
  ·exact⟨rfl,hK u (nx+1) (.inl rfl) (by omega)⟩
 ·rw [if_neg (by decide),if_neg (by decide),if_pos rfl,if_neg (by decide),if_pos rfl] at hK
  refine AW.of hΓ a0c [200014,200017] _ _ _ rfl ?_
  simp only [go_sem,a2i]
  refine AW.drawT hΓ a0c 10 [] (by decide +kernel) ?_
  simp only [go_sem,a2i]
  refine⟨by omega,_,a0g (fun p=>p) (l:=[]) (r:=[(0,.box v 192 14 (rdC (s,fr,at_,af,b3Q d lab,ps++[b3Q d lab]) 1 (nx+1))),(1,a05 (nx+1) 179 ePt (ps++[b3Q d lab]))]) (sz:=83) (top:=2) (nx:=nx+2) (df:=[]) ?_,?_⟩
  ·simp only [go_sem,a2i]
   refine⟨a5Q rfl rfl rfl rfl rfl rfl rfl rfl rfl rfl rfl rfl rfl (congrArg (AV.ow 1 (nx+1)) (by simp)),?_⟩
   refine a1A (E:=ePt) rfl rfl rfl rfl (by simp) fun j hj=>?_
   match j,hj with
   | 0,_=>exact a0e.refl _
   | 1,_=>exact a0e.refl _
   | 2,_=>exact a0e.refl _
   | 3,_=>exact a0e.refl _
   | 4,_=>exact a0e.refl _
   | 5,_=>exact a0e.refl _
   | 6,_=>exact a0e.refl _
   | 7,_=>exact a0e.refl _
   | 8,_=>exact a0e.refl _
  ·exact⟨rfl,hK (nx+1) (nx+2) (.inr (by omega)) (by omega)⟩
def a3C:a0L:=a1D c6P
theorem d2G:a0i Tryz.prog 184 a3C:=c8E.frame
def d0j (a:Rs) (m:Mk) (line:BS):Rs:=if (a1z a.2.2.2.1 (a58 a) a.2.2.2.2.1 a.2.2.2.2.2 m).1=0 then
    (a.1,a.2.2.1+line.length,a.2.2.1,(a1z a.2.2.2.1 (a58 a) a.2.2.2.2.1 a.2.2.2.2.2 m).2.1,(a1z a.2.2.2.1 (a58 a) a.2.2.2.2.1 a.2.2.2.2.2 m).2.2.1,(a1z a.2.2.2.1 (a58 a) a.2.2.2.2.1 a.2.2.2.2.2 m).2.2.2) else a
def c7r:a0L:=sRd fun xs a r b=>∃ (m:Mk) (line:BS),xs=[(kA eMk).enc m,.st line]/\r=.val (.int .i64 (a1z a.2.2.2.1 (a58 a) a.2.2.2.2.1 a.2.2.2.2.2 m).1)/\c8l a/\b8q m.1/\line.length<=100000000/\b=d0j a m line
theorem d0g:a0i Tryz.prog 136 c7r:=by
 refine a0i.mk Tryz.func136 rfl (by decide) Tryz.results136 Tryz.ntmps136 ?_
 rintro args hp top nx K ⟨v,u,xs,a,r,b,rfl,⟨m,line,rfl,rfl,⟨g1,g2,g3,g4⟩,hsg,hll,rfl⟩,rfl,rfl,hK⟩
 have hΓ:GOK Tryz.prog (gam [(183,a0Q),(141,a18),(91,a0E),(184,a3C)]):=(.cons b9d (.cons c8P (.cons a9z (.cons d2G .nil))))
 refine⟨Nat.le_of_ble_eq_true rfl,AW.late ?_⟩
 obtain⟨s,fr,at_,af,c,ps⟩:=a
 obtain⟨k,f,lab⟩:=m
 simp only at g1 g2 g3 g4 hsg hK
 generalize hnow:a58 (s,fr,at_,af,c,ps)=now at *
 have hnow':(s.take at_).drop fr=now:=hnow
 have hnl:now.length<=100000000:=by
  rw [<-hnow',List.length_drop,List.length_take]
  omega
 unfold d0j at hK
 simp only [hnow] at hK
 refine AW.of hΓ a0c [0,200012] _ _ _ rfl ?_
 simp only [go_sem,a0Q,a18,a0E,a3C]
 refine AW.cut ⟨[(0,.pt 0 v 0),(2,.st line),(4,.pt 2 nx 0)],[(0,.box v 192 14 (rdC (s,fr,at_,af,c,ps) 1 u)),(1,a05 u 179 ePt ps),(2,.box nx 188 3 (eMk.enc (k,f,lab)))],76,3,nx+1,[]⟩ ?_ ?_
 ·simp only [go_sem,a0Q,a18,a0E,a3C]
  exact⟨a0a.refl _,a0a.refl _,a0a.refl _⟩
 refine AW.still 4 2 nx 188 3 _ rfl rfl (fun j hj=>match j,hj with|0,_=>rfl|1,_=>rfl|2,_=>rfl) ?_
 have fin:∀ e:Int,(a1z af now c ps (k,f,lab)).1=e->e≠0->K (.val (.int .i64 e)) (rws [(0,.box v 192 14 (rdC (s,fr,at_,af,c,ps) 1 u)),(1,a05 u 179 ePt ps)]) 2 (nx+1):=fun e he h0=>by
  have:=hK u (nx+1) (.inl rfl) (by omega)
  rw [he,if_neg h0] at this
  exact this
 by_cases hn:k=60/\af≠0
 ·have ht:(a1z af now c ps (k,f,lab)).1=7:=by
   unfold a1z
   rw [if_pos hn]
  refine AW.of hΓ a0c [200012] _ _ _ rfl ?_
  simp only [go_sem,a0Q,a18,a0E,a3C,hn.1,hn.2]
  refine⟨_,a0g (fun p=>p) (l:=[(6,.val (.int .i64 7))]) (r:=[(0,.box v 192 14 (rdC (s,fr,at_,af,c,ps) 1 u)),(1,a05 u 179 ePt ps)]) (sz:=76) (top:=2) (nx:=nx+1) (df:=[]) ?_,?_⟩
  ·simp only [go_sem,a0Q,a18,a0E,a3C]
   exact⟨a0a.refl _,a0a.refl _⟩
  ·exact⟨rfl,trivial,fin 7 ht (by decide)⟩
 have hn1:(decide (k=60)&&decide (¬af=0))=false:=by
  by_cases h1:k=60
  ·rw [decide_eq_false (p:=¬af=0) fun h=>hn ⟨h1,h⟩,Bool.and_false]
  ·rw [decide_eq_false h1,Bool.false_and]
 by_cases hf:a6U af k=false
 ·have ht:(a1z af now c ps (k,f,lab)).1=8:=by
   unfold a1z
   rw [if_neg hn,if_pos hf]
  refine AW.of hΓ a0c [200012] _ _ _ rfl ?_
  simp only [go_sem,a0Q,a18,a0E,a3C,hn1,hf]
  refine⟨_,a0g (fun p=>p) (l:=[(6,.val (.int .i64 8))]) (r:=[(0,.box v 192 14 (rdC (s,fr,at_,af,c,ps) 1 u)),(1,a05 u 179 ePt ps)]) (sz:=76) (top:=2) (nx:=nx+1) (df:=[]) ?_,?_⟩
  ·simp only [go_sem,a0Q,a18,a0E,a3C]
   exact⟨a0a.refl _,a0a.refl _⟩
  ·exact⟨rfl,trivial,fin 8 ht (by decide)⟩
 have hf':a6U af k=true:=by simpa using hf
 have htk:a1z af now c ps (k,f,lab)=(match b2J (k,f,lab) now with
  | none=>(9,af,c,ps)
  | some sd=>(0,if k=62 then 0 else k,b1E af (k,f,lab) sd c,a7m af (k,f,lab) now sd c ps)):=by
  unfold a1z
  rw [if_neg hn,if_neg hf]
  rfl
 refine AW.of hΓ a0c [5,200012] _ _ _ rfl ?_
 simp only [go_sem,a0Q,a18,a0E,a3C,hn1,hf']
 refine⟨⟨by omega,by omega,by omega⟩,?_⟩
 refine AW.cut ⟨[(0,.pt 0 v 0),(2,.st line),(4,.ps 3 (eMk.enc (k,f,lab))),(7,.st now)],[(0,.box v 192 14 (rdC (s,fr,at_,af,c,ps) 1 u)),(1,a05 u 179 ePt ps)],76,3,nx+1,[]⟩ ?_ ?_
 ·rw [hnow']
  simp only [go_sem,a0Q,a18,a0E,a3C]
  exact⟨a0a.refl _,a0a.refl _⟩
 by_cases hb:f=true/\(a5R now=[]\/a1d (a5R now)=true)
 ·obtain⟨rfl,hb⟩:=hb
  have ht:(a1z af now c ps (k,true,lab)).1=9:=by
   rw [htk]
   unfold b2J
   rw [if_pos rfl,if_pos hb]
  have hb2:(decide (a5R now=[])||a1d (a5R now))=true:=by simpa using hb
  have hcl:=b5L now
  refine AW.fork ?_
  refine AW.of hΓ a0c [200012] _ _ _ rfl ?_
  simp only [go_sem,a0Q,a18,a0E,a3C,hb2]
  refine⟨by omega,fun _=>by omega,fun h=>by rw [decide_eq_false h];rfl,?_⟩
  refine⟨_,a0g (fun p=>p) (l:=[(6,.val (.int .i64 9))]) (r:=[(0,.box v 192 14 (rdC (s,fr,at_,af,c,ps) 1 u)),(1,a05 u 179 ePt ps)]) (sz:=76) (top:=2) (nx:=nx+1) (df:=[]) ?_,?_⟩
  ·simp only [go_sem,a0Q,a18,a0E,a3C]
   exact⟨a0a.refl _,a0a.refl _⟩
  ·exact⟨rfl,trivial,fin 9 ht (by decide)⟩
 obtain⟨sd,hsd⟩:∃ sd,b2J (k,f,lab) now=some sd:=by
  unfold b2J
  cases f with
  | false=>exact⟨now,rfl⟩
  | true=>
    refine⟨a5R now,?_⟩
    rw [if_pos rfl,if_neg fun h=>hb ⟨rfl,h⟩]
 rw [hsd] at htk
 dsimp only at htk
 rw [htk] at hK
 refine AW.seqTo (fun _:Unit=>Sh.st ⟨[(0,.pt 0 v 0),(2,.st line),(4,.ps 3 (eMk.enc (k,f,lab))),(7,.st sd)],[(0,.box v 192 14 (rdC (s,fr,at_,af,c,ps) 1 u)),(1,a05 u 179 ePt ps)],76,3,nx+1,[]⟩) ?_ fun _=>?_
 ·have hcl:=b5L now
  cases f with
  | false=>
    have e:sd=now:=by
     unfold b2J at hsd
     rw [if_neg (by simp)] at hsd
     exact (Option.some.inj hsd).symm
    subst e
    refine AW.of hΓ a0c [200012] _ _ _ rfl ?_
    simp only [go_sem,a0Q,a18,a0E,a3C]
    refine⟨(),a0g (fun p=>p) ?_⟩
    simp only [go_sem,a0Q,a18,a0E,a3C]
    exact⟨a0a.refl _,a0a.refl _⟩
  | true=>
    have hb3:¬(a5R now=[]\/a1d (a5R now)=true):=fun h=>hb ⟨rfl,h⟩
    have hb2:(decide (a5R now=[])||a1d (a5R now))=false:=by
     rw [decide_eq_false fun h=>hb3 (.inl h),Bool.false_or]
     cases h:a1d (a5R now) with
     | false=>rfl
     | true=>exact absurd (.inr h) hb3
    have e:sd=a5R now:=by
     unfold b2J at hsd
     rw [if_pos rfl,if_neg hb3] at hsd
     exact (Option.some.inj hsd).symm
    subst e
    refine AW.of hΓ a0c [200012] _ _ _ rfl ?_
    simp only [go_sem,a0Q,a18,a0E,a3C,hb2]
    refine⟨by omega,fun _=>by omega,fun h=>by rw [decide_eq_false h];rfl,(),a0g (fun p=>p) ?_⟩
    simp only [go_sem,a0Q,a18,a0E,a3C]
    exact⟨a0a.refl _,a0a.refl _⟩
 refine AW.of hΓ a0c [200012] _ _ _ rfl ?_
 simp only [go_sem,a0Q,a18,a0E,a3C]
 refine c5p (a:=(s,fr,at_,af,c,ps)) ⟨(k,f,lab),sd,rfl,rfl,⟨g1,g2,g3,g4⟩,hsg,rfl⟩ (by decide) (a0a.refl _) (a0a.refl _) (by decide) fun u1 n1 q1 h1=>?_
 rw [hnow]
 dsimp only
 generalize b1E af (k,f,lab) sd c=c1 at *
 generalize a7m af (k,f,lab) now sd c ps=ps1 at *
 simp only [go_sem,a0Q,a18,a0E,a3C]
 refine AW.drawZ hΓ a0c 13 [] [9,10] [] (by decide +kernel) ?_
 simp only [go_sem,a0Q,a18,a0E,a3C]
 refine⟨by omega,?_⟩
 have hK':∀ u' nx',(u'=u\/nx<=u')->nx<=nx'->K (.val (.int .i64 0)) (rws [(0,.box v 192 14 (rdC (s,at_+line.length,at_,if k=62 then 0 else k,c1,ps1) 1 u')),(1,a05 u' 179 ePt ps1)]) 2 nx':=hK
 refine AW.cut ⟨[(0,.pt 0 v 0),(4,.ps 3 (eMk.enc (k,f,lab)))],[(0,.box v 192 14 (rdC (s,at_+line.length,at_,k,c1,ps1) 1 u1)),(1,a05 u1 179 ePt ps1)],76,3,n1,[]⟩ ?_ ?_
 ·simp only [go_sem,a0Q,a18,a0E,a3C]
  exact⟨a5Q rfl rfl rfl rfl rfl rfl rfl rfl rfl rfl rfl rfl rfl rfl,a0a.refl _⟩
 by_cases hk:k=62
 ·subst hk
  refine AW.of hΓ a0c [] _ _ _ rfl ?_
  simp only [go_sem,a0Q,a18,a0E,a3C]
  refine AW.fork ?_
  refine AW.of hΓ a0c [] _ _ _ rfl ?_
  simp only [go_sem,a0Q,a18,a0E,a3C]
  refine AW.of hΓ a0c [] _ _ _ rfl ?_
  simp only [go_sem,a0Q,a18,a0E,a3C]
  refine⟨_,a0g (fun p=>p) (l:=[(6,.val (.int .i64 0))]) (r:=[(0,.box v 192 14 (rdC (s,at_+line.length,at_,0,c1,ps1) 1 u1)),(1,a05 u1 179 ePt ps1)]) (sz:=76) (top:=2) (nx:=n1) (df:=[]) ?_,?_⟩
  ·simp only [go_sem,a0Q,a18,a0E,a3C]
   exact⟨a5Q rfl rfl rfl rfl rfl rfl rfl rfl rfl rfl rfl rfl rfl rfl,a0a.refl _⟩
  ·exact⟨rfl,trivial,hK' u1 n1 (by omega) (by omega)⟩
 ·rw [if_neg hk] at hK'
  refine AW.of hΓ a0c [] _ _ _ rfl ?_
  simp only [go_sem,a0Q,a18,a0E,a3C,hk]
  refine AW.fork ?_
  refine AW.of hΓ a0c [] _ _ _ rfl ?_
  simp only [go_sem,a0Q,a18,a0E,a3C,hk]
  refine AW.of hΓ a0c [] _ _ _ rfl ?_
  simp only [go_sem,a0Q,a18,a0E,a3C]
  refine⟨_,a0g (fun p=>p) (l:=[(6,.val (.int .i64 0))]) (r:=[(0,.box v 192 14 (rdC (s,at_+line.length,at_,k,c1,ps1) 1 u1)),(1,a05 u1 179 ePt ps1)]) (sz:=76) (top:=2) (nx:=n1) (df:=[]) ?_,?_⟩
  ·simp only [go_sem,a0Q,a18,a0E,a3C]
   exact⟨a0a.refl _,a0a.refl _⟩
  ·exact⟨rfl,trivial,hK' u1 n1 (by omega) (by omega)⟩
def a5x:a0L:=a1D c7r
theorem d1W:a0i Tryz.prog 136 a5x:=d0g.frame
end Go.Proofs.YthpjjjnbkfnghaaGreatDoor
set_option maxRecDepth 100000
set_option maxHeartbeats 2000000
namespace Go.Proofs.YthpjjjnbkfnghaaGreatDoor
open Go
attribute [local irreducible] AW a0e a1g a0a
def c7v (s:BS) (w:Int) (i fr at_:Nat) (af:Int) (c:Pt) (ps:List Pt):Prop:=
 i<=(a0b s).length/\((a0b s).take i).flatten=s.take at_/\at_<=s.length/\fr<=at_/\txP c=[]/\a3Y ps<=fr/\ps.length<=2*i/\
 a87 w (a0b s) 0 [] ePt.dflt [] 0=a87 w ((a0b s).drop i) af (a58 (s,fr,at_,af,c,ps)) c ps i
theorem b6O (a:Int) (m:Mk) (sd:BS) {c:Pt} (h:txP c=[]):txP (b1E a m sd c)=[]:=by
 have hp:txP (b3x a sd c)=[]:=by
  unfold b3x
  split
  ·exact h
  ·split
   ·exact h
   ·split
    ·exact h
    ·exact h
 unfold b1E
 split
 ·rfl
 ·split
  ·exact hp
  ·split
   ·exact hp
   ·exact hp
theorem b10 {s:BS} {i at_:Nat} (h:((a0b s).take i).flatten=s.take at_) (ha:at_<=s.length) (hi:i<(a0b s).length) :
  at_+((a0b s).getD i []).length<=s.length/\s.take (at_+((a0b s).getD i []).length)=s.take at_++(a0b s).getD i []/\((a0b s).take (i+1)).flatten=s.take (at_+((a0b s).getD i []).length):=by
 have e1:((a0b s).take (i+1)).flatten=s.take at_++(a0b s).getD i []:=by
  rw [a2F _ [] hi,List.flatten_append,h]
  simp
 have e2:s=((a0b s).take (i+1)).flatten++((a0b s).drop (i+1)).flatten:=by
  rw [<-List.flatten_append,List.take_append_drop,a1j]
 rw [e1] at e2
 generalize (a0b s).getD i []=l at *
 generalize ((a0b s).drop (i+1)).flatten=r at *
 have hl:(s.take at_).length=at_:=by rw [List.length_take];omega
 have e3:=congrArg List.length e2
 simp only [List.length_append,hl] at e3
 have e4:s.take (at_+l.length)=s.take at_++l:=by
  have h5:(s.take at_++l).length=at_+l.length:=by rw [List.length_append,hl]
  conv=>lhs;rw [e2]
  rw [<-h5,List.take_left]
 exact⟨by omega,e4,by rw [e1,e4]⟩
theorem c4v {s:BS} {fr at_ n:Nat} {l:BS} (h:s.take n=s.take at_++l) (hf:fr<=at_) (ha:at_<=s.length):(s.take n).drop fr=(s.take at_).drop fr++l:=by
 rw [h,List.drop_append_of_le_length (by rw [List.length_take];omega)]
theorem c5T {s:BS} {w:Int} {i fr at_:Nat} {af:Int} {c:Pt} {ps:List Pt} (h:c7v s w i fr at_ af c ps) (hi:i<(a0b s).length) (hr:(a1c ((a0b s).getD i []) w).2.1=false) (he:(a1c ((a0b s).getD i []) w).2.2=0) :
  c7v s w (i+1) fr (at_+((a0b s).getD i []).length) af c ps:=by
 obtain⟨h1,h2,h3,h4,h5,h6,h7,h8⟩:=h
 obtain⟨t1,t2,t3⟩:=b10 h2 h3 hi
 refine⟨hi,t3,t1,by omega,h5,h6,by omega,?_⟩
 rw [h8,List.drop_eq_getElem_cons hi,<-a1h _ [] hi,a87,if_neg (by rw [hr];simp),if_neg (by rw [he];simp)]
 congr 1
 exact (c4v t2 h4 h3).symm
theorem c31 {s:BS} {w:Int} {i fr at_:Nat} {af:Int} {c:Pt} {ps:List Pt} (h:c7v s w i fr at_ af c ps) (hi:i<(a0b s).length) (hr:(a1c ((a0b s).getD i []) w).2.1=true)
  (he:(a1z af (a58 (s,fr,at_,af,c,ps)) c ps (a1c ((a0b s).getD i []) w).1).1=0) :
  c7v s w (i+1) (at_+((a0b s).getD i []).length) (at_+((a0b s).getD i []).length) (a1z af (a58 (s,fr,at_,af,c,ps)) c ps (a1c ((a0b s).getD i []) w).1).2.1
   (a1z af (a58 (s,fr,at_,af,c,ps)) c ps (a1c ((a0b s).getD i []) w).1).2.2.1 (a1z af (a58 (s,fr,at_,af,c,ps)) c ps (a1c ((a0b s).getD i []) w).1).2.2.2:=by
 obtain⟨h1,h2,h3,h4,h5,h6,h7,h8⟩:=h
 obtain⟨t1,t2,t3⟩:=b10 h2 h3 hi
 have hnl:(a58 (s,fr,at_,af,c,ps)).length=at_-fr:=by
  unfold a58
  simp only [List.length_drop,List.length_take]
  omega
 have hk:txP (a1z af (a58 (s,fr,at_,af,c,ps)) c ps (a1c ((a0b s).getD i []) w).1).2.2.1=[]/\a3Y (a1z af (a58 (s,fr,at_,af,c,ps)) c ps (a1c ((a0b s).getD i []) w).1).2.2.2<=at_/\(a1z af (a58 (s,fr,at_,af,c,ps)) c ps (a1c ((a0b s).getD i []) w).1).2.2.2.length<=ps.length+1:=by
  generalize (a1c ((a0b s).getD i []) w).1=m
  generalize a58 (s,fr,at_,af,c,ps)=now at *
  have h0:txP c=[]/\a3Y ps<=at_/\ps.length<=ps.length+1:=⟨h5,by omega,by omega⟩
  unfold a1z
  split
  ·exact h0
  ·split
   ·exact h0
   ·split
    ·exact h0
    ·rename_i sd _
     refine⟨b6O _ _ _ h5,?_,?_⟩
     ·dsimp only
      unfold a7m
      split
      ·rw [a2Y,a22]
       show a3Y ps+now.length<=at_
       omega
      ·split
       ·rw [a2Y,a22,b6O _ _ _ h5]
        simp
        omega
       ·omega
     ·dsimp only
      unfold a7m
      split
      ·simp
      ·split
       ·simp
       ·omega
 refine⟨hi,t3,t1,Nat.le_refl _,hk.1,by omega,by omega,?_⟩
 rw [h8,List.drop_eq_getElem_cons hi,<-a1h _ [] hi,a87,if_pos hr,if_neg (by rw [he];simp)]
 congr 1
 unfold a58
 simp only
 exact (List.drop_of_length_le (by rw [List.length_take];omega)).symm
theorem c6x {s:BS} {w:Int} {i fr at_:Nat} {af:Int} {c:Pt} {ps:List Pt} (h:c7v s w i fr at_ af c ps) (hi:i<(a0b s).length) (hr:(a1c ((a0b s).getD i []) w).2.1=false) (he:(a1c ((a0b s).getD i []) w).2.2≠0) :
  a87 w (a0b s) 0 [] ePt.dflt [] 0=([],(a1c ((a0b s).getD i []) w).2.2,(i:Int)+1):=by
 rw [h.2.2.2.2.2.2.2,List.drop_eq_getElem_cons hi,<-a1h _ [] hi,a87,if_neg (by rw [hr];simp),if_pos he]
theorem c5C {s:BS} {w:Int} {i fr at_:Nat} {af:Int} {c:Pt} {ps:List Pt} (h:c7v s w i fr at_ af c ps) (hi:i<(a0b s).length) (hr:(a1c ((a0b s).getD i []) w).2.1=true)
  (he:(a1z af (a58 (s,fr,at_,af,c,ps)) c ps (a1c ((a0b s).getD i []) w).1).1≠0) :
  a87 w (a0b s) 0 [] ePt.dflt [] 0=([],(a1z af (a58 (s,fr,at_,af,c,ps)) c ps (a1c ((a0b s).getD i []) w).1).1,(i:Int)+1):=by
 rw [h.2.2.2.2.2.2.2,List.drop_eq_getElem_cons hi,<-a1h _ [] hi,a87,if_pos hr,if_pos he]
end Go.Proofs.YthpjjjnbkfnghaaGreatDoor
set_option maxRecDepth 100000
set_option maxHeartbeats 2000000
namespace Go.Proofs.YthpjjjnbkfnghaaGreatDoor
open Go
attribute [local irreducible] AW a0e a1g a0a
theorem c70 (w:Int):a1c [] w=(mk0,false,if a5j w=false then 4 else 0):=by
 unfold a1c
 by_cases h:a5j w=false
 ·rw [if_pos h,if_pos h]
 ·rw [if_neg h,if_neg h,if_pos]
  have h2:=(a6z.1 (by simpa using h)).1
  show ((0:Nat):Int)<w
  omega
def a4C:a0s:=a0s.f2 kS kI (fun s _=>s.length<=10000000) (fun s w=>tu3 (sL ePt (a2N s w).1) (kI.enc (a2N s w).2.1) (kI.enc (a2N s w).2.2))
theorem d0s:a0d Tryz.prog 79 a4C:=by
 refine a0d.f2 Tryz.func79 rfl (by decide) Tryz.results79 Tryz.ntmps79 (by decide) fun s w hs=>?_
 have hΓ:GOK Tryz.prog (gam [(135,a3r),(26,a0v),(136,a5x),(137,a2i),(134,a4P)]):=(.cons c84 (.cons b17 (.cons d1W (.cons c6L (.cons c71 .nil)))))
 have hem:=c70 w
 unfold a2N
 by_cases hw:a5j w=false
 ·rw [if_pos hw] at hem ⊢
  refine AW.of hΓ a0c [] _ _ _ rfl ?_
  simp only [go_sem,a3r,a0v,a5x,a2i,a4P,hem]
  exact a3T ePt
 rw [if_neg hw] at hem ⊢
 have hw':a5j w=true:=by simpa using hw
 refine AW.of hΓ a0c [4] _ _ _ rfl ?_
 simp only [go_sem,a3r,a0v,a5x,a2i,a4P,hem]
 refine AW.cut ⟨[(0,.st s),(1,.val (.int .i64 w)),(10,.pt 1 1 0)],[(1,.box 1 192 14 fun j=>if j=13 then .em else rdC (s,0,0,0,ePt.dflt,[]) 2 2 j)],70,2,2,[]⟩ ?_ ?_
 ·simp only [go_sem,a3r,a0v,a5x,a2i,a4P]
  refine a0a.box fun j hj=>a0e.of_eq ?_
  match j,hj with
  | 0,_=>rfl
  | 1,_=>rfl
  | 2,_=>rfl
  | 3,_=>rfl
  | 4,_=>rfl
  | 5,_=>rfl
  | 6,_=>rfl
  | 7,_=>rfl
  | 8,_=>rfl
  | 9,_=>rfl
  | 10,_=>rfl
  | 11,_=>rfl
  | 12,_=>rfl
  | 13,_=>rfl
 refine AW.adoptB (q:=1) 13 179 9 (fun i=>ePt.enc (([]:List Pt).getD i ePt.dflt)) rfl rfl ?_
 refine AW.cut ⟨[(0,.st s),(1,.val (.int .i64 w)),(10,.pt 1 1 0)],[(1,.box 1 192 14 (rdC (s,0,0,0,ePt.dflt,[]) 2 2)),(2,a05 2 179 ePt [])],70,3,3,[]⟩ ?_ ?_
 ·simp only [go_sem,a3r,a0v,a5x,a2i,a4P]
  exact⟨a5Q rfl rfl rfl rfl rfl rfl rfl rfl rfl rfl rfl rfl rfl rfl,a0a.refl _⟩
 refine AW.of hΓ a0c [18] _ _ _ rfl ?_
 simp only [go_sem,a3r,a0v,a5x,a2i,a4P]
 have hsp:=b1m (s:=s) (by omega)
 have hsl:=a0M s
 have hI0:c7v s w 0 0 0 0 ePt.dflt []:=⟨Nat.zero_le _,rfl,Nat.zero_le _,Nat.le_refl _,rfl,Nat.zero_le _,Nat.zero_le _,rfl⟩
 generalize hT:a87 w (a0b s) 0 [] ePt.dflt [] 0=T at *
 refine⟨by omega,?_⟩
 refine AW.round (α:={ x:Nat×Nat×Nat×Int×Pt×List Pt×Nat×Nat // c7v s w x.1 x.2.1 x.2.2.1 x.2.2.2.1 x.2.2.2.2.1 x.2.2.2.2.2.1 })
  (fun x=>⟨[(1,.val (.int .i64 w)),(10,.pt 1 1 0),(11,sL eS (a0b s)),(30,sL eS (a0b s)),(31,.val (.int .i64 (a0b s).length)),(32,.val (.int .i64 x.1.1))],
   [(1,.box 1 192 14 (rdC (s,x.1.2.1,x.1.2.2.1,x.1.2.2.2.1,x.1.2.2.2.2.1,x.1.2.2.2.2.2.1) 2 x.1.2.2.2.2.2.2.1)),(2,a05 x.1.2.2.2.2.2.2.1 179 ePt x.1.2.2.2.2.2.1)],70,3,x.1.2.2.2.2.2.2.2,[]⟩) (fun x=>(a0b s).length-x.1.1) ⟨(0,0,0,0,ePt.dflt,[],2,3),hI0⟩ ?_ ?_
 ·simp only [go_sem,a3r,a0v,a5x,a2i,a4P]
  exact⟨a0a.refl _,a0a.refl _⟩
 ·rintro⟨⟨i,fr,at_,af,c,ps,u,nx⟩,hI⟩
  simp only at hI
  refine AW.of hΓ a0c [9,99999] _ _ _ rfl ?_
  simp only [go_sem,a3r,a0v,a5x,a2i,a4P]
  refine⟨fun hlt=>?_,fun hge=>?_⟩
  ·have hi:i<(a0b s).length:=by omega
   have hll:((a0b s).getD i []).length<=10000000:=by
    rw [a1h _ _ hi]
    have:=b4C (List.getElem_mem hi)
    omega
   have t1:=c5T hI hi
   have t2:=c31 hI hi
   have t3:=c6x hI hi
   have t4:=c5C hI hi
   rw [hT] at t3 t4
   generalize hle:(a0b s).getD i []=l at *
   have hpl:=b10 hI.2.1 hI.2.2.1 hi
   rw [hle] at hpl
   have hI':=hI
   obtain⟨_,_,i3,i4,i5,i6,i7,_⟩:=hI'
   refine⟨by omega,by omega,?_⟩
   refine AW.cut ⟨[(1,.val (.int .i64 w)),(10,.pt 1 1 0),(11,sL eS (a0b s)),(12,.val (.int .i64 i)),(13,.st l),(14,.pt 3 nx 0),(15,.val (.bool (a1c l w).2.1)),(16,.val (.int .i64 (a1c l w).2.2)),(30,sL eS (a0b s)),(31,.val (.int .i64 (a0b s).length)),(32,.val (.int .i64 i))],
    [(1,.box 1 192 14 (rdC (s,fr,at_,af,c,ps) 2 u)),(2,a05 u 179 ePt ps),(3,.box nx 188 3 (eMk.enc (a1c l w).1))],70,4,nx+1,[]⟩ ?_ ?_
   ·simp only [go_sem,a3r,a0v,a5x,a2i,a4P]
    exact⟨a0a.refl _,a0a.refl _,a0a.box fun j hj=>a0e.of_eq (a94 (Nat.zero_le _) (by omega))⟩
   refine AW.still 14 3 nx 188 3 _ rfl rfl (fun j hj=>match j,hj with|0,_=>rfl|1,_=>rfl|2,_=>rfl) ?_
   cases hm:(a1c l w).2.1 with
   | false=>
     refine AW.fork ?_
     refine AW.of hΓ a0c [99999] _ _ _ rfl ?_
     simp only [go_sem,a3r,a0v,a5x,a2i,a4P]
     refine AW.of hΓ a0c [99999] _ _ _ rfl ?_
     simp only [go_sem,a3r,a0v,a5x,a2i,a4P]
     refine⟨fun h=>?_,fun h=>⟨by omega,by omega,⟨(i+1,fr,at_+l.length,af,c,ps,u,nx+1),t1 hm (Decidable.not_not.1 h)⟩,⟨Nat.le_refl _,by dsimp only;omega,a5Q rfl rfl rfl rfl rfl rfl rfl rfl rfl rfl rfl rfl rfl rfl,a0a.refl _⟩,by dsimp only;omega⟩⟩
     rw [t3 hm h]
     exact⟨by omega,a3T ePt,rfl,rfl⟩
   | true=>
     have hsg:b8q (a1c l w).1.1:=by
      have he:a1c l w=((a1c l w).1,true,(a1c l w).2.2):=by rw [<-hm]
      exact c56 (b90 he).2.1
     refine AW.fork ?_
     refine AW.of hΓ a0c [99999] _ _ _ rfl ?_
     simp only [go_sem,a3r,a0v,a5x,a2i,a4P]
     refine c5p (a:=(s,fr,at_,af,c,ps)) ⟨(a1c l w).1,l,rfl,rfl,⟨i4,i3,by dsimp only;omega,by dsimp only;omega⟩,hsg,by omega,rfl⟩ (by decide) (a0a.refl _) (a0a.refl _) (by decide) fun u1 n1 q1 h1=>?_
     have t2:=t2 hm
     have t4:=t4 hm
     dsimp only at t2 t4 ⊢
     have htb:(a1z af (a58 (s,fr,at_,af,c,ps)) c ps (a1c l w).1).1=0->d0j (s,fr,at_,af,c,ps) (a1c l w).1 l=(s,at_+l.length,at_,(a1z af (a58 (s,fr,at_,af,c,ps)) c ps (a1c l w).1).2.1,(a1z af (a58 (s,fr,at_,af,c,ps)) c ps (a1c l w).1).2.2.1,(a1z af (a58 (s,fr,at_,af,c,ps)) c ps (a1c l w).1).2.2.2):=fun h=>if_pos h
     generalize a1z af (a58 (s,fr,at_,af,c,ps)) c ps (a1c l w).1=t at *
     simp only [go_sem,a3r,a0v,a5x,a2i,a4P]
     by_cases he:t.1=0
     ·rw [htb he]
      have he2:(decide ¬t.1=0)=false:=by simp [he]
      refine AW.of hΓ a0c [99999] _ _ _ rfl ?_
      simp only [go_sem,a3r,a0v,a5x,a2i,a4P,he]
      exact⟨by omega,by omega,⟨(i+1,at_+l.length,at_+l.length,t.2.1,t.2.2.1,t.2.2.2,u1,n1),t2 he⟩,⟨Nat.le_refl _,by dsimp only;omega,a5Q rfl rfl rfl rfl rfl rfl rfl rfl rfl rfl rfl rfl rfl rfl,a0a.refl _⟩,by dsimp only;omega⟩
     ·have he2:(decide ¬t.1=0)=true:=by simp [he]
      refine AW.of hΓ a0c [99999] _ _ _ rfl ?_
      simp only [go_sem,a3r,a0v,a5x,a2i,a4P,he]
      rw [t4 he]
      exact⟨by omega,a3T ePt,rfl,rfl⟩
  ·obtain⟨i1,_,i3,i4,i5,i6,i7,i8⟩:=hI
   obtain rfl:i=(a0b s).length:=by omega
   rw [List.drop_length,a87,hT] at i8
   refine⟨fun h=>?_,fun h=>?_⟩
   ·rw [if_pos h] at i8
    rw [i8]
    exact⟨by omega,a3T ePt,rfl,rfl⟩
   ·rw [if_neg h] at i8
    have hnl:(a58 (s,fr,at_,af,c,ps)).length=at_-fr:=by
     unfold a58
     simp only [List.length_drop,List.length_take]
     omega
    refine c5p (a:=(s,fr,at_,af,c,ps)) ⟨rfl,rfl,⟨i4,i3,by dsimp only;omega,by dsimp only;omega⟩,rfl⟩ (by decide) (a0a.refl _) (a0a.refl _) (by decide) fun u1 n1 q1 h1=>?_
    have hsm:a3Y (ps++[a1m (a58 (s,fr,at_,af,c,ps))])<=at_:=by
     rw [a2Y,a22]
     show a3Y ps+(a58 (s,fr,at_,af,c,ps)).length<=at_
     omega
    dsimp only
    generalize a58 (s,fr,at_,af,c,ps)=now at *
    simp only [go_sem,a3r,a0v,a5x,a2i,a4P]
    refine AW.freeze 2 u1 179 9 (ps++[a1m now]).length (fun i=>ePt.enc ((ps++[a1m now]).getD i ePt.dflt)) rfl (fun i _ j hj=>match j,hj with|0,_=>rfl|1,_=>rfl|2,_=>rfl|3,_=>rfl|4,_=>rfl|5,_=>rfl|6,_=>rfl|7,_=>rfl|8,_=>rfl) ?_
    refine AW.cut ⟨[(10,.pt 1 1 0)],[(1,.box 1 192 14 (fun j=>if j=13 then sL ePt (ps++[a1m now]) else .any))],70,2,n1,[]⟩ ?_ ?_
    ·simp only [go_sem,a3r,a0v,a5x,a2i,a4P]
     refine a0a.box fun j hj=>?_
     by_cases e:j=13
     ·subst e
      rw [if_pos rfl]
      have:fz 2 u1 (ps.length+1) 9 (fun i=>ePt.enc ((ps++[a1m now]).getD i ePt.dflt)) (rdC (b0V (s,fr,at_,af,c,ps) (ps++[a1m now])) 2 u1 13)=sL ePt (ps++[a1m now]):=if_pos ⟨rfl,rfl,by simp [b0V]⟩
      rw [this]
      exact a0e.refl _
     ·rw [if_neg e]
      exact a0e.any _
    refine AW.of hΓ a0c [] _ _ _ rfl ?_
    simp only [go_sem,a3r,a0v,a5x,a2i,a4P]
    rw [i8]
    exact⟨⟨by omega,by omega⟩,a0e.refl _,rfl,rfl⟩
end Go.Proofs.YthpjjjnbkfnghaaGreatDoor
set_option maxRecDepth 100000
set_option maxHeartbeats 8000000
namespace Go.Proofs.YthpjjjnbkfnghaaGreatDoor
open Go
attribute [local irreducible] AW a0e a1g a0a a6w
theorem c4A (t:List UInt8) (i:Nat):b50 (a2h t i 0)=t.getD i 0:=by
 show UInt8.ofNat _=_
 simp
theorem a3J (t:List UInt8):(List.range t.length).map (fun i=>b50 (a2h t i 0))=t:=by
 have:=b66 t 0
 simpa only [c4A] using this
theorem c5O (e:Int):(b5X e).length<=9:=by
 unfold b5X
 rcases Nat.lt_or_ge e.toNat wdE.length with h|h
 ·rw [a1h _ _ h]
  have:∀ w∈wdE,w.length<=9:=by decide
  exact this _ (List.getElem_mem h)
 ·rw [List.getD,List.getElem?_eq_none h]
  exact Nat.zero_le _
theorem a5s (t:List UInt8) (n:Nat):(∀ i,i<n->∃ b:UInt8,a2h t i 0=.val (.int .u8 b.toNat))=True:=eq_true fun i _=>⟨_,rfl⟩
noncomputable def a1K (line:List UInt8) (a:Ss):List UInt8×Ss:=if (wdL line).length=2/\(a6w ((wdL line).getD 1 [])).isSome=true then (if (a2N a.1.1 (a8x ((wdL line).getD 1 []))).2.1=0 then (Lib.itoa (a0w (a2N a.1.1 (a8x ((wdL line).getD 1 []))).1:Nat),(a.1,a.2.1,some ((a2N a.1.1 (a8x ((wdL line).getD 1 []))).1,a.1.1,a8x ((wdL line).getD 1 []),[]))) else (b5X (a2N a.1.1 (a8x ((wdL line).getD 1 []))).2.1++[32]++Lib.itoa (a2N a.1.1 (a8x ((wdL line).getD 1 []))).2.2,a))
 else (a0V,a)
def b6J (xs:List AV) (a:Ss) (r:AV) (b:Ss):Prop:=∃ line:List UInt8,xs=[sL eS (wdL line).tail]/\line.length<=1000/\(c7g a/\a.1.1.length<=1000000)/\r=.st (a1K line a).1/\b=(a1K line a).2
def b6F:a0L:=sSh b6J
theorem c1u:a0i Tryz.prog 65 b6F:=by
 refine a0i.mk Tryz.func65 rfl (by decide) Tryz.results65 Tryz.ntmps65 ?_
 rintro args hp top nx K ⟨v,v1,v2,v3,v4,xs,a,r,b,rfl,⟨line,rfl,hl,⟨hs,hs0⟩,rfl,rfl⟩,rfl,rfl,hK⟩
 have hΓ:GOK Tryz.prog (gam [(114,a0h),(79,a4C),(116,a0K),(78,a00),(117,a0t)]):=(.cons a7P (.cons d0s (.cons a9K (.cons b2h (.cons b0P .nil)))))
 refine⟨Nat.le_of_ble_eq_true rfl,AW.late ?_⟩
 have hg:=b5f line 1
 by_cases h2:(wdL line).length=2
 ·have hI:((wdL line).tail.length:Int)=1:=by rw [List.length_tail];omega
  cases hn:a6w ((wdL line).getD 1 []) with
  | none=>
    have e:a1K line a=(a0V,a):=by unfold a1K;rw [if_neg fun h=>by rw [hn] at h;exact absurd h.2 (by decide)]
    rw [e] at hK
    have hk:=a0U hK rfl
    refine AW.of hΓ a0c [99999] _ _ _ rfl ?_
    simp only [go_sem,a0h,a4C,a0K,a00,a0t,hI,a1n,hn,nuO]
    refine⟨by omega,?_⟩
    refine⟨_,a0g (fun p=>p) (l:=[(4,.st a0V)]) (r:=[(0,.box v 106 10 (shC 1 2 3 4 v1 v2 v3 v4 a)),(1,a0m v1 a.1.1),(2,a0m v2 a.1.2.1),(3,a0m v3 a.1.2.2),(4,mgR v4 a.2.2)]) (sz:=55) (top:=5) (nx:=nx) (df:=[]) ?_,?_⟩
    ·simp only [go_sem,a0h,a4C,a0K,a00,a0t]
     exact⟨a0a.refl _,a0a.refl _,a0a.refl _,a0a.refl _,a0a.refl _⟩
    ·simp only [go_sem,a0h,a4C,a0K,a00,a0t]
     exact hk v1 v2 v3 nx (.inl rfl) (.inl rfl) (.inl rfl) (Nat.le_refl _)
  | some n=>
    have hin:=b7K a.1.1 n
    have hsl:=a0M a.1.1
    have gN:0<=(n:Int)/\(n:Int)<=1000000:=by
     have ht:=a4l ((wdL line).getD 1 [])
     rw [hn] at ht
     rcases ht with⟨k,h1,h4,h3⟩|⟨h4,h3⟩
     ·have:=Option.some.inj h3
      omega
     ·cases h3
    by_cases hx:(a2N a.1.1 n).2.1=0
    ·have e:a1K line a=(Lib.itoa (a0w (a2N a.1.1 n).1:Nat),(a.1,a.2.1,some ((a2N a.1.1 n).1,a.1.1,(n:Int),[]))):=by
      unfold a1K
      rw [if_pos ⟨h2,by rw [hn];rfl⟩,a3x hn,if_pos hx]
     rw [e] at hK
     have hcl:=a5m (a2N a.1.1 n).1
     refine AW.of hΓ a0c [99999] _ _ _ rfl ?_
     simp only [go_sem,a0h,a4C,a0K,a00,a0t,hI,a1n,hn,nuO,a0m,a3J,a5s,hx]
     refine⟨by omega,by omega,by omega,⟨by omega,by omega⟩,?_⟩
     refine⟨_,a0g (fun p=>if p=4 then 5 else p) (l:=[(4,.st (Lib.itoa (a0w (a2N a.1.1 n).1:Nat)))]) (r:=[(0,.box v 106 10 (shC 1 2 3 4 v1 v2 v3 nx (a.1,a.2.1,some ((a2N a.1.1 n).1,a.1.1,(n:Int),[])))),(1,a0m v1 a.1.1),(2,a0m v2 a.1.2.1),(3,a0m v3 a.1.2.2),(4,mgR nx (some ((a2N a.1.1 n).1,a.1.1,(n:Int),[])))]) (sz:=55) (top:=5) (nx:=nx+1) (df:=[]) ?_,?_⟩
     ·simp only [go_sem,a0h,a4C,a0K,a00,a0t]
      refine⟨a0a.box fun j hj=>?_,a0a.refl _,a0a.refl _,a0a.refl _,a0a.box fun j hj=>?_⟩
      ·have hc:j=0\/j=1\/j=2\/j=3\/j=4\/j=5\/j=6\/j=7\/j=8\/j=9:=by omega
       rcases hc with rfl|rfl|rfl|rfl|rfl|rfl|rfl|rfl|rfl|rfl<;>first|exact a0e.refl _|exact a0e.pt
      ·match j,hj with
       | 0,_=>exact a0e.refl _
       | 1,_=>exact a0e.refl _
       | 2,_=>exact a0e.refl _
       | 3,_=>exact a3T _
     ·simp only [go_sem,a0h,a4C,a0K,a00,a0t]
      exact hK v1 v2 v3 nx (nx+1) (.inl rfl) (.inl rfl) (.inl rfl) (.inr (Nat.le_refl _)) (Nat.le_succ _)
    ·have e:a1K line a=(b5X (a2N a.1.1 n).2.1++[32]++Lib.itoa (a2N a.1.1 n).2.2,a):=by
      unfold a1K
      rw [if_pos ⟨h2,by rw [hn];rfl⟩,a3x hn,if_neg hx]
     rw [e] at hK
     have hk:=a0U hK rfl
     have hel:=c5O (a2N a.1.1 n).2.1
     have hil:=a49 (n:=(a2N a.1.1 n).2.2) (by omega) (by omega)
     refine AW.of hΓ a0c [99999] _ _ _ rfl ?_
     simp only [go_sem,a0h,a4C,a0K,a00,a0t,hI,a1n,hn,nuO,a0m,a3J,a5s,hx]
     refine⟨by omega,by omega,hin.1,by omega,⟨by omega,by omega⟩,by omega,?_⟩
     refine⟨_,a0g (fun p=>p) (l:=[(4,.st (b5X (a2N a.1.1 n).2.1++[32]++Lib.itoa (a2N a.1.1 n).2.2))]) (r:=[(0,.box v 106 10 (shC 1 2 3 4 v1 v2 v3 v4 a)),(1,a0m v1 a.1.1),(2,a0m v2 a.1.2.1),(3,a0m v3 a.1.2.2),(4,mgR v4 a.2.2)]) (sz:=55) (top:=5) (nx:=nx) (df:=[]) ?_,?_⟩
     ·simp only [go_sem,a0h,a4C,a0K,a00,a0t]
      exact⟨a0a.refl _,a0a.refl _,a0a.refl _,a0a.refl _,a0a.refl _⟩
     ·simp only [go_sem,a0h,a4C,a0K,a00,a0t]
      exact hk v1 v2 v3 nx (.inl rfl) (.inl rfl) (.inl rfl) (Nat.le_refl _)
 ·have hI:(((wdL line).tail.length:Int)=1)=False:=eq_false (by rw [List.length_tail];have:=List.length_pos_iff.2 (a64 line);omega)
  have e:a1K line a=(a0V,a):=by unfold a1K;rw [if_neg fun h=>h2 h.1]
  rw [e] at hK
  have hk:=a0U hK rfl
  refine AW.of hΓ a0c [99999] _ _ _ rfl ?_
  simp only [go_sem,a0h,a4C,a0K,a00,a0t,hI]
  refine⟨_,a0g (fun p=>p) (l:=[(4,.st a0V)]) (r:=[(0,.box v 106 10 (shC 1 2 3 4 v1 v2 v3 v4 a)),(1,a0m v1 a.1.1),(2,a0m v2 a.1.2.1),(3,a0m v3 a.1.2.2),(4,mgR v4 a.2.2)]) (sz:=55) (top:=5) (nx:=nx) (df:=[]) ?_,?_⟩
  ·simp only [go_sem,a0h,a4C,a0K,a00,a0t]
   exact⟨a0a.refl _,a0a.refl _,a0a.refl _,a0a.refl _,a0a.refl _⟩
  ·simp only [go_sem,a0h,a4C,a0K,a00,a0t]
   exact hk v1 v2 v3 nx (.inl rfl) (.inl rfl) (.inl rfl) (Nat.le_refl _)
noncomputable def a0l:a0L:=a1D b6F
theorem b4b:a0i Tryz.prog 65 a0l:=c1u.frame
end Go.Proofs.YthpjjjnbkfnghaaGreatDoor
set_option maxRecDepth 100000
set_option maxHeartbeats 8000000
namespace Go.Proofs.YthpjjjnbkfnghaaGreatDoor
open Go
attribute [local irreducible] AW a0e a1g a0a a6w
def b8W (a:Ss):Rt:=b4x a.1.1 a.1.2.1 a.1.2.2 a.2.1
noncomputable def a1s (line:List UInt8) (a:Ss):List UInt8×Ss:=if (wdL line).length=1 then (if a99 a.2.1=0 then (Lib.itoa (b8W a).2.2.2.2.2.2,(a.1,a.2.1,some (mgT (b8W a)))) else (b5X (a99 a.2.1),a)) else (a0V,a)
def d22 (a:Ss):Prop:=okM a.1.1 a.1.2.1 a.1.2.2/\lbN a.2.1.1<=3000
noncomputable def b6t (xs:List AV) (a:Ss) (r:AV) (b:Ss):Prop:=∃ line:List UInt8,xs=[sL eS (wdL line).tail]/\line.length<=1000/\d22 a/\(0<=(b8W a).2.2.2.2.2.2/\(b8W a).2.2.2.2.2.2<=1000000)/\r=.st (a1s line a).1/\b=(a1s line a).2
noncomputable def b6d:a0L:=sSh b6t
theorem c61 (o:Op):0<=a99 o/\a99 o<14:=by
 unfold a99
 repeat' split
 all_goals exact⟨by omega,by omega⟩
theorem c1b:a0i Tryz.prog 60 b6d:=by
 refine a0i.mk Tryz.func60 rfl (by decide) Tryz.results60 Tryz.ntmps60 ?_
 rintro args hp top nx K ⟨v,v1,v2,v3,v4,xs,a,r,b,rfl,⟨line,rfl,hl,hs,hcn,rfl,rfl⟩,rfl,rfl,hK⟩
 have hΓ:GOK Tryz.prog (gam [(40,a48),(116,a0K),(117,a0t)]):=(.cons c9m (.cons a9K (.cons b0P .nil)))
 obtain⟨⟨ta,tb,tc⟩,⟨⟨l1,l2,l3⟩,sty,wid,fv⟩,om⟩:=a
 refine⟨Nat.le_of_ble_eq_true rfl,AW.late ?_⟩
 by_cases h2:(wdL line).length=1
 ·have hI:((wdL line).tail.length:Int)=0:=by rw [List.length_tail];omega
  obtain⟨s1,s2⟩:=hs
  dsimp only at s1 s2 hcn
  have hwi:=c61 ((l1,l2,l3),sty,wid,fv)
  unfold b8W at hcn
  dsimp only at hcn
  by_cases hx:a99 ((l1,l2,l3),sty,wid,fv)=0
  ·have e:a1s line ((ta,tb,tc),((l1,l2,l3),sty,wid,fv),om)=(Lib.itoa (b4x ta tb tc ((l1,l2,l3),sty,wid,fv)).2.2.2.2.2.2,((ta,tb,tc),((l1,l2,l3),sty,wid,fv),some (mgT (b4x ta tb tc ((l1,l2,l3),sty,wid,fv))))):=by
    unfold a1s
    rw [if_pos h2,if_pos hx]
    rfl
   rw [e] at hK
   generalize hR:b4x ta tb tc ((l1,l2,l3),sty,wid,fv)=R at *
   obtain⟨d,p1,p2,k,t,w,n⟩:=R
   refine AW.of hΓ a0c [200003] _ _ _ rfl ?_
   simp only [go_sem,a48,a0K,a0t,hI]
   refine AW.drawK hΓ a0c 27 [28] [25,28] [] [0,1,2,3] (by decide +kernel) ?_
   simp only [go_sem,a48,a0K,a0t,a0m,a3J,a5s,hR,hx]
   refine⟨⟨s1,s2⟩,⟨hcn.1,Int.le_trans hcn.2 (by decide)⟩,?_⟩
   refine⟨_,a0g (fun p=>if p=4 then 6 else p) (l:=[(4,.st (Lib.itoa n))]) (r:=[(0,.box v 106 10 (shC 1 2 3 4 v1 v2 v3 (nx+1) ((ta,tb,tc),((l1,l2,l3),sty,wid,fv),some (d,t,w,k)))),(1,a0m v1 ta),(2,a0m v2 tb),(3,a0m v3 tc),(4,mgR (nx+1) (some (d,t,w,k)))]) (sz:=56) (top:=5) (nx:=nx+1+1) (df:=[]) ?_,?_⟩
   ·simp only [go_sem,a48,a0K,a0t]
    refine⟨a0a.box fun j hj=>?_,a0a.refl _,a0a.refl _,a0a.refl _,a0a.box fun j hj=>?_⟩
    ·have hc:j=0\/j=1\/j=2\/j=3\/j=4\/j=5\/j=6\/j=7\/j=8\/j=9:=by omega
     rcases hc with rfl|rfl|rfl|rfl|rfl|rfl|rfl|rfl|rfl|rfl<;>first|exact a0e.refl _|exact a0e.pt
    ·match j,hj with
     | 0,_=>exact a0e.refl _
     | 1,_=>exact a0e.refl _
     | 2,_=>exact a0e.refl _
     | 3,_=>exact a0e.refl _
   ·simp only [go_sem,a48,a0K,a0t]
    exact hK v1 v2 v3 (nx+1) (nx+1+1) (.inl rfl) (.inl rfl) (.inl rfl) (.inr (Nat.le_succ _)) (by omega)
  ·have e:a1s line ((ta,tb,tc),((l1,l2,l3),sty,wid,fv),om)=(b5X (a99 ((l1,l2,l3),sty,wid,fv)),((ta,tb,tc),((l1,l2,l3),sty,wid,fv),om)):=by
    unfold a1s
    rw [if_pos h2,if_neg hx]
   rw [e] at hK
   have hk:=a0U hK rfl
   generalize hR:b4x ta tb tc ((l1,l2,l3),sty,wid,fv)=R at *
   obtain⟨d,p1,p2,k,t,w,n⟩:=R
   refine AW.of hΓ a0c [200003] _ _ _ rfl ?_
   simp only [go_sem,a48,a0K,a0t,hI]
   refine AW.drawK hΓ a0c 27 [28] [25,28] [] [0,1,2,3] (by decide +kernel) ?_
   simp only [go_sem,a48,a0K,a0t,a0m,a3J,a5s,hR,hx]
   refine⟨⟨s1,s2⟩,hwi,?_⟩
   refine⟨_,a0g (fun p=>p) (l:=[(4,.st (b5X (a99 ((l1,l2,l3),sty,wid,fv))))]) (r:=[(0,.box v 106 10 (shC 1 2 3 4 v1 v2 v3 v4 ((ta,tb,tc),((l1,l2,l3),sty,wid,fv),om))),(1,a0m v1 ta),(2,a0m v2 tb),(3,a0m v3 tc),(4,mgR v4 om)]) (sz:=56) (top:=5) (nx:=nx+1) (df:=[]) ?_,?_⟩
   ·simp only [go_sem,a48,a0K,a0t]
    exact⟨a0a.refl _,a0a.refl _,a0a.refl _,a0a.refl _,a0a.refl _⟩
   ·simp only [go_sem,a48,a0K,a0t]
    exact hk v1 v2 v3 (nx+1) (.inl rfl) (.inl rfl) (.inl rfl) (Nat.le_succ _)
 ·have hI:(((wdL line).tail.length:Int)=0)=False:=eq_false (by rw [List.length_tail];have:=List.length_pos_iff.2 (a64 line);omega)
  have e:a1s line ((ta,tb,tc),((l1,l2,l3),sty,wid,fv),om)=(a0V,((ta,tb,tc),((l1,l2,l3),sty,wid,fv),om)):=by unfold a1s;rw [if_neg h2]
  rw [e] at hK
  have hk:=a0U hK rfl
  refine AW.of hΓ a0c [200003] _ _ _ rfl ?_
  simp only [go_sem,a48,a0K,a0t,hI]
  refine⟨_,a0g (fun p=>p) (l:=[(4,.st a0V)]) (r:=[(0,.box v 106 10 (shC 1 2 3 4 v1 v2 v3 v4 ((ta,tb,tc),((l1,l2,l3),sty,wid,fv),om))),(1,a0m v1 ta),(2,a0m v2 tb),(3,a0m v3 tc),(4,mgR v4 om)]) (sz:=56) (top:=5) (nx:=nx) (df:=[]) ?_,?_⟩
  ·simp only [go_sem,a48,a0K,a0t]
   exact⟨a0a.refl _,a0a.refl _,a0a.refl _,a0a.refl _,a0a.refl _⟩
  ·simp only [go_sem,a48,a0K,a0t]
   exact hk v1 v2 v3 nx (.inl rfl) (.inl rfl) (.inl rfl) (Nat.le_refl _)
noncomputable def a0q:a0L:=a1D b6d
theorem b6s:a0i Tryz.prog 60 a0q:=c1b.frame
end Go.Proofs.YthpjjjnbkfnghaaGreatDoor
set_option maxRecDepth 100000
set_option maxHeartbeats 8000000
namespace Go.Proofs.YthpjjjnbkfnghaaGreatDoor
open Go
attribute [local irreducible] AW a0e a1g a0a a6w
abbrev Rsh:=(BS×BS×BS)×Op×Bool
end Go.Proofs.YthpjjjnbkfnghaaGreatDoor
set_option maxRecDepth 100000
set_option maxHeartbeats 8000000
namespace Go.Proofs.YthpjjjnbkfnghaaGreatDoor
open Go
attribute [local irreducible] AW a0e a1g a0a a6w
def c1C (l:List BS):Bool:=decide (l.length<=100)&&decide (∀ s∈l,s.length<=100)
def a2D:a0s:=a0s.f1 (kL eS) (fun l=>l.length<=140737488355328) (fun l=>kB.enc (c1C l))
theorem c6X:a0d Tryz.prog 17 a2D:=by
 refine a0d.f1 Tryz.func17 rfl (by decide) Tryz.results17 Tryz.ntmps17 (by decide) fun l hl=>?_
 have hΓ:GOK Tryz.prog (gam []):=GOK.nil
 by_cases h1:100<l.length
 ·have hI:(100<(l.length:Int))=True:=eq_true (by omega)
  have e:c1C l=false:=by unfold c1C;rw [decide_eq_false (by omega)];rfl
  rw [e]
  refine AW.of hΓ a0c [99999] _ _ _ rfl ?_
  simp only [go_sem,hI]
 ·have hI:(100<(l.length:Int))=False:=eq_false (by omega)
  have e:c1C l=decide (∀ s∈l,s.length<=100):=by unfold c1C;rw [decide_eq_true (by omega)];rfl
  rw [e]
  refine AW.of hΓ a0c [] _ _ _ rfl ?_
  simp only [go_sem,hI]
  refine AW.round (α:={ i:Nat // i<=l.length/\∀ s∈l.take i,s.length<=100 }) (fun i=>⟨[(0,sL eS l),(3,.val (.int .i64 i.1))],[],19,0,0,[]⟩) (fun i=>l.length-i.1) ⟨0,Nat.zero_le _,by simp⟩ ?_ ?_
  ·simp only [go_sem]
  ·rintro⟨i,hi,hall⟩
   rcases Nat.lt_or_ge i l.length with hlt|hge
   ·have hlI:((i:Int)<(l.length:Nat))=True:=eq_true (by omega)
    refine AW.of hΓ a0c [99999] _ _ _ rfl ?_
    simp only [go_sem,hlI]
    refine⟨by omega,fun hc=>?_,fun hc=>⟨by omega,⟨i+1,hlt,fun s hs=>?_⟩,by dsimp only;omega,by dsimp only;omega⟩⟩
    ·intro h
     have:=h _ (a1h l [] hlt▸List.getElem_mem hlt)
     omega
    ·rw [a1f l [] hlt,List.mem_append,List.mem_singleton] at hs
     rcases hs with hs|rfl
     ·exact hall s hs
     ·omega
   ·obtain rfl:i=l.length:=by omega
    have hlI:((l.length:Int)<(l.length:Nat))=False:=eq_false (by omega)
    rw [List.take_length] at hall
    have e2:decide (∀ s∈l,s.length<=100)=true:=decide_eq_true hall
    rw [e2]
    refine AW.of hΓ a0c [99999] _ _ _ rfl ?_
    simp only [go_sem,hlI]
end Go.Proofs.YthpjjjnbkfnghaaGreatDoor
set_option maxRecDepth 100000
set_option maxHeartbeats 4000000
namespace Go.Proofs.YthpjjjnbkfnghaaGreatDoor
open Go
attribute [local irreducible] AW a0e a1g a0a
abbrev rSt (v:Nat) (l:List StE):Row:=a05 v 86 (eP eI (eL eS)) l
theorem b4z {l:List StE} {k:Int} {ts:List (List UInt8)} {q v:Nat} {d:Nat->Nat->AV} (h0:d 0 0=.val (.int .i64 k)) (h1:d 0 1=.ow q v ts.length) :
  ∀ i,i<l.length+1->∀ j,j<2->a0e (fz q v ts.length 1 (fun i=>eS.enc (ts.getD i [])) (apC l.length (fun i=>(eP eI (eL eS)).enc (l.getD i (0,[]))) d i j)) ((eP eI (eL eS)).enc ((l++[(k,ts)]).getD i (0,[])) j):=fun i hi j hj=>by
 unfold apC
 by_cases h:i<l.length
 ·rw [if_pos h]
  rw [show (l++[(k,ts)]).getD i (0,[])=l.getD i (0,[]) by simp [List.getD,List.getElem?_append_left h]]
  match j,hj with
  | 0,_=>exact a0e.refl _
  | 1,_=>exact a0e.refl _
 ·obtain rfl:i=l.length:=by omega
  rw [if_neg h,Nat.sub_self]
  rw [show (l++[(k,ts)]).getD l.length (0,[])=(k,ts) by simp [List.getD]]
  match j,hj with
  | 0,_=>rw [h0];exact a0e.refl _
  | 1,_=>
    rw [h1]
    simp only [fz,and_self,if_true,Nat.le_refl]
    exact a0e.refl _
def c62:a0L:=fun args hp top nx K=>∃ l v k y ts,a0e y (sL eS ts)/\args=[.ow 0 v l.length,kI.enc k,y]/\hp=rws [(0,rSt v l)]/\top=1/\l.length<10000000/\ts.length<1000000000/\
 ∀ v' nx',(v'=v\/nx<=v')->nx<=nx'->K (.ow 0 v' (a3Q l k ts).length) (rws [(0,rSt v' (a3Q l k ts))]) 1 nx'
theorem c7Y:a0i Tryz.prog 43 c62:=by
 refine a0i.mk Tryz.func43 rfl (by decide) Tryz.results43 Tryz.ntmps43 ?_
 rintro args hp top nx K ⟨l,v,k,y,ts,hy,rfl,rfl,rfl,hl,ht,hK⟩
 have hΓ:GOK Tryz.prog (gam [(103,a1v)]):=(.cons a9A .nil)
 refine⟨Nat.le_of_ble_eq_true rfl,AW.late ?_⟩
 refine AW.le (a86 (.cons (a0e.refl _) (.cons (a0e.refl _) (.cons hy .nil)))) ?_
 by_cases h0:ts.length=0
 ·obtain rfl:=List.length_eq_zero_iff.1 h0
  refine AW.of hΓ a0c [99999] _ _ _ rfl ?_
  simp only [go_sem,a1v,a1V]
  refine⟨_,a1g.refl _,?_⟩
  simp only [go_sem,a1v]
  exact hK v nx (.inl rfl) (Nat.le_refl _)
 ·have hts:((ts.length:Int)=0)=False:=eq_false (by omega)
  refine AW.of hΓ a0c [99999] _ _ _ rfl ?_
  simp only [go_sem,a1v,a1V,hts]
  refine⟨sL eS ts,ts,rfl,a0e.refl _,ht,fun ver nx' h1 h2=>⟨by omega,_,(a1g.freeze 1 ver 9 1 ts.length (fun i=>eS.enc (ts.getD i [])) rfl fun i _ j _=>rfl).trans (a0g (fun p=>p) (l:=[(6,.ow 0 (nx'+1) (l.length+1))]) (r:=[(0,rSt (nx'+1) (a3Q l k ts))]) (sz:=18) (top:=1) (nx:=nx'+1+1) (df:=[]) ?_),?_⟩⟩
  ·rw [a4p h0]
   simp only [go_sem,a1v,a1V]
   exact a0a.sl (by simp) (b4z rfl rfl)
  ·simp only [go_sem,a1v]
   have:=hK (nx'+1) (nx'+1+1) (.inr (by omega)) (by omega)
   rwa [show (a3Q l k ts).length=l.length+1 by rw [a4p h0];simp] at this
def c7p:a0L:=fun args hp top nx K=>∃ k y ts,a0e y (sL eS ts)/\args=[.em,kI.enc k,y]/\hp=(fun _=>.dead)/\top=0/\ts.length<1000000000/\∀ v' nx',nx<=v'->v'<nx'->K (.ow 0 v' (a3Q [] k ts).length) (rws [(0,rSt v' (a3Q [] k ts))]) 1 nx'
theorem c9h:a0i Tryz.prog 43 c7p:=by
 refine a0i.mk Tryz.func43 rfl (by decide) Tryz.results43 Tryz.ntmps43 ?_
 rintro args hp top nx K ⟨k,y,ts,hy,rfl,rfl,rfl,ht,hK⟩
 have hΓ:GOK Tryz.prog (gam [(103,a1v)]):=(.cons a9A .nil)
 refine⟨Nat.le_of_ble_eq_true rfl,AW.late ?_⟩
 refine AW.le (a86 (.cons (a0e.refl _) (.cons (a0e.refl _) (.cons hy .nil)))) ?_
 refine AW.adopt 0 86 2 (fun i=>(eP eI (eL eS)).enc (([]:List StE).getD i (0,[]))) rfl ?_
 by_cases h0:ts.length=0
 ·obtain rfl:=List.length_eq_zero_iff.1 h0
  refine AW.of hΓ a0c [99999] _ _ _ rfl ?_
  simp only [go_sem,a1v,a1V]
  refine⟨_,a0g (fun p=>p) (l:=[(6,.ow 0 nx 0)]) (r:=[(0,rSt nx [])]) (sz:=18) (top:=1) (nx:=nx+1) (df:=[]) ?_,?_⟩
  ·simp only [go_sem,a1v,a1V]
   exact a0a.refl _
  ·simp only [go_sem,a1v]
   exact hK nx (nx+1) (Nat.le_refl _) (by omega)
 ·have hts:((ts.length:Int)=0)=False:=eq_false (by omega)
  refine AW.of hΓ a0c [99999] _ _ _ rfl ?_
  simp only [go_sem,a1v,a1V,hts]
  refine⟨sL eS ts,ts,rfl,a0e.refl _,ht,fun ver nx' h1 h2=>⟨_,(a1g.freeze 1 ver 9 1 ts.length (fun i=>eS.enc (ts.getD i [])) rfl fun i _ j _=>rfl).trans (a0g (fun p=>p) (l:=[(6,.ow 0 (nx'+1) 1)]) (r:=[(0,rSt (nx'+1) (a3Q [] k ts))]) (sz:=18) (top:=1) (nx:=nx'+1+1) (df:=[]) ?_),?_⟩⟩
  ·rw [a4p h0]
   simp only [go_sem,a1v,a1V]
   exact a0a.sl (by simp) (b4z (l:=[]) rfl rfl)
  ·simp only [go_sem,a1v]
   have:=hK (nx'+1) (nx'+1+1) (by omega) (by omega)
   rwa [show (a3Q [] k ts).length=1 by rw [a4p h0];simp] at this
def a2T:a0L:=fun args hp top nx K=>a1D c62 args hp top nx K\/c7C c7p args hp top nx K
theorem d1I:a0i Tryz.prog 43 a2T:=c7Y.frame.or c9h.fresh
theorem b5S {l:List StE} {v q n:Nat} {k:Int} {y:AV} {ts:List (List UInt8)} {hp:Nat->Row} {top nx:Nat} {K:AV->(Nat->Row)->Nat->Nat->Prop} (hn:n=l.length) (hy:a0e y (sL eS ts)) (hr:a0a (hp q) (rSt v l)) (ht:q<top) (hl:l.length<10000000) (hl2:ts.length<1000000000)
  (hK:∀ v' nx',nx<=nx'->K (.ow q v' (a3Q l k ts).length) (a0S hp q (rSt v' (a3Q l k ts))) top nx'):a2T [.ow q v n,.val (.int .i64 k),y] hp top nx K:=by
 subst hn
 have hver:(hp q).ver=some v:=hr.vers.symm
 refine .inl ⟨[q],[.ow 0 v l.length,kI.enc k,y],rws [(0,rSt v l)],by simp,by simpa using ht,.cons a0e.ow (.cons (a0e.refl _) (.cons (a0e.refl _) .nil)),a8D hr,fun i hi=>a1X (top:=1) (by simp) i (by simpa using hi),l,v,k,y,ts,hy,rfl,rfl,rfl,hl,hl2,fun v' nx' h1 h3=>?_⟩
 refine⟨.ow q v' (a3Q l k ts).length,_,a0e.ow,fun i r hr=>?_,fun r hr=>?_,fun r hr w hw=>?_,hK v' nx' h3⟩
 ·cases i with
  | zero=>
    simp only [List.getElem?_cons_zero,Option.some.injEq] at hr
    subst hr
    rw [a0k]
    exact a0a.refl _
  | succ i=>simp at hr
 ·rw [a0f _ _ (by simpa using hr)]
 ·simp only [List.mem_singleton] at hr
  subst hr
  rw [a0k] at hw
  have:some v'=some w:=hw
  obtain rfl:=Option.some.inj this
  rcases h1 with rfl|h1
  ·exact .inl hver
  ·exact .inr h1
theorem d0u {k:Int} {y:AV} {ts:List (List UInt8)} {hp:Nat->Row} {top nx:Nat} {K:AV->(Nat->Row)->Nat->Nat->Prop} (hy:a0e y (sL eS ts)) (hl2:ts.length<1000000000)
  (hK:∀ v' nx',nx<=v'->v'<nx'->K (.ow top v' (a3Q [] k ts).length) (a0S hp top (rSt v' (a3Q [] k ts))) (top+1) nx'):a2T [.em,.val (.int .i64 k),y] hp top nx K:=
 .inr ⟨[.em,kI.enc k,y],.cons (a0e.refl _) (.cons (a0e.refl _) (.cons (a0e.refl _) .nil)),k,y,ts,hy,rfl,rfl,rfl,hl2,fun v' nx' h1 h2=>⟨v',_,_,rfl,rfl,rfl,h1,hK v' nx' h1 h2⟩⟩
abbrev rHk (v:Nat) (l:List Hk):Row:=a05 v 84 (eP eI (eP eI (eL (eP eI (eL eS))))) l
def b6f:a0L:=fun args hp top nx K=>∃ l v x h,a0e x ((kA (eP eI (eP eI (eL (eP eI (eL eS)))))).enc h)/\args=[.ow 0 v l.length,x]/\hp=rws [(0,rHk v l)]/\top=1/\l.length<1000000/\h.2.2.length<100000000/\
 ∀ v' nx',(v'=v\/nx<=v')->nx<=nx'->K (.ow 0 v' (a62 l h).length) (rws [(0,rHk v' (a62 l h))]) 1 nx'
theorem c0I:a0i Tryz.prog 45 b6f:=by
 refine a0i.mk Tryz.func45 rfl (by decide) Tryz.results45 Tryz.ntmps45 ?_
 rintro args hp top nx K ⟨l,v,x,h,hx,rfl,rfl,rfl,hl,hs,hK⟩
 have hΓ:GOK Tryz.prog (gam [(104,a2u)]):=(.cons b1U .nil)
 refine⟨Nat.le_of_ble_eq_true rfl,AW.late ?_⟩
 refine AW.le (a86 (.cons (a0e.refl _) (.cons hx .nil))) ?_
 cases hc:b02 h.2.2 with
 | false=>
   have e:a62 l h=l:=by unfold a62;rw [if_neg (by rw [hc];simp)]
   refine AW.of hΓ a0c [99999] _ _ _ rfl ?_
   simp only [go_sem,a2u,a3p,b4W,hk0,hk1,hk2,hc]
   refine⟨hs,_,a0g (fun p=>p) (l:=[(4,.ow 0 v l.length)]) (r:=[(0,rHk v l)]) (sz:=14) (top:=1) (nx:=nx+1) (df:=[]) ?_,?_⟩
   ·simp only [go_sem,a2u,a3p,b4W]
    exact a0a.refl _
   ·simp only [go_sem,a2u]
    have:=hK v (nx+1) (.inl rfl) (by omega)
    rwa [e] at this
 | true=>
   have e:a62 l h=l++[h]:=by unfold a62;rw [if_pos hc]
   refine AW.of hΓ a0c [99999] _ _ _ rfl ?_
   simp only [go_sem,a2u,a3p,b4W,hk0,hk1,hk2,hc]
   refine⟨hs,by omega,_,a0g (fun p=>p) (l:=[(4,.ow 0 (nx+1) (l.length+1))]) (r:=[(0,rHk (nx+1) (a62 l h))]) (sz:=14) (top:=1) (nx:=nx+1+1) (df:=[]) ?_,?_⟩
   ·rw [e]
    simp only [go_sem,a2u,a3p,b4W]
    exact a1A (E:=eHk) rfl rfl rfl rfl (by simp) fun j hj=>a0e.refl _
   ·simp only [go_sem,a2u]
    have:=hK (nx+1) (nx+1+1) (.inr (by omega)) (by omega)
    rwa [e,show (l++[h]).length=l.length+1 by simp,<-e] at this
def c1O:a0L:=a1D b6f
theorem c0J:a0i Tryz.prog 45 c1O:=c0I.frame
def a0T:a0L:=c1O
theorem b4o {l:List Hk} {v q n:Nat} {h:Hk} {x:AV} {hp:Nat->Row} {top nx:Nat} {K:AV->(Nat->Row)->Nat->Nat->Prop} (hn:n=l.length) (hx:a0e x ((kA (eP eI (eP eI (eL (eP eI (eL eS)))))).enc h)) (hr:a0a (hp q) (rHk v l)) (ht:q<top) (hl:l.length<1000000) (hl2:h.2.2.length<100000000)
  (hK:∀ v' nx',nx<=nx'->K (.ow q v' (a62 l h).length) (a0S hp q (rHk v' (a62 l h))) top nx'):a0T [.ow q v n,x] hp top nx K:=by
 subst hn
 have hver:(hp q).ver=some v:=hr.vers.symm
 refine⟨[q],[.ow 0 v l.length,x],rws [(0,rHk v l)],by simp,by simpa using ht,.cons a0e.ow (.cons (a0e.refl _) .nil),a8D hr,fun i hi=>a1X (top:=1) (by simp) i (by simpa using hi),l,v,x,h,hx,rfl,rfl,rfl,hl,hl2,fun v' nx' h1 h3=>?_⟩
 refine⟨.ow q v' (a62 l h).length,_,a0e.ow,fun i r hr=>?_,fun r hr=>?_,fun r hr w hw=>?_,hK v' nx' h3⟩
 ·cases i with
  | zero=>
    simp only [List.getElem?_cons_zero,Option.some.injEq] at hr
    subst hr
    rw [a0k]
    exact a0a.refl _
  | succ i=>simp at hr
 ·rw [a0f _ _ (by simpa using hr)]
 ·simp only [List.mem_singleton] at hr
  subst hr
  rw [a0k] at hw
  have:some v'=some w:=hw
  obtain rfl:=Option.some.inj this
  rcases h1 with rfl|h1
  ·exact .inl hver
  ·exact .inr h1
end Go.Proofs.YthpjjjnbkfnghaaGreatDoor
set_option maxRecDepth 100000
set_option maxHeartbeats 4000000
namespace Go.Proofs.YthpjjjnbkfnghaaGreatDoor
open Go
abbrev rHx (v:Nat) (l:List Hk) (A B:Int) (x:AV):Row:=.sl v 84 3 (l.length+1) (apC l.length (fun i=>(eP eI (eP eI (eL (eP eI (eL eS))))).enc (l.getD i (0,0,[]))) fun _ j=>if j=0 then .val (.int .i64 A) else if j=1 then .val (.int .i64 B) else x)
abbrev rSx (v:Nat) (st:List StE) (k:Int) (x:AV):Row:=.sl v 86 2 (st.length+1) (apC st.length (fun i=>(eP eI (eL eS)).enc (st.getD i (0,[]))) fun _ j=>if j=0 then .val (.int .i64 k) else x)
attribute [local irreducible] AW a0e a1g a0a
end Go.Proofs.YthpjjjnbkfnghaaGreatDoor
set_option maxRecDepth 100000
set_option maxHeartbeats 8000000
namespace Go.Proofs.YthpjjjnbkfnghaaGreatDoor
open Go
attribute [local irreducible] AW a0e a1g a0a
theorem c2y {l:List Hk} {i:Nat} (h:i<l.length):a6G (l.take (i+1))=a6G (l.take i)++c8g (l.getD i (0,0,[])):=by
 rw [a1f l (0,0,[]) h];simp [a6G]
theorem c9l (l:List Hk) (i:Nat):(a6G (l.take i)).length<=(a6G l).length:=by
 have h:a6G (l.take i++l.drop i)=a6G (l.take i)++a6G (l.drop i):=by unfold a6G;rw [List.map_append,List.flatten_append]
 rw [List.take_append_drop] at h
 rw [h,List.length_append]
 omega
def a2A (st:List StE):List UInt8:=(st.map c3K).flatten
theorem b5A {l:List StE} {i:Nat} (h:i<l.length):a2A (l.take (i+1))=a2A (l.take i)++c3K (l.getD i (0,[])):=by
 rw [a1f l (0,[]) h];simp [a2A]
theorem c2P (l:List StE) (i:Nat):(a2A (l.take i)).length<=(a2A l).length:=by
 have h:a2A (l.take i++l.drop i)=a2A (l.take i)++a2A (l.drop i):=by unfold a2A;rw [List.map_append,List.flatten_append]
 rw [List.take_append_drop] at h
 rw [h,List.length_append]
 omega
def a2m (k:Int) (ts:List (List UInt8)):List UInt8:=(ts.map (a68 k)).flatten
theorem b4Z {k:Int} {l:List (List UInt8)} {i:Nat} (h:i<l.length):a2m k (l.take (i+1))=a2m k (l.take i)++a68 k (l.getD i []):=by
 rw [a1f l [] h];simp [a2m]
theorem c0L (k:Int) (l:List (List UInt8)) (i:Nat):(a2m k (l.take i)).length<=(a2m k l).length:=by
 have h:a2m k (l.take i++l.drop i)=a2m k (l.take i)++a2m k (l.drop i):=by unfold a2m;rw [List.map_append,List.flatten_append]
 rw [List.take_append_drop] at h
 rw [h,List.length_append]
 omega
theorem c8v (h:Hk):a6Y h≠[]:=by simp [a6Y,d8g]
theorem a77:∀ {l:List Hk} {n s:Int},a2t l n s=true->∀ h∈l,a0I (-1) h.2.2=true
 | [],_,_,_,h,hm=>by cases hm
 | g::r,n,s,hr,h,hm=>by
   rw [a2t,Bool.and_eq_true] at hr
   rcases List.mem_cons.1 hm with rfl|hm
   ·have:=hr.1
    unfold b49 at this
    simp only [Bool.and_eq_true] at this
    exact this.1.1
   ·exact a77 hr.2 h hm
theorem d2m (hp:Nat->Row) (h:Hk):(kA (eP eI (eP eI (eL (eP eI (eL eS)))))).dec (.ag 3 fun j=>if j<3 then vw0 hp ((eP eI (eP eI (eL (eP eI (eL eS))))).enc h j) else .any)=h:=by
 show (h.1,h.2.1,gL (eP eI (eL eS)) (sL (eP eI (eL eS)) h.2.2))=h
 rw [a5z]
theorem d6v (hp:Nat->Row) (h:Hk):(kA (eP eI (eP eI (eL (eP eI (eL eS)))))).ok (.ag 3 fun j=>if j<3 then vw0 hp ((eP eI (eP eI (eL (eP eI (eL eS))))).enc h j) else .any)=True:=by
 refine eq_true ?_
 unfold Kd.ok
 rw [d2m]
 refine a0e.ag fun j hj=>?_
 match j,hj with
 | 0,_=>exact a0e.refl _
 | 1,_=>exact a0e.refl _
 | 2,_=>exact a0e.refl _
def a0F:a0s:=a0s.f1 (kL (eP eI (eP eI (eL (eP eI (eL eS)))))) (fun l=>d4e l/\(∀ h∈l,(0<=h.1/\h.1<=1000000)/\0<=h.2.1/\h.2.1<=100000000)/\(a6G l).length<=50000000000) (fun l=>kS.enc (a3V l))
theorem c4Y:a0d Tryz.prog 32 a0F:=by
 refine a0d.f1 Tryz.func32 rfl (by decide) Tryz.results32 Tryz.ntmps32 (by decide) fun l ⟨ho,hb,hlen⟩=>?_
 have hΓ:GOK Tryz.prog (gam [(49,a1a),(89,a1E),(88,a0D),(90,a01),(91,a0H),(92,a1J)]):=(.cons c4T (.cons c8J (.cons b7Q (.cons c6a (.cons b3Y (.cons c7L .nil))))))
 have hR0:a2t l 0 0=true\/a2t l 0 0=false:=by cases a2t l 0 0<;>simp
 rcases hR0 with hR|hR
 ·have eT:a3V l=a6G l:=by unfold a3V;rw [if_pos hR]
  have hl0:=ho.1
  rw [eT]
  refine AW.of hΓ a0c [0] _ _ _ rfl ?_
  simp only [go_sem,a1a,a1E,a0D,a01,a0H,a1J,a3p]
  refine AW.seqTo (fun _:Unit=>Sh.st ⟨[(0,sL (eP eI (eP eI (eL (eP eI (eL eS))))) l)],[],50,0,0,[]⟩) ?_ fun _=>?_
  ·refine AW.of hΓ a0c [] _ _ _ rfl ?_
   simp only [go_sem,a1a,a1E,a0D,a01,a0H,a1J,a3p,hR]
   refine⟨ho,(),a2B ?_⟩
   simp only [go_sem,a1a,a1E,a0D,a01,a0H,a1J]
  refine AW.fork (AW.regionO hΓ [true] ?_)
  simp only [go_sem,a1a,a1E,a0D,a01,a0H,a1J]
  refine b2t rfl b4Q (Nat.lt_of_lt_of_le (by decide:3<50) (Nat.le_refl _)) ?_
  simp only [go_sem,a1a,a1E,a0D,a01,a0H,a1J]
  refine AW.cut ⟨[(0,sL (eP eI (eP eI (eL (eP eI (eL eS))))) l),(3,.pt 0 0 0)],[(0,.box 0 138 2 (a7b false 0 0 1 0 [])),(1,a7R 0 [])],50,2,1,[]⟩ ?_ ?_
  ·simp only [go_sem,a1a,a1E,a0D,a01,a0H,a1J]
   refine⟨a0a.box fun j hj=>?_,a0a.refl _⟩
   match j,hj with
   | 0,_=>exact a0e.refl _
   | 1,_=>exact a0e.refl _
  refine AW.of hΓ a0c [] _ _ _ rfl ?_
  simp only [go_sem,a1a,a1E,a0D,a01,a0H,a1J,a3p]
  refine AW.round (α:={ x:Nat×Bool×Nat×Nat // x.1<=l.length })
   (fun x=>⟨[(3,.pt 0 0 0),(13,sL (eP eI (eP eI (eL (eP eI (eL eS))))) l),(14,.val (.int .i64 l.length)),(15,.val (.int .i64 x.1.1))],
    [(0,.box 0 138 2 (a7b x.1.2.1 0 0 1 x.1.2.2.1 (a6G (l.take x.1.1)))),(1,a7R x.1.2.2.1 (a6G (l.take x.1.1)))],50,2,x.1.2.2.2,[]⟩) (fun x=>l.length-x.1.1) ⟨(0,false,0,1),Nat.zero_le _⟩ ?_ ?_
  ·simp only [go_sem,a1a,a1E,a0D,a01,a0H,a1J,a3p]
   rw [show a6G (List.take 0 l)=[] by simp [a6G]]
   exact⟨a0a.refl _,a0a.refl _⟩
  ·rintro⟨⟨i,f,u,nx⟩,hi⟩
   dsimp only at hi
   rcases Nat.lt_or_ge i l.length with hlt|hge
   ·have hlI:((i:Int)<(l.length:Nat))=True:=eq_true (by omega)
    have hm:l.getD i (0,0,[])∈l:=by
     simp only [List.getD,List.getElem?_eq_getElem hlt,Option.getD_some]
     exact List.getElem_mem _
    have hh:=hb _ hm
    have hre:=a77 hR _ hm
    have hok:=ho.2 _ hm
    have e1:=c2y hlt
    have e2:=c9l l (i+1)
    generalize hge:l.getD i (0,0,[])=g at *
    refine AW.of hΓ a0c [6,8] _ _ _ rfl ?_
    simp only [go_sem,a1a,a1E,a0D,a01,a0H,a1J,a3p,b4W,hlI,hge]
    refine⟨by omega,?_⟩
    obtain⟨A,B,st⟩:=g
    dsimp only at hh hre
    refine AW.cut ⟨[(3,.pt 0 0 0),(5,.pt 2 nx 0),(13,sL (eP eI (eP eI (eL (eP eI (eL eS))))) l),(14,.val (.int .i64 l.length)),(15,.val (.int .i64 i))],
     [(0,.box 0 138 2 (a7b f 0 0 1 u (a6G (l.take i)))),(1,a7R u (a6G (l.take i))),(2,.box nx 84 3 ((eP eI (eP eI (eL (eP eI (eL eS))))).enc (A,B,st)))],50,3,nx+1,[]⟩ ?_ ?_
    ·simp only [go_sem,a1a,a1E,a0D,a01,a0H,a1J,a3p]
     exact⟨a0a.refl _,a0a.refl _,a0a.box fun j hj=>a0e.of_eq (a94 (Nat.zero_le _) (by omega))⟩
    obtain⟨⟨k1,k2⟩,k3,k4⟩:=hok
    dsimp only at k1 k2 k3 k4
    refine AW.of hΓ a0c [7,8] _ _ _ rfl ?_
    simp only [go_sem,a1a,a1E,a0D,a01,a0H,a1J,a3p,b4W,hk0,hk1,hk2,d6v]
    have hT:c8g (A,B,st)=a6Y (A,B,st)++a2A st:=rfl
    rw [hT] at e1
    have e3:(a6G (l.take i)).length+(a6Y (A,B,st)).length+(a2A st).length<=50000000000:=by
     rw [e1] at e2
     simp only [List.length_append] at e2
     omega
    refine⟨⟨hh.1,hh.2,k1,k2⟩,a4Q (by decide) (a0a.refl _) (a0a.refl _) (by decide) (by omega) fun u1 n1 g1 h1=>?_⟩
    simp only [go_sem,a1a,a1E,a0D,a01,a0H,a1J,a3p,b4W,hk0,hk1,hk2]
    refine AW.of hΓ a0c [8] _ _ _ rfl ?_
    simp only [go_sem,a1a,a1E,a0D,a01,a0H,a1J,a3p,b4W,hk0,hk1,hk2]
    refine AW.to (fun x:Nat×Nat=>Sh.st ⟨[(3,.pt 0 0 0),(13,sL (eP eI (eP eI (eL (eP eI (eL eS))))) l),(14,.val (.int .i64 l.length)),(15,.val (.int .i64 i))],
     [(0,.box 0 138 2 (a7b true 0 0 1 x.1 (a6G (l.take (i+1))))),(1,a7R x.1 (a6G (l.take (i+1))))],50,2,x.2,[]⟩) ?_ fun x=>?_
    ·refine AW.block (AW.round (α:={ x:Nat×Nat×Nat // x.1<=st.length })
      (fun x=>⟨[(3,.pt 0 0 0),(13,sL (eP eI (eP eI (eL (eP eI (eL eS))))) l),(14,.val (.int .i64 l.length)),(15,.val (.int .i64 i)),(23,sL (eP eI (eL eS)) st),(24,.val (.int .i64 st.length)),(25,.val (.int .i64 x.1.1))],
       [(0,.box 0 138 2 (a7b true 0 0 1 x.1.2.1 (a6G (l.take i)++a6Y (A,B,st)++a2A (st.take x.1.1)))),(1,a7R x.1.2.1 (a6G (l.take i)++a6Y (A,B,st)++a2A (st.take x.1.1)))],50,2,x.1.2.2,[]⟩) (fun x=>st.length-x.1.1) ⟨(0,u1,n1),Nat.zero_le _⟩ ?_ ?_)
     ·simp only [go_sem,a1a,a1E,a0D,a01,a0H,a1J,a3p,b4W,hk0,hk1,hk2]
      rw [show a2A (List.take 0 st)=[] by simp [a2A],List.append_nil]
      exact⟨a0a.refl _,a0a.refl _⟩
     ·rintro⟨⟨j,u2,n2⟩,hj⟩
      dsimp only at hj
      rcases Nat.lt_or_ge j st.length with hjt|hjg
      ·have hjI:((j:Int)<(st.length:Nat))=True:=eq_true (by omega)
       have jm:st.getD j (0,[])∈st:=by
        simp only [List.getD,List.getElem?_eq_getElem hjt,Option.getD_some]
        exact List.getElem_mem _
       have jk:=b8S hre _ jm
       have j2:=k2 _ jm
       have j3:=k3 _ jm
       have d1:=b5A hjt
       have d2:=c2P st (j+1)
       generalize hgj:st.getD j (0,[])=s at *
       refine AW.of hΓ a0c [10,11] _ _ _ rfl ?_
       simp only [go_sem,a1a,a1E,a0D,a01,a0H,a1J,a1V,b0Y,hjI,hgj]
       refine⟨by omega,?_⟩
       obtain⟨k,ts⟩:=s
       dsimp only at jk j2 j3
       have hsT:c3K (k,ts)=a2m k ts:=rfl
       rw [hsT] at d1
       have hne:a6G (l.take i)++a6Y (A,B,st)++a2A (st.take j)≠[]:=by simp [c8v]
       have hnl:(a6G (l.take i)++a6Y (A,B,st)++a2A (st.take j)).length+(a2m k ts).length<=50000000000:=by
        rw [d1] at d2
        simp only [List.length_append] at d2 ⊢
        omega
       have d3:a6G (l.take i)++a6Y (A,B,st)++a2A (st.take (j+1))=a6G (l.take i)++a6Y (A,B,st)++a2A (st.take j)++a2m k ts:=by rw [d1,<-List.append_assoc]
       generalize hP:a6G (l.take i)++a6Y (A,B,st)++a2A (st.take j)=pre at d3 hne hnl ⊢
       refine AW.cut ⟨[(3,.pt 0 0 0),(7,.pt 2 n2 0),(13,sL (eP eI (eP eI (eL (eP eI (eL eS))))) l),(14,.val (.int .i64 l.length)),(15,.val (.int .i64 i)),(23,sL (eP eI (eL eS)) st),(24,.val (.int .i64 st.length)),(25,.val (.int .i64 j))],
        [(0,.box 0 138 2 (a7b true 0 0 1 u2 pre)),(1,a7R u2 pre),(2,.box n2 86 2 ((eP eI (eL eS)).enc (k,ts)))],50,3,n2+1,[]⟩ ?_ ?_
       ·simp only [go_sem,a1a,a1E,a0D,a01,a0H,a1J,a1V]
        exact⟨a0a.refl _,a0a.refl _,a0a.box fun j hj=>a0e.of_eq (a94 (Nat.zero_le _) (by omega))⟩
       refine AW.of hΓ a0c [11] _ _ _ rfl ?_
       simp only [go_sem,a1a,a1E,a0D,a01,a0H,a1J,a1V,b0Y,sp0,sp1]
       refine AW.to (fun x:Nat×Nat=>Sh.st ⟨[(3,.pt 0 0 0),(13,sL (eP eI (eP eI (eL (eP eI (eL eS))))) l),(14,.val (.int .i64 l.length)),(15,.val (.int .i64 i)),(23,sL (eP eI (eL eS)) st),(24,.val (.int .i64 st.length)),(25,.val (.int .i64 j))],
        [(0,.box 0 138 2 (a7b true 0 0 1 x.1 (pre++a2m k ts))),(1,a7R x.1 (pre++a2m k ts))],50,2,x.2,[]⟩) ?_ fun x=>?_
       ·refine AW.block (AW.round (α:={ x:Nat×Nat×Nat // x.1<=ts.length })
         (fun x=>⟨[(3,.pt 0 0 0),(7,.pt 2 n2 0),(13,sL (eP eI (eP eI (eL (eP eI (eL eS))))) l),(14,.val (.int .i64 l.length)),(15,.val (.int .i64 i)),(23,sL (eP eI (eL eS)) st),(24,.val (.int .i64 st.length)),(25,.val (.int .i64 j)),(30,sL eS ts),(31,.val (.int .i64 ts.length)),(32,.val (.int .i64 x.1.1))],
          [(0,.box 0 138 2 (a7b true 0 0 1 x.1.2.1 (pre++a2m k (ts.take x.1.1)))),(1,a7R x.1.2.1 (pre++a2m k (ts.take x.1.1))),(2,.box n2 86 2 ((eP eI (eL eS)).enc (k,ts)))],50,3,x.1.2.2,[]⟩) (fun x=>ts.length-x.1.1) ⟨(0,u2,n2+1),Nat.zero_le _⟩ ?_ ?_)
        ·simp only [go_sem,a1a,a1E,a0D,a01,a0H,a1J,a1V,b0Y,sp0,sp1]
         rw [show a2m k (List.take 0 ts)=[] by simp [a2m],List.append_nil]
         exact⟨a0a.refl _,a0a.refl _,a0a.refl _⟩
        ·rintro⟨⟨m,u3,n3⟩,hm'⟩
         dsimp only at hm'
         rcases Nat.lt_or_ge m ts.length with hmt|hmg
         ·have hmI:((m:Int)<(ts.length:Nat))=True:=eq_true (by omega)
          have t1:=b4Z (k:=k) hmt
          have t2:=c0L k ts (m+1)
          have t3:(ts.getD m []).length<=100000000:=by
           simp only [List.getD,List.getElem?_eq_getElem hmt,Option.getD_some]
           exact j3 _ (List.getElem_mem _)
          have hne2:pre++a2m k (ts.take m)≠[]:=by simp [hne]
          have hnl2:(pre++a2m k (ts.take m)).length+(a68 k (ts.getD m [])).length<=50000000000:=by
           rw [t1] at t2
           simp only [List.length_append] at t2 ⊢
           omega
          have t5:pre++a2m k (ts.take (m+1))=pre++a2m k (ts.take m)++a68 k (ts.getD m []):=by rw [t1,<-List.append_assoc]
          generalize hline:ts.getD m []=line at t3 hnl2 t5 ⊢
          generalize hQ:pre++a2m k (ts.take m)=acc at hne2 hnl2 t5 ⊢
          have hsx:=b6u line
          cases hE:a1d line with
          | true=>
            have hL:acc++[d15 k]++line=acc++a68 k line:=by unfold a68;rw [if_pos hE];simp
            have hLl:(a68 k line).length=line.length+1:=by unfold a68;rw [if_pos hE];simp
            rw [hE] at hsx
            refine AW.of hΓ a0c [99999] _ _ _ rfl ?_
            simp only [go_sem,a1a,a1E,a0D,a01,a0H,a1J,a1V,b0Y,sp0,sp1,hmI,hline,hsx]
            refine⟨by omega,⟨by omega,by omega⟩,b4p (b:=d15 k) (by decide) (a0a.refl _) (a0a.refl _) (by decide) hne2 (by omega) fun u4 n4 g4 h4=>?_⟩
            simp only [go_sem,a1a,a1E,a0D,a01,a0H,a1J,hsx]
            refine a4Q (by decide) (a0a.refl _) (a0a.refl _) (by decide) (by simp only [List.length_append,List.length_cons,List.length_nil];omega) fun u5 n5 g5 h5=>?_
            simp only [go_sem,a1a,a1E,a0D,a01,a0H,a1J,hsx]
            exact⟨by omega,by omega,⟨(m+1,u5,n5),by dsimp only;omega⟩,⟨Nat.le_refl _,by dsimp only;omega,by dsimp only;rw [t5,<-hL];exact a0a.refl _,by dsimp only;rw [t5,<-hL];exact a0a.refl _,a0a.refl _⟩,by dsimp only;omega⟩
          | false=>
            have hL:acc++[d15 k]++line++(10::b1x)=acc++a68 k line:=by unfold a68;rw [if_neg (by rw [hE];simp)];simp
            have hLl:(a68 k line).length=line.length+11:=by unfold a68;rw [if_neg (by rw [hE];simp)];simp [b1x]
            rw [hE] at hsx
            refine AW.of hΓ a0c [99999] _ _ _ rfl ?_
            simp only [go_sem,a1a,a1E,a0D,a01,a0H,a1J,a1V,b0Y,sp0,sp1,hmI,hline,hsx]
            refine⟨by omega,⟨by omega,by omega⟩,b4p (b:=d15 k) (by decide) (a0a.refl _) (a0a.refl _) (by decide) hne2 (by omega) fun u4 n4 g4 h4=>?_⟩
            simp only [go_sem,a1a,a1E,a0D,a01,a0H,a1J,hsx]
            refine a4Q (by decide) (a0a.refl _) (a0a.refl _) (by decide) (by simp only [List.length_append,List.length_cons,List.length_nil];omega) fun u5 n5 g5 h5=>?_
            simp only [go_sem,a1a,a1E,a0D,a01,a0H,a1J,hsx]
            refine⟨by omega,a4Q (s:=10::b1x) (by decide) (a0a.refl _) (a0a.refl _) (by decide) (by simp only [List.length_append,List.length_cons,List.length_nil,b1x];omega) fun u6 n6 g6 h6=>?_⟩
            simp only [go_sem,a1a,a1E,a0D,a01,a0H,a1J,hsx]
            exact⟨by omega,⟨(m+1,u6,n6),by dsimp only;omega⟩,⟨Nat.le_refl _,by dsimp only;omega,by dsimp only;rw [t5,<-hL];exact a0a.refl _,by dsimp only;rw [t5,<-hL];exact a0a.refl _,a0a.refl _⟩,by dsimp only;omega⟩
         ·obtain rfl:m=ts.length:=by omega
          have hmI:((ts.length:Int)<(ts.length:Nat))=False:=eq_false (by omega)
          refine AW.of hΓ a0c [99999] _ _ _ rfl ?_
          simp only [go_sem,a1a,a1E,a0D,a01,a0H,a1J,hmI]
          refine⟨(u3,n3),a2B ?_⟩
          simp only [go_sem,a1a,a1E,a0D,a01,a0H,a1J]
          exact⟨a0a.refl _,a0a.refl _⟩
       ·simp only [go_sem,a1a,a1E,a0D,a01,a0H,a1J]
        exact⟨by omega,⟨(j+1,x.1,x.2),by dsimp only;omega⟩,⟨Nat.le_refl _,by dsimp only;omega,by dsimp only;rw [d3];exact a0a.refl _,by dsimp only;rw [d3];exact a0a.refl _⟩,by dsimp only;omega⟩
      ·obtain rfl:j=st.length:=by omega
       have hjI:((st.length:Int)<(st.length:Nat))=False:=eq_false (by omega)
       refine AW.of hΓ a0c [99999] _ _ _ rfl ?_
       simp only [go_sem,a1a,a1E,a0D,a01,a0H,a1J,hjI]
       refine⟨(u2,n2),a2B ?_⟩
       simp only [go_sem,a1a,a1E,a0D,a01,a0H,a1J]
       rw [e1,<-List.append_assoc]
       exact⟨a0a.refl _,a0a.refl _⟩
    ·simp only [go_sem,a1a,a1E,a0D,a01,a0H,a1J]
     exact⟨by omega,⟨(i+1,true,x.1,x.2),by dsimp only;omega⟩,⟨Nat.le_refl _,by dsimp only;omega,a0a.refl _,a0a.refl _⟩,by dsimp only;omega⟩
   ·obtain rfl:i=l.length:=by omega
    have hlI:((l.length:Int)<(l.length:Nat))=False:=eq_false (by omega)
    refine AW.of hΓ a0c [99999] _ _ _ rfl ?_
    simp only [go_sem,a1a,a1E,a0D,a01,a0H,a1J,hlI]
    exact⟨f,0,0,1,u,a6G l,rfl,rfl,rfl,by omega,rfl⟩
 ·have eT:a3V l=[]:=by unfold a3V;rw [if_neg (by rw [hR];simp)]
  rw [eT]
  refine AW.of hΓ a0c [99999] _ _ _ rfl ?_
  simp only [go_sem,a1a,a1E,a0D,a01,a0H,a1J,a3p,hR]
  exact ho
end Go.Proofs.YthpjjjnbkfnghaaGreatDoor
set_option maxRecDepth 100000
set_option maxHeartbeats 8000000
namespace Go.Proofs.YthpjjjnbkfnghaaGreatDoor
open Go
attribute [local irreducible] AW a0e a1g a0a
def c83 (h:Hk) (q v:Nat):Nat->AV:=fun j=>if j=0 then .val (.int .i64 h.1) else if j=1 then .val (.int .i64 h.2.1) else .ow q v h.2.2.length
theorem c3y (h:Hk) (q v:Nat):c83 h q v 0=.val (.int .i64 h.1):=rfl
theorem c3B (h:Hk) (q v:Nat):c83 h q v 1=.val (.int .i64 h.2.1):=rfl
theorem c3x (h:Hk) (q v:Nat):c83 h q v 2=.ow q v h.2.2.length:=rfl
theorem b2a (l:List StE) (k:Int) (ts:List (List UInt8)):(a3Q l k ts).length<=l.length+1:=by
 unfold a3Q
 split
 ·omega
 ·simp
theorem b9C {L:List StE} (hL:∀ s∈L,s.2.length<=10000) (n:Nat):∀ i,i<=L.length->(ofI L n i).1.length<=i/\(ofI L n i).2.1.2.2.length<=i/\(0<=(ofI L n i).2.2.1/\(ofI L n i).2.2.1<=i*10000)/\0<=(ofI L n i).2.2.2/\(ofI L n i).2.2.2<=i*10000
 | 0,_=>by simp [ofI]
 | i+1,h=>by
   obtain⟨h1,h2,h3,h4⟩:=b9C hL n i (by omega)
   have hm:L.getD i (0,[])∈L:=by
    simp only [List.getD,List.getElem?_eq_getElem (show i<L.length by omega),Option.getD_some]
    exact List.getElem_mem _
   have hs:=hL _ hm
   rw [ofI]
   generalize L.getD i (0,[])=s at *
   generalize ofI L n i=o at *
   generalize decide (i=0)=f
   generalize decide (i+1=L.length)=t
   obtain⟨hs',⟨oa,ob,st⟩,ca,cb⟩:=o
   obtain⟨k,ts⟩:=s
   dsimp only at h1 h2 h3 h4 hs
   have a1:=b2a st k ts
   have a2:=b2a st 0 ts
   have a3:=b2a [] 0 (ts.drop (ts.length-ahP n t (k,ts)))
   have a4:(a62 hs' (oa,ob,a3Q st 0 (ts.take (bhP n f (k,ts))))).length<=i+1:=by rw [c9j];split<;>omega
   unfold a3G
   dsimp only
   have p1:0<=b7H (k,ts)/\b7H (k,ts)<=10000:=by unfold b7H;dsimp only;split<;>omega
   have p2:0<=b7T (k,ts)/\b7T (k,ts)<=10000:=by unfold b7T;dsimp only;split<;>omega
   split
   ·dsimp only
    exact⟨by omega,by omega,by omega,by omega⟩
   ·split
    ·dsimp only
     exact⟨by omega,by omega,by omega,by omega⟩
    ·dsimp only
     simp only [List.length_nil] at a3
     exact⟨a4,by omega,by omega,by omega⟩
theorem c8H {ts:List (List UInt8)} {B:Nat} (h:B<=ts.length):a0e (.sn (B-0) 1 fun i=>eS.enc (ts.getD i [])) (sL eS (ts.take B)):=by
 refine c67 rfl (by rw [List.length_take];omega) fun i hi j hj=>?_
 rw [show (ts.take B).getD i eS.dflt=ts.getD i [] by simp only [List.getD,List.getElem?_take];rw [if_pos (by omega)];rfl]
 exact a0e.refl _
theorem c9v {ts:List (List UInt8)} {A:Nat} (h:A<=ts.length):a0e (.sn (ts.length-(ts.length-A)) 1 fun i=>eS.enc (ts.getD (ts.length-A+i) [])) (sL eS (ts.drop (ts.length-A))):=by
 refine c67 rfl (by rw [List.length_drop]) fun i hi j hj=>?_
 rw [show (ts.drop (ts.length-A)).getD i eS.dflt=ts.getD (ts.length-A+i) [] by simp only [List.getD,List.getElem?_drop];rfl]
 exact a0e.refl _
def a39:a0s:=a0s.f2 (kL (eP eI (eL eS))) kI (fun l _=>l.length<10000/\∀ s∈l,s.2.length<=10000) (fun l n=>sL (eP eI (eP eI (eL (eP eI (eL eS))))) (if a0I (-1) l=true/\0<=n/\n<=100 then ofP l n.toNat else []))
theorem d6e:a0d Tryz.prog 10 a39:=by
 refine a0d.f2 Tryz.func10 rfl (by decide) Tryz.results10 Tryz.ntmps10 (by decide) fun l n ⟨hl,hs⟩=>?_
 have hΓ:GOK Tryz.prog (gam [(42,a02),(43,a2T),(44,a1M),(45,a0T)]):=(.cons b7g (.cons d1I (.cons c8Y (.cons c0J .nil))))
 by_cases hc:a0I (-1) l=true/\0<=n/\n<=100
 ·obtain⟨hc1,hc2,hc3⟩:=hc
  rw [if_pos ⟨hc1,hc2,hc3⟩]
  have b1:decide (n<0)=false:=decide_eq_false (by omega)
  have b2:decide (100<n)=false:=decide_eq_false (by omega)
  obtain⟨N,rfl⟩:=Int.eq_ofNat_of_zero_le hc2
  rw [Int.toNat_natCast]
  refine AW.of hΓ a0c [6] _ _ _ rfl ?_
  simp only [go_sem,a02,a2T,a1M,a0T,a1V,a3p,hc1,b1,b2]
  refine⟨⟨hl,hs⟩,?_⟩
  refine AW.adopt 5 84 3 (fun i=>(eP eI (eP eI (eL (eP eI (eL eS))))).enc (([]:List Hk).getD i (0,0,[]))) rfl ?_
  refine AW.adoptB (q:=0) 2 86 2 (fun i=>(eP eI (eL eS)).enc (([]:List StE).getD i (0,[]))) rfl rfl ?_
  refine AW.to (fun x:Nat×Nat=>Sh.st ⟨[(5,.ow 1 x.1 (ofI l N l.length).1.length),(6,.pt 0 0 0)],[(0,.box 0 84 3 ((eP eI (eP eI (eL (eP eI (eL eS))))).enc (ofI l N l.length).2.1)),(1,rHk x.1 (ofI l N l.length).1)],124,2,x.2,[]⟩) ?_ ?_
  ·refine AW.block (AW.round (α:={ x:Nat×Nat×Nat×Nat // x.1<=l.length }) (fun x=>⟨[(0,sL (eP eI (eL eS)) l),(1,.val (.int .i64 N)),(5,.ow 1 x.1.2.1 (ofI l N x.1.1).1.length),(6,.pt 0 0 0),(7,.val (.int .i64 (ofI l N x.1.1).2.2.1)),(8,.val (.int .i64 (ofI l N x.1.1).2.2.2)),(27,sL (eP eI (eL eS)) l),(28,.val (.int .i64 l.length)),(29,.val (.int .i64 x.1.1))],
    [(0,.box 0 84 3 (c83 (ofI l N x.1.1).2.1 2 x.1.2.2.1)),(1,rHk x.1.2.1 (ofI l N x.1.1).1),(2,rSt x.1.2.2.1 (ofI l N x.1.1).2.1.2.2)],124,3,x.1.2.2.2,[]⟩) (fun x=>l.length-x.1.1) ⟨(0,1,2,3),Nat.zero_le _⟩ ?_ ?_)
   ·simp only [go_sem,a02,a2T,a1M,a0T,a3p]
    exact⟨⟨rfl,rfl,rfl⟩,a0a.box fun j hj=>a0e.of_eq (match j,hj with|0,_=>rfl|1,_=>rfl|2,_=>rfl),a0a.refl _,a0a.refl _⟩
   ·rintro⟨⟨i,vh,vs,nx⟩,hi⟩
    simp only at hi
    rcases Nat.lt_or_ge i l.length with hlt|hge
    ·have hlI:((i:Int)<(l.length:Nat))=True:=eq_true (by omega)
     obtain⟨g1,g2,g3,g4⟩:=b9C hs N i hi
     have hm:l.getD i (0,[])∈l:=by
      simp only [List.getD,List.getElem?_eq_getElem hlt,Option.getD_some]
      exact List.getElem_mem _
     have hg:=hs _ hm
     have hst:ofI l N (i+1)=a3G N (decide (i=0)) (decide (i+1=l.length)) (l.getD i (0,[])) (ofI l N i):=rfl
     generalize hge:l.getD i (0,[])=g at *
     generalize hoe:ofI l N i=o at *
     obtain⟨k,ts⟩:=g
     obtain⟨hs',⟨oa,ob,st⟩,ca,cb⟩:=o
     dsimp only at g1 g2 g3 g4 hg ⊢
     by_cases hk:k=0
     ·subst hk
      have e2:decide ((i:Int)=(l.length:Int)-1)=decide (i+1=l.length):=by rw [decide_eq_decide];omega
      have e1:decide ((i:Int)=0)=decide (i=0):=by rw [decide_eq_decide];omega
      generalize hfe:decide (i=0)=f at *
      generalize hte:decide (i+1=l.length)=t at *
      by_cases hin:f=false/\t=false/\ts.length<=2*N
      ·obtain⟨rfl,rfl,hle⟩:=hin
       have hle':((ts.length:Int)<=2*(N:Int))=True:=eq_true (by omega)
       refine AW.of hΓ a0c [99999] _ _ _ rfl ?_
       simp only [go_sem,a02,a2T,a1M,a0T,a1V,b0Y,hlI,hge,sp0,sp1,c3y,c3B,c3x,e1,e2,hle',a9X,b65]
       refine⟨by omega,⟨by omega,by omega⟩,⟨by omega,by omega,by omega⟩,⟨by omega,by omega⟩,b5S (l:=st) rfl (a0e.refl _) (a0a.refl _) (by decide) (by omega) (by omega) fun v' nx' hnx=>?_⟩
       simp only [go_sem,a02,a2T,a1M,a0T,a1V,b0Y,sp0,sp1,c3y,c3B,c3x,a9X,b65]
       have hst2:ofI l N (i+1)=(hs',(oa,ob,a3Q st 0 ts),ca+ts.length,cb+ts.length):=by
        rw [hst];unfold a3G;rw [if_neg (by simp),if_pos ⟨rfl,rfl,hle⟩]
       have pA:b7H (0,ts)=ts.length:=by unfold b7H;rw [if_neg (show ¬(0:Int)=2 by decide)]
       have pB:b7T (0,ts)=ts.length:=by unfold b7T;rw [if_neg (show ¬(0:Int)=1 by decide)]
       refine⟨by omega,⟨(i+1,vh,v',nx'),by omega⟩,?_⟩
       dsimp only
       rw [hst2,pA,pB]
       exact⟨⟨Nat.le_refl _,⟨⟨rfl,rfl⟩,rfl,rfl,by omega⟩,a0a.box fun j hj=>a0e.of_eq (match j,hj with|0,_=>rfl|1,_=>rfl|2,_=>rfl),a0a.refl _,a0a.refl _⟩,by omega⟩
      ·have hmin:min (ts.length:Int) (N:Int)=((min ts.length N:Nat):Int):=by omega
       have pA:b7H (0,ts)=ts.length:=by unfold b7H;rw [if_neg (show ¬(0:Int)=2 by decide)]
       have pB:b7T (0,ts)=ts.length:=by unfold b7T;rw [if_neg (show ¬(0:Int)=1 by decide)]
       have hcond:(!f&&!t&&decide ((ts.length:Int)<=2*(N:Int)))=false:=by
        cases f<;>cases t<;>simp
        simp at hin
        omega
       refine AW.of hΓ a0c [200021] _ _ _ rfl ?_
       simp only [go_sem,a02,a2T,a1M,a0T,hlI]
       refine AW.fork (AW.block ?_)
       refine AW.of hΓ a0c [200021] _ _ _ rfl ?_
       simp only [go_sem,a02,a2T,a1M,a0T,a1V,b0Y,hlI,hge,sp0,sp1,c3y,c3B,c3x,e1,e2,hmin,hcond,a9X,b65]
       refine⟨by omega,⟨by omega,by omega⟩,⟨by omega,by omega,by omega⟩,fun _=>by omega,?_⟩
       rw [pA,pB]
       refine AW.seqTo (fun _:Unit=>Sh.st ⟨[(0,sL (eP eI (eL eS)) l),(1,.val (.int .i64 N)),(5,.ow 1 vh hs'.length),(6,.pt 0 0 0),(7,.val (.int .i64 (ca+ts.length))),(8,.val (.int .i64 (cb+ts.length))),(10,.pt 3 nx 0),(12,.val (.bool t)),(13,.val (.int .i64 ts.length)),(14,.val (.int .i64 (bhP N f (0,ts):Nat))),(15,.val (.int .i64 (min ts.length N:Nat))),(27,sL (eP eI (eL eS)) l),(28,.val (.int .i64 l.length)),(29,.val (.int .i64 i))],[(0,.box 0 84 3 (c83 (oa,ob,st) 2 vs)),(1,rHk vh hs'),(2,rSt vs st),(3,.box nx 86 2 ((eP eI (eL eS)).enc (0,ts)))],124,4,nx+1,[]⟩) ?_ fun _=>?_
       ·cases f with
        | true=>
          refine AW.of hΓ a0c [99999] _ _ _ rfl ?_
          simp only [go_sem,a02,a2T,a1M,a0T]
          refine⟨(),a2B ?_⟩
          simp only [go_sem,a02,a2T,a1M,a0T]
          exact⟨by simp [bhP],a0a.refl _,a0a.refl _,a0a.refl _,a0a.box fun j hj=>a0e.of_eq (match j,hj with|0,_=>rfl|1,_=>rfl)⟩
        | false=>
          refine AW.of hΓ a0c [99999] _ _ _ rfl ?_
          simp only [go_sem,a02,a2T,a1M,a0T]
          refine⟨(),a2B ?_⟩
          simp only [go_sem,a02,a2T,a1M,a0T]
          exact⟨by simp [bhP],a0a.refl _,a0a.refl _,a0a.refl _,a0a.box fun j hj=>a0e.of_eq (match j,hj with|0,_=>rfl|1,_=>rfl)⟩
       refine AW.seqTo (fun _:Unit=>Sh.st ⟨[(0,sL (eP eI (eL eS)) l),(1,.val (.int .i64 N)),(5,.ow 1 vh hs'.length),(6,.pt 0 0 0),(7,.val (.int .i64 (ca+ts.length))),(8,.val (.int .i64 (cb+ts.length))),(10,.pt 3 nx 0),(12,.val (.bool t)),(13,.val (.int .i64 ts.length)),(14,.val (.int .i64 (bhP N f (0,ts):Nat))),(15,.val (.int .i64 (ahP N t (0,ts):Nat))),(27,sL (eP eI (eL eS)) l),(28,.val (.int .i64 l.length)),(29,.val (.int .i64 i))],[(0,.box 0 84 3 (c83 (oa,ob,st) 2 vs)),(1,rHk vh hs'),(2,rSt vs st),(3,.box nx 86 2 ((eP eI (eL eS)).enc (0,ts)))],124,4,nx+1,[]⟩) ?_ fun _=>?_
       ·cases t with
        | true=>
          refine AW.of hΓ a0c [99999] _ _ _ rfl ?_
          simp only [go_sem,a02,a2T,a1M,a0T]
          refine⟨(),a2B ?_⟩
          simp only [go_sem,a02,a2T,a1M,a0T]
          exact⟨by simp [ahP],a0a.refl _,a0a.refl _,a0a.refl _,a0a.refl _⟩
        | false=>
          refine AW.of hΓ a0c [99999] _ _ _ rfl ?_
          simp only [go_sem,a02,a2T,a1M,a0T]
          refine⟨(),a2B ?_⟩
          simp only [go_sem,a02,a2T,a1M,a0T]
          exact⟨by simp [ahP],a0a.refl _,a0a.refl _,a0a.refl _,a0a.refl _⟩
       refine AW.fork (AW.drawZ hΓ a0c 6 [7] [7] [] (by decide +kernel) ?_)
       simp only [go_sem,a02,a2T,a1M,a0T,a1V,b0Y,sp0,sp1,c3y,c3B,c3x]
       have hbh:bhP N f (0,ts)<=ts.length:=by unfold bhP;split<;>(try dsimp only)<;>omega
       have hah:ahP N t (0,ts)<=ts.length:=by unfold ahP;split<;>(try dsimp only)<;>omega
       have hst2:ofI l N (i+1)=(a62 hs' (oa,ob,a3Q st 0 (ts.take (bhP N f (0,ts)))),(ca+ts.length-ahP N t (0,ts),cb+ts.length-ahP N t (0,ts),a3Q [] 0 (ts.drop (ts.length-ahP N t (0,ts)))),ca+ts.length,cb+ts.length):=by
        rw [hst];unfold a3G;rw [if_neg (by simp),if_neg hin]
       generalize bhP N f (0,ts)=B at *
       generalize ahP N t (0,ts)=A at *
       refine⟨⟨by omega,by omega⟩,b5S (l:=st) (ts:=ts.take B) rfl (c8H hbh) (a0a.refl _) (by decide) (by omega) (by rw [List.length_take];omega) fun v' nx' hnx=>?_⟩
       simp only [go_sem,a02,a2T,a1M,a0T,a1V,b0Y,sp0,sp1,c3y,c3B,c3x]
       refine AW.freeze 2 v' 86 2 (a3Q st 0 (ts.take B)).length (fun i=>(eP eI (eL eS)).enc ((a3Q st 0 (ts.take B)).getD i (0,[]))) rfl (fun i _ j hj=>match j,hj with|0,_=>rfl|1,_=>rfl) ?_
       refine AW.of hΓ a0c [22,23] _ _ _ rfl ?_
       simp only [go_sem,a02,a2T,a1M,a0T,a1V,b0Y,a3p,b4W,sp0,sp1,c3y,c3B,c3x]
       have hal:=b2a st 0 (ts.take B)
       refine b4o (l:=hs') (h:=(oa,ob,a3Q st 0 (ts.take B))) rfl (a0e.ag fun j hj=>a0e.of_eq (match j,hj with|0,_=>rfl|1,_=>rfl|2,_=>by show fz 2 v' _ 2 _ (.ow 2 v' _)=_;simp only [fz,and_self,if_true,Nat.le_refl];rfl)) (a0a.sl rfl fun i hi j hj=>match j,hj with|0,_=>a0e.refl _|1,_=>a0e.refl _|2,_=>a0e.refl _) (by decide) (by omega) (by dsimp only;omega) fun v2 nx2 hnx2=>?_
       simp only [go_sem,a02,a2T,a1M,a0T,a1V,b0Y,a3p,b4W,sp0,sp1,c3y,c3B,c3x]
       refine AW.cut ⟨[(0,sL (eP eI (eL eS)) l),(1,.val (.int .i64 N)),(5,.ow 1 v2 (a62 hs' (oa,ob,a3Q st 0 (ts.take B))).length),(6,.pt 0 0 0),(7,.val (.int .i64 (ca+ts.length))),(8,.val (.int .i64 (cb+ts.length))),(10,.pt 3 nx 0),(13,.val (.int .i64 ts.length)),(15,.val (.int .i64 A)),(27,sL (eP eI (eL eS)) l),(28,.val (.int .i64 l.length)),(29,.val (.int .i64 i))],[(0,.box 0 84 3 ((eP eI (eP eI (eL (eP eI (eL eS))))).enc (oa,ob,a3Q st 0 (ts.take B)))),(1,rHk v2 (a62 hs' (oa,ob,a3Q st 0 (ts.take B)))),(3,.box nx 86 2 ((eP eI (eL eS)).enc (0,ts)))],124,4,nx2,[]⟩ ?_ ?_
       ·simp only [go_sem,a02,a2T,a1M,a0T,a3p,a1V]
        exact⟨a0a.box fun j hj=>a0e.of_eq (match j,hj with|0,_=>rfl|1,_=>rfl|2,_=>by show fz 2 v' _ 2 _ (.ow 2 v' _)=_;simp only [fz,and_self,if_true,Nat.le_refl];rfl),a0a.refl _,a0a.box fun j hj=>a0e.of_eq (match j,hj with|0,_=>rfl|1,_=>rfl)⟩
       have hsub:((ts.length:Int)-(A:Int)).toNat=ts.length-A:=by omega
       refine AW.of hΓ a0c [23] _ _ _ rfl ?_
       simp only [go_sem,a02,a2T,a1M,a0T,a1V,b0Y,a3p,b4W,sp0,sp1,hsub]
       refine⟨⟨by omega,by omega⟩,⟨by omega,by omega⟩,⟨by omega,by omega⟩,⟨by omega,by omega,by omega⟩,d0u (ts:=ts.drop (ts.length-A)) (c9v hah) (by rw [List.length_drop];omega) fun v3 nx3 h3 h4=>?_⟩
       simp only [go_sem,a02,a2T,a1M,a0T,a1V,b0Y,a3p,b4W,sp0,sp1]
       refine AW.cutV (fun p=>if p=2 then 4 else p) ⟨[(0,sL (eP eI (eL eS)) l),(1,.val (.int .i64 N)),(5,.ow 1 v2 (a62 hs' (oa,ob,a3Q st 0 (ts.take B))).length),(6,.pt 0 0 0),(7,.val (.int .i64 (ca+ts.length))),(8,.val (.int .i64 (cb+ts.length))),(27,sL (eP eI (eL eS)) l),(28,.val (.int .i64 l.length)),(29,.val (.int .i64 i))],[(0,.box 0 84 3 (c83 (ca+ts.length-A,cb+ts.length-A,a3Q [] 0 (ts.drop (ts.length-A))) 2 v3)),(1,rHk v2 (a62 hs' (oa,ob,a3Q st 0 (ts.take B)))),(2,rSt v3 (a3Q [] 0 (ts.drop (ts.length-A))))],124,3,nx3,[]⟩ ?_ ?_
       ·simp only [go_sem,a02,a2T,a1M,a0T,a3p,a1V]
        exact⟨a0a.box fun j hj=>match j,hj with|0,_=>a0e.refl _|1,_=>a0e.refl _|2,_=>a0e.ow,a0a.refl _,a0a.refl _⟩
       refine AW.of hΓ a0c [99999] _ _ _ rfl ?_
       simp only [go_sem,a02,a2T,a1M,a0T]
       refine⟨by omega,⟨(i+1,v2,v3,nx3),by omega⟩,?_⟩
       dsimp only
       rw [hst2]
       exact⟨⟨Nat.le_refl _,⟨⟨rfl,rfl⟩,rfl,rfl,by omega⟩,a0a.refl _,a0a.refl _,a0a.refl _⟩,by omega⟩
     ·have hk':(k=0)=False:=eq_false hk
      refine AW.of hΓ a0c [99999] _ _ _ rfl ?_
      simp only [go_sem,a02,a2T,a1M,a0T,a1V,b0Y,hlI,hge,sp0,sp1,c3y,c3B,c3x,hk']
      refine⟨by omega,b5S (l:=st) rfl (a0e.refl _) (a0a.refl _) (by decide) (by omega) (by omega) fun v' nx' hnx=>?_⟩
      simp only [go_sem,a02,a2T,a1M,a0T,a1V,b0Y,sp0,sp1,c3y,c3B,c3x,a9X,b65]
      have hst2:ofI l N (i+1)=(hs',(oa,ob,a3Q st k ts),ca+b7H (k,ts),cb+b7T (k,ts)):=by
       rw [hst];unfold a3G;rw [if_pos hk]
      refine⟨⟨by omega,by omega,by omega⟩,by omega,⟨(i+1,vh,v',nx'),by omega⟩,?_⟩
      dsimp only
      rw [hst2]
      exact⟨⟨Nat.le_refl _,⟨⟨rfl,rfl⟩,rfl,rfl,by omega⟩,a0a.box fun j hj=>a0e.of_eq (match j,hj with|0,_=>rfl|1,_=>rfl|2,_=>rfl),a0a.refl _,a0a.refl _⟩,by omega⟩
    ·obtain rfl:i=l.length:=by omega
     have hlI:((l.length:Int)<(l.length:Nat))=False:=eq_false (by omega)
     refine AW.of hΓ a0c [99999] _ _ _ rfl ?_
     simp only [go_sem,a02,a2T,a1M,a0T,hlI]
     refine⟨(vh,nx),a1g.trans (a1g.freeze 2 vs 86 2 (ofI l N l.length).2.1.2.2.length (fun i=>(eP eI (eL eS)).enc ((ofI l N l.length).2.1.2.2.getD i (0,[]))) rfl fun i _ j hj=>match j,hj with|0,_=>rfl|1,_=>rfl) (a2B ?_)⟩
     simp only [go_sem,a02,a2T,a1M,a0T,c3y,c3B,c3x]
     exact⟨a0a.box fun j hj=>a0e.of_eq (match j,hj with|0,_=>rfl|1,_=>rfl|2,_=>by show fz 2 vs _ 2 _ (.ow 2 vs _)=_;simp only [fz,and_self,if_true,Nat.le_refl];rfl),a0a.sl rfl fun i hi j hj=>match j,hj with|0,_=>a0e.refl _|1,_=>a0e.refl _|2,_=>a0e.refl _⟩
  ·rintro⟨vh,nx⟩
   obtain⟨g1,g2,_⟩:=b9C hs N l.length (Nat.le_refl _)
   simp only [go_sem,a02,a2T,a1M,a0T,a3p]
   refine b4o rfl (a0e.refl _) (a0a.refl _) (by decide) (by omega) (by omega) fun v' nx' hnx=>?_
   simp only [go_sem,a02,a2T,a1M,a0T,a3p]
   exact a0e.refl _
 ·rw [if_neg hc]
  have hbad:(!a0I (-1) l||decide (n<0)||decide (100<n))=true:=by
   cases hR:a0I (-1) l with
   | false=>rfl
   | true=>
     have:n<0\/100<n:=by
      rcases Int.lt_or_le n 0 with g|g
      ·exact .inl g
      ·rcases Int.lt_or_le 100 n with g2|g2
       ·exact .inr g2
       ·exact absurd ⟨hR,g,g2⟩ hc
     simpa using this
  refine AW.of hΓ a0c [99999] _ _ _ rfl ?_
  simp only [go_sem,a02,a2T,a1M,a0T,a1V,a3p,hbad]
  have g1:(!a0I (-1) l)=false->(!!a0I (-1) l)=true:=fun h=>by rw [h];rfl
  exact⟨⟨hl,hs⟩,g1,fun h=>by rw [h];rfl,a3T _⟩
end Go.Proofs.YthpjjjnbkfnghaaGreatDoor
set_option maxRecDepth 100000
set_option maxHeartbeats 8000000
namespace Go.Proofs.YthpjjjnbkfnghaaGreatDoor
open Go
attribute [local irreducible] AW a0e a1g a0a
def c4L (l:List Hk):List (List UInt8):=l.flatMap fun h=>a0N 1 h.2.2
def d4Z (l:List Hk) (s:List UInt8):List UInt8×Int×Int:=if a2t l 0 0=true then c6W (a0b s) l 0 [] 0 else ([],11,-1)
end Go.Proofs.YthpjjjnbkfnghaaGreatDoor
namespace Go.Proofs.YthpjjjnbkfnghaaGreatDoor
open Go
def b3s (k:Int) (l:List StE):Int:=match l.getLast? with
 | some s=>s.1
 | none=>k
theorem c3W (k:Int) (s:StE):∀ l:List StE,b3s k (s::l)=b3s s.1 l
 | []=>rfl
 | t::l=>by
   unfold b3s
   rw [List.getLast?_cons_cons]
   cases h:(t::l).getLast? with
   | none=>simp at h
   | some x=>rfl
theorem a9H (k:Int) (l:List StE) (s:StE):b3s k (l++[s])=s.1:=by
 unfold b3s
 rw [List.getLast?_append,List.getLast?_singleton,Option.some_or]
theorem a5H:∀ {l:List StE} {k:Int} {s:StE},a0I k (l++[s])=true↔a0I k l=true/\((s.1=0\/s.1=1\/s.1=2)/\s.2.length≠0)/\(b3s k l≠s.1/\¬(b3s k l=2/\s.1=1))
 | [],k,s=>by
   rw [List.nil_append,a0A]
   constructor
   ·rintro⟨h1,h2,_⟩;exact⟨rfl,h1,h2⟩
   ·rintro⟨_,h1,h2⟩;exact⟨h1,h2,rfl⟩
 | t::l,k,s=>by
   rw [List.cons_append,a0A,a0A,a5H,c3W]
   constructor
   ·rintro⟨h1,h2,h3,h4,h5⟩;exact⟨⟨h1,h2,h3⟩,h4,h5⟩
   ·rintro⟨⟨h1,h2,h3⟩,h4,h5⟩;exact⟨h1,h2,h3,h4,h5⟩
theorem a6v {s:List StE} {k:Int} {ts:List (List UInt8)} (h:a0I (-1) s=true) (hk:k=0\/k=1\/k=2) (hf:b3s (-1) s=k\/(b3s (-1) s≠k/\¬(b3s (-1) s=2/\k=1))) :
  a0I (-1) (a3F s k ts)=true/\b3s (-1) (a3F s k ts)=if ts.length=0 then b3s (-1) s else k:=by
 by_cases h0:ts.length=0
 ·obtain rfl:=List.length_eq_zero_iff.1 h0
  rw [b2c]
  exact⟨h,by simp⟩
 ·rw [if_neg h0]
  rcases s.eq_nil_or_concat with rfl|⟨m,x,rfl⟩
  ·rw [a2e h0]
   exact⟨a0A.2 ⟨⟨hk,h0⟩,⟨by omega,by omega⟩,rfl⟩,rfl⟩
  ·rw [List.concat_eq_append] at h hf ⊢
   rw [a9H] at hf
   by_cases hx:x.1=k
   ·rw [a4e h0 hx,a9H]
    obtain⟨g1,g2,g3⟩:=a5H.1 h
    refine⟨a5H.2 ⟨g1,⟨hk,?_⟩,by rw [<-hx];exact g3⟩,rfl⟩
    dsimp only
    rw [List.length_append]
    omega
   ·rw [a5u h0 hx,a9H]
    refine⟨a5H.2 ⟨h,⟨hk,h0⟩,?_⟩,rfl⟩
    rw [a9H]
    rcases hf with hf|hf
    ·exact absurd hf hx
    ·exact hf
theorem b0E {a b:List (List UInt8)}:∀ (l:List (Int×Int)) (i k:Nat) (s:List StE),i<=a.length->rgt (b1b a b) (b01 a b) ((i:Int)-1) ((k:Int)-1) l=true->a0I (-1) s=true->(b3s (-1) s=-1\/b3s (-1) s=0)->a0I (-1) (ofG a b l i k s)=true
 | [],i,k,s,_,_,h,hl=>by
   rw [ofG]
   obtain⟨h1,e1⟩:=a6v (ts:=a.drop i) h (.inr (.inl rfl)) (.inr ⟨by omega,by omega⟩)
   refine (a6v h1 (.inr (.inr rfl)) (.inr ?_)).1
   rw [e1]
   split<;>omega
 | p::l,i,k,s,hi,hr,h,hl=>by
   rw [rgt] at hr
   simp only [Bool.and_eq_true,decide_eq_true_eq] at hr
   obtain⟨⟨c1,c2,c3,c4,_⟩,hr⟩:=hr
   rw [a8s] at c3
   rw [ofG]
   obtain⟨h1,e1⟩:=a6v (ts:=a1C a i p.1.toNat) h (.inr (.inl rfl)) (.inr ⟨by omega,by omega⟩)
   have f1:b3s (-1) (a3F s 1 (a1C a i p.1.toNat))=-1\/b3s (-1) (a3F s 1 (a1C a i p.1.toNat))=0\/b3s (-1) (a3F s 1 (a1C a i p.1.toNat))=1:=by
    rw [e1];split<;>omega
   obtain⟨h2,e2⟩:=a6v (ts:=a1C b k p.2.toNat) h1 (.inr (.inr rfl)) (.inr ⟨by omega,by omega⟩)
   obtain⟨h3,e3⟩:=a6v (ts:=a1C a p.1.toNat (p.1.toNat+1)) h2 (.inl rfl) (by
    rcases Int.decEq (b3s (-1) (a3F (a3F s 1 (a1C a i p.1.toNat)) 2 (a1C b k p.2.toNat))) 0 with g|g
    ·exact .inr ⟨g,by omega⟩
    ·exact .inl g)
   refine b0E l _ _ _ (by omega) ?_ h3 (.inr ?_)
   ·have t1:((p.1.toNat+1:Nat):Int)-1=p.1:=by omega
    have t2:((p.2.toNat+1:Nat):Int)-1=p.2:=by omega
    rw [t1,t2]
    exact hr
   ·rw [e3,if_neg]
    rw [a2q a (by omega)]
    omega
end Go.Proofs.YthpjjjnbkfnghaaGreatDoor
namespace Go.Proofs.YthpjjjnbkfnghaaGreatDoor
open Go
def wtT (f:List UInt8->Nat) (ts:List (List UInt8)):Nat:=(ts.map f).sum
def wtL (f:List UInt8->Nat) (l:List StE):Nat:=(l.map fun s=>wtT f s.2).sum
def wtH (f:List UInt8->Nat) (l:List Hk):Nat:=(l.map fun h=>wtL f h.2.2).sum
section
variable (f:List UInt8->Nat)
theorem a8U (a b:List (List UInt8)):wtT f (a++b)=wtT f a+wtT f b:=by simp [wtT]
theorem c2Y (a b:List StE):wtL f (a++b)=wtL f a+wtL f b:=by simp [wtL]
theorem c9q (a b:List Hk):wtH f (a++b)=wtH f a+wtH f b:=by simp [wtH]
theorem c9a (ts:List (List UInt8)) {a b:Nat} (h:a+b<=ts.length):wtT f (ts.take a)+wtT f (ts.drop (ts.length-b))<=wtT f ts:=by
 have e:ts=ts.take a++((ts.drop a).take (ts.length-b-a)++(ts.drop a).drop (ts.length-b-a)):=by
  rw [List.take_append_drop,List.take_append_drop]
 have e2:(ts.drop a).drop (ts.length-b-a)=ts.drop (ts.length-b):=by
  rw [List.drop_drop];congr 1;omega
 rw [e2] at e
 have:=congrArg (wtT f) e
 rw [a8U,a8U] at this
 omega
theorem b3a (l:List StE) (k:Int) (ts:List (List UInt8)):wtL f (a3Q l k ts)=wtL f l+wtT f ts:=by
 by_cases h:ts.length=0
 ·obtain rfl:=List.length_eq_zero_iff.1 h
  rw [a6R];rfl
 ·rw [a4p h,c2Y]
  simp [wtL]
theorem c7f (hs:List Hk) (o:Hk):wtH f (a62 hs o)<=wtH f hs+wtL f o.2.2:=by
 unfold a62
 split
 ·rw [c9q];simp [wtH]
 ·omega
theorem c90 (n:Nat) (b t:Bool) (s:StE) (q:Os):wtH f (a3G n b t s q).1+wtL f (a3G n b t s q).2.1.2.2<=wtH f q.1+wtL f q.2.1.2.2+wtT f s.2:=by
 unfold a3G
 split
 ·dsimp only
  rw [b3a];omega
 ·split
  ·dsimp only
   rw [b3a];omega
  ·rename_i h1 h2
   dsimp only
   have c1:=c7f f q.1 (q.2.1.1,q.2.1.2.1,a3Q q.2.1.2.2 0 (s.2.take (bhP n b s)))
   dsimp only at c1
   rw [b3a] at c1
   rw [b3a]
   have c2:bhP n b s+ahP n t s<=s.2.length:=by
    unfold bhP ahP
    cases b<;>cases t<;>simp at h2 ⊢<;>omega
   have c3:=c9a f s.2 c2
   have c4:wtL f []=0:=rfl
   omega
theorem c6Q (L:List StE) (n:Nat):∀ i,i<=L.length->wtH f (ofI L n i).1+wtL f (ofI L n i).2.1.2.2<=wtL f (L.take i)
 | 0,_=>by simp [ofI,wtH,wtL]
 | i+1,h=>by
   have ih:=c6Q L n i (by omega)
   have st:=c90 f n (decide (i=0)) (decide (i+1=L.length)) (L.getD i (0,[])) (ofI L n i)
   rw [ofI,a1f L (0,[]) (by omega),c2Y]
   have e:wtL f [L.getD i (0,[])]=wtT f (L.getD i (0,[])).2:=by simp [wtL]
   omega
theorem c2i (L:List StE) (n:Nat):wtH f (ofP L n)<=wtL f L:=by
 have h:=c6Q f L n L.length (Nat.le_refl _)
 rw [List.take_length] at h
 have c:=c7f f (ofI L n L.length).1 (ofI L n L.length).2.1
 unfold ofP
 omega
theorem b3q (L:List StE):wtL f L<=wtT f (a0N 2 L)+wtT f (a0N 1 L):=by
 induction L with
 | nil=>exact Nat.zero_le _
 | cons s L ih=>
   rw [a1O,a1O,a8U,a8U]
   have e:wtL f (s::L)=wtT f s.2+wtL f L:=by simp [wtL]
   rw [e]
   have z:wtT f []=0:=rfl
   by_cases h2:s.1=2
   ·rw [if_pos h2,if_neg (by omega)]
    omega
   ·rw [if_neg h2]
    omega
theorem a9M {n:Nat}:∀ {l:List Nat},n∈l->n<=l.sum
 | m::l,h=>by
   rw [List.sum_cons]
   rcases List.mem_cons.1 h with rfl|h
   ·omega
   ·have:=a9M h;omega
theorem c88 {ts:List (List UInt8)} {t:List UInt8} (h:t∈ts):f t<=wtT f ts:=by
 unfold wtT
 exact a9M (List.mem_map_of_mem h)
theorem b4T {l:List StE} {s:StE} (h:s∈l):wtT f s.2<=wtL f l:=by
 unfold wtL
 exact a9M (List.mem_map_of_mem (f:=fun s:StE=>wtT f s.2) h)
theorem c0A {l:List Hk} {s:Hk} (h:s∈l):wtL f s.2.2<=wtH f l:=by
 unfold wtH
 exact a9M (List.mem_map_of_mem (f:=fun s:Hk=>wtL f s.2.2) h)
theorem b9E (j:Int) (l:List StE):wtT f (a0N j l)<=wtL f l:=by
 induction l with
 | nil=>exact Nat.zero_le _
 | cons s l ih=>
   rw [a1O,a8U]
   have e:wtL f (s::l)=wtT f s.2+wtL f l:=by simp [wtL]
   have z:wtT f []=0:=rfl
   rw [e]
   split<;>omega
theorem c7P (l:List Hk):wtT f (c4L l)<=wtH f l:=by
 induction l with
 | nil=>exact Nat.zero_le _
 | cons h l ih=>
   have e:c4L (h::l)=a0N 1 h.2.2++c4L l:=rfl
   have e2:wtH f (h::l)=wtL f h.2.2+wtH f l:=by simp [wtH]
   have:=b9E f 1 h.2.2
   rw [e,e2,a8U]
   omega
end
theorem b1V (ts:List (List UInt8)):wtT (fun _=>1) ts=ts.length:=by
 induction ts with
 | nil=>rfl
 | cons t ts ih=>unfold wtT at ih ⊢;rw [List.map_cons,List.sum_cons,ih,List.length_cons];omega
theorem b2w (ts:List (List UInt8)):wtT List.length ts=ts.flatten.length:=by
 induction ts with
 | nil=>rfl
 | cons t ts ih=>unfold wtT at ih ⊢;rw [List.map_cons,List.sum_cons,ih,List.flatten_cons,List.length_append]
theorem c1f (c:Nat) (ts:List (List UInt8)):wtT (fun t=>t.length+c) ts=ts.flatten.length+c*ts.length:=by
 induction ts with
 | nil=>rfl
 | cons t ts ih=>unfold wtT at ih ⊢;rw [List.map_cons,List.sum_cons,ih,List.flatten_cons,List.length_append,List.length_cons,Nat.mul_add];omega
theorem c0K {l:List StE} (h:∀ s∈l,s.2.length≠0):l.length<=wtL (fun _=>1) l:=by
 induction l with
 | nil=>exact Nat.zero_le _
 | cons s l ih=>
   have e:wtL (fun _=>1) (s::l)=wtT (fun _=>1) s.2+wtL (fun _=>1) l:=by simp [wtL]
   have h1:=h s (List.mem_cons_self ..)
   have h2:=ih fun x hx=>h x (List.mem_cons_of_mem _ hx)
   rw [b1V] at e
   rw [e,List.length_cons]
   omega
theorem b4A:∀ {l:List Hk} {n s:Int},a2t l n s=true->∀ h∈l,b02 h.2.2=true
 | [],_,_,_,h,hm=>by cases hm
 | g::r,n,s,hr,h,hm=>by
   rw [a2t,Bool.and_eq_true] at hr
   rcases List.mem_cons.1 hm with rfl|hm
   ·have:=hr.1
    unfold b49 at this
    simp only [Bool.and_eq_true] at this
    exact this.1.2.1
   ·exact b4A hr.2 h hm
theorem c7R {l:List Hk} (h:∀ x∈l,1<=wtL (fun _=>1) x.2.2):l.length<=wtH (fun _=>1) l:=by
 induction l with
 | nil=>exact Nat.zero_le _
 | cons s l ih=>
   have e:wtH (fun _=>1) (s::l)=wtL (fun _=>1) s.2.2+wtH (fun _=>1) l:=by simp [wtH]
   have h1:=h s (List.mem_cons_self ..)
   have h2:=ih fun x hx=>h x (List.mem_cons_of_mem _ hx)
   rw [e,List.length_cons]
   omega
theorem c7U (k:Int) (t:List UInt8):(a68 k t).length<=t.length+12:=by
 unfold a68
 split
 ·simp
 ·simp [b1x]
theorem c4F (k:Int) (ts:List (List UInt8)):(a2m k ts).length<=wtT (fun t=>t.length+12) ts:=by
 induction ts with
 | nil=>exact Nat.zero_le _
 | cons t ts ih=>
   have:=c7U k t
   unfold a2m at ih ⊢
   unfold wtT at ih ⊢
   rw [List.map_cons,List.flatten_cons,List.length_append,List.map_cons,List.sum_cons]
   omega
theorem c5P (l:List StE):(a2A l).length<=wtL (fun t=>t.length+12) l:=by
 induction l with
 | nil=>exact Nat.zero_le _
 | cons s l ih=>
   have:=c4F s.1 s.2
   have e:wtL (fun t=>t.length+12) (s::l)=wtT (fun t=>t.length+12) s.2+wtL (fun t=>t.length+12) l:=by simp [wtL]
   have e2:a2A (s::l)=a2m s.1 s.2++a2A l:=rfl
   rw [e,e2,List.length_append]
   omega
theorem b7e {L:List StE} {x y:List (List UInt8)} (hr:a0I (-1) L=true) (hx:a0N 2 L=x) (hy:a0N 1 L=y) (wx:a07 x=true) (wy:a07 y=true) (hc:x.length+y.length<10000) (hb:x.flatten.length+y.flatten.length<=1000000) (n:Nat) :
  (L.length<10000/\∀ s∈L,s.2.length<=10000)/\d4e (ofP L n)/\((c4L (ofP L n)).length<=50000000/\(c4L (ofP L n)).flatten.length<=10000000000)/\(∀ h∈ofP L n,(0<=h.1/\h.1<=1000000)/\0<=h.2.1/\h.2.1<=100000000)/\(a6G (ofP L n)).length<=5000000/\∀ h∈ofP L n,e0k h:=by
 obtain⟨hR,_,hB⟩:=b4Y hr hx hy wx wy (by omega) n
 have s1:=b3q (fun _=>1) L
 have s2:=b3q List.length L
 have s3:=b3q (fun t=>t.length+12) L
 rw [hx,hy,b1V,b1V] at s1
 rw [hx,hy,b2w,b2w] at s2
 rw [hx,hy,c1f,c1f] at s3
 have o1:=c2i (fun _=>1) L n
 have o2:=c2i List.length L n
 have o3:=c2i (fun t=>t.length+12) L n
 have st1:∀ h∈ofP L n,d8v h.2.2:=fun h hh=>by
  have r:=a77 hR h hh
  have m1:=c0A (fun _=>1) hh
  have m2:=c0A List.length hh
  refine⟨⟨?_,fun s hs=>?_⟩,fun s hs t ht=>?_,fun j=>?_⟩
  ·have:=c0K (b3g r)
   omega
  ·have:=b4T (fun _=>1) hs
   rw [b1V] at this
   omega
  ·have a1:=b4T List.length hs
   have a2:=c88 List.length ht
   omega
  ·have:=b9E List.length j h.2.2
   rw [b2w] at this
   omega
 have hlen:(ofP L n).length<=wtH (fun _=>1) (ofP L n):=c7R fun h hh=>by
  have r:=a77 hR h hh
  have c:=b4A hR h hh
  have:=c0K (b3g r)
  have:h.2.2≠[]:=fun e=>by rw [e] at c;cases c
  have:=List.length_pos_iff.2 this
  omega
 refine⟨⟨?_,fun s hs=>?_⟩,⟨by omega,st1⟩,⟨?_,?_⟩,fun h hh=>?_,?_,fun h hh=>?_⟩
 ·have:=c0K (b3g hr)
  omega
 ·have:=b4T (fun _=>1) hs
  rw [b1V] at this
  omega
 ·have:=c7P (fun _=>1) (ofP L n)
  rw [b1V] at this
  omega
 ·have:=c7P List.length (ofP L n)
  rw [b2w] at this
  omega
 ·obtain⟨b1,b2,b3⟩:=hB h hh
  obtain⟨g1,g2,_⟩:=a9q hR h hh
  omega
 ·have key:∀ l:List Hk,(∀ h∈l,h∈ofP L n)->(a6G l).length<=80*l.length+wtH (fun t=>t.length+12) l:=by
   intro l
   induction l with
   | nil=>exact fun _=>Nat.zero_le _
   | cons h l ih=>
     intro hm
     have hh:=hm h (List.mem_cons_self ..)
     have ih:=ih fun x hx=>hm x (List.mem_cons_of_mem _ hx)
     obtain⟨b1,b2,b3⟩:=hB h hh
     obtain⟨g1,g2,_⟩:=a9q hR h hh
     obtain⟨⟨k1,k2⟩,_⟩:=st1 h hh
     have c0:=Nat.le_trans (a29 k2 0) (Nat.mul_le_mul_right _ (show h.2.2.length<=10000 by omega))
     have c1:=Nat.le_trans (a29 k2 1) (Nat.mul_le_mul_right _ (show h.2.2.length<=10000 by omega))
     have c2:=Nat.le_trans (a29 k2 2) (Nat.mul_le_mul_right _ (show h.2.2.length<=10000 by omega))
     have l1:=a7H (a:=h.1) (n:=(a0G 0 h.2.2:Int)+a0G 1 h.2.2) b1 (by omega) (by omega) (by omega)
     have l2:=a7H (a:=h.2.1) (n:=(a0G 0 h.2.2:Int)+a0G 2 h.2.2) b2 (by omega) (by omega) (by omega)
     have e:a6G (h::l)=a6Y h++a2A h.2.2++a6G l:=rfl
     have e2:wtH (fun t=>t.length+12) (h::l)=wtL (fun t=>t.length+12) h.2.2+wtH (fun t=>t.length+12) l:=by simp [wtH]
     have e3:=c5P h.2.2
     have e4:(a6Y h).length<=80:=by
      unfold a6Y
      simp only [List.length_append,d8g,d8U,e0f,List.length_cons,List.length_nil]
      omega
     rw [e,e2,List.length_append,List.length_append,List.length_cons]
     omega
  have:=key (ofP L n) fun _ h=>h
  omega
 ·obtain⟨b1,b2,b3⟩:=hB h hh
  obtain⟨g1,g2,g3⟩:=a9q hR h hh
  exact⟨⟨b1,g2,b2,by omega⟩,g1,g3⟩
end Go.Proofs.YthpjjjnbkfnghaaGreatDoor
set_option maxRecDepth 100000
set_option maxHeartbeats 8000000
namespace Go.Proofs.YthpjjjnbkfnghaaGreatDoor
open Go
inductive Rd where
 | e
 | h (l:List Hk) (A B:Int)
 | s (l:List Hk) (A B:Int) (st:List StE) (k:Int) (ts:List (List UInt8)) (t:List UInt8)
def Rd.val:Rd->List Hk
 | .e=>[]
 | .h l A B=>l++[(A,B,[])]
 | .s l A B st k ts t=>l++[(A,B,st++[(k,ts++[t])])]
def Rd.len:Rd->Nat
 | .e=>0
 | .h l _ _=>l.length+1
 | .s l _ _ _ _ _ _=>l.length+1
def Rd.small (n:Nat):Rd->Prop
 | .e=>True
 | .h l _ _=>l.length<n
 | .s l _ _ st _ ts t=>l.length+st.length+ts.length<n/\t.length<=1000000000
def Rd.rows (v v1 v2:Nat):Rd->List (Nat×Row)
 | .e=>[(0,rHk v [])]
 | .h l A B=>[(0,rHx v l A B .em)]
 | .s l A B st k ts t=>[(0,rHx v l A B (.ow 1 v1 (st.length+1))),(1,rSx v1 st k (.ow 2 v2 (ts.length+1))),(2,a05 v2 9 eS (ts++[t]))]
attribute [local irreducible] AW a0e a1g a0a
def c9W (l:List Hk):Prop:=a2t l 0 0=true/\(∀ x∈l,e0k x)/\d4e l/\(∀ h∈l,(0<=h.1/\h.1<=1000000)/\0<=h.2.1/\h.2.1<=100000000)/\(a6G l).length<=50000000
def Rd.at (s:List UInt8) (ls:List (List UInt8)) (i:Nat) (x:Rd) (v v1 v2 nx:Nat):AS:=
 (Sh.mk [(0,.st s),(4,.ow 0 v x.len),(10,sL eS ls),(11,.val (.int .i64 ls.length)),(12,.val (.int .i64 i))] (x.rows v v1 v2) 43 3 nx []).st
theorem Rd.small.len {n:Nat} {x:Rd} (h:x.small n):x.val.length<=n:=by
 cases x with
 | e=>exact Nat.zero_le _
 | h l A B=>
   have h:l.length<n:=h
   simp [Rd.val];omega
 | s l A B st k ts t=>
   obtain⟨h,_⟩:l.length+st.length+ts.length<n/\t.length<=1000000000:=h
   simp [Rd.val];omega
end Go.Proofs.YthpjjjnbkfnghaaGreatDoor
set_option maxRecDepth 100000
set_option maxHeartbeats 8000000
namespace Go.Proofs.YthpjjjnbkfnghaaGreatDoor
open Go
attribute [local irreducible] AW a0e a1g a0a
theorem b3K:a6M (a0b [97,10]) (a0b [98,10])=[]/\a6M (a0b [97,10]) (a0b [99,10])=[]:=by decide +kernel
theorem c27:a5O (a04 [97,10] [98,10] [99,10])=[(false,(0,1),(0,1),(0,1))]:=by
 have h:=b3K
 unfold a5O d1y a04
 dsimp only
 rw [h.1,h.2,a78]
 decide
theorem c7Z:a7w [97,10] [98,10] [99,10] 0 ([],[],[]) 0=[([],[],[],true,[],[98,10],[],[99,10],false)]:=by
 unfold a7w
 rw [c27]
 decide +kernel
theorem d0c:b4x [97,10] [98,10] [99,10] (([],[],[]),0,7,0)=([([],[],[],true,[],[98,10],[],[99,10],false)],[],[],[(false,(0,1),(0,1),(0,1))],
  [60,60,60,60,60,60,60,10,98,10,61,61,61,61,61,61,61,10,99,10,62,62,62,62,62,62,62,10],7,1):=by
 have h:=b3K
 unfold b4x
 rw [if_pos (by decide)]
 unfold d1b
 dsimp only
 rw [c7Z,c27,h.1,h.2]
 have e1:a6Z 7 [97,10] [98,10] [99,10]=7:=by decide +kernel
 have e2:a1y 7 [([],[],[],true,[],[98,10],[],[99,10],false)]=[60,60,60,60,60,60,60,10,98,10,61,61,61,61,61,61,61,10,99,10,62,62,62,62,62,62,62,10]:=by decide +kernel
 have e3:b4G (a04 [97,10] [98,10] [99,10]) [(false,(0,1),(0,1),(0,1))]=1:=by decide +kernel
 rw [e1,e2,e3]
 rfl
end Go.Proofs.YthpjjjnbkfnghaaGreatDoor
set_option maxRecDepth 100000
set_option maxHeartbeats 8000000
namespace Go.Proofs.YthpjjjnbkfnghaaGreatDoor
open Go
def a5W (x y:List (List UInt8)):List StE:=ofG x y (a3N (b1b x y) (b01 x y)) 0 0 []
structure d71 (a b:List UInt8) (n:Nat):Prop where
 len:(a5W (a0b a) (a0b b)).length<10000
 each:∀ s∈a5W (a0b a) (a0b b),s.2.length<=10000
 right:a0I (-1) (a5W (a0b a) (a0b b))=true
 blen:(a2G (a5W (a0b a) (a0b b))).length<10000
 beach:∀ s∈a2G (a5W (a0b a) (a0b b)),s.2.length<=10000
 bright:a0I (-1) (a2G (a5W (a0b a) (a0b b)))=true
 good:c9W (ofP (a5W (a0b a) (a0b b)) n)
 bgood:c9W (ofP (a2G (a5W (a0b a) (a0b b))) n)
 new:(c4L (ofP (a5W (a0b a) (a0b b)) n)).length<=50000000/\(c4L (ofP (a5W (a0b a) (a0b b)) n)).flatten.length<=10000000000
 bnew:(c4L (ofP (a2G (a5W (a0b a) (a0b b))) n)).length<=50000000/\(c4L (ofP (a2G (a5W (a0b a) (a0b b))) n)).flatten.length<=10000000000
 app:d4Z (ofP (a5W (a0b a) (a0b b)) n) a=(b,0,-1)
 bapp:d4Z (ofP (a2G (a5W (a0b a) (a0b b))) n) b=(a,0,-1)
theorem d2d {a b:List UInt8} (hl:(a0b a).length+(a0b b).length<10000) (hb:a.length+b.length<=1000000) (n:Nat):d71 a b n:=by
 have wa:=a2Z _ a (Nat.le_refl _)
 have wb:=a2Z _ b (Nat.le_refl _)
 have hg:=a4X (b1b (a0b a) (a0b b)) (b01 (a0b a) (a0b b))
 have h1:a0I (-1) (a5W (a0b a) (a0b b))=true:=b0E _ 0 0 [] (Nat.zero_le _) hg rfl (.inl rfl)
 obtain⟨h2,h3,_⟩:=d1p hg
 have h2:a0N 2 (a5W (a0b a) (a0b b))=a0b a:=h2
 have h3:a0N 1 (a5W (a0b a) (a0b b))=a0b b:=h3
 obtain⟨h4,h5,_⟩:=b4Y h1 h2 h3 wa wb (by omega) n
 have b1:=(c5J h1).1
 obtain⟨h6,h7,_⟩:=b4Y b1 ((c2f _).trans h3) ((c2w _).trans h2) wb wa (by omega) n
 have fa:=a1j a
 have fb:=a1j b
 obtain⟨⟨s1,s2⟩,s3,s4,s5,s6,s7⟩:=b7e h1 h2 h3 wa wb hl (by rw [fa,fb];exact hb) n
 obtain⟨⟨t1,t2⟩,t3,t4,t5,t6,t7⟩:=b7e b1 ((c2f _).trans h3) ((c2w _).trans h2) wb wa (by omega) (by rw [fa,fb];omega) n
 refine⟨s1,s2,h1,t1,t2,b1,⟨h4,s7,s3,s5,by omega⟩,⟨h6,t7,t3,t5,by omega⟩,s4,t4,?_,?_⟩
 ·unfold d4Z
  rw [if_pos h4,h5,fb]
 ·unfold d4Z
  rw [if_pos h6,h7,fa]
attribute [local irreducible] AW a0e a1g a0a
end Go.Proofs.YthpjjjnbkfnghaaGreatDoor
set_option maxRecDepth 100000
set_option maxHeartbeats 8000000
namespace Go.Proofs.YthpjjjnbkfnghaaGreatDoor
open Go
attribute [local irreducible] AW a0e a1g a0a a6w
theorem a7X (s:List StE) (k:Int):a3F s k []=s:=rfl
theorem b7C (x:List BS):∀ (m k:Nat),k+m=x.length->ofG x x ((List.range' k m).map fun r:Nat=>((r:Int),(r:Int))) k k (a3F [] 0 (x.take k))=a3F [] 0 x
 | 0,k,h=>by
   have e:x.drop k=[]:=List.drop_eq_nil_of_le (by omega)
   have e2:x.take k=x:=List.take_of_length_le (by omega)
   rw [List.range'_zero,List.map_nil,ofG,e,a7X,a7X,e2]
 | m+1,k,h=>by
   have hk:k<x.length:=by omega
   rw [List.range'_succ,List.map_cons,ofG]
   dsimp only
   rw [Int.toNat_natCast,b3X,a7X,a7X,b7b hk]
   have e:a3F (a3F [] 0 (x.take k)) 0 [x.getD k []]=a3F [] 0 (x.take (k+1)):=by
    rw [a1f x [] hk]
    by_cases h0:(x.take k).length=0
    ·have:x.take k=[]:=List.length_eq_zero_iff.1 h0
     rw [this]
     rfl
    ·rw [a2e h0,a2e (k:=0) (ts:=x.take k++[x.getD k []]) (by simp)]
     rfl
   rw [e]
   exact b7C x m (k+1) (by omega)
theorem b0l (x:List BS):a5W x x=a3F [] 0 x:=by
 have h:=b7C x x.length 0 (by omega)
 have e:a6M x x=(List.range' 0 x.length).map fun r:Nat=>((r:Int),(r:Int)):=by
  rw [c5R]
  unfold prs
  rw [List.range_eq_range']
  refine List.map_congr_left fun r _=>?_
  rw [Int.zero_add]
 unfold a5W
 have e2:a3N (b1b x x) (b01 x x)=a6M x x:=rfl
 rw [e2,e]
 exact h
theorem c5V (x:List BS) (n:Nat):ofP (a3F [] 0 x) n=[]:=by
 by_cases h:x.length=0
 ·have:x=[]:=List.length_eq_zero_iff.1 h
  rw [this]
  rfl
 ·rw [a2e h]
  unfold ofP
  have e:ofI [((0:Int),x)] n [((0:Int),x)].length=a3G n true true (0,x) ([],(0,0,[]),0,0):=rfl
  rw [e]
  unfold a3G
  rw [if_neg (by simp),if_neg (by simp)]
  simp [bhP,ahP,a62,a3Q,b02]
structure b8c (a b:BS) (n:Nat):Prop where
 len:(a5W (a0b a) (a0b b)).length<10000
 each:∀ s∈a5W (a0b a) (a0b b),s.2.length<=10000
 right:a0I (-1) (a5W (a0b a) (a0b b))=true
 good:c9W (ofP (a5W (a0b a) (a0b b)) n)
theorem c1E {a b:BS} (h:a.length+b.length<=9500) (n:Nat):b8c a b n:=by
 have h1:=a0M a
 have h2:=a0M b
 have hs:=d2d (a:=a) (b:=b) (by omega) (by omega) n
 exact⟨hs.len,hs.each,hs.right,hs.good⟩
theorem c3L {a:BS} (h:a.length<=9500) (n:Nat):b8c a a n:=by
 have h1:=a0M a
 have hg:=a4X (b1b (a0b a) (a0b a)) (b01 (a0b a) (a0b a))
 have hr:a0I (-1) (a5W (a0b a) (a0b a))=true:=b0E _ 0 0 [] (Nat.zero_le _) hg rfl (.inl rfl)
 refine⟨?_,?_,hr,?_⟩
 ·rw [b0l]
  exact Nat.lt_of_le_of_lt (a6P [] 0 _) (by decide)
 ·rw [b0l]
  intro s hs
  by_cases h0:(a0b a).length=0
  ·rw [List.length_eq_zero_iff.1 h0] at hs
   cases hs
  ·rw [a2e h0,List.mem_singleton] at hs
   rw [hs]
   show (a0b a).length<=_
   omega
 ·rw [b0l,c5V]
  exact⟨rfl,fun x hx=>absurd hx (by simp),⟨by simp,fun x hx=>absurd hx (by simp)⟩,fun x hx=>absurd hx (by simp),Nat.zero_le _⟩
noncomputable def b2X (a b:BS) (n:Nat):BS:=a3V (ofP (a5W (a0b a) (a0b b)) n)
theorem b0T {a b:BS} {n:Nat} (h:b8c a b n):(b2X a b n).length<=50000000:=by
 obtain⟨p1,p2,p3,p4,p5⟩:=h.good
 unfold b2X a3V
 rw [if_pos p1]
 exact p5
noncomputable def a2z (line:List UInt8) (a:Ss):List UInt8:=if (wdL line).length=3/\0<=a4v ((wdL line).getD 1 [])/\0<=a8x ((wdL line).getD 2 [])/\a8x ((wdL line).getD 2 [])<=100 then a7n (b2X a.1.1 (txt a (a4v ((wdL line).getD 1 []))) (a8x ((wdL line).getD 2 [])).toNat) else a0V
noncomputable def c10 (xs:List AV) (a:Ss) (r:AV) (b:Ss):Prop:=∃ line:List UInt8,xs=[sL eS (wdL line).tail]/\line.length<=1000/\a.1.1.length+a.1.2.1.length+a.1.2.2.length<=9400/\r=.st (a2z line a)/\b=a
noncomputable def c1l:a0L:=sSh c10
theorem c5a:a0i Tryz.prog 64 c1l:=by
 refine a0i.mk Tryz.func64 rfl (by decide) Tryz.results64 Tryz.ntmps64 ?_
 rintro args hp top nx K ⟨v,v1,v2,v3,v4,xs,a,r,b,rfl,⟨line,rfl,hl,hs,rfl,rfl⟩,rfl,rfl,hK⟩
 have hΓ:GOK Tryz.prog (gam [(112,a0j),(114,a0h),(26,a0v),(27,a0u),(30,a0W),(29,a4a),(10,a39),(32,a0F),(120,a0n)]):=(.cons b5u (.cons a7P (.cons b17 (.cons b13 (.cons b9K (.cons d7K (.cons d6e (.cons c4Y (.cons b2E .nil)))))))))
 refine⟨Nat.le_of_ble_eq_true rfl,AW.late ?_⟩
 have hg:=b5f line 2
 have hk:=a0U hK rfl
 by_cases h2:(wdL line).length=3
 ·have hI:((wdL line).tail.length:Int)=2:=by rw [List.length_tail];omega
  refine AW.of hΓ a0c [200007,200009] _ _ _ rfl ?_
  simp only [go_sem,a0j,a0h,a0v,a0u,a0W,a4a,a39,a0F,a0n,hI,a1n]
  generalize hw:(wdL line).getD 1 []=w1 at *
  generalize hw2:(wdL line).getD 2 []=w2 at *
  refine b5J (by exact (by decide:0<5)) (a0a.refl _) fun nx1 hn1=>?_
  cases hn:a6w w2 with
  | none=>
    have e:a2z line b=a0V:=by unfold a2z;rw [if_neg fun h=>by rw [hw2,a5Z hn] at h;exact absurd h.2.2.1 (by decide)]
    rw [e] at hk
    rcases c3j w1 with⟨f1,f2⟩|⟨f1,f2⟩|⟨f1,f2⟩|⟨f1,f2⟩
    ·rw [f1,f2]
     simp only [go_sem,a0j,a0h,a0v,a0u,a0W,a4a,a39,a0F,a0n,a4i,a1n,hw2,hn,nuO]
     refine⟨by omega,by omega,?_⟩
     refine⟨_,a0g (fun p=>p) (l:=[(4,.st (a0V))]) (r:=[(0,.box v 106 10 (shC 1 2 3 4 v1 v2 v3 v4 b)),(1,a0m v1 b.1.1),(2,a0m v2 b.1.2.1),(3,a0m v3 b.1.2.2),(4,mgR v4 b.2.2)]) (sz:=77) (top:=5) (nx:=nx1) (df:=[]) ?_,?_⟩
     ·simp only [go_sem,a0j,a0h,a0v,a0u,a0W,a4a,a39,a0F,a0n]
      exact⟨a0a.refl _,a0a.refl _,a0a.refl _,a0a.refl _,a0a.refl _⟩
     ·simp only [go_sem,a0j,a0h,a0v,a0u,a0W,a4a,a39,a0F,a0n]
      exact hk v1 v2 v3 nx1 (.inl rfl) (.inl rfl) (.inl rfl) hn1
    ·rw [f1,f2]
     simp only [go_sem,a0j,a0h,a0v,a0u,a0W,a4a,a39,a0F,a0n,a4i,a1n,hw2,hn,nuO]
     refine⟨by omega,by omega,?_⟩
     refine⟨_,a0g (fun p=>p) (l:=[(4,.st (a0V))]) (r:=[(0,.box v 106 10 (shC 1 2 3 4 v1 v2 v3 v4 b)),(1,a0m v1 b.1.1),(2,a0m v2 b.1.2.1),(3,a0m v3 b.1.2.2),(4,mgR v4 b.2.2)]) (sz:=77) (top:=5) (nx:=nx1) (df:=[]) ?_,?_⟩
     ·simp only [go_sem,a0j,a0h,a0v,a0u,a0W,a4a,a39,a0F,a0n]
      exact⟨a0a.refl _,a0a.refl _,a0a.refl _,a0a.refl _,a0a.refl _⟩
     ·simp only [go_sem,a0j,a0h,a0v,a0u,a0W,a4a,a39,a0F,a0n]
      exact hk v1 v2 v3 nx1 (.inl rfl) (.inl rfl) (.inl rfl) hn1
    ·rw [f1,f2]
     simp only [go_sem,a0j,a0h,a0v,a0u,a0W,a4a,a39,a0F,a0n,a4i,a1n,hw2,hn,nuO]
     refine⟨by omega,by omega,?_⟩
     refine⟨_,a0g (fun p=>p) (l:=[(4,.st (a0V))]) (r:=[(0,.box v 106 10 (shC 1 2 3 4 v1 v2 v3 v4 b)),(1,a0m v1 b.1.1),(2,a0m v2 b.1.2.1),(3,a0m v3 b.1.2.2),(4,mgR v4 b.2.2)]) (sz:=77) (top:=5) (nx:=nx1) (df:=[]) ?_,?_⟩
     ·simp only [go_sem,a0j,a0h,a0v,a0u,a0W,a4a,a39,a0F,a0n]
      exact⟨a0a.refl _,a0a.refl _,a0a.refl _,a0a.refl _,a0a.refl _⟩
     ·simp only [go_sem,a0j,a0h,a0v,a0u,a0W,a4a,a39,a0F,a0n]
      exact hk v1 v2 v3 nx1 (.inl rfl) (.inl rfl) (.inl rfl) hn1
    ·rw [f1,f2]
     simp only [go_sem,a0j,a0h,a0v,a0u,a0W,a4a,a39,a0F,a0n,a4i,a1n,hw2,hn,nuO]
     refine⟨by omega,by omega,?_⟩
     refine⟨_,a0g (fun p=>p) (l:=[(4,.st (a0V))]) (r:=[(0,.box v 106 10 (shC 1 2 3 4 v1 v2 v3 v4 b)),(1,a0m v1 b.1.1),(2,a0m v2 b.1.2.1),(3,a0m v3 b.1.2.2),(4,mgR v4 b.2.2)]) (sz:=77) (top:=5) (nx:=nx1) (df:=[]) ?_,?_⟩
     ·simp only [go_sem,a0j,a0h,a0v,a0u,a0W,a4a,a39,a0F,a0n]
      exact⟨a0a.refl _,a0a.refl _,a0a.refl _,a0a.refl _,a0a.refl _⟩
     ·simp only [go_sem,a0j,a0h,a0v,a0u,a0W,a4a,a39,a0F,a0n]
      exact hk v1 v2 v3 nx1 (.inl rfl) (.inl rfl) (.inl rfl) hn1
  | some n=>
    by_cases hle:n<=100
    ·have hI2:((100:Int)<(n:Int))=False:=eq_false (by omega)
     have hr:a8x w2=n:=a3x hn
     rcases c3j w1 with⟨f1,f2⟩|⟨f1,f2⟩|⟨f1,f2⟩|⟨f1,f2⟩
     ·have e:a2z line b=a0V:=by unfold a2z;rw [if_neg fun h=>by rw [hw,f1] at h;exact absurd h.2.1 (by decide)]
      rw [e] at hk
      rw [f1,f2]
      simp only [go_sem,a0j,a0h,a0v,a0u,a0W,a4a,a39,a0F,a0n,a4i,a1n,hw2,hn,nuO,hI2]
      refine⟨by omega,by omega,?_⟩
      refine⟨_,a0g (fun p=>p) (l:=[(4,.st (a0V))]) (r:=[(0,.box v 106 10 (shC 1 2 3 4 v1 v2 v3 v4 b)),(1,a0m v1 b.1.1),(2,a0m v2 b.1.2.1),(3,a0m v3 b.1.2.2),(4,mgR v4 b.2.2)]) (sz:=77) (top:=5) (nx:=nx1) (df:=[]) ?_,?_⟩
      ·simp only [go_sem,a0j,a0h,a0v,a0u,a0W,a4a,a39,a0F,a0n]
       exact⟨a0a.refl _,a0a.refl _,a0a.refl _,a0a.refl _,a0a.refl _⟩
      ·simp only [go_sem,a0j,a0h,a0v,a0u,a0W,a4a,a39,a0F,a0n]
       exact hk v1 v2 v3 nx1 (.inl rfl) (.inl rfl) (.inl rfl) hn1
     ·have hd:b8c b.1.1 b.1.1 n:=c3L (by omega) n
      have e:a2z line b=a7n (b2X b.1.1 b.1.1 n):=by
       unfold a2z
       rw [hw,hw2,f1,hr,if_pos ⟨h2,by decide,by omega,by omega⟩]
       rfl
      rw [e] at hk
      have hdl:=b0T hd
      obtain⟨p1,p2,p3,p4,p5⟩:=hd.good
      have q1:=hd.len
      have q2:=hd.each
      have q3:=hd.right
      have la:=a0M b.1.1
      have lb:=a0M b.1.1
      have n0:((a2y [] [a0b b.1.1,a0b b.1.1]).getD 0 []).length=(a0b b.1.1).length:=by simp [a2y,a3t]
      have n1:((a2y [] [a0b b.1.1,a0b b.1.1]).getD 1 []).length=(a0b b.1.1).length:=by simp [a2y,a3t]
      have n3:(a2y [] [a0b b.1.1,a0b b.1.1]).length=2:=by rw [a3X];rfl
      have hr2:rgt (b1b (a0b b.1.1) (a0b b.1.1)) (b01 (a0b b.1.1) (a0b b.1.1)) (-1) (-1) (a3N ((a2y [] [a0b b.1.1,a0b b.1.1]).getD 0 []) ((a2y [] [a0b b.1.1,a0b b.1.1]).getD 1 []))=true:=a4X _ _
      have e0:ofG (a0b b.1.1) (a0b b.1.1) (a3N ((a2y [] [a0b b.1.1,a0b b.1.1]).getD 0 []) ((a2y [] [a0b b.1.1,a0b b.1.1]).getD 1 [])) 0 0 []=a5W (a0b b.1.1) (a0b b.1.1):=rfl
      rw [f1,f2]
      simp only [go_sem,a0j,a0h,a0v,a0u,a0W,a4a,a39,a0F,a0n,a1n,hw2,hn,nuO,hI2]
      refine⟨by omega,by omega,?_⟩
      refine AW.drawK hΓ a0c 14 [] [] [] [0,1,1] (by decide +kernel) ?_
      simp only [go_sem,a0j,a0h,a0v,a0u,a0W,a4a,a39,a0F,a0n,a0m,a3J,a5s]
      refine⟨by omega,by omega,by omega,?_⟩
      refine AW.drawZ hΓ a0c 15 [] [] [] (by kernel_rfl) ?_
      have hI3:(0<=(n:Int))=True:=eq_true (by omega)
      have hI4:((n:Int)<=100)=True:=eq_true (by omega)
      have hm:=a3l ((a2y [] [a0b b.1.1,a0b b.1.1]).getD 0 []) ((a2y [] [a0b b.1.1,a0b b.1.1]).getD 1 [])
      have c1:=a5h ((a2y [] [a0b b.1.1,a0b b.1.1]).getD 0 []) ((a2y [] [a0b b.1.1,a0b b.1.1]).getD 1 [])
      have c3:=hm.2
      have e3:a3m (a3V (ofP (a5W (a0b b.1.1) (a0b b.1.1)) n)) 0=a7n (b2X b.1.1 b.1.1 n):=by
       unfold a3m
       rw [if_pos rfl]
       rfl
      have hdl:(a3V (ofP (a5W (a0b b.1.1) (a0b b.1.1)) n)).length<=50000000:=hdl
      rw [<-e3] at hk
      simp only [go_sem,a0j,a0h,a0v,a0u,a0W,a4a,a39,a0F,a0n,n3,hr2,e0,q3,hI3,hI4]
      refine⟨⟨by omega,by omega⟩,⟨by omega,by omega,by omega⟩,⟨q1,q2⟩,⟨p3,p4,by omega⟩,by omega,?_⟩
      refine⟨_,a0g (fun p=>p) (l:=[(4,.st (a3m (a3V (ofP (a5W (a0b b.1.1) (a0b b.1.1)) n)) 0))]) (r:=[(0,.box v 106 10 (shC 1 2 3 4 v1 v2 v3 v4 b)),(1,a0m v1 b.1.1),(2,a0m v2 b.1.2.1),(3,a0m v3 b.1.2.2),(4,mgR v4 b.2.2)]) (sz:=77) (top:=5) (nx:=nx1) (df:=[]) ?_,?_⟩
      ·simp only [go_sem,a0j,a0h,a0v,a0u,a0W,a4a,a39,a0F,a0n]
       exact⟨a0a.refl _,a0a.refl _,a0a.refl _,a0a.refl _,a0a.refl _⟩
      ·simp only [go_sem,a0j,a0h,a0v,a0u,a0W,a4a,a39,a0F,a0n]
       exact hk v1 v2 v3 nx1 (.inl rfl) (.inl rfl) (.inl rfl) hn1
     ·have hd:b8c b.1.1 b.1.2.1 n:=c1E (by omega) n
      have e:a2z line b=a7n (b2X b.1.1 b.1.2.1 n):=by
       unfold a2z
       rw [hw,hw2,f1,hr,if_pos ⟨h2,by decide,by omega,by omega⟩]
       rfl
      rw [e] at hk
      have hdl:=b0T hd
      obtain⟨p1,p2,p3,p4,p5⟩:=hd.good
      have q1:=hd.len
      have q2:=hd.each
      have q3:=hd.right
      have la:=a0M b.1.1
      have lb:=a0M b.1.2.1
      have n0:((a2y [] [a0b b.1.1,a0b b.1.2.1]).getD 0 []).length=(a0b b.1.1).length:=by simp [a2y,a3t]
      have n1:((a2y [] [a0b b.1.1,a0b b.1.2.1]).getD 1 []).length=(a0b b.1.2.1).length:=by simp [a2y,a3t]
      have n3:(a2y [] [a0b b.1.1,a0b b.1.2.1]).length=2:=by rw [a3X];rfl
      have hr2:rgt (b1b (a0b b.1.1) (a0b b.1.2.1)) (b01 (a0b b.1.1) (a0b b.1.2.1)) (-1) (-1) (a3N ((a2y [] [a0b b.1.1,a0b b.1.2.1]).getD 0 []) ((a2y [] [a0b b.1.1,a0b b.1.2.1]).getD 1 []))=true:=a4X _ _
      have e0:ofG (a0b b.1.1) (a0b b.1.2.1) (a3N ((a2y [] [a0b b.1.1,a0b b.1.2.1]).getD 0 []) ((a2y [] [a0b b.1.1,a0b b.1.2.1]).getD 1 [])) 0 0 []=a5W (a0b b.1.1) (a0b b.1.2.1):=rfl
      rw [f1,f2]
      simp only [go_sem,a0j,a0h,a0v,a0u,a0W,a4a,a39,a0F,a0n,a1n,hw2,hn,nuO,hI2]
      refine⟨by omega,by omega,?_⟩
      refine AW.drawK hΓ a0c 14 [] [] [] [0,1,2] (by decide +kernel) ?_
      simp only [go_sem,a0j,a0h,a0v,a0u,a0W,a4a,a39,a0F,a0n,a0m,a3J,a5s]
      refine⟨by omega,by omega,⟨by omega,by omega⟩,?_⟩
      refine AW.drawZ hΓ a0c 15 [] [] [] (by kernel_rfl) ?_
      have hI3:(0<=(n:Int))=True:=eq_true (by omega)
      have hI4:((n:Int)<=100)=True:=eq_true (by omega)
      have hm:=a3l ((a2y [] [a0b b.1.1,a0b b.1.2.1]).getD 0 []) ((a2y [] [a0b b.1.1,a0b b.1.2.1]).getD 1 [])
      have c1:=a5h ((a2y [] [a0b b.1.1,a0b b.1.2.1]).getD 0 []) ((a2y [] [a0b b.1.1,a0b b.1.2.1]).getD 1 [])
      have c3:=hm.2
      have e3:a3m (a3V (ofP (a5W (a0b b.1.1) (a0b b.1.2.1)) n)) 0=a7n (b2X b.1.1 b.1.2.1 n):=by
       unfold a3m
       rw [if_pos rfl]
       rfl
      have hdl:(a3V (ofP (a5W (a0b b.1.1) (a0b b.1.2.1)) n)).length<=50000000:=hdl
      rw [<-e3] at hk
      simp only [go_sem,a0j,a0h,a0v,a0u,a0W,a4a,a39,a0F,a0n,n3,hr2,e0,q3,hI3,hI4]
      refine⟨⟨by omega,by omega⟩,⟨by omega,by omega,by omega⟩,⟨q1,q2⟩,⟨p3,p4,by omega⟩,by omega,?_⟩
      refine⟨_,a0g (fun p=>p) (l:=[(4,.st (a3m (a3V (ofP (a5W (a0b b.1.1) (a0b b.1.2.1)) n)) 0))]) (r:=[(0,.box v 106 10 (shC 1 2 3 4 v1 v2 v3 v4 b)),(1,a0m v1 b.1.1),(2,a0m v2 b.1.2.1),(3,a0m v3 b.1.2.2),(4,mgR v4 b.2.2)]) (sz:=77) (top:=5) (nx:=nx1) (df:=[]) ?_,?_⟩
      ·simp only [go_sem,a0j,a0h,a0v,a0u,a0W,a4a,a39,a0F,a0n]
       exact⟨a0a.refl _,a0a.refl _,a0a.refl _,a0a.refl _,a0a.refl _⟩
      ·simp only [go_sem,a0j,a0h,a0v,a0u,a0W,a4a,a39,a0F,a0n]
       exact hk v1 v2 v3 nx1 (.inl rfl) (.inl rfl) (.inl rfl) hn1
     ·have hd:b8c b.1.1 b.1.2.2 n:=c1E (by omega) n
      have e:a2z line b=a7n (b2X b.1.1 b.1.2.2 n):=by
       unfold a2z
       rw [hw,hw2,f1,hr,if_pos ⟨h2,by decide,by omega,by omega⟩]
       rfl
      rw [e] at hk
      have hdl:=b0T hd
      obtain⟨p1,p2,p3,p4,p5⟩:=hd.good
      have q1:=hd.len
      have q2:=hd.each
      have q3:=hd.right
      have la:=a0M b.1.1
      have lb:=a0M b.1.2.2
      have n0:((a2y [] [a0b b.1.1,a0b b.1.2.2]).getD 0 []).length=(a0b b.1.1).length:=by simp [a2y,a3t]
      have n1:((a2y [] [a0b b.1.1,a0b b.1.2.2]).getD 1 []).length=(a0b b.1.2.2).length:=by simp [a2y,a3t]
      have n3:(a2y [] [a0b b.1.1,a0b b.1.2.2]).length=2:=by rw [a3X];rfl
      have hr2:rgt (b1b (a0b b.1.1) (a0b b.1.2.2)) (b01 (a0b b.1.1) (a0b b.1.2.2)) (-1) (-1) (a3N ((a2y [] [a0b b.1.1,a0b b.1.2.2]).getD 0 []) ((a2y [] [a0b b.1.1,a0b b.1.2.2]).getD 1 []))=true:=a4X _ _
      have e0:ofG (a0b b.1.1) (a0b b.1.2.2) (a3N ((a2y [] [a0b b.1.1,a0b b.1.2.2]).getD 0 []) ((a2y [] [a0b b.1.1,a0b b.1.2.2]).getD 1 [])) 0 0 []=a5W (a0b b.1.1) (a0b b.1.2.2):=rfl
      rw [f1,f2]
      simp only [go_sem,a0j,a0h,a0v,a0u,a0W,a4a,a39,a0F,a0n,a1n,hw2,hn,nuO,hI2]
      refine⟨by omega,by omega,?_⟩
      refine AW.drawK hΓ a0c 14 [] [] [] [0,1,3] (by decide +kernel) ?_
      simp only [go_sem,a0j,a0h,a0v,a0u,a0W,a4a,a39,a0F,a0n,a0m,a3J,a5s]
      refine⟨by omega,by omega,⟨by omega,by omega⟩,?_⟩
      refine AW.drawZ hΓ a0c 15 [] [] [] (by kernel_rfl) ?_
      have hI3:(0<=(n:Int))=True:=eq_true (by omega)
      have hI4:((n:Int)<=100)=True:=eq_true (by omega)
      have hm:=a3l ((a2y [] [a0b b.1.1,a0b b.1.2.2]).getD 0 []) ((a2y [] [a0b b.1.1,a0b b.1.2.2]).getD 1 [])
      have c1:=a5h ((a2y [] [a0b b.1.1,a0b b.1.2.2]).getD 0 []) ((a2y [] [a0b b.1.1,a0b b.1.2.2]).getD 1 [])
      have c3:=hm.2
      have e3:a3m (a3V (ofP (a5W (a0b b.1.1) (a0b b.1.2.2)) n)) 0=a7n (b2X b.1.1 b.1.2.2 n):=by
       unfold a3m
       rw [if_pos rfl]
       rfl
      have hdl:(a3V (ofP (a5W (a0b b.1.1) (a0b b.1.2.2)) n)).length<=50000000:=hdl
      rw [<-e3] at hk
      simp only [go_sem,a0j,a0h,a0v,a0u,a0W,a4a,a39,a0F,a0n,n3,hr2,e0,q3,hI3,hI4]
      refine⟨⟨by omega,by omega⟩,⟨by omega,by omega,by omega⟩,⟨q1,q2⟩,⟨p3,p4,by omega⟩,by omega,?_⟩
      refine⟨_,a0g (fun p=>p) (l:=[(4,.st (a3m (a3V (ofP (a5W (a0b b.1.1) (a0b b.1.2.2)) n)) 0))]) (r:=[(0,.box v 106 10 (shC 1 2 3 4 v1 v2 v3 v4 b)),(1,a0m v1 b.1.1),(2,a0m v2 b.1.2.1),(3,a0m v3 b.1.2.2),(4,mgR v4 b.2.2)]) (sz:=77) (top:=5) (nx:=nx1) (df:=[]) ?_,?_⟩
      ·simp only [go_sem,a0j,a0h,a0v,a0u,a0W,a4a,a39,a0F,a0n]
       exact⟨a0a.refl _,a0a.refl _,a0a.refl _,a0a.refl _,a0a.refl _⟩
      ·simp only [go_sem,a0j,a0h,a0v,a0u,a0W,a4a,a39,a0F,a0n]
       exact hk v1 v2 v3 nx1 (.inl rfl) (.inl rfl) (.inl rfl) hn1
    ·have hI2:((100:Int)<(n:Int))=True:=eq_true (by omega)
     have hr:a8x w2=n:=a3x hn
     have e:a2z line b=a0V:=by unfold a2z;rw [if_neg fun h=>by rw [hw2,hr] at h;exact hle (by omega)]
     rw [e] at hk
     rcases c3j w1 with⟨f1,f2⟩|⟨f1,f2⟩|⟨f1,f2⟩|⟨f1,f2⟩
     ·rw [f1,f2]
      simp only [go_sem,a0j,a0h,a0v,a0u,a0W,a4a,a39,a0F,a0n,a4i,a1n,hw2,hn,nuO,hI2]
      refine⟨by omega,by omega,?_⟩
      refine⟨_,a0g (fun p=>p) (l:=[(4,.st (a0V))]) (r:=[(0,.box v 106 10 (shC 1 2 3 4 v1 v2 v3 v4 b)),(1,a0m v1 b.1.1),(2,a0m v2 b.1.2.1),(3,a0m v3 b.1.2.2),(4,mgR v4 b.2.2)]) (sz:=77) (top:=5) (nx:=nx1) (df:=[]) ?_,?_⟩
      ·simp only [go_sem,a0j,a0h,a0v,a0u,a0W,a4a,a39,a0F,a0n]
       exact⟨a0a.refl _,a0a.refl _,a0a.refl _,a0a.refl _,a0a.refl _⟩
      ·simp only [go_sem,a0j,a0h,a0v,a0u,a0W,a4a,a39,a0F,a0n]
       exact hk v1 v2 v3 nx1 (.inl rfl) (.inl rfl) (.inl rfl) hn1
     ·rw [f1,f2]
      simp only [go_sem,a0j,a0h,a0v,a0u,a0W,a4a,a39,a0F,a0n,a4i,a1n,hw2,hn,nuO,hI2]
      refine⟨by omega,by omega,?_⟩
      refine⟨_,a0g (fun p=>p) (l:=[(4,.st (a0V))]) (r:=[(0,.box v 106 10 (shC 1 2 3 4 v1 v2 v3 v4 b)),(1,a0m v1 b.1.1),(2,a0m v2 b.1.2.1),(3,a0m v3 b.1.2.2),(4,mgR v4 b.2.2)]) (sz:=77) (top:=5) (nx:=nx1) (df:=[]) ?_,?_⟩
      ·simp only [go_sem,a0j,a0h,a0v,a0u,a0W,a4a,a39,a0F,a0n]
       exact⟨a0a.refl _,a0a.refl _,a0a.refl _,a0a.refl _,a0a.refl _⟩
      ·simp only [go_sem,a0j,a0h,a0v,a0u,a0W,a4a,a39,a0F,a0n]
       exact hk v1 v2 v3 nx1 (.inl rfl) (.inl rfl) (.inl rfl) hn1
     ·rw [f1,f2]
      simp only [go_sem,a0j,a0h,a0v,a0u,a0W,a4a,a39,a0F,a0n,a4i,a1n,hw2,hn,nuO,hI2]
      refine⟨by omega,by omega,?_⟩
      refine⟨_,a0g (fun p=>p) (l:=[(4,.st (a0V))]) (r:=[(0,.box v 106 10 (shC 1 2 3 4 v1 v2 v3 v4 b)),(1,a0m v1 b.1.1),(2,a0m v2 b.1.2.1),(3,a0m v3 b.1.2.2),(4,mgR v4 b.2.2)]) (sz:=77) (top:=5) (nx:=nx1) (df:=[]) ?_,?_⟩
      ·simp only [go_sem,a0j,a0h,a0v,a0u,a0W,a4a,a39,a0F,a0n]
       exact⟨a0a.refl _,a0a.refl _,a0a.refl _,a0a.refl _,a0a.refl _⟩
      ·simp only [go_sem,a0j,a0h,a0v,a0u,a0W,a4a,a39,a0F,a0n]
       exact hk v1 v2 v3 nx1 (.inl rfl) (.inl rfl) (.inl rfl) hn1
     ·rw [f1,f2]
      simp only [go_sem,a0j,a0h,a0v,a0u,a0W,a4a,a39,a0F,a0n,a4i,a1n,hw2,hn,nuO,hI2]
      refine⟨by omega,by omega,?_⟩
      refine⟨_,a0g (fun p=>p) (l:=[(4,.st (a0V))]) (r:=[(0,.box v 106 10 (shC 1 2 3 4 v1 v2 v3 v4 b)),(1,a0m v1 b.1.1),(2,a0m v2 b.1.2.1),(3,a0m v3 b.1.2.2),(4,mgR v4 b.2.2)]) (sz:=77) (top:=5) (nx:=nx1) (df:=[]) ?_,?_⟩
      ·simp only [go_sem,a0j,a0h,a0v,a0u,a0W,a4a,a39,a0F,a0n]
       exact⟨a0a.refl _,a0a.refl _,a0a.refl _,a0a.refl _,a0a.refl _⟩
      ·simp only [go_sem,a0j,a0h,a0v,a0u,a0W,a4a,a39,a0F,a0n]
       exact hk v1 v2 v3 nx1 (.inl rfl) (.inl rfl) (.inl rfl) hn1
 ·have hI:(((wdL line).tail.length:Int)=2)=False:=eq_false (by rw [List.length_tail];have:=List.length_pos_iff.2 (a64 line);omega)
  have e:a2z line b=a0V:=by unfold a2z;rw [if_neg fun h=>h2 h.1]
  have hk:=a0U hK rfl
  rw [e] at hk
  refine AW.of hΓ a0c [200007,200009] _ _ _ rfl ?_
  simp only [go_sem,a0j,a0h,a0v,a0u,a0W,a4a,a39,a0F,a0n,hI]
  refine⟨_,a0g (fun p=>p) (l:=[(4,.st a0V)]) (r:=[(0,.box v 106 10 (shC 1 2 3 4 v1 v2 v3 v4 b)),(1,a0m v1 b.1.1),(2,a0m v2 b.1.2.1),(3,a0m v3 b.1.2.2),(4,mgR v4 b.2.2)]) (sz:=77) (top:=5) (nx:=nx) (df:=[]) ?_,?_⟩
  ·simp only [go_sem,a0j,a0h,a0v,a0u,a0W,a4a,a39,a0F,a0n]
   exact⟨a0a.refl _,a0a.refl _,a0a.refl _,a0a.refl _,a0a.refl _⟩
  ·simp only [go_sem,a0j,a0h,a0v,a0u,a0W,a4a,a39,a0F,a0n]
   exact hk v1 v2 v3 nx (.inl rfl) (.inl rfl) (.inl rfl) (Nat.le_refl _)
noncomputable def a0o:a0L:=a1D c1l
theorem b7j:a0i Tryz.prog 64 a0o:=c5a.frame
end Go.Proofs.YthpjjjnbkfnghaaGreatDoor
set_option maxRecDepth 100000
set_option maxHeartbeats 8000000
namespace Go.Proofs.YthpjjjnbkfnghaaGreatDoor
open Go
attribute [local irreducible] AW a0e a1g a0a a6w
def ss0:Ss:=(([],[],[]),(([],[],[]),0,7,0),none)
def b5Z (hp:Nat->Row) (top nx:Nat):Nat->Row:=a0S (a0S (a0S (a0S hp (top+1) (a0m (nx+1) [])) (top+2) (a0m (nx+2) [])) (top+3) (a0m (nx+3) [])) top (.box nx 106 10 (shC (top+1) (top+2) (top+3) (top+4) (nx+1) (nx+2) (nx+3) 0 ss0))
theorem c6s (hp:Nat->Row) (top nx:Nat) (B0 B1 B2 B3:Row) (hB:a0a B3 (.box nx 106 10 (shC (top+1) (top+2) (top+3) (top+4) (nx+1) (nx+2) (nx+3) 0 ss0))) (p:Nat) :
  b5Z hp top nx p=.dead\/a0a (a0S (a0S (a0S (a0S (a0S (a0S (a0S hp top B0) (top+1) (a0m (nx+1) [])) top B1) (top+2) (a0m (nx+2) [])) top B2) (top+3) (a0m (nx+3) [])) top B3 p) (b5Z hp top nx p):=by
 refine .inr ?_
 unfold b5Z
 by_cases h0:p=top
 ·subst h0
  rw [a0k,a0k]
  exact hB
 ·rw [a0f _ _ h0,a0f _ _ h0]
  by_cases h3:p=top+3
  ·subst h3
   rw [a0k,a0k]
   exact a0a.refl _
  ·rw [a0f _ _ h3,a0f _ _ h3,a0f _ _ h0]
   by_cases h2:p=top+2
   ·subst h2
    rw [a0k,a0k]
    exact a0a.refl _
   ·rw [a0f _ _ h2,a0f _ _ h2,a0f _ _ h0]
    by_cases h1:p=top+1
    ·subst h1
     rw [a0k,a0k]
     exact a0a.refl _
    ·rw [a0f _ _ h1,a0f _ _ h1,a0f _ _ h0]
     exact a0a.refl _
def a1w:a0L:=fun args hp top nx K=>args=[]/\K (.pt top nx 0) (b5Z hp top nx) (top+5) (nx+4)
theorem b63:a0i Tryz.prog 18 a1w:=by
 refine a0i.mk Tryz.func18 rfl (by decide) Tryz.results18 Tryz.ntmps18 ?_
 rintro args hp top nx K ⟨rfl,hK⟩
 have hΓ:GOK Tryz.prog (gam [(54,a8c)]):=(.cons b8C .nil)
 refine⟨Nat.le_of_ble_eq_true rfl,AW.know fun hd=>AW.late ?_⟩
 refine AW.of hΓ a0c [99999] _ _ _ rfl ?_
 simp only [go_sem,a8c]
 refine⟨⟨frm [(0,.pt top nx 0)],b5Z hp top nx,4,top+5,nx+4,[]⟩,(a1g.adoptB (q:=top) 0 5 1 (a2h []) (a0k ..) rfl).trans ((a1g.adoptB (q:=top) 1 5 1 (a2h []) (a0k ..) rfl).trans ((a1g.adoptB (q:=top) 2 5 1 (a2h []) (a0k ..) rfl).trans (a1g.mk rfl rfl (fun t=>?_) (fun p=>?_) (fun p hp'=>?_) ?_))),?_⟩
 ·by_cases h:t=0
  ·subst h
   exact a0e.refl _
  ·have:frm [(0,.pt top nx 0)] t=.any:=by
    show (if t=0 then _ else _)=_
    rw [if_neg h]
    rfl
   show a0e _ (frm [(0,.pt top nx 0)] t)
   rw [this]
   exact a0e.any _
 ·exact c6s hp top nx _ _ _ _ (a0a.box fun j hj=>by
   have hc:j=0\/j=1\/j=2\/j=3\/j=4\/j=5\/j=6\/j=7\/j=8\/j=9:=by omega
   rcases hc with rfl|rfl|rfl|rfl|rfl|rfl|rfl|rfl|rfl|rfl<;>exact a0e.refl _) p
 ·have h':top+5<=p:=hp'
  show b5Z hp top nx p=.dead
  unfold b5Z
  rw [a0f _ _ (by omega),a0f _ _ (by omega),a0f _ _ (by omega),a0f _ _ (by omega)]
  exact hd p (by exact (by omega:top<=p))
 ·exact Nat.le_refl _
 ·simp only [go_sem,a8c]
  exact hK
end Go.Proofs.YthpjjjnbkfnghaaGreatDoor
set_option maxRecDepth 100000
set_option maxHeartbeats 8000000
namespace Go.Proofs.YthpjjjnbkfnghaaGreatDoor
open Go
theorem a1U {R:List AV->Ss->AV->Ss->Prop} {xs:List AV} {a b:Ss} {r:AV} {p0 p1 p2 p3 p4 v v1 v2 v3 v4:Nat} {hp:Nat->Row} {top nx:Nat} {K:AV->(Nat->Row)->Nat->Nat->Prop} (hR:R xs a r b) (hnd:[p0,p1,p2,p3,p4].Nodup) (ht:∀ p∈[p0,p1,p2,p3,p4],p<top)
  (h0:a0a (hp p0) (.box v 106 10 (shC p1 p2 p3 p4 v1 v2 v3 v4 a))) (h1:a0a (hp p1) (a0m v1 a.1.1)) (h2:a0a (hp p2) (a0m v2 a.1.2.1)) (h3:a0a (hp p3) (a0m v3 a.1.2.2)) (h4:a0a (hp p4) (mgR v4 a.2.2))
  (hK:∀ u1 u2 u3 u4 nx',(u1=v1\/nx<=u1)->(u2=v2\/nx<=u2)->(u3=v3\/nx<=u3)->((a.2.2.isSome=true/\u4=v4)\/nx<=u4)->nx<=nx'->K r (a0S (a0S (a0S (a0S (a0S hp p4 (mgR u4 b.2.2)) p3 (a0m u3 b.1.2.2)) p2 (a0m u2 b.1.2.1)) p1 (a0m u1 b.1.1)) p0 (.box v 106 10 (shC p1 p2 p3 p4 u1 u2 u3 u4 b))) top nx') :
  a1D (sSh R) (.pt p0 v 0::xs) hp top nx K:=by
 have w0:(hp p0).ver=some v:=h0.vers.symm
 have w1:(hp p1).ver=some v1:=h1.vers.symm
 have w2:(hp p2).ver=some v2:=h2.vers.symm
 have w3:(hp p3).ver=some v3:=h3.vers.symm
 have w4:(hp p4).ver=(mgR v4 a.2.2).ver:=h4.vers.symm
 simp only [List.nodup_cons,List.mem_cons,List.not_mem_nil,or_false,not_or,List.nodup_nil,and_true] at hnd
 obtain⟨⟨d01,d02,d03,d04⟩,⟨d12,d13,d14⟩,⟨d23,d24⟩,d34,_⟩:=hnd
 refine⟨[p0,p1,p2,p3,p4],.pt 0 v 0::xs,rws [(0,.box v 106 10 (shC 1 2 3 4 v1 v2 v3 v4 a)),(1,a0m v1 a.1.1),(2,a0m v2 a.1.2.1),(3,a0m v3 a.1.2.2),(4,mgR v4 a.2.2)],by simp [d01,d02,d03,d04,d12,d13,d14,d23,d24,d34],ht,.cons a0e.pt (a4D.same xs),d2c (h0.trans (d1G p1 p2 p3 p4 1 2 3 4 v v1 v2 v3 v4 a)) h1 h2 h3 h4,fun i hi=>a1X (top:=5) (by simp) i (by simpa using hi),v,v1,v2,v3,v4,xs,a,r,b,rfl,hR,rfl,rfl,fun u1 u2 u3 u4 nx' g1 g2 g3 g4 hn=>?_⟩
 have e0:∀ f:Nat->Row,∀ x,a0S f p0 x p0=x:=fun f x=>a0k ..
 refine⟨_,_,a0e.refl _,fun i o ho=>?_,fun o ho=>?_,fun o ho w hv=>?_,hK u1 u2 u3 u4 nx' g1 g2 g3 g4 hn⟩
 ·match i with
  | 0=>
    simp only [List.getElem?_cons_zero,Option.some.injEq] at ho
    subst ho
    rw [a0k]
    exact d1G 1 2 3 4 p1 p2 p3 p4 v u1 u2 u3 u4 b
  | 1=>
    simp only [List.getElem?_cons_succ,List.getElem?_cons_zero,Option.some.injEq] at ho
    subst ho
    rw [a0f _ _ (Ne.symm d01),a0k]
    exact a0a.refl _
  | 2=>
    simp only [List.getElem?_cons_succ,List.getElem?_cons_zero,Option.some.injEq] at ho
    subst ho
    rw [a0f _ _ (Ne.symm d02),a0f _ _ (Ne.symm d12),a0k]
    exact a0a.refl _
  | 3=>
    simp only [List.getElem?_cons_succ,List.getElem?_cons_zero,Option.some.injEq] at ho
    subst ho
    rw [a0f _ _ (Ne.symm d03),a0f _ _ (Ne.symm d13),a0f _ _ (Ne.symm d23),a0k]
    exact a0a.refl _
  | 4=>
    simp only [List.getElem?_cons_succ,List.getElem?_cons_zero,Option.some.injEq] at ho
    subst ho
    rw [a0f _ _ (Ne.symm d04),a0f _ _ (Ne.symm d14),a0f _ _ (Ne.symm d24),a0f _ _ (Ne.symm d34),a0k]
    exact a0a.refl _
  | i+5=>simp at ho
 ·simp only [List.mem_cons,List.not_mem_nil,or_false,not_or] at ho
  obtain⟨o0,o1,o2,o3,o4⟩:=ho
  rw [a0f _ _ o0,a0f _ _ o1,a0f _ _ o2,a0f _ _ o3,a0f _ _ o4]
 ·simp only [List.mem_cons,List.not_mem_nil,or_false] at ho
  rcases ho with rfl|rfl|rfl|rfl|rfl
  ·rw [a0k] at hv
   have:some v=some w:=hv
   obtain rfl:=Option.some.inj this
   exact .inl w0
  ·rw [a0f _ _ (Ne.symm d01),a0k] at hv
   have:some u1=some w:=hv
   obtain rfl:=Option.some.inj this
   exact g1.imp (fun e=>by rw [e];exact w1) id
  ·rw [a0f _ _ (Ne.symm d02),a0f _ _ (Ne.symm d12),a0k] at hv
   have:some u2=some w:=hv
   obtain rfl:=Option.some.inj this
   exact g2.imp (fun e=>by rw [e];exact w2) id
  ·rw [a0f _ _ (Ne.symm d03),a0f _ _ (Ne.symm d13),a0f _ _ (Ne.symm d23),a0k] at hv
   have:some u3=some w:=hv
   obtain rfl:=Option.some.inj this
   exact g3.imp (fun e=>by rw [e];exact w3) id
  ·rw [a0f _ _ (Ne.symm d04),a0f _ _ (Ne.symm d14),a0f _ _ (Ne.symm d24),a0f _ _ (Ne.symm d34),a0k] at hv
   obtain⟨_,rfl⟩:=d2a hv
   rcases g4 with⟨q,rfl⟩|g4
   ·refine .inl ?_
    rw [w4]
    cases hm:a.2.2 with
    | none=>rw [hm] at q;cases q
    | some m=>rfl
   ·exact .inr g4
attribute [local irreducible] AW a0e a1g a0a a6w
theorem a24 (l:List BS):AV.sn (l.length-1) 1 (fun i=>eS.enc (l.getD (1+i) []))=sL eS l.tail:=by
 unfold sL
 rw [List.length_tail]
 congr 1
 funext i
 have e:l.tail.getD i eS.dflt=l.getD (1+i) []:=(a1n l i).trans (by rw [Nat.add_comm])
 rw [e]
structure b0Z (B:Nat) (a:Ss):Prop where
 txt:a.1.1.length+a.1.2.1.length+a.1.2.2.length<=B
 lb:lbN a.2.1.1<=3000
 mg:∀ m,a.2.2=some m->b8O m
noncomputable def doP (line:BS) (a:Ss):BS×Ss:=
 if (wdL line).getD 0 []=[97,100,100] then a26 line a
 else if (wdL line).getD 0 []=[98,97,114,101]\/(wdL line).getD 0 []=[99,108,101,97,114] then a1p ((wdL line).getD 0 []) line a
 else if (wdL line).getD 0 []=[115,116,121,108,101]\/(wdL line).getD 0 []=[119,105,100,116,104]\/(wdL line).getD 0 []=[102,97,118,111,117,114] then a1Q ((wdL line).getD 0 []) line a
 else if (wdL line).getD 0 []=[108,97,98,101,108,115] then a4o line a
 else if (wdL line).getD 0 []=[109,101,114,103,101] then a1s line a
 else if (wdL line).getD 0 []=[116,101,120,116]\/(wdL line).getD 0 []=[119,105,100,101]\/(wdL line).getD 0 []=[99,104,117,110,107,115]\/(wdL line).getD 0 []=[115,104,111,119] then (a2g ((wdL line).getD 0 []) line a,a)
 else if (wdL line).getD 0 []=[114,101,115,111,108,118,101] then (a5S line a,a)
 else if (wdL line).getD 0 []=[112,105,99,107] then a1R line a
 else if (wdL line).getD 0 []=[100,105,102,102] then (a2z line a,a)
 else if (wdL line).getD 0 []=[112,97,114,115,101] then a1K line a
 else (a0V,a)
noncomputable def a6W (xs:List AV) (a:Ss) (r:AV) (b:Ss):Prop:=∃ line:List UInt8,xs=[.st line]/\line.length<=1000/\b0Z 9400 a/\r=.st (doP line a).1/\b=(doP line a).2
noncomputable def d20:a0L:=sSh a6W
theorem c9E {a:Ss} (h:b0Z 9400 a):d22 a/\(0<=(b8W a).2.2.2.2.2.2/\(b8W a).2.2.2.2.2.2<=1000000):=by
 have hM:=b0J h.txt
 refine⟨⟨hM,h.lb⟩,?_⟩
 unfold b8W b4x
 split
 ·rename_i hx
  obtain⟨p1,p2,p3⟩:=c5q hx
  have hF:=a8g hM p2 a.2.1.2.1 h.lb p1 a.2.1.2.2.2
  have h1:=hF.len
  have h2:=c0c (a04 a.1.1 a.1.2.1 a.1.2.2) (a5O (a04 a.1.1 a.1.2.1 a.1.2.2))
  show 0<=((b4G (a04 a.1.1 a.1.2.1 a.1.2.2) (a5O (a04 a.1.1 a.1.2.1 a.1.2.2)):Nat):Int)/\((b4G (a04 a.1.1 a.1.2.1 a.1.2.2) (a5O (a04 a.1.1 a.1.2.1 a.1.2.2)):Nat):Int)<=_
  omega
 ·exact⟨by decide,by decide⟩
theorem d2l:a0i Tryz.prog 20 d20:=by
 refine a0i.mk Tryz.func20 rfl (by decide) Tryz.results20 Tryz.ntmps20 ?_
 rintro args hp top nx K ⟨v,v1,v2,v3,v4,xs,a,r,b,rfl,⟨line,rfl,hl,hs,rfl,rfl⟩,rfl,rfl,hK⟩
 have hΓ:GOK Tryz.prog (gam [(55,a0r),(56,a09),(57,a0z),(58,a08),(59,a1b),(60,a0q),(61,a0x),(62,a0y),(63,a0p),(64,a0o),(65,a0l)]):=(.cons b64 (.cons c7h (.cons c1J (.cons c7G (.cons c7c (.cons b6s (.cons c2X (.cons b9D (.cons b6I (.cons b7j (.cons b4b .nil)))))))))))
 refine⟨Nat.le_of_ble_eq_true rfl,AW.late ?_⟩
 have hw0:=List.length_pos_iff.2 (a64 line)
 have hmc:=c9E hs
 have htx:=hs.txt
 have hsz:c7g a:=⟨by omega,by omega,by omega⟩
 have hsp:a.1.1.length<=1000000:=by omega
 generalize hv:(wdL line).getD 0 []=verb at *
 by_cases h_add:verb=[97,100,100]
 ·have e:doP line a=a26 line a:=by unfold doP;rw [hv,if_pos h_add]
  rw [e] at hK
  have he:=eq_true h_add
  refine AW.of hΓ a0c [99999] _ _ _ rfl ?_
  simp only [go_sem,a0r,a09,a0z,a08,a1b,a0q,a0x,a0y,a0p,a0o,a0l,hv,he]
  refine⟨by omega,by omega,⟨by omega,by omega⟩,?_⟩
  rw [a24]
  refine a1U (R:=c7q) ⟨line,rfl,hl,hsz,rfl,rfl⟩ (by decide) (by decide) (a0a.refl _) (a0a.refl _) (a0a.refl _) (a0a.refl _) (a0a.refl _) fun u1 u2 u3 u4 nx' g1 g2 g3 g4 hn=>?_
  simp only [go_sem,a0r,a09,a0z,a08,a1b,a0q,a0x,a0y,a0p,a0o,a0l]
  refine⟨_,a0g (fun p=>p) (l:=[(4,.st ((a26 line a).1))]) (r:=[(0,.box v 106 10 (shC 1 2 3 4 u1 u2 u3 u4 ((a26 line a).2))),(1,a0m u1 ((a26 line a).2).1.1),(2,a0m u2 ((a26 line a).2).1.2.1),(3,a0m u3 ((a26 line a).2).1.2.2),(4,mgR u4 ((a26 line a).2).2.2)]) (sz:=78) (top:=5) (nx:=nx') (df:=[]) ?_,?_⟩
  ·simp only [go_sem,a0r,a09,a0z,a08,a1b,a0q,a0x,a0y,a0p,a0o,a0l]
   exact⟨a0a.refl _,a0a.refl _,a0a.refl _,a0a.refl _,a0a.refl _⟩
  ·simp only [go_sem,a0r,a09,a0z,a08,a1b,a0q,a0x,a0y,a0p,a0o,a0l]
   exact hK u1 u2 u3 u4 nx' g1 g2 g3 g4 hn
 by_cases h_bare:verb=[98,97,114,101]
 ·have e:doP line a=a1p verb line a:=by unfold doP;rw [hv,if_neg h_add,if_pos (.inl h_bare)]
  rw [e] at hK
  have he:=eq_true h_bare
  refine AW.of hΓ a0c [99999] _ _ _ rfl ?_
  simp only [go_sem,a0r,a09,a0z,a08,a1b,a0q,a0x,a0y,a0p,a0o,a0l,hv,he,h_add]
  refine⟨by omega,by omega,⟨by omega,by omega⟩,?_⟩
  rw [a24]
  refine a1U (R:=c13) ⟨verb,line,rfl,hl,hsz,rfl,rfl⟩ (by decide) (by decide) (a0a.refl _) (a0a.refl _) (a0a.refl _) (a0a.refl _) (a0a.refl _) fun u1 u2 u3 u4 nx' g1 g2 g3 g4 hn=>?_
  simp only [go_sem,a0r,a09,a0z,a08,a1b,a0q,a0x,a0y,a0p,a0o,a0l]
  refine⟨_,a0g (fun p=>p) (l:=[(4,.st ((a1p verb line a).1))]) (r:=[(0,.box v 106 10 (shC 1 2 3 4 u1 u2 u3 u4 ((a1p verb line a).2))),(1,a0m u1 ((a1p verb line a).2).1.1),(2,a0m u2 ((a1p verb line a).2).1.2.1),(3,a0m u3 ((a1p verb line a).2).1.2.2),(4,mgR u4 ((a1p verb line a).2).2.2)]) (sz:=78) (top:=5) (nx:=nx') (df:=[]) ?_,?_⟩
  ·simp only [go_sem,a0r,a09,a0z,a08,a1b,a0q,a0x,a0y,a0p,a0o,a0l]
   exact⟨a0a.refl _,a0a.refl _,a0a.refl _,a0a.refl _,a0a.refl _⟩
  ·simp only [go_sem,a0r,a09,a0z,a08,a1b,a0q,a0x,a0y,a0p,a0o,a0l]
   exact hK u1 u2 u3 u4 nx' g1 g2 g3 g4 hn
 by_cases h_clear:verb=[99,108,101,97,114]
 ·have e:doP line a=a1p verb line a:=by unfold doP;rw [hv,if_neg h_add,if_pos (.inr h_clear)]
  rw [e] at hK
  have he:=eq_true h_clear
  refine AW.of hΓ a0c [99999] _ _ _ rfl ?_
  simp only [go_sem,a0r,a09,a0z,a08,a1b,a0q,a0x,a0y,a0p,a0o,a0l,hv,he,h_add,h_bare]
  refine⟨by omega,by omega,⟨by omega,by omega⟩,?_⟩
  rw [a24]
  refine a1U (R:=c13) ⟨verb,line,rfl,hl,hsz,rfl,rfl⟩ (by decide) (by decide) (a0a.refl _) (a0a.refl _) (a0a.refl _) (a0a.refl _) (a0a.refl _) fun u1 u2 u3 u4 nx' g1 g2 g3 g4 hn=>?_
  simp only [go_sem,a0r,a09,a0z,a08,a1b,a0q,a0x,a0y,a0p,a0o,a0l]
  refine⟨_,a0g (fun p=>p) (l:=[(4,.st ((a1p verb line a).1))]) (r:=[(0,.box v 106 10 (shC 1 2 3 4 u1 u2 u3 u4 ((a1p verb line a).2))),(1,a0m u1 ((a1p verb line a).2).1.1),(2,a0m u2 ((a1p verb line a).2).1.2.1),(3,a0m u3 ((a1p verb line a).2).1.2.2),(4,mgR u4 ((a1p verb line a).2).2.2)]) (sz:=78) (top:=5) (nx:=nx') (df:=[]) ?_,?_⟩
  ·simp only [go_sem,a0r,a09,a0z,a08,a1b,a0q,a0x,a0y,a0p,a0o,a0l]
   exact⟨a0a.refl _,a0a.refl _,a0a.refl _,a0a.refl _,a0a.refl _⟩
  ·simp only [go_sem,a0r,a09,a0z,a08,a1b,a0q,a0x,a0y,a0p,a0o,a0l]
   exact hK u1 u2 u3 u4 nx' g1 g2 g3 g4 hn
 by_cases h_style:verb=[115,116,121,108,101]
 ·have e:doP line a=a1Q verb line a:=by unfold doP;rw [hv,if_neg h_add,if_neg (fun h=>h.elim h_bare h_clear),if_pos (.inl h_style)]
  rw [e] at hK
  have he:=eq_true h_style
  refine AW.of hΓ a0c [99999] _ _ _ rfl ?_
  simp only [go_sem,a0r,a09,a0z,a08,a1b,a0q,a0x,a0y,a0p,a0o,a0l,hv,he,h_add,h_bare,h_clear]
  refine⟨by omega,by omega,⟨by omega,by omega⟩,?_⟩
  rw [a24]
  refine a1U (R:=b7u) ⟨verb,line,rfl,hl,hsz,rfl,rfl⟩ (by decide) (by decide) (a0a.refl _) (a0a.refl _) (a0a.refl _) (a0a.refl _) (a0a.refl _) fun u1 u2 u3 u4 nx' g1 g2 g3 g4 hn=>?_
  simp only [go_sem,a0r,a09,a0z,a08,a1b,a0q,a0x,a0y,a0p,a0o,a0l]
  refine⟨_,a0g (fun p=>p) (l:=[(4,.st ((a1Q verb line a).1))]) (r:=[(0,.box v 106 10 (shC 1 2 3 4 u1 u2 u3 u4 ((a1Q verb line a).2))),(1,a0m u1 ((a1Q verb line a).2).1.1),(2,a0m u2 ((a1Q verb line a).2).1.2.1),(3,a0m u3 ((a1Q verb line a).2).1.2.2),(4,mgR u4 ((a1Q verb line a).2).2.2)]) (sz:=78) (top:=5) (nx:=nx') (df:=[]) ?_,?_⟩
  ·simp only [go_sem,a0r,a09,a0z,a08,a1b,a0q,a0x,a0y,a0p,a0o,a0l]
   exact⟨a0a.refl _,a0a.refl _,a0a.refl _,a0a.refl _,a0a.refl _⟩
  ·simp only [go_sem,a0r,a09,a0z,a08,a1b,a0q,a0x,a0y,a0p,a0o,a0l]
   exact hK u1 u2 u3 u4 nx' g1 g2 g3 g4 hn
 by_cases h_width:verb=[119,105,100,116,104]
 ·have e:doP line a=a1Q verb line a:=by unfold doP;rw [hv,if_neg h_add,if_neg (fun h=>h.elim h_bare h_clear),if_pos (.inr (.inl h_width))]
  rw [e] at hK
  have he:=eq_true h_width
  refine AW.of hΓ a0c [99999] _ _ _ rfl ?_
  simp only [go_sem,a0r,a09,a0z,a08,a1b,a0q,a0x,a0y,a0p,a0o,a0l,hv,he,h_add,h_bare,h_clear,h_style]
  refine⟨by omega,by omega,⟨by omega,by omega⟩,?_⟩
  rw [a24]
  refine a1U (R:=b7u) ⟨verb,line,rfl,hl,hsz,rfl,rfl⟩ (by decide) (by decide) (a0a.refl _) (a0a.refl _) (a0a.refl _) (a0a.refl _) (a0a.refl _) fun u1 u2 u3 u4 nx' g1 g2 g3 g4 hn=>?_
  simp only [go_sem,a0r,a09,a0z,a08,a1b,a0q,a0x,a0y,a0p,a0o,a0l]
  refine⟨_,a0g (fun p=>p) (l:=[(4,.st ((a1Q verb line a).1))]) (r:=[(0,.box v 106 10 (shC 1 2 3 4 u1 u2 u3 u4 ((a1Q verb line a).2))),(1,a0m u1 ((a1Q verb line a).2).1.1),(2,a0m u2 ((a1Q verb line a).2).1.2.1),(3,a0m u3 ((a1Q verb line a).2).1.2.2),(4,mgR u4 ((a1Q verb line a).2).2.2)]) (sz:=78) (top:=5) (nx:=nx') (df:=[]) ?_,?_⟩
  ·simp only [go_sem,a0r,a09,a0z,a08,a1b,a0q,a0x,a0y,a0p,a0o,a0l]
   exact⟨a0a.refl _,a0a.refl _,a0a.refl _,a0a.refl _,a0a.refl _⟩
  ·simp only [go_sem,a0r,a09,a0z,a08,a1b,a0q,a0x,a0y,a0p,a0o,a0l]
   exact hK u1 u2 u3 u4 nx' g1 g2 g3 g4 hn
 by_cases h_favour:verb=[102,97,118,111,117,114]
 ·have e:doP line a=a1Q verb line a:=by unfold doP;rw [hv,if_neg h_add,if_neg (fun h=>h.elim h_bare h_clear),if_pos (.inr (.inr h_favour))]
  rw [e] at hK
  have he:=eq_true h_favour
  refine AW.of hΓ a0c [99999] _ _ _ rfl ?_
  simp only [go_sem,a0r,a09,a0z,a08,a1b,a0q,a0x,a0y,a0p,a0o,a0l,hv,he,h_add,h_bare,h_clear,h_style,h_width]
  refine⟨by omega,by omega,⟨by omega,by omega⟩,?_⟩
  rw [a24]
  refine a1U (R:=b7u) ⟨verb,line,rfl,hl,hsz,rfl,rfl⟩ (by decide) (by decide) (a0a.refl _) (a0a.refl _) (a0a.refl _) (a0a.refl _) (a0a.refl _) fun u1 u2 u3 u4 nx' g1 g2 g3 g4 hn=>?_
  simp only [go_sem,a0r,a09,a0z,a08,a1b,a0q,a0x,a0y,a0p,a0o,a0l]
  refine⟨_,a0g (fun p=>p) (l:=[(4,.st ((a1Q verb line a).1))]) (r:=[(0,.box v 106 10 (shC 1 2 3 4 u1 u2 u3 u4 ((a1Q verb line a).2))),(1,a0m u1 ((a1Q verb line a).2).1.1),(2,a0m u2 ((a1Q verb line a).2).1.2.1),(3,a0m u3 ((a1Q verb line a).2).1.2.2),(4,mgR u4 ((a1Q verb line a).2).2.2)]) (sz:=78) (top:=5) (nx:=nx') (df:=[]) ?_,?_⟩
  ·simp only [go_sem,a0r,a09,a0z,a08,a1b,a0q,a0x,a0y,a0p,a0o,a0l]
   exact⟨a0a.refl _,a0a.refl _,a0a.refl _,a0a.refl _,a0a.refl _⟩
  ·simp only [go_sem,a0r,a09,a0z,a08,a1b,a0q,a0x,a0y,a0p,a0o,a0l]
   exact hK u1 u2 u3 u4 nx' g1 g2 g3 g4 hn
 by_cases h_labels:verb=[108,97,98,101,108,115]
 ·have e:doP line a=a4o line a:=by unfold doP;rw [hv,if_neg h_add,if_neg (fun h=>h.elim h_bare h_clear),if_neg (fun h=>h.elim h_style (fun h=>h.elim h_width h_favour)),if_pos h_labels]
  rw [e] at hK
  have he:=eq_true h_labels
  refine AW.of hΓ a0c [99999] _ _ _ rfl ?_
  simp only [go_sem,a0r,a09,a0z,a08,a1b,a0q,a0x,a0y,a0p,a0o,a0l,hv,he,h_add,h_bare,h_clear,h_style,h_width,h_favour]
  refine⟨by omega,by omega,⟨by omega,by omega⟩,?_⟩
  rw [a24]
  refine a1U (R:=c7A) ⟨line,rfl,hl,hsz,rfl,rfl⟩ (by decide) (by decide) (a0a.refl _) (a0a.refl _) (a0a.refl _) (a0a.refl _) (a0a.refl _) fun u1 u2 u3 u4 nx' g1 g2 g3 g4 hn=>?_
  simp only [go_sem,a0r,a09,a0z,a08,a1b,a0q,a0x,a0y,a0p,a0o,a0l]
  refine⟨_,a0g (fun p=>p) (l:=[(4,.st ((a4o line a).1))]) (r:=[(0,.box v 106 10 (shC 1 2 3 4 u1 u2 u3 u4 ((a4o line a).2))),(1,a0m u1 ((a4o line a).2).1.1),(2,a0m u2 ((a4o line a).2).1.2.1),(3,a0m u3 ((a4o line a).2).1.2.2),(4,mgR u4 ((a4o line a).2).2.2)]) (sz:=78) (top:=5) (nx:=nx') (df:=[]) ?_,?_⟩
  ·simp only [go_sem,a0r,a09,a0z,a08,a1b,a0q,a0x,a0y,a0p,a0o,a0l]
   exact⟨a0a.refl _,a0a.refl _,a0a.refl _,a0a.refl _,a0a.refl _⟩
  ·simp only [go_sem,a0r,a09,a0z,a08,a1b,a0q,a0x,a0y,a0p,a0o,a0l]
   exact hK u1 u2 u3 u4 nx' g1 g2 g3 g4 hn
 by_cases h_merge:verb=[109,101,114,103,101]
 ·have e:doP line a=a1s line a:=by unfold doP;rw [hv,if_neg h_add,if_neg (fun h=>h.elim h_bare h_clear),if_neg (fun h=>h.elim h_style (fun h=>h.elim h_width h_favour)),if_neg h_labels,if_pos h_merge]
  rw [e] at hK
  have he:=eq_true h_merge
  refine AW.of hΓ a0c [99999] _ _ _ rfl ?_
  simp only [go_sem,a0r,a09,a0z,a08,a1b,a0q,a0x,a0y,a0p,a0o,a0l,hv,he,h_add,h_bare,h_clear,h_style,h_width,h_favour,h_labels]
  refine⟨by omega,by omega,⟨by omega,by omega⟩,?_⟩
  rw [a24]
  refine a1U (R:=b6t) ⟨line,rfl,hl,hmc.1,hmc.2,rfl,rfl⟩ (by decide) (by decide) (a0a.refl _) (a0a.refl _) (a0a.refl _) (a0a.refl _) (a0a.refl _) fun u1 u2 u3 u4 nx' g1 g2 g3 g4 hn=>?_
  simp only [go_sem,a0r,a09,a0z,a08,a1b,a0q,a0x,a0y,a0p,a0o,a0l]
  refine⟨_,a0g (fun p=>p) (l:=[(4,.st ((a1s line a).1))]) (r:=[(0,.box v 106 10 (shC 1 2 3 4 u1 u2 u3 u4 ((a1s line a).2))),(1,a0m u1 ((a1s line a).2).1.1),(2,a0m u2 ((a1s line a).2).1.2.1),(3,a0m u3 ((a1s line a).2).1.2.2),(4,mgR u4 ((a1s line a).2).2.2)]) (sz:=78) (top:=5) (nx:=nx') (df:=[]) ?_,?_⟩
  ·simp only [go_sem,a0r,a09,a0z,a08,a1b,a0q,a0x,a0y,a0p,a0o,a0l]
   exact⟨a0a.refl _,a0a.refl _,a0a.refl _,a0a.refl _,a0a.refl _⟩
  ·simp only [go_sem,a0r,a09,a0z,a08,a1b,a0q,a0x,a0y,a0p,a0o,a0l]
   exact hK u1 u2 u3 u4 nx' g1 g2 g3 g4 hn
 by_cases h_text:verb=[116,101,120,116]
 ·have e:doP line a=(a2g verb line a,a):=by unfold doP;rw [hv,if_neg h_add,if_neg (fun h=>h.elim h_bare h_clear),if_neg (fun h=>h.elim h_style (fun h=>h.elim h_width h_favour)),if_neg h_labels,if_neg h_merge,if_pos (.inl h_text)]
  rw [e] at hK
  have he:=eq_true h_text
  refine AW.of hΓ a0c [99999] _ _ _ rfl ?_
  simp only [go_sem,a0r,a09,a0z,a08,a1b,a0q,a0x,a0y,a0p,a0o,a0l,hv,he,h_add,h_bare,h_clear,h_style,h_width,h_favour,h_labels,h_merge]
  refine⟨by omega,by omega,⟨by omega,by omega⟩,?_⟩
  rw [a24]
  refine a1U (R:=b0I) ⟨verb,line,rfl,hl,hs.mg,rfl,rfl⟩ (by decide) (by decide) (a0a.refl _) (a0a.refl _) (a0a.refl _) (a0a.refl _) (a0a.refl _) fun u1 u2 u3 u4 nx' g1 g2 g3 g4 hn=>?_
  simp only [go_sem,a0r,a09,a0z,a08,a1b,a0q,a0x,a0y,a0p,a0o,a0l]
  refine⟨_,a0g (fun p=>p) (l:=[(4,.st (a2g verb line a))]) (r:=[(0,.box v 106 10 (shC 1 2 3 4 u1 u2 u3 u4 (a))),(1,a0m u1 (a).1.1),(2,a0m u2 (a).1.2.1),(3,a0m u3 (a).1.2.2),(4,mgR u4 (a).2.2)]) (sz:=78) (top:=5) (nx:=nx') (df:=[]) ?_,?_⟩
  ·simp only [go_sem,a0r,a09,a0z,a08,a1b,a0q,a0x,a0y,a0p,a0o,a0l]
   exact⟨a0a.refl _,a0a.refl _,a0a.refl _,a0a.refl _,a0a.refl _⟩
  ·simp only [go_sem,a0r,a09,a0z,a08,a1b,a0q,a0x,a0y,a0p,a0o,a0l]
   exact hK u1 u2 u3 u4 nx' g1 g2 g3 g4 hn
 by_cases h_wide:verb=[119,105,100,101]
 ·have e:doP line a=(a2g verb line a,a):=by unfold doP;rw [hv,if_neg h_add,if_neg (fun h=>h.elim h_bare h_clear),if_neg (fun h=>h.elim h_style (fun h=>h.elim h_width h_favour)),if_neg h_labels,if_neg h_merge,if_pos (.inr (.inl h_wide))]
  rw [e] at hK
  have he:=eq_true h_wide
  refine AW.of hΓ a0c [99999] _ _ _ rfl ?_
  simp only [go_sem,a0r,a09,a0z,a08,a1b,a0q,a0x,a0y,a0p,a0o,a0l,hv,he,h_add,h_bare,h_clear,h_style,h_width,h_favour,h_labels,h_merge,h_text]
  refine⟨by omega,by omega,⟨by omega,by omega⟩,?_⟩
  rw [a24]
  refine a1U (R:=b0I) ⟨verb,line,rfl,hl,hs.mg,rfl,rfl⟩ (by decide) (by decide) (a0a.refl _) (a0a.refl _) (a0a.refl _) (a0a.refl _) (a0a.refl _) fun u1 u2 u3 u4 nx' g1 g2 g3 g4 hn=>?_
  simp only [go_sem,a0r,a09,a0z,a08,a1b,a0q,a0x,a0y,a0p,a0o,a0l]
  refine⟨_,a0g (fun p=>p) (l:=[(4,.st (a2g verb line a))]) (r:=[(0,.box v 106 10 (shC 1 2 3 4 u1 u2 u3 u4 (a))),(1,a0m u1 (a).1.1),(2,a0m u2 (a).1.2.1),(3,a0m u3 (a).1.2.2),(4,mgR u4 (a).2.2)]) (sz:=78) (top:=5) (nx:=nx') (df:=[]) ?_,?_⟩
  ·simp only [go_sem,a0r,a09,a0z,a08,a1b,a0q,a0x,a0y,a0p,a0o,a0l]
   exact⟨a0a.refl _,a0a.refl _,a0a.refl _,a0a.refl _,a0a.refl _⟩
  ·simp only [go_sem,a0r,a09,a0z,a08,a1b,a0q,a0x,a0y,a0p,a0o,a0l]
   exact hK u1 u2 u3 u4 nx' g1 g2 g3 g4 hn
 by_cases h_chunks:verb=[99,104,117,110,107,115]
 ·have e:doP line a=(a2g verb line a,a):=by unfold doP;rw [hv,if_neg h_add,if_neg (fun h=>h.elim h_bare h_clear),if_neg (fun h=>h.elim h_style (fun h=>h.elim h_width h_favour)),if_neg h_labels,if_neg h_merge,if_pos (.inr (.inr (.inl h_chunks)))]
  rw [e] at hK
  have he:=eq_true h_chunks
  refine AW.of hΓ a0c [99999] _ _ _ rfl ?_
  simp only [go_sem,a0r,a09,a0z,a08,a1b,a0q,a0x,a0y,a0p,a0o,a0l,hv,he,h_add,h_bare,h_clear,h_style,h_width,h_favour,h_labels,h_merge,h_text,h_wide]
  refine⟨by omega,by omega,⟨by omega,by omega⟩,?_⟩
  rw [a24]
  refine a1U (R:=b0I) ⟨verb,line,rfl,hl,hs.mg,rfl,rfl⟩ (by decide) (by decide) (a0a.refl _) (a0a.refl _) (a0a.refl _) (a0a.refl _) (a0a.refl _) fun u1 u2 u3 u4 nx' g1 g2 g3 g4 hn=>?_
  simp only [go_sem,a0r,a09,a0z,a08,a1b,a0q,a0x,a0y,a0p,a0o,a0l]
  refine⟨_,a0g (fun p=>p) (l:=[(4,.st (a2g verb line a))]) (r:=[(0,.box v 106 10 (shC 1 2 3 4 u1 u2 u3 u4 (a))),(1,a0m u1 (a).1.1),(2,a0m u2 (a).1.2.1),(3,a0m u3 (a).1.2.2),(4,mgR u4 (a).2.2)]) (sz:=78) (top:=5) (nx:=nx') (df:=[]) ?_,?_⟩
  ·simp only [go_sem,a0r,a09,a0z,a08,a1b,a0q,a0x,a0y,a0p,a0o,a0l]
   exact⟨a0a.refl _,a0a.refl _,a0a.refl _,a0a.refl _,a0a.refl _⟩
  ·simp only [go_sem,a0r,a09,a0z,a08,a1b,a0q,a0x,a0y,a0p,a0o,a0l]
   exact hK u1 u2 u3 u4 nx' g1 g2 g3 g4 hn
 by_cases h_show:verb=[115,104,111,119]
 ·have e:doP line a=(a2g verb line a,a):=by unfold doP;rw [hv,if_neg h_add,if_neg (fun h=>h.elim h_bare h_clear),if_neg (fun h=>h.elim h_style (fun h=>h.elim h_width h_favour)),if_neg h_labels,if_neg h_merge,if_pos (.inr (.inr (.inr h_show)))]
  rw [e] at hK
  have he:=eq_true h_show
  refine AW.of hΓ a0c [99999] _ _ _ rfl ?_
  simp only [go_sem,a0r,a09,a0z,a08,a1b,a0q,a0x,a0y,a0p,a0o,a0l,hv,he,h_add,h_bare,h_clear,h_style,h_width,h_favour,h_labels,h_merge,h_text,h_wide,h_chunks]
  refine⟨by omega,by omega,⟨by omega,by omega⟩,?_⟩
  rw [a24]
  refine a1U (R:=b0I) ⟨verb,line,rfl,hl,hs.mg,rfl,rfl⟩ (by decide) (by decide) (a0a.refl _) (a0a.refl _) (a0a.refl _) (a0a.refl _) (a0a.refl _) fun u1 u2 u3 u4 nx' g1 g2 g3 g4 hn=>?_
  simp only [go_sem,a0r,a09,a0z,a08,a1b,a0q,a0x,a0y,a0p,a0o,a0l]
  refine⟨_,a0g (fun p=>p) (l:=[(4,.st (a2g verb line a))]) (r:=[(0,.box v 106 10 (shC 1 2 3 4 u1 u2 u3 u4 (a))),(1,a0m u1 (a).1.1),(2,a0m u2 (a).1.2.1),(3,a0m u3 (a).1.2.2),(4,mgR u4 (a).2.2)]) (sz:=78) (top:=5) (nx:=nx') (df:=[]) ?_,?_⟩
  ·simp only [go_sem,a0r,a09,a0z,a08,a1b,a0q,a0x,a0y,a0p,a0o,a0l]
   exact⟨a0a.refl _,a0a.refl _,a0a.refl _,a0a.refl _,a0a.refl _⟩
  ·simp only [go_sem,a0r,a09,a0z,a08,a1b,a0q,a0x,a0y,a0p,a0o,a0l]
   exact hK u1 u2 u3 u4 nx' g1 g2 g3 g4 hn
 by_cases h_resolve:verb=[114,101,115,111,108,118,101]
 ·have e:doP line a=(a5S line a,a):=by unfold doP;rw [hv,if_neg h_add,if_neg (fun h=>h.elim h_bare h_clear),if_neg (fun h=>h.elim h_style (fun h=>h.elim h_width h_favour)),if_neg h_labels,if_neg h_merge,if_neg (fun h=>h.elim h_text (fun h=>h.elim h_wide (fun h=>h.elim h_chunks h_show))),if_pos h_resolve]
  rw [e] at hK
  have he:=eq_true h_resolve
  refine AW.of hΓ a0c [99999] _ _ _ rfl ?_
  simp only [go_sem,a0r,a09,a0z,a08,a1b,a0q,a0x,a0y,a0p,a0o,a0l,hv,he,h_add,h_bare,h_clear,h_style,h_width,h_favour,h_labels,h_merge,h_text,h_wide,h_chunks,h_show]
  refine⟨by omega,by omega,⟨by omega,by omega⟩,?_⟩
  rw [a24]
  refine a1U (R:=c7B) ⟨line,rfl,hl,hsz,fun m h=>(hs.mg m h).ok,rfl,rfl⟩ (by decide) (by decide) (a0a.refl _) (a0a.refl _) (a0a.refl _) (a0a.refl _) (a0a.refl _) fun u1 u2 u3 u4 nx' g1 g2 g3 g4 hn=>?_
  simp only [go_sem,a0r,a09,a0z,a08,a1b,a0q,a0x,a0y,a0p,a0o,a0l]
  refine⟨_,a0g (fun p=>p) (l:=[(4,.st (a5S line a))]) (r:=[(0,.box v 106 10 (shC 1 2 3 4 u1 u2 u3 u4 (a))),(1,a0m u1 (a).1.1),(2,a0m u2 (a).1.2.1),(3,a0m u3 (a).1.2.2),(4,mgR u4 (a).2.2)]) (sz:=78) (top:=5) (nx:=nx') (df:=[]) ?_,?_⟩
  ·simp only [go_sem,a0r,a09,a0z,a08,a1b,a0q,a0x,a0y,a0p,a0o,a0l]
   exact⟨a0a.refl _,a0a.refl _,a0a.refl _,a0a.refl _,a0a.refl _⟩
  ·simp only [go_sem,a0r,a09,a0z,a08,a1b,a0q,a0x,a0y,a0p,a0o,a0l]
   exact hK u1 u2 u3 u4 nx' g1 g2 g3 g4 hn
 by_cases h_pick:verb=[112,105,99,107]
 ·have e:doP line a=a1R line a:=by unfold doP;rw [hv,if_neg h_add,if_neg (fun h=>h.elim h_bare h_clear),if_neg (fun h=>h.elim h_style (fun h=>h.elim h_width h_favour)),if_neg h_labels,if_neg h_merge,if_neg (fun h=>h.elim h_text (fun h=>h.elim h_wide (fun h=>h.elim h_chunks h_show))),if_neg h_resolve,if_pos h_pick]
  rw [e] at hK
  have he:=eq_true h_pick
  refine AW.of hΓ a0c [99999] _ _ _ rfl ?_
  simp only [go_sem,a0r,a09,a0z,a08,a1b,a0q,a0x,a0y,a0p,a0o,a0l,hv,he,h_add,h_bare,h_clear,h_style,h_width,h_favour,h_labels,h_merge,h_text,h_wide,h_chunks,h_show,h_resolve]
  refine⟨by omega,by omega,⟨by omega,by omega⟩,?_⟩
  rw [a24]
  refine a1U (R:=c3i) ⟨line,rfl,hl,hsz,fun m h=>(hs.mg m h).ok,rfl,rfl⟩ (by decide) (by decide) (a0a.refl _) (a0a.refl _) (a0a.refl _) (a0a.refl _) (a0a.refl _) fun u1 u2 u3 u4 nx' g1 g2 g3 g4 hn=>?_
  simp only [go_sem,a0r,a09,a0z,a08,a1b,a0q,a0x,a0y,a0p,a0o,a0l]
  refine⟨_,a0g (fun p=>p) (l:=[(4,.st ((a1R line a).1))]) (r:=[(0,.box v 106 10 (shC 1 2 3 4 u1 u2 u3 u4 ((a1R line a).2))),(1,a0m u1 ((a1R line a).2).1.1),(2,a0m u2 ((a1R line a).2).1.2.1),(3,a0m u3 ((a1R line a).2).1.2.2),(4,mgR u4 ((a1R line a).2).2.2)]) (sz:=78) (top:=5) (nx:=nx') (df:=[]) ?_,?_⟩
  ·simp only [go_sem,a0r,a09,a0z,a08,a1b,a0q,a0x,a0y,a0p,a0o,a0l]
   exact⟨a0a.refl _,a0a.refl _,a0a.refl _,a0a.refl _,a0a.refl _⟩
  ·simp only [go_sem,a0r,a09,a0z,a08,a1b,a0q,a0x,a0y,a0p,a0o,a0l]
   exact hK u1 u2 u3 u4 nx' g1 g2 g3 g4 hn
 by_cases h_diff:verb=[100,105,102,102]
 ·have e:doP line a=(a2z line a,a):=by unfold doP;rw [hv,if_neg h_add,if_neg (fun h=>h.elim h_bare h_clear),if_neg (fun h=>h.elim h_style (fun h=>h.elim h_width h_favour)),if_neg h_labels,if_neg h_merge,if_neg (fun h=>h.elim h_text (fun h=>h.elim h_wide (fun h=>h.elim h_chunks h_show))),if_neg h_resolve,if_neg h_pick,if_pos h_diff]
  rw [e] at hK
  have he:=eq_true h_diff
  refine AW.of hΓ a0c [99999] _ _ _ rfl ?_
  simp only [go_sem,a0r,a09,a0z,a08,a1b,a0q,a0x,a0y,a0p,a0o,a0l,hv,he,h_add,h_bare,h_clear,h_style,h_width,h_favour,h_labels,h_merge,h_text,h_wide,h_chunks,h_show,h_resolve,h_pick]
  refine⟨by omega,by omega,⟨by omega,by omega⟩,?_⟩
  rw [a24]
  refine a1U (R:=c10) ⟨line,rfl,hl,hs.txt,rfl,rfl⟩ (by decide) (by decide) (a0a.refl _) (a0a.refl _) (a0a.refl _) (a0a.refl _) (a0a.refl _) fun u1 u2 u3 u4 nx' g1 g2 g3 g4 hn=>?_
  simp only [go_sem,a0r,a09,a0z,a08,a1b,a0q,a0x,a0y,a0p,a0o,a0l]
  refine⟨_,a0g (fun p=>p) (l:=[(4,.st (a2z line a))]) (r:=[(0,.box v 106 10 (shC 1 2 3 4 u1 u2 u3 u4 (a))),(1,a0m u1 (a).1.1),(2,a0m u2 (a).1.2.1),(3,a0m u3 (a).1.2.2),(4,mgR u4 (a).2.2)]) (sz:=78) (top:=5) (nx:=nx') (df:=[]) ?_,?_⟩
  ·simp only [go_sem,a0r,a09,a0z,a08,a1b,a0q,a0x,a0y,a0p,a0o,a0l]
   exact⟨a0a.refl _,a0a.refl _,a0a.refl _,a0a.refl _,a0a.refl _⟩
  ·simp only [go_sem,a0r,a09,a0z,a08,a1b,a0q,a0x,a0y,a0p,a0o,a0l]
   exact hK u1 u2 u3 u4 nx' g1 g2 g3 g4 hn
 by_cases h_parse:verb=[112,97,114,115,101]
 ·have e:doP line a=a1K line a:=by unfold doP;rw [hv,if_neg h_add,if_neg (fun h=>h.elim h_bare h_clear),if_neg (fun h=>h.elim h_style (fun h=>h.elim h_width h_favour)),if_neg h_labels,if_neg h_merge,if_neg (fun h=>h.elim h_text (fun h=>h.elim h_wide (fun h=>h.elim h_chunks h_show))),if_neg h_resolve,if_neg h_pick,if_neg h_diff,if_pos h_parse]
  rw [e] at hK
  have he:=eq_true h_parse
  refine AW.of hΓ a0c [99999] _ _ _ rfl ?_
  simp only [go_sem,a0r,a09,a0z,a08,a1b,a0q,a0x,a0y,a0p,a0o,a0l,hv,he,h_add,h_bare,h_clear,h_style,h_width,h_favour,h_labels,h_merge,h_text,h_wide,h_chunks,h_show,h_resolve,h_pick,h_diff]
  refine⟨by omega,by omega,⟨by omega,by omega⟩,?_⟩
  rw [a24]
  refine a1U (R:=b6J) ⟨line,rfl,hl,⟨hsz,hsp⟩,rfl,rfl⟩ (by decide) (by decide) (a0a.refl _) (a0a.refl _) (a0a.refl _) (a0a.refl _) (a0a.refl _) fun u1 u2 u3 u4 nx' g1 g2 g3 g4 hn=>?_
  simp only [go_sem,a0r,a09,a0z,a08,a1b,a0q,a0x,a0y,a0p,a0o,a0l]
  refine⟨_,a0g (fun p=>p) (l:=[(4,.st ((a1K line a).1))]) (r:=[(0,.box v 106 10 (shC 1 2 3 4 u1 u2 u3 u4 ((a1K line a).2))),(1,a0m u1 ((a1K line a).2).1.1),(2,a0m u2 ((a1K line a).2).1.2.1),(3,a0m u3 ((a1K line a).2).1.2.2),(4,mgR u4 ((a1K line a).2).2.2)]) (sz:=78) (top:=5) (nx:=nx') (df:=[]) ?_,?_⟩
  ·simp only [go_sem,a0r,a09,a0z,a08,a1b,a0q,a0x,a0y,a0p,a0o,a0l]
   exact⟨a0a.refl _,a0a.refl _,a0a.refl _,a0a.refl _,a0a.refl _⟩
  ·simp only [go_sem,a0r,a09,a0z,a08,a1b,a0q,a0x,a0y,a0p,a0o,a0l]
   exact hK u1 u2 u3 u4 nx' g1 g2 g3 g4 hn
 have e:doP line a=(a0V,a):=by unfold doP;rw [hv,if_neg h_add,if_neg (fun h=>h.elim h_bare h_clear),if_neg (fun h=>h.elim h_style (fun h=>h.elim h_width h_favour)),if_neg h_labels,if_neg h_merge,if_neg (fun h=>h.elim h_text (fun h=>h.elim h_wide (fun h=>h.elim h_chunks h_show))),if_neg h_resolve,if_neg h_pick,if_neg h_diff,if_neg h_parse]
 rw [e] at hK
 refine AW.of hΓ a0c [99999] _ _ _ rfl ?_
 simp only [go_sem,a0r,a09,a0z,a08,a1b,a0q,a0x,a0y,a0p,a0o,a0l,hv,h_add,h_bare,h_clear,h_style,h_width,h_favour,h_labels,h_merge,h_text,h_wide,h_chunks,h_show,h_resolve,h_pick,h_diff,h_parse]
 refine⟨by omega,by omega,⟨by omega,by omega⟩,?_⟩
 have hk:=a0U hK rfl
 refine⟨_,a0g (fun p=>p) (l:=[(4,.st a0V)]) (r:=[(0,.box v 106 10 (shC 1 2 3 4 v1 v2 v3 v4 a)),(1,a0m v1 a.1.1),(2,a0m v2 a.1.2.1),(3,a0m v3 a.1.2.2),(4,mgR v4 a.2.2)]) (sz:=78) (top:=5) (nx:=nx) (df:=[]) ?_,?_⟩
 ·simp only [go_sem,a0r,a09,a0z,a08,a1b,a0q,a0x,a0y,a0p,a0o,a0l]
  exact⟨a0a.refl _,a0a.refl _,a0a.refl _,a0a.refl _,a0a.refl _⟩
 ·simp only [go_sem,a0r,a09,a0z,a08,a1b,a0q,a0x,a0y,a0p,a0o,a0l]
  exact hk v1 v2 v3 nx (.inl rfl) (.inl rfl) (.inl rfl) (Nat.le_refl _)
def e0d:a0L:=fun args hp top nx K=>∃ line:List UInt8,args=[.val (.pointer none),.st line]/\K (.st a0V) hp top nx
theorem d63:a0i Tryz.prog 20 e0d:=by
 refine a0i.mk Tryz.func20 rfl (by decide) Tryz.results20 Tryz.ntmps20 ?_
 rintro args hp top nx K ⟨line,rfl,hK⟩
 have hΓ:GOK Tryz.prog (gam [(55,a0r),(56,a09),(57,a0z),(58,a08),(59,a1b),(60,a0q),(61,a0x),(62,a0y),(63,a0p),(64,a0o),(65,a0l)]):=(.cons b64 (.cons c7h (.cons c1J (.cons c7G (.cons c7c (.cons b6s (.cons c2X (.cons b9D (.cons b6I (.cons b7j (.cons b4b .nil)))))))))))
 refine⟨Nat.le_of_ble_eq_true rfl,?_⟩
 refine AW.of hΓ a0c [99999] _ _ _ rfl ?_
 simp only [go_sem,a0r,a09,a0z,a08,a1b,a0q,a0x,a0y,a0p,a0o,a0l]
 exact hK
noncomputable def a3H:a0L:=fun args hp top nx K=>a1D d20 args hp top nx K\/e0d args hp top nx K
theorem c5N:a0i Tryz.prog 20 a3H:=d2l.frame.or d63
end Go.Proofs.YthpjjjnbkfnghaaGreatDoor
set_option maxRecDepth 100000
set_option maxHeartbeats 8000000
namespace Go.Proofs.YthpjjjnbkfnghaaGreatDoor
open Go
attribute [local irreducible] a6w
theorem c5U (t:BS):a7p t=if a1d t=true then some (t.take (t.length-1)) else none:=by
 unfold a7p a1d
 rcases t.eq_nil_or_concat with rfl|⟨p,c,rfl⟩
 ·rfl
 ·rw [List.concat_eq_append]
  have e:(p++[c]).getD ((p++[c]).length-1) 0=c:=by simp [List.getD]
  rw [e]
  simp
theorem c8M (a:Ss) (k:Int) (t:BS):(b8r a k t).2=a.2:=by
 unfold b8r
 repeat' split
 all_goals rfl
end Go.Proofs.YthpjjjnbkfnghaaGreatDoor
namespace Go.Proofs.YthpjjjnbkfnghaaGreatDoor
open Go
section
variable {P:Program} {Γ:Gam} {ops:Array Oper} {st:AS} {K:AS->Prop}
def d6r (fr:Nat->AV) (want:Bool):Option Tmp->Prop
 | some d=>a1Z (fr d) want=some false
 | none=>False
def gNO (ops:Array Oper) (fr:Nat->AV):Option (Nat×Bool)->Prop
 | none=>False
 | some w=>d6r fr w.2 ((ops[w.1]?).bind (·.dst))
theorem b3c {fr:Nat->AV} {j:Nat} {want:Bool}:gNO ops fr (some (j,want))=d6r fr want ((ops[j]?).bind (·.dst)):=rfl
theorem b4y {fr:Nat->AV} {d:Tmp} {want:Bool}:d6r fr want (some d)=(a1Z (fr d) want=some false):=rfl
def c3M (o:Oper):Oper:=⟨o.dst,o.op,o.type,o.pos,o.after,none⟩
def a4m (P:Program) (Γ:Gam) (ops:Array Oper):List Nat->List Oper->AS->(AS->Prop)->Prop
 | _,[],st,K=>K st
 | 0::W,o::r,st,K=>match gop P Γ ops st o with
   | some (pre,z,row)=>(a0R st.sz o.dst/\pre)/\a4m P Γ ops W r (st.put o.dst z row) K
   | none=>o.guard=none/\bop P Γ st o fun st'=>a4m P Γ ops W r st' K
 | 1::W,o::r,st,K=>gOK ops st.fr o.guard/\match gop P Γ ops st (c3M o) with
   | some (pre,z,row)=>(a0R st.sz o.dst/\pre)/\a4m P Γ ops W r (st.put o.dst z row) K
   | none=>bop P Γ st (c3M o) fun st'=>a4m P Γ ops W r st' K
 | _::W,o::r,st,K=>gNO ops st.fr o.guard/\a0R st.sz o.dst/\a4m P Γ ops W r (st.put o.dst (.gd false .any) .dead) K
 | [],l,st,K=>a9B P Γ ops l st K
theorem b9J {c:Ctx} {η:Env} {a:Act} {w:World} (hsr:SR c st η a w) {o:Oper} (h:gOK ops st.fr o.guard):Region.wanted o (yielded ops a.tmps)=true:=by
 unfold Region.wanted
 cases hg:o.guard with
 | none=>rfl
 | some g=>
   obtain⟨j,want⟩:=g
   rw [hg] at h
   cases hj:(ops[j]?).bind (·.dst) with
   | none=>rw [a6F,hj] at h;exact h.elim
   | some d=>
     rw [a6F,hj,a6a] at h
     exact a9p hj hsr h
theorem b9R {c:Ctx} {η:Env} {a:Act} {w:World} (hsr:SR c st η a w) {o:Oper} (h:gNO ops st.fr o.guard):Region.wanted o (yielded ops a.tmps)=false:=by
 unfold Region.wanted
 cases hg:o.guard with
 | none=>rw [hg] at h;exact h.elim
 | some g=>
   obtain⟨j,want⟩:=g
   rw [hg] at h
   cases hj:(ops[j]?).bind (·.dst) with
   | none=>rw [b3c,hj] at h;exact h.elim
   | some d=>
     rw [b3c,hj,b4y] at h
     exact a9p hj hsr h
def c19 (P:Program) (Γ:Gam) (ops:Array Oper) (W:List Nat) (r:List Oper) (K:AS->Prop):AS->Prop:=fun st=>a4m P Γ ops W r st K
theorem c0Z {W:List Nat} {r:List Oper}:c19 P Γ ops W r K st=a4m P Γ ops W r st K:=a25 rfl
def d6X (P:Program) (Γ:Gam) (ops:Array Oper) (W:List Nat) (o:Oper) (r:List Oper) (K:AS->Prop) (st:AS):b3t->Prop
 | some (pre,z,row)=>(a0R st.sz o.dst/\pre)/\a4m P Γ ops W r (st.put o.dst z row) K
 | none=>o.guard=none/\bop P Γ st o (c19 P Γ ops W r K)
theorem b30 {W:List Nat} {o:Oper} {r:List Oper} {pre:Prop} {z:AV} {row:Row}:d6X P Γ ops W o r K st (some (pre,z,row))=((a0R st.sz o.dst/\pre)/\a4m P Γ ops W r (st.put o.dst z row) K):=a25 rfl
theorem b3I {W:List Nat} {o:Oper} {r:List Oper}:d6X P Γ ops W o r K st none=(o.guard=none/\bop P Γ st o (c19 P Γ ops W r K)):=a25 rfl
def d7J (P:Program) (Γ:Gam) (ops:Array Oper) (W:List Nat) (o:Oper) (r:List Oper) (K:AS->Prop) (st:AS):b3t->Prop
 | some (pre,z,row)=>(a0R st.sz o.dst/\pre)/\a4m P Γ ops W r (st.put o.dst z row) K
 | none=>bop P Γ st (c3M o) (c19 P Γ ops W r K)
theorem b3w {W:List Nat} {o:Oper} {r:List Oper} {pre:Prop} {z:AV} {row:Row}:d7J P Γ ops W o r K st (some (pre,z,row))=((a0R st.sz o.dst/\pre)/\a4m P Γ ops W r (st.put o.dst z row) K):=a25 rfl
theorem b3O {W:List Nat} {o:Oper} {r:List Oper}:d7J P Γ ops W o r K st none=bop P Γ st (c3M o) (c19 P Γ ops W r K):=a25 rfl
theorem c9L {d:Option Tmp} {op:Op} {t:TypeId} {p:String} {af:Array Edge} {g:Option (Nat×Bool)}:c3M ⟨d,op,t,p,af,g⟩=⟨d,op,t,p,af,none⟩:=rfl
theorem c2j {W:List Nat}:a4m P Γ ops W [] st K=K st:=a25 (by rcases W with _|⟨_|_|b,W⟩<;>rfl)
theorem c0d {o:Oper} {r:List Oper}:a4m P Γ ops [] (o::r) st K=a9B P Γ ops (o::r) st K:=a25 rfl
theorem c3q {W:List Nat} {o:Oper} {r:List Oper}:a4m P Γ ops (0::W) (o::r) st K=d6X P Γ ops W o r K st (gop P Γ ops st o):=a25 rfl
theorem c2r {W:List Nat} {o:Oper} {r:List Oper}:a4m P Γ ops (1::W) (o::r) st K=(gOK ops st.fr o.guard/\d7J P Γ ops W o r K st (gop P Γ ops st (c3M o))):=a25 rfl
theorem c82 {W:List Nat} {o:Oper} {r:List Oper}:a4m P Γ ops (2::W) (o::r) st K=(gNO ops st.fr o.guard/\a0R st.sz o.dst/\a4m P Γ ops W r (st.put o.dst (.gd false .any) .dead) K):=a25 rfl
theorem a4R (hΓ:GOK P Γ) {ops:Array Oper} {Q:Exit->Act->World->Prop}:∀ (W:List Nat) (l:List Oper) (c:Ctx) (st:AS) (K:AS->Prop) (η:Env) (a:Act) (w:World),SR c st η a w->a4m P Γ ops W l st K->
  (∀ st' η' a' w',SR c st' η' a' w'->K st'->Q .normal a' w')->wpList P ops Q l a w
 | [],[],_,_,_,η,a,w,hsr,h,hQ=>hQ _ η a w hsr h
 | 0::_,[],_,_,_,η,a,w,hsr,h,hQ=>hQ _ η a w hsr (by unfold a4m at h;exact h)
 | 1::_,[],_,_,_,η,a,w,hsr,h,hQ=>hQ _ η a w hsr (by unfold a4m at h;exact h)
 | (n+2)::_,[],_,_,_,η,a,w,hsr,h,hQ=>hQ _ η a w hsr (by unfold a4m at h;exact h)
 | [],o::r,c,st,K,η,a,w,hsr,h,hQ=>a7K hΓ (o::r) c st K η a w hsr h hQ
 | 0::W,o::r,c,st,K,η,a,w,hsr,h,hQ=>by
   rw [c3q] at h
   cases hg:gop P Γ ops st o with
   | some t=>
     obtain⟨pre,z,row⟩:=t
     rw [hg,b30] at h
     exact wpList_step fun KK hKK=>b1Y hΓ hsr hg h.1.2 h.1.1 fun η' a' w' hsr'=>hKK _ _ (a4R hΓ W r c _ K η' a' w' hsr' h.2 hQ)
   | none=>
     rw [hg,b3I] at h
     refine wpList_step fun KK hKK=>?_
     rw [if_pos (a5r h.1)]
     exact b36 hΓ h.2 c η a w KK Q hsr fun st' η' a' w' hsr' hx=>hKK _ _ (a4R hΓ W r c st' K η' a' w' hsr' hx hQ)
 | 1::W,o::r,c,st,K,η,a,w,hsr,h,hQ=>by
   rw [c2r] at h
   obtain⟨hg0,h⟩:=h
   refine wpList_step fun KK hKK=>?_
   rw [if_pos (b9J hsr hg0)]
   have eo:∀ K':Act->World->Prop,(c3M o).wp P a w K' Q->o.wp P a w K' Q:=fun K' hh=>hh
   refine eo KK ?_
   cases hg:gop P Γ ops st (c3M o) with
   | some t=>
     obtain⟨pre,z,row⟩:=t
     rw [hg,b3w] at h
     have:=b1Y hΓ hsr (o:=c3M o) (ops:=ops) hg h.1.2 h.1.1 (Q:=Q) (K:=KK) fun η' a' w' hsr'=>hKK _ _ (a4R hΓ W r c _ K η' a' w' hsr' h.2 hQ)
     rw [if_pos (a5r rfl)] at this
     exact this
   | none=>
     rw [hg,b3O] at h
     exact b36 hΓ h c η a w KK Q hsr fun st' η' a' w' hsr' hx=>hKK _ _ (a4R hΓ W r c st' K η' a' w' hsr' hx hQ)
 | (n+2)::W,o::r,c,st,K,η,a,w,hsr,h,hQ=>by
   have h:gNO ops st.fr o.guard/\a0R st.sz o.dst/\a4m P Γ ops W r (st.put o.dst (.gd false .any) .dead) K:=h
   refine wpList_step fun KK hKK=>?_
   rw [b9R hsr h.1]
   simp only [Bool.false_eq_true,if_false]
   exact hKK _ _ (a4R hΓ W r c _ K η _ w (hsr.skip h.2.1 (.inl rfl)) h.2.2 hQ)
theorem AW.regionG (hΓ:GOK P Γ) {Q:Exit->AS->Prop} {id:Nat} {l:List Oper} (W:List Nat) (h:a4m P Γ l.toArray W l st (Q .normal)):AW P (.region id l.toArray false) Q st:=by
 intro c η a w hsr
 exact wp_region_lit (a4R hΓ W l c st _ η a w hsr h fun st' η' a' w' hsr' hq=>⟨st',η',hq,hsr'⟩)
end
attribute [go_sem high] c3q c2r c82
attribute [go_sem] c0Z b30 b3I b3w b3O c2j c0d c9L b3c b4y a6F a6a b7o
end Go.Proofs.YthpjjjnbkfnghaaGreatDoor
set_option maxRecDepth 100000
set_option maxHeartbeats 8000000
namespace Go.Proofs.YthpjjjnbkfnghaaGreatDoor
open Go
attribute [local irreducible] AW a0e a1g a0a a6w
theorem c5b {line:BS} (h:3<=(wdL line).length):line.length=((wdL line).getD 0 []).length+((wdL line).getD 1 []).length+2+(a9r 2 line).length:=by
 rcases a3s 32 line with h1|⟨p,r,rfl,h1⟩
 ·rw [a89 line h1] at h
  exact absurd h (by simp)
 ·rw [a7c p r h1] at h ⊢
  rcases a3s 32 r with h2|⟨q,t,rfl,h2⟩
  ·rw [a89 r h2] at h
   exact absurd h (by simp)
  ·rw [a7c q t h2,a6s 2 p _ h1,if_neg (by decide),a6s 1 q t h2,if_pos rfl]
   simp only [List.length_append,List.length_cons,List.getD_cons_zero,List.getD_cons_succ]
   omega
theorem c3T {w:BS} (h:0<=a4v w):4<=w.length:=by
 unfold a4v at h
 by_cases h1:w=[98,97,115,101]
 ·rw [h1];decide
 ·rw [if_neg h1] at h
  by_cases h2:w=[108,101,102,116]
  ·rw [h2];decide
  ·rw [if_neg h2] at h
   by_cases h3:w=[114,105,103,104,116]
   ·rw [h3];decide
   ·rw [if_neg h3] at h
    exact absurd h (by decide)
theorem b0Z.mono {B C:Nat} {a:Ss} (h:b0Z B a) (hl:B<=C):b0Z C a:=⟨Nat.le_trans h.txt hl,h.lb,h.mg⟩
theorem c4l (a:Ss) (k:Int) (t:BS):(b8r a k t).1.1.length+(b8r a k t).1.2.1.length+(b8r a k t).1.2.2.length+(txt a k).length=a.1.1.length+a.1.2.1.length+a.1.2.2.length+t.length:=by
 unfold b8r txt
 by_cases h0:k=0
 ·rw [if_pos h0,if_pos h0];dsimp only;omega
 ·rw [if_neg h0,if_neg h0]
  by_cases h1:k=1
  ·rw [if_pos h1,if_pos h1];dsimp only;omega
  ·rw [if_neg h1,if_neg h1];dsimp only;omega
theorem b5k {B C:Nat} {a:Ss} (h:b0Z B a) (k:Int) (t:BS) (hl:B+t.length<=C+(txt a k).length):b0Z C (b8r a k t):=by
 have e:=c8M a k t
 have hs:=c4l a k t
 have:=h.txt
 refine⟨by omega,?_,?_⟩
 ·rw [e];exact h.lb
 ·rw [e];exact h.mg
theorem c16 (w:BS):(b71 w).length<=w.length:=by
 unfold b71
 split
 ·exact Nat.zero_le _
 ·exact Nat.le_refl _
theorem d3g {w:BS} {n:Nat} (h:a6w w=some n):n<=1000000:=by
 have ht:=a4l w
 rw [h] at ht
 rcases ht with⟨k,h1,h4,h3⟩|⟨h4,h3⟩
 ·have:=Option.some.inj h3
  omega
 ·cases h3
theorem c9i {B:Nat} {a:Ss} {line:BS} (h:b0Z B a) (hl:line.length<=1000) (hB:B+(line.length-8)<=9400):b0Z (B+(line.length-8)) (doP line a).2:=by
 have hm:=h.mono (Nat.le_add_right B (line.length-8))
 have h9:b0Z 9400 a:=h.mono (by omega)
 unfold doP
 split
 ·rename_i hv
  unfold a26
  split
  ·rename_i c
   have e:=c5b c.1
   have f:=c3T c.2
   rw [hv] at e
   simp only [List.length_cons,List.length_nil] at e
   refine b5k h _ _ ?_
   simp only [List.length_append,List.length_cons,List.length_nil]
   omega
  ·exact hm
 split
 ·unfold a1p
  split
  ·unfold a4F
   split
   ·exact b5k h _ _ (by simp;omega)
   ·rw [c5U]
    by_cases he:a1d (txt a (a4v ((wdL line).getD 1 [])))=true
    ·rw [if_pos he]
     exact b5k h _ _ (by rw [List.length_take];omega)
    ·rw [if_neg he]
     exact hm
  ·exact hm
 split
 ·unfold a1Q
  split
  ·refine⟨hm.txt,?_,hm.mg⟩
   unfold c57
   dsimp only
   repeat' split
   all_goals exact h.lb
  ·exact hm
 split
 ·unfold a4o
  split
  ·refine⟨hm.txt,?_,hm.mg⟩
   have g1:=b5f line 1
   have g2:=b5f line 2
   have g3:=b5f line 3
   have k1:=c16 ((wdL line).getD 1 [])
   have k2:=c16 ((wdL line).getD 2 [])
   have k3:=c16 ((wdL line).getD 3 [])
   unfold lbN
   dsimp only
   omega
  ·exact hm
 split
 ·unfold a1s
  split
  ·split
   ·rename_i hz
    refine⟨hm.txt,hm.lb,fun m e=>?_⟩
    have e:=Option.some.inj e
    rw [<-e]
    exact b8Y h9.txt hz h.lb
   ·exact hm
  ·exact hm
 split
 ·exact hm
 split
 ·exact hm
 split
 ·unfold a1R
  split
  ·cases hb:a.2.2 with
   | none=>exact hm
   | some m=>
     dsimp only
     split
     ·refine⟨hm.txt,hm.lb,fun m' e=>?_⟩
      have e:=Option.some.inj e
      rw [<-e]
      exact (h.mg m hb).pick _ _
     ·exact hm
  ·exact hm
 split
 ·exact hm
 split
 ·unfold a1K
  split
  ·rename_i c
   obtain⟨n,hn⟩:=Option.isSome_iff_exists.1 c.2
   split
   ·refine⟨hm.txt,hm.lb,fun m' e=>?_⟩
    have e:=Option.some.inj e
    rw [<-e,a3x hn]
    have:=h9.txt
    exact b8x (by omega) (d3g hn)
   ·exact hm
  ·exact hm
 exact hm
theorem c6J:b0Z 0 ss0:=⟨Nat.le_refl _,Nat.zero_le _,fun m h=>by cases h⟩
noncomputable def a2K (a:Ss) (l:List BS):Ss:=l.foldl (fun a x=>(doP x a).2) a
theorem a6p (a:Ss) (l:List BS) (x:BS):a2K a (l++[x])=(doP x (a2K a l)).2:=by unfold a2K;rw [List.foldl_append];rfl
theorem b0X {l:List BS} (h1:l.length<=100) (h2:∀ s∈l,s.length<=100):∀ i,i<=l.length->b0Z (92*i) (a2K ss0 (l.take i))
 | 0,_=>c6J
 | i+1,hi=>by
   have ih:=b0X h1 h2 i (by omega)
   have hx:=h2 _ (a1h l [] (by omega:i<l.length)▸List.getElem_mem (by omega))
   rw [a1f l [] (by omega),a6p]
   exact (c9i ih (by omega) (by omega)).mono (by omega)
theorem b3b {l:List BS}:c1C l=true↔l.length<=100/\∀ s∈l,s.length<=100:=by
 unfold c1C
 rw [Bool.and_eq_true,decide_eq_true_iff,decide_eq_true_iff]
def tA:BS:=[97,100,100,32,98,97,115,101,32,97]
def tB:BS:=[97,100,100,32,108,101,102,116,32,98]
def tC:BS:=[97,100,100,32,114,105,103,104,116,32,99]
def tM:BS:=[109,101,114,103,101]
def tT:BS:=[116,101,120,116]
def tR:BS:=[114,101,115,111,108,118,101,32,114,105,103,104,116]
def tK:BS:=[99,104,117,110,107,115]
def tX:BS:=[120]
def op0:Op:=(([],[],[]),0,7,0)
def t1:Ss:=(([97,10],[],[]),op0,none)
def t2:Ss:=(([97,10],[98,10],[]),op0,none)
def t3:Ss:=(([97,10],[98,10],[99,10]),op0,none)
def tMg:Mg:=([([],[],[],true,[],[98,10],[],[99,10],false)],[60,60,60,60,60,60,60,10,98,10,61,61,61,61,61,61,61,10,99,10,62,62,62,62,62,62,62,10],7,[(false,(0,1),(0,1),(0,1))])
def t4:Ss:=(([97,10],[98,10],[99,10]),op0,some tMg)
theorem i1:Lib.itoa 1=[49]:=by
 rw [show (1:Int)=((1:Nat):Int) from rfl,a32,Lib.decDigits,dif_pos (by decide)]
 rfl
theorem i0:Lib.itoa 0=[48]:=by
 rw [show (0:Int)=((0:Nat):Int) from rfl,a32,Lib.decDigits,dif_pos (by decide)]
 rfl
theorem dA:doP tA ss0=(okT,t1):=by rfl
theorem dB:doP tB t1=(okT,t2):=by rfl
theorem dC:doP tC t2=(okT,t3):=by rfl
theorem dM:doP tM t3=([49],t4):=by
 have e:doP tM t3=a1s tM t3:=by rfl
 rw [e]
 unfold a1s
 rw [if_pos (by decide),if_pos (by decide)]
 have e2:b8W t3=_:=d0c
 rw [e2]
 show (Lib.itoa 1,_)=_
 rw [i1]
 rfl
theorem dT:doP tT t4=([60,60,60,60,60,60,60,59,98,59,61,61,61,61,61,61,61,59,99,59,62,62,62,62,62,62,62,59],t4):=by rfl
theorem dR:doP tR t4=([99,59],t4):=by rfl
theorem dK:doP tK t4=([99,32,48,32,49,32,48,32,49,32,48,32,49],t4):=by
 have e:doP tK t4=(b5v [(false,(0,1),(0,1),(0,1))],t4):=by rfl
 rw [e]
 unfold b5v b00
 rw [if_neg (by simp)]
 rw [List.map_cons,List.map_nil,i0,i1]
 rfl
theorem dX:doP tX t4=(a0V,t4):=by rfl
def a03:a0s:=a0s.f0 (kB.enc true)
theorem d6k:b0Z 9400 t1:=⟨by decide,by decide,fun m h=>by cases h⟩
theorem d76:b0Z 9400 t2:=⟨by decide,by decide,fun m h=>by cases h⟩
theorem d7C:b0Z 9400 t3:=⟨by decide,by decide,fun m h=>by cases h⟩
theorem c5v:b0Z 9400 t4:=by
 have h:=(c9i (B:=6) (line:=tM) (a:=t3) ⟨by decide,by decide,fun m h=>by cases h⟩ (by decide) (by decide)).mono (C:=9400) (by decide)
 rw [dM] at h
 exact h
theorem b6U:a0d Tryz.prog 16 a03:=by
 refine a0d.f0 Tryz.func16 rfl (by decide) Tryz.results16 Tryz.ntmps16 ?_
 have hΓ:GOK Tryz.prog (gam [(18,a1w),(20,a3H)]):=(.cons b63 (.cons c5N .nil))
 refine AW.of hΓ a0c [4] _ _ _ rfl ?_
 simp only [go_sem,a1w,a3H]
 refine .inl (a1U (R:=a6W) (a:=ss0) (b:=t1) (r:=.st okT) (v:=0) (v1:=1) (v2:=2) (v3:=3) (v4:=0) ⟨tA,rfl,by decide,c6J.mono (by decide),by rw [dA],by rw [dA]⟩ (by decide) (by decide) (a0a.refl _) (a0a.refl _) (a0a.refl _) (a0a.refl _) (a0a.refl _) fun u1 u2 u3 u4 nx g1 g2 g3 g4 hn=>?_)
 simp only [go_sem,a1w,a3H]
 refine .inl (a1U (R:=a6W) (a:=t1) (b:=t2) (r:=.st okT) (v:=0) (v1:=u1) (v2:=u2) (v3:=u3) (v4:=u4) ⟨tB,rfl,by decide,d6k,by rw [dB],by rw [dB]⟩ (by decide) (by decide) (a0a.refl _) (a0a.refl _) (a0a.refl _) (a0a.refl _) (a0a.refl _) fun u1 u2 u3 u4 nx g1 g2 g3 g4 hn=>?_)
 simp only [go_sem,a1w,a3H]
 refine .inl (a1U (R:=a6W) (a:=t2) (b:=t3) (r:=.st okT) (v:=0) (v1:=u1) (v2:=u2) (v3:=u3) (v4:=u4) ⟨tC,rfl,by decide,d76,by rw [dC],by rw [dC]⟩ (by decide) (by decide) (a0a.refl _) (a0a.refl _) (a0a.refl _) (a0a.refl _) (a0a.refl _) fun u1 u2 u3 u4 nx g1 g2 g3 g4 hn=>?_)
 simp only [go_sem,a1w,a3H]
 refine AW.cut ⟨[(1,.pt 0 0 0),(2,.st okT),(3,.st okT),(4,.st okT)],[(0,.box 0 106 10 (shC 1 2 3 4 u1 u2 u3 u4 t3)),(1,a0m u1 [97,10]),(2,a0m u2 [98,10]),(3,a0m u3 [99,10]),(4,mgR u4 none)],49,5,nx,[]⟩ ?_ ?_
 ·simp only [go_sem,a1w,a3H]
  exact⟨a0a.refl _,a0a.refl _,a0a.refl _,a0a.refl _,a0a.refl _⟩
 refine AW.fork (AW.regionG hΓ [0,0,0,1,1,0,0,1,1,0,0,1,1,1,0,0,1,1,1,0,0,1,1,1,0,0,1,1,1,0,0,1,1,1,0,0] ?_)
 simp only [go_sem,a1w,a3H]
 refine .inl (a1U (R:=a6W) (a:=t3) (b:=t4) (r:=.st [49]) (v:=0) (v1:=u1) (v2:=u2) (v3:=u3) (v4:=u4) ⟨tM,rfl,by decide,d7C,by rw [dM],by rw [dM]⟩ (by decide) (by decide) (a0a.refl _) (a0a.refl _) (a0a.refl _) (a0a.refl _) (a0a.refl _) fun u1 u2 u3 u4 nx g1 g2 g3 g4 hn=>?_)
 simp only [go_sem,a1w,a3H]
 refine .inl (a1U (R:=a6W) (a:=t4) (b:=t4) (r:=.st [60,60,60,60,60,60,60,59,98,59,61,61,61,61,61,61,61,59,99,59,62,62,62,62,62,62,62,59]) (v:=0) (v1:=u1) (v2:=u2) (v3:=u3) (v4:=u4) ⟨tT,rfl,by decide,c5v,by rw [dT],by rw [dT]⟩ (by decide) (by decide) (a0a.refl _) (a0a.refl _) (a0a.refl _) (a0a.refl _) (a0a.refl _) fun u1 u2 u3 u4 nx g1 g2 g3 g4 hn=>?_)
 simp only [go_sem,a1w,a3H]
 refine .inl (a1U (R:=a6W) (a:=t4) (b:=t4) (r:=.st [99,59]) (v:=0) (v1:=u1) (v2:=u2) (v3:=u3) (v4:=u4) ⟨tR,rfl,by decide,c5v,by rw [dR],by rw [dR]⟩ (by decide) (by decide) (a0a.refl _) (a0a.refl _) (a0a.refl _) (a0a.refl _) (a0a.refl _) fun u1 u2 u3 u4 nx g1 g2 g3 g4 hn=>?_)
 simp only [go_sem,a1w,a3H]
 refine .inl (a1U (R:=a6W) (a:=t4) (b:=t4) (r:=.st [99,32,48,32,49,32,48,32,49,32,48,32,49]) (v:=0) (v1:=u1) (v2:=u2) (v3:=u3) (v4:=u4) ⟨tK,rfl,by decide,c5v,by rw [dK],by rw [dK]⟩ (by decide) (by decide) (a0a.refl _) (a0a.refl _) (a0a.refl _) (a0a.refl _) (a0a.refl _) fun u1 u2 u3 u4 nx g1 g2 g3 g4 hn=>?_)
 simp only [go_sem,a1w,a3H]
 refine .inl (a1U (R:=a6W) (a:=t4) (b:=t4) (r:=.st a0V) (v:=0) (v1:=u1) (v2:=u2) (v3:=u3) (v4:=u4) ⟨tX,rfl,by decide,c5v,by rw [dX],by rw [dX]⟩ (by decide) (by decide) (a0a.refl _) (a0a.refl _) (a0a.refl _) (a0a.refl _) (a0a.refl _) fun u1 u2 u3 u4 nx g1 g2 g3 g4 hn=>?_)
 simp only [go_sem,a1w,a3H]
 refine AW.of hΓ a0c [99999] _ _ _ rfl ?_
 simp only [go_sem,a1w,a3H]
end Go.Proofs.YthpjjjnbkfnghaaGreatDoor
