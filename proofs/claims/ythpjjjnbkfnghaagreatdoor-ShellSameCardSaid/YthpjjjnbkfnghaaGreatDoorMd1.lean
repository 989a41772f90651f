/-
  Part 1 of what the proof rests on: values that are told, code that is walked, what comes out.
-/
import Derived.WalkKit
import Derived.Lib.IndexLaws
import Derived.Lib.Join
import Derived.Laws.StructEq
import Derived.ChangeKeysEq
import Derived.MapKept
import Derived.Laws.Cover3
import Derived.Laws.Pointers
import Derived.Laws.BytesArg
import Derived.WideLaws
import GoSem.Claim
import Derived.Lib.ItoaNum
set_option linter.all false
namespace Go.Proofs.YthpjjjnbkfnghaaGreatDoor
theorem a1e {α:Type} (l:List α) (d:α) {k:Nat} (h:k<l.length):l.getD k d=l[k]:=by simp [List.getD,h]
section
variable {α:Type} [DecidableEq α]
def ahd:List α->List α->Nat
 | x::a,y::b=>if x=y then ahd a b+1 else 0
 | _,_=>0
def bhd (a b:List α):Nat:=ahd a.reverse b.reverse
theorem a65:∀ (a b:List α),ahd a b<=a.length/\ahd a b<=b.length
 | [],_=>by simp [ahd]
 | _::_,[]=>by simp [ahd]
 | x::a,y::b=>by
   unfold ahd
   have:=a65 a b
   split<;>simp<;>omega
theorem b6R (d:α):∀ (n:Nat) (a b:List α),n<=a.length->n<=b.length->(∀ k,k<n->a.getD k d=b.getD k d)->(n<a.length->n<b.length->a.getD n d≠b.getD n d)->n=ahd a b
 | 0,[],_,_,_,_,_=>rfl
 | 0,_::_,[],_,_,_,_=>rfl
 | 0,x::a,y::b,_,_,_,h=>by
   have:=h (by simp) (by simp)
   simp only [List.getD_cons_zero] at this
   unfold ahd
   rw [if_neg this]
 | n+1,x::a,y::b,h1,h2,h3,h4=>by
   have e:x=y:=by simpa using h3 0 (by omega)
   unfold ahd
   rw [if_pos e]
   simp only [List.length_cons] at h1 h2 h4
   have:=b6R d n a b (by omega) (by omega) (fun k hk=>by simpa using h3 (k+1) (by omega)) fun p q=>by simpa using h4 (by omega) (by omega)
   omega
theorem a3Z (d:α):∀ (a b:List α),(∀ k,k<ahd a b->a.getD k d=b.getD k d)/\(ahd a b<a.length->ahd a b<b.length->a.getD (ahd a b) d≠b.getD (ahd a b) d)
 | [],b=>by simp [ahd]
 | _::_,[]=>by simp [ahd]
 | x::a,y::b=>by
   unfold ahd
   split
   ·rename_i e
    subst e
    obtain⟨h1,h2⟩:=a3Z d a b
    refine⟨fun k hk=>?_,fun p q=>?_⟩
    ·cases k with
     | zero=>rfl
     | succ k=>simpa using h1 k (by omega)
    ·simp only [List.length_cons] at p q
     simpa using h2 (by omega) (by omega)
   ·rename_i e
    exact⟨fun k hk=>by omega,fun _ _=>by simpa using e⟩
omit [DecidableEq α] in
theorem a4E (d:α) (a:List α) {k:Nat} (h:k<a.length):a.reverse.getD k d=a.getD (a.length-1-k) d:=by
 rw [a1e _ _ (by simpa using h),a1e _ _ (by omega)]
 simp
theorem c7Q (d:α) (n:Nat) (a b:List α) (h1:n<=a.length) (h2:n<=b.length) (h3:∀ k,k<n->a.getD (a.length-1-k) d=b.getD (b.length-1-k) d)
  (h4:n<a.length->n<b.length->a.getD (a.length-1-n) d≠b.getD (b.length-1-n) d):n=bhd a b:=by
 refine b6R d n _ _ (by simpa using h1) (by simpa using h2) (fun k hk=>?_) fun p q=>?_
 ·rw [a4E d a (by omega),a4E d b (by omega)];exact h3 k hk
 ·simp only [List.length_reverse] at p q
  rw [a4E d a p,a4E d b q];exact h4 p q
theorem c2w (a b:List α):bhd a b<=a.length/\bhd a b<=b.length:=by
 have:=a65 a.reverse b.reverse
 simpa [bhd] using this
theorem b7L (d:α) (a b:List α):(∀ k,k<bhd a b->a.getD (a.length-1-k) d=b.getD (b.length-1-k) d)/\
  (bhd a b<a.length->bhd a b<b.length->a.getD (a.length-1-bhd a b) d≠b.getD (b.length-1-bhd a b) d):=by
 obtain⟨h1,h2⟩:=a3Z d a.reverse b.reverse
 obtain⟨l1,l2⟩:=c2w a b
 refine⟨fun k hk=>?_,fun p q=>?_⟩
 ·rw [<-a4E d a (by omega),<-a4E d b (by omega)];exact h1 k hk
 ·rw [<-a4E d a p,<-a4E d b q];exact h2 (by simpa [bhd] using p) (by simpa [bhd] using q)
theorem b6O:∀ (a:List α),ahd a a=a.length
 | []=>rfl
 | x::a=>by unfold ahd;simp [b6O a]
theorem c3q {a b:List α} (h:a.length=b.length) (e:ahd a b=a.length):a=b:=by
 cases a with
 | nil=>cases b with
   | nil=>rfl
   | cons _ _=>simp at h
 | cons x a'=>
   refine List.ext_getElem h fun i h1 h2=>?_
   have:=(a3Z x (x::a') b).1 i (by omega)
   rwa [a1e _ _ h1,a1e _ _ h2] at this
omit [DecidableEq α] in
theorem a1C (d:α) {a b:List α} (h:a.length=b.length) (e:∀ k,k<a.length->a.getD k d=b.getD k d):a=b:=by
 refine List.ext_getElem h fun i h1 h2=>?_
 have:=e i h1
 rwa [a1e _ _ h1,a1e _ _ h2] at this
end
end Go.Proofs.YthpjjjnbkfnghaaGreatDoor
namespace Go.Proofs.YthpjjjnbkfnghaaGreatDoor
open Go
def a0b:List UInt8->List (List UInt8)
 | []=>[]
 | c::r=>if c=10 then [c]::a0b r else match a0b r with
   | []=>[[c]]
   | l::ls=>(c::l)::ls
def spA:List UInt8->List (List UInt8)
 | []=>[[]]
 | c::r=>if c=10 then [c]::spA r else match spA r with
   | []=>[[c]]
   | l::ls=>(c::l)::ls
theorem d2S (s:List UInt8):spA s≠[]:=by
 cases s with
 | nil=>simp [spA]
 | cons c r=>
   unfold spA
   split
   ·simp
   ·split<;>simp
theorem a4Z:∀ (p r:List UInt8),(10:UInt8)∉p->a0b (p++10::r)=(p++[10])::a0b r
 | [],r,_=>by simp [a0b]
 | c::p,r,h=>by
   simp only [List.mem_cons,not_or] at h
   rw [List.cons_append,a0b,if_neg (Ne.symm h.1),a4Z p r h.2]
   rfl
theorem a8P:∀ (p:List UInt8),(10:UInt8)∉p->p≠[]->a0b p=[p]
 | [],_,h=>absurd rfl h
 | [c],h,_=>by
   simp only [List.mem_cons,List.not_mem_nil,or_false] at h
   simp [a0b,Ne.symm h]
 | c::d::p,h,_=>by
   simp only [List.mem_cons,not_or] at h
   rw [a0b,if_neg (Ne.symm h.1),a8P (d::p) (by simp only [List.mem_cons,not_or];exact h.2) (by simp)]
theorem c0t:∀ (p r:List UInt8),(10:UInt8)∉p->spA (p++10::r)=(p++[10])::spA r
 | [],r,_=>by simp [spA]
 | c::p,r,h=>by
   simp only [List.mem_cons,not_or] at h
   rw [List.cons_append,spA,if_neg (Ne.symm h.1),c0t p r h.2]
   rfl
theorem c2q:∀ (p:List UInt8),(10:UInt8)∉p->spA p=[p]
 | [],_=>rfl
 | c::p,h=>by
   simp only [List.mem_cons,not_or] at h
   rw [spA,if_neg (Ne.symm h.1),c2q p h.2]
theorem a6i (x:List UInt8):(Lib.indexByte x 10=-1/\(10:UInt8)∉x)\/∃ p r,x=p++10::r/\(10:UInt8)∉p/\Lib.indexByte x 10=p.length:=by
 rcases Int.lt_or_le (Lib.indexByte x 10) 0 with h|h
 ·have:=Lib.indexByte_ge x 10
  have e:Lib.indexByte x 10=-1:=by omega
  refine .inl ⟨e,fun hm=>?_⟩
  obtain⟨k,hk,hx⟩:=List.mem_iff_getElem.1 hm
  exact Lib.indexByte_none e k (by rw [List.getElem?_eq_getElem hk,hx])
 ·obtain⟨o,ho⟩:=Int.eq_ofNat_of_zero_le h
  obtain⟨h1,h2⟩:=Lib.indexByte_some (o:=o) ho
  obtain⟨hl,hx⟩:=List.getElem?_eq_some_iff.1 h1
  refine .inr ⟨x.take o,x.drop (o+1),?_,fun hm=>?_,?_⟩
  ·conv=>lhs;rw [<-List.take_append_drop o x]
   rw [List.drop_eq_getElem_cons hl,hx]
  ·obtain⟨k,hk,hk'⟩:=List.mem_iff_getElem.1 hm
   have hk2:k<o:=by simp at hk;omega
   refine h2 k hk2 ?_
   rw [List.getElem_take] at hk'
   rw [List.getElem?_eq_getElem (by omega),hk']
  ·rw [ho,List.length_take]
   have:min o x.length=o:=by omega
   rw [this]
theorem b1b (s:List UInt8):a0b s=[]↔s=[]:=by
 cases s with
 | nil=>simp [a0b]
 | cons c r=>
   unfold a0b
   split
   ·simp
   ·split<;>simp
theorem b4o:∀ (s:List UInt8),(spA s=a0b s++[[]])\/(spA s=a0b s/\∀ l∈a0b s,l≠[])
 | []=>.inl rfl
 | c::r=>by
   have ih:=b4o r
   unfold spA a0b
   by_cases h:c=10
   ·rw [if_pos h,if_pos h]
    rcases ih with e|⟨e,hl⟩
    ·exact .inl (by rw [e];rfl)
    ·refine .inr ⟨by rw [e],?_⟩
     intro l hm
     rcases List.mem_cons.1 hm with rfl|hm
     ·simp
     ·exact hl l hm
   ·rw [if_neg h,if_neg h]
    rcases ih with e|⟨e,hl⟩
    ·rw [e]
     cases hs:a0b r with
     | nil=>exact .inr ⟨rfl,by simp⟩
     | cons l ls=>exact .inl rfl
    ·rw [e]
     refine .inr ⟨rfl,?_⟩
     cases hs:a0b r with
     | nil=>simp
     | cons l ls=>
       rw [hs] at hl
       intro x hm
       rcases List.mem_cons.1 hm with rfl|hm
       ·simp
       ·exact hl x (List.mem_cons_of_mem _ hm)
theorem b3N:∀ (s:List UInt8),∀ l∈a0b s,l≠[]
 | []=>by simp [a0b]
 | c::r=>by
   have ih:=b3N r
   unfold a0b
   split
   ·intro l hm
    rcases List.mem_cons.1 hm with rfl|hm
    ·simp
    ·exact ih l hm
   ·split
    ·simp
    ·rename_i l ls hs
     rw [hs] at ih
     intro x hm
     rcases List.mem_cons.1 hm with rfl|hm
     ·simp
     ·exact ih x (List.mem_cons_of_mem _ hm)
theorem a1j:∀ (s:List UInt8),(a0b s).flatten=s
 | []=>rfl
 | c::r=>by
   have ih:=a1j r
   unfold a0b
   split
   ·simp [ih]
   ·split
    ·rename_i hs
     rw [hs] at ih
     simp at ih
     simp [ih]
    ·rename_i l ls hs
     rw [hs] at ih
     simp only [List.flatten_cons] at ih ⊢
     simp [ih]
theorem a8c:∀ (n:Nat) (a b:List UInt8),a.length<=n->(a=[]\/a.getLast?=some 10)->a0b (a++b)=a0b a++a0b b
 | n,a,b,hn,h=>by
   rcases a6i a with⟨_,hno⟩|⟨p,r,rfl,hp,_⟩
   ·rcases h with rfl|h
    ·rfl
    ·exact absurd (List.mem_of_getLast? h) hno
   ·cases n with
    | zero=>simp at hn
    | succ n=>
      rw [List.append_assoc,List.cons_append,a4Z p _ hp,a4Z p r hp,List.cons_append]
      congr 1
      refine a8c n r b (by simp at hn;omega) ?_
      rcases h with h|h
      ·simp at h
      ·cases r with
       | nil=>exact .inl rfl
       | cons c r=>rw [List.getLast?_append,List.getLast?_cons_cons] at h;exact .inr (by simpa using h)
theorem a0M (s:List UInt8):(a0b s).length<=s.length:=by
 have h:∀ l:List (List UInt8),(∀ x∈l,x≠[])->l.length<=l.flatten.length:=by
  intro l
  induction l with
  | nil=>simp
  | cons x l ih=>
    intro hx
    have h1:=ih fun y hy=>hx y (List.mem_cons_of_mem _ hy)
    have h2:0<x.length:=List.length_pos_iff.2 (hx x (List.mem_cons_self ..))
    simp only [List.length_cons,List.flatten_cons,List.length_append]
    omega
 have:=h (a0b s) (b3N s)
 rwa [a1j] at this
def b51 (x:List UInt8):Bool:=decide ((a0b x).length=1)
def a1d (x:List UInt8):Bool:=decide (x.getLast?=some 10)
def a09:List (List UInt8)->Bool
 | []=>true
 | [x]=>b51 x
 | x::y::r=>b51 x&&a1d x&&a09 (y::r)
theorem a3i:∀ (l:List (List UInt8)),a09 l=true↔∀ i,i<l.length->b51 (l.getD i [])=true/\(i+1<l.length->a1d (l.getD i [])=true)
 | []=>by simp [a09]
 | [x]=>by
   unfold a09
   constructor
   ·intro h i hi
    have:i=0:=by simp at hi;omega
    subst this
    exact⟨h,fun h=>by simp at h⟩
   ·intro h
    exact (h 0 (by simp)).1
 | x::y::r=>by
   unfold a09
   rw [Bool.and_eq_true,Bool.and_eq_true,a3i (y::r)]
   constructor
   ·rintro⟨⟨h1,h2⟩,h3⟩ i hi
    cases i with
    | zero=>exact⟨h1,fun _=>h2⟩
    | succ i=>
      have:=h3 i (by simpa using hi)
      simp only [List.getD_cons_succ]
      exact⟨this.1,fun h=>this.2 (by simpa using h)⟩
   ·intro h
    refine⟨⟨(h 0 (by simp)).1,(h 0 (by simp)).2 (by simp)⟩,fun i hi=>?_⟩
    have:=h (i+1) (by simpa using hi)
    simp only [List.getD_cons_succ] at this
    exact⟨this.1,fun h=>this.2 (by simpa using h)⟩
theorem a9d:∀ (l:List (List UInt8)),a09 l=true->a0b l.flatten=l
 | [],_=>rfl
 | [x],h=>by
   simp only [a09,b51,decide_eq_true_eq] at h
   simp only [List.flatten_cons,List.flatten_nil,List.append_nil]
   have hf:=a1j x
   match hs:a0b x,h with
   | [y],_=>rw [hs] at hf;simp at hf;rw [hf]
 | x::y::r,h=>by
   simp only [a09,b51,a1d,Bool.and_eq_true,decide_eq_true_eq] at h
   obtain⟨⟨h1,h2⟩,h3⟩:=h
   rw [List.flatten_cons,a8c x.length x _ (Nat.le_refl _) (.inr h2),a9d (y::r) h3]
   have hf:=a1j x
   match hs:a0b x,h1 with
   | [z],_=>rw [hs] at hf;simp at hf;rw [hf];rfl
theorem b2q (p r:List UInt8) (hp:(10:UInt8)∉p):b51 (p++10::r)=decide (r=[]):=by
 unfold b51
 rw [a4Z p r hp]
 simp [b1b]
theorem b5G (p:List UInt8) (hp:(10:UInt8)∉p):b51 p=decide (p≠[]):=by
 unfold b51
 by_cases h:p=[]
 ·subst h;rfl
 ·rw [a8P p hp h];simp [h]
theorem c3V (p:List UInt8) (hp:(10:UInt8)∉p):a1d p=false:=by
 unfold a1d
 rw [decide_eq_false_iff_not]
 exact fun h=>hp (List.mem_of_getLast? h)
theorem a2T:∀ (n:Nat) (s:List UInt8),s.length<=n->a09 (a0b s)=true
 | n,s,hn=>by
   rcases a6i s with⟨_,hno⟩|⟨p,r,rfl,hp,_⟩
   ·cases s with
    | nil=>rfl
    | cons c s=>rw [a8P _ hno (by simp)];simp [a09,b5G _ hno]
   ·cases n with
    | zero=>simp at hn
    | succ n=>
      rw [a4Z p r hp]
      have ih:=a2T n r (by simp at hn;omega)
      have h1:b51 (p++[10])=true:=by rw [b2q p [] hp];rfl
      cases hs:a0b r with
      | nil=>exact h1
      | cons x l=>
        rw [hs] at ih
        simp [a09,h1,ih,a1d]
def a6r:List UInt8->Nat
 | []=>0
 | c::r=>if c=60\/c=124\/c=61\/c=62 then 1+(r.takeWhile (·==c)).length else 0
def a4w (l:List (List UInt8)):Nat:=l.foldl (fun n x=>max n (a6r x)) 0
theorem b2E (x:List UInt8):a6r x<=x.length:=by
 cases x with
 | nil=>simp [a6r]
 | cons c r=>
   have:=(List.takeWhile_sublist (·==c) (l:=r)).length_le
   rw [a6r,List.length_cons]
   split
   ·omega
   ·omega
theorem a9i (c:UInt8):∀ (r:List UInt8) (n:Nat),n<=r.length->(∀ k,k<n->r.getD k 0=c)->(n<r.length->r.getD n 0≠c)->(r.takeWhile (·==c)).length=n
 | [],n,h,_,_=>by simp at h;simp [h]
 | x::r,0,_,_,h=>by
   have:=h (by simp)
   simp at this
   simp [this]
 | x::r,n+1,h,hk,hn=>by
   have h0:=hk 0 (by omega)
   simp at h0
   subst h0
   rw [List.takeWhile_cons,if_pos (by simp),List.length_cons]
   rw [a9i x r n (by simpa using h) (fun k hk'=>by simpa using hk (k+1) (by omega)) (fun hl=>by simpa using hn (by simpa using hl))]
def a2q:List (List UInt8)->List (List UInt8)->List (List UInt8)×List Int
 | ks,[]=>(ks,[])
 | ks,x::l=>((a2q (if x∈ks then ks else ks++[x]) l).1,(ks.idxOf x:Int)::(a2q (if x∈ks then ks else ks++[x]) l).2)
def a2x:List (List UInt8)->List (List (List UInt8))->List (List Int)
 | _,[]=>[]
 | ks,f::fs=>(a2q ks f).2::a2x (a2q ks f).1 fs
theorem a3x:∀ (ks l:List (List UInt8)),(a2q ks l).2.length=l.length
 | _,[]=>rfl
 | ks,x::l=>by simp [a2q,a3x _ l]
theorem a3Y:∀ (ks:List (List UInt8)) (fs:List (List (List UInt8))),(a2x ks fs).length=fs.length
 | _,[]=>rfl
 | ks,f::fs=>by simp [a2x,a3Y _ fs]
theorem b7e:∀ (ks l m:List (List UInt8)),a2q ks (l++m)=((a2q (a2q ks l).1 m).1,(a2q ks l).2++(a2q (a2q ks l).1 m).2)
 | ks,[],m=>by simp [a2q]
 | ks,x::l,m=>by simp [a2q,b7e _ l m]
theorem b7m:∀ (ks:List (List UInt8)) (fs gs:List (List (List UInt8))),a2x ks (fs++gs)=a2x ks fs++a2x (fs.foldl (fun k f=>(a2q k f).1) ks) gs
 | ks,[],gs=>rfl
 | ks,f::fs,gs=>by simp [a2x,b7m _ fs gs]
theorem b9B:∀ (ks l:List (List UInt8)),(a2q ks l).1.length<=ks.length+l.length
 | ks,[]=>by simp [a2q]
 | ks,x::l=>by
   have:=b9B (if x∈ks then ks else ks++[x]) l
   simp only [a2q,List.length_cons]
   split at this<;>simp at this ⊢<;>split<;>simp_all<;>omega
end Go.Proofs.YthpjjjnbkfnghaaGreatDoor
namespace Go.Proofs.YthpjjjnbkfnghaaGreatDoor
def a6R (x y:Int):Bool:=decide (x≠y)&&!(decide (x=2)&&decide (y=1))
def b1t (s:Int×List (List UInt8)):Bool:=decide (0<=s.1/\s.1<=2/\s.2.length≠0)
def a0I:Int->List (Int×List (List UInt8))->Bool
 | _,[]=>true
 | k,s::l=>b1t s&&(a6R k s.1&&a0I s.1 l)
def a0O (kind:Int) (l:List (Int×List (List UInt8))):List (List UInt8):=l.flatMap fun s=>if s.1=kind then [] else s.2
def a0G (kind:Int) (l:List (Int×List (List UInt8))):Nat:=(l.flatMap fun s=>if s.1=kind then s.2 else []).length
def a9o (k:Int):Int:=if k=1 then 2 else if k=2 then 1 else k
def a5t (s:Int×List (List UInt8)):Int×List (List UInt8):=(a9o s.1,s.2)
def a2L:List (Int×List (List UInt8))->List (Int×List (List UInt8))
 | []=>[]
 | [s]=>[a5t s]
 | s::t::l=>if s.1=1/\t.1=2 then a5t t::a5t s::a2L l else a5t s::a2L (t::l)
def a3E (l:List (Int×List (List UInt8))) (k:Int) (ts:List (List UInt8)):List (Int×List (List UInt8)):=
 if ts.length=0 then l else match l.getLast? with
  | some s=>if s.1=k then l.dropLast++[(k,s.2++ts)] else l++[(k,ts)]
  | none=>[(k,ts)]
end Go.Proofs.YthpjjjnbkfnghaaGreatDoor
namespace Go.Proofs.YthpjjjnbkfnghaaGreatDoor
open Go
inductive AV where
 | any
 | val (v:Value)
 | st (l:List UInt8)
 | gd (b:Bool) (x:AV)
 | em
 | sn (n sz:Nat) (c:Nat->Nat->AV)
 | ps (m:Nat) (c:Nat->AV)
 | ow (p ver n:Nat)
 | pt (p ver j:Nat)
 | pe (p ver sz i j:Nat)
 | ag (m:Nat) (c:Nat->AV)
 | tu (m:Nat) (c:Nat->AV)
 | mp (p ver:Nat)
 | mb (q:Prop)
 | ob (R:(Nat->Option (Option Nat×Nat))->Value->Prop)
abbrev Env:=Nat->Option (Option Nat×Nat)
def a1l:Env:=fun _=>none
def Rep (w:World) (η:Env) (L:Nat->Prop):AV->Value->Prop
 | .any,_=>True
 | .val u,v=>v=u
 | .st l,v=>v=.string ⟨l.toArray⟩
 | .gd b x,v=>(b=true->Rep w η L x v)/\(b=false->v=undef)
 | .em,v=>∃ a,v=.slice a 0 0
 | .sn n sz c,v=>∃ a cap,v=.slice a n cap/\n<=cap/\(0<n->0<sz->∃ b off,a=some ⟨b,off,none⟩/\¬L b/\
   ∀ i,i<n->∀ j,j<sz->∃ u,w.cell? ⟨b,off+(i*sz+j),none⟩=some u/\u.oneCell'=true/\Rep w a1l L (c i j) u)
 | .ps m c,v=>∃ b off,v=.pointer (some ⟨b,off,none⟩)/\(0<m->¬L b)/\∀ j,j<m->∃ u,w.cell? ⟨b,off+j,none⟩=some u/\u.oneCell'=true/\Rep w a1l L (c j) u
 | .ow _ ver n,v=>∃ g cap,η ver=some (g,cap)/\
   match g with
   | none=>n=0/\∃ a,v=.slice a 0 0
   | some g=>v=.slice (some ⟨g,0,none⟩) n cap/\n<=cap
 | .pt _ ver j,v=>∃ g cap,η ver=some (some g,cap)/\v=.pointer (some ⟨g,j,none⟩)
 | .pe _ ver sz i j,v=>∃ g cap,η ver=some (some g,cap)/\v=.pointer (some ⟨g,i*sz+j,none⟩)
 | .ag m c,v=>∃ cs:Array Value,v=.agg cs/\cs.size=m/\∀ j,j<m->∃ u,cs[j]?=some u/\u.oneCell'=true/\Rep w η L (c j) u
 | .tu m c,v=>∃ cs:Array Value,v=.tuple cs/\cs.size=m/\∀ j,j<m->∃ u,cs[j]?=some u/\Rep w η L (c j) u
 | .mp _ ver,v=>∃ g cap,η ver=some (some g,cap)/\v=.map (some g)
 | .mb q,v=>∃ b,v=.bool b/\(b=true->q)
 | .ob R,v=>∃ η0:Env,(∀ ver r,η0 ver=some r->η ver=some r)/\R η0 v
inductive Key where
 | i (n:Int)
 | s (l:List UInt8)
 deriving DecidableEq
def Key.val:Key->Value
 | .i n=>.int .i64 n
 | .s l=>.string ⟨l.toArray⟩
def Key.isStr:Key->Bool
 | .i _=>false
 | .s _=>true
def Key.hit:Key->Value->Bool
 | .i b,.int .i64 a=>decide (a=b)
 | .s b,.string a=>decide (a=⟨b.toArray⟩)
 | _,_=>false
def a6g:List MapEntry->Key->Option Value
 | [],_=>none
 | e::es,k=>if k.hit e.key=true then some e.val else a6g es k
inductive Row where
 | dead
 | box (ver:Nat) (ety:TypeId) (m:Nat) (c:Nat->AV)
 | sl (ver:Nat) (ety:TypeId) (sz n:Nat) (c:Nat->Nat->AV)
 | mp (ver:Nat) (str:Bool) (n:Nat) (f:Key->Option Value)
def Row.ver:Row->Option Nat
 | .dead=>none
 | .box v _ _ _=>some v
 | .sl v _ _ _ _=>some v
 | .mp v _ _ _=>some v
def Row.blk (η:Env) (r:Row):Option Nat:=r.ver.bind fun v=>(η v).bind (·.1)
def a13 (w:World) (η:Env) (L:Nat->Prop):Row->Prop
 | .dead=>True
 | .box ver ety m c=>∀ g cap,η ver=some (g,cap)->∃ b cur,g=some b/\w.heap[b]?=some (.cells cur ety (0,0))/\cur.size=m/\
   ∀ j,j<m->∃ u,cur[j]?=some u/\u.oneCell'=true/\Rep w η L (c j) u
 | .sl ver ety sz n c=>∀ g cap,η ver=some (g,cap)->
   match g with
   | none=>n=0
   | some b=>∃ cur,w.heap[b]?=some (.cells cur ety (0,0))/\cur.size=cap*sz/\n<=cap/\cap<=maxLen/\
     ∀ i,i<n->∀ j,j<sz->∃ u,cur[i*sz+j]?=some u/\u.oneCell'=true/\Rep w η L (c i j) u
 | .mp ver str n f=>∀ g cap,η ver=some (g,cap)->∃ b es clock,g=some b/\w.heap[b]?=some (.map es clock)/\es.size=n/\(∀ e∈es,∃ k:Key,e.key=k.val/\k.isStr=str)/\∀ k:Key,k.isStr=str->a6g es.toList k=f k
structure Fr (O:Nat->Prop) (w w':World):Prop where
 os:w'.os=w.os
 tape:w'.tape=w.tape
 output:w'.output=w.output
 size:w.heap.size<=w'.heap.size
 block:∀ k,k<w.heap.size->¬O k->w'.heap[k]?=w.heap[k]?
theorem Fr.refl (O:Nat->Prop) (w:World):Fr O w w:=⟨rfl,rfl,rfl,Nat.le_refl _,fun _ _ _=>rfl⟩
theorem Fr.trans {O:Nat->Prop} {a b c:World} (h:Fr O a b) (k:Fr O b c):Fr O a c:=
 ⟨k.os.trans h.os,k.tape.trans h.tape,k.output.trans h.output,Nat.le_trans h.size k.size,
  fun i hi hO=>(k.block i (Nat.lt_of_lt_of_le hi h.size) hO).trans (h.block i hi hO)⟩
theorem Fr.trans' {O O':Nat->Prop} {a b d:World} (h:Fr O a b) (k:Fr O' b d) (hO:∀ i,i<a.heap.size->O' i->O i):Fr O a d:=
 ⟨k.os.trans h.os,k.tape.trans h.tape,k.output.trans h.output,Nat.le_trans h.size k.size,
  fun i hi hn=>(k.block i (Nat.lt_of_lt_of_le hi h.size) fun ho=>hn (hO i hi ho)).trans (h.block i hi hn)⟩
theorem Fr.mono {O O':Nat->Prop} {w w':World} (h:Fr O w w') (hO:∀ k,k<w.heap.size->O k->O' k):Fr O' w w':=
 ⟨h.os,h.tape,h.output,h.size,fun k hk hn=>h.block k hk fun ho=>hn (hO k hk ho)⟩
theorem Fr.drew {O:Nat->Prop} {a w:World} (h:Fr O a w):Fr O a w.drew:=⟨h.os,h.tape,h.output,h.size,h.block⟩
theorem Fr.below {w w':World} (h:Fr (fun _=>False) w w'):Go.RowKit.Below w.heap.size w w':=
 ⟨h.os,h.tape,h.output,h.size,fun k hk=>h.block k hk not_false⟩
theorem Fr.of_below {w w':World} (h:Go.RowKit.Below w.heap.size w w') (O:Nat->Prop):Fr O w w':=
 ⟨h.os,h.tape,h.output,h.size,fun k hk _=>h.block k hk⟩
theorem Fr.alloc (O:Nat->Prop) (w:World) (o:Obj):Fr O w (w.alloc o):=
 ⟨rfl,rfl,rfl,by simp,fun k hk _=>Go.RowKit.Below.heap_alloc w o k hk⟩
theorem Fr.cell {O:Nat->Prop} {w w':World} (h:Fr O w w') {p:Addr} {u:Value} (hc:w.cell? p=some u) (hO:¬O p.block):w'.cell? p=some u:=
 (World.cell?_of_block (w:=w) (h.block p.block (World.block_lt_of_cell? w p hc) hO)).trans hc
def Env.le (η η':Env):Prop:=∀ ver r,η ver=some r->η' ver=some r
theorem Env.le_refl (η:Env):Env.le η η:=fun _ _ h=>h
theorem Env.le_trans {a b c:Env} (h:Env.le a b) (k:Env.le b c):Env.le a c:=fun v r e=>k v r (h v r e)
theorem Rep.keep {w w':World} {L L' O:Nat->Prop} (hf:Fr O w w') (hO:∀ k,k<w.heap.size->O k->L k) (hL:∀ k,k<w.heap.size->L' k->L k) :
  ∀ (x:AV) (η η':Env) (v:Value),Env.le η η'->Rep w η L x v->Rep w' η' L' x v:=by
 intro x
 induction x with
 | any=>exact fun _ _ _ _ _=>trivial
 | val u=>exact fun _ _ _ _ h=>h
 | st l=>exact fun _ _ _ _ h=>h
 | gd b x ih=>exact fun _ _ v hη h=>⟨fun hb=>ih _ _ v hη (h.1 hb),h.2⟩
 | em=>exact fun _ _ _ _ h=>h
 | sn n sz c ih=>
   rintro η η' v _ ⟨a,cap,rfl,hn,h⟩
   refine⟨a,cap,rfl,hn,fun h0 hs=>?_⟩
   obtain⟨b,off,ha,hLb,hc⟩:=h h0 hs
   obtain⟨u,hu,_⟩:=hc 0 h0 0 hs
   have hb:b<w.heap.size:=World.block_lt_of_cell? w _ hu
   refine⟨b,off,ha,fun hl=>hLb (hL b hb hl),fun i hi j hj=>?_⟩
   obtain⟨u,hu,h1,hr⟩:=hc i hi j hj
   exact⟨u,hf.cell hu fun ho=>hLb (hO b hb ho),h1,ih i j _ _ u (Env.le_refl _) hr⟩
 | ps m c ih=>
   rintro η η' v _ ⟨b,off,rfl,hLb,hc⟩
   refine⟨b,off,rfl,fun h0 hl=>?_,fun j hj=>?_⟩
   ·obtain⟨u,hu,_⟩:=hc 0 h0
    exact hLb h0 (hL b (World.block_lt_of_cell? w _ hu) hl)
   ·obtain⟨u,hu,h1,hr⟩:=hc j hj
    exact⟨u,hf.cell hu fun ho=>hLb (by omega) (hO b (World.block_lt_of_cell? w _ hu) ho),h1,ih j _ _ u (Env.le_refl _) hr⟩
 | ow p ver n=>
   rintro η η' v hη ⟨g,cap,h,hv⟩
   exact⟨g,cap,hη _ _ h,hv⟩
 | pt p ver j=>
   rintro η η' v hη ⟨g,cap,h,hv⟩
   exact⟨g,cap,hη _ _ h,hv⟩
 | pe p ver sz i j=>
   rintro η η' v hη ⟨g,cap,h,hv⟩
   exact⟨g,cap,hη _ _ h,hv⟩
 | ag m c ih=>
   rintro η η' v hη ⟨cs,rfl,hm,h⟩
   refine⟨cs,rfl,hm,fun j hj=>?_⟩
   obtain⟨u,hu,h1,hr⟩:=h j hj
   exact⟨u,hu,h1,ih j _ _ u hη hr⟩
 | tu m c ih=>
   rintro η η' v hη ⟨cs,rfl,hm,h⟩
   refine⟨cs,rfl,hm,fun j hj=>?_⟩
   obtain⟨u,hu,hr⟩:=h j hj
   exact⟨u,hu,ih j _ _ u hη hr⟩
 | mp p ver=>
   rintro η η' v hη ⟨g,cap,h,hv⟩
   exact⟨g,cap,hη _ _ h,hv⟩
 | mb q=>exact fun _ _ _ _ h=>h
 | ob R=>
   rintro η η' v hη ⟨η0,h,hr⟩
   exact⟨η0,fun k r e=>hη _ _ (h k r e),hr⟩
theorem Rep.less {w:World} {η:Env} {L L':Nat->Prop} (hL:∀ k,k<w.heap.size->L' k->L k) {x:AV} {v:Value} (h:Rep w η L x v):Rep w η L' x v:=
 Rep.keep (O:=fun _=>False) (Fr.refl _ w) (fun _ _ h=>h.elim) hL x η η v (Env.le_refl _) h
end Go.Proofs.YthpjjjnbkfnghaaGreatDoor
namespace Go.Proofs.YthpjjjnbkfnghaaGreatDoor
open Go
section kinds
def a7i:Value->AV
 | .string s=>.st s.data.toList
 | .slice none 0 0=>.em
 | v=>.val v
def kAV:Value->AV
 | .agg cs=>if cs.toList.all Value.oneCell' then .ag cs.size fun j=>a7i (cs.getD j undef) else .any
 | v=>a7i v
variable {w:World} {η:Env} {L:Nat->Prop}
theorem a4T (v:Value):Rep w η L (a7i v) v:=by
 unfold a7i
 split
 ·simp [Rep]
 ·exact⟨none,rfl⟩
 ·rfl
theorem c8n (v:Value):Rep w η L (kAV v) v:=by
 unfold kAV
 split
 ·rename_i cs
  split
  ·rename_i ha
   exact⟨cs,rfl,rfl,fun j hj=>⟨cs[j],by simp [hj],List.all_eq_true.1 ha _ (by simp),by simpa [Array.getD,hj] using a4T cs[j]⟩⟩
  ·trivial
 ·exact a4T _
def a9b (fr:Nat->AV):Operand->AV
 | .tmp t=>fr t
 | .const v=>kAV v
 | .global g=>.val (.pointer (some ⟨g,0,none⟩))
 | .func f=>.val (.func (.func f) #[] #[])
theorem a1X {fr:Nat->AV} {a:Act} (h:∀ t,Rep w η L (fr t) (a.tmps.getD t undef)) (x:Operand):Rep w η L (a9b fr x) (a.eval x):=by
 cases x with
 | tmp t=>exact h t
 | const v=>exact c8n v
 | global g=>rfl
 | func f=>rfl
end kinds
def a2z (P:Program) (t:TypeId):Option (List (Nat×TypeId)):=
 match P.underlying t with
 | some (.struct fs)=>if P.stoodInHeld t then none else some ((fs.toList.filter fun f=>decide (f.name ≠ "_")).map fun f=>(f.offset,f.type))
 | some (.array n e)=>if (P.info? e).isSome then some ((List.range n).map fun i=>(i*P.cellsOf e,e)) else none
 | _=>none
def b4H (P:Program) (t:TypeId) (x y:AV):Option Bool:=
 match P.underlying t,x,y with
 | some .bool,.val (.bool a),.val (.bool b)=>some (decide (a=b))
 | some (.int _),.val (.int .i64 a),.val (.int .i64 b)=>some (decide (a=b))
 | some (.int _),.val (.int .u8 a),.val (.int .u8 b)=>some (decide (a=b))
 | some .string,.st a,.st b=>some (decide (a=b))
 | _,_,_=>none
def b0e (f:Nat->TypeId->Option Bool):List (Nat×TypeId)->Option Bool
 | []=>some true
 | (o,u)::r=>match f o u,b0e f r with
   | some a,some b=>some (a&&b)
   | _,_=>none
def aEq (P:Program):Nat->TypeId->Nat->(Nat->AV)->(Nat->AV)->Option Bool
 | 0,_,_,_,_=>none
 | d+1,t,m,x,y=>match a2z P t with
   | some l=>b0e (fun o u=>if 0<P.cellsOf u/\o+P.cellsOf u<=m then aEq P d u (P.cellsOf u) (fun j=>x (o+j)) (fun j=>y (o+j)) else none) l
   | none=>if 0<m then b4H P t (x 0) (y 0) else none
section
variable {P:Program} {w:World} {η:Env} {L:Nat->Prop}
def a9e (P:Program) (w:World) (η:Env) (L:Nat->Prop) (t:TypeId) (m:Nat) (x:Nat->AV) (v:Value):Prop:=
 if (a2z P t).isSome then ∃ cs:Array Value,v=.agg cs/\∀ j,j<m->∃ u,cs[j]?=some u/\Rep w η L (x j) u else Rep w η L (x 0) v
theorem b6G {α:Type} [BEq α] [LawfulBEq α] [DecidableEq α] (a b:α):(a==b)=decide (a=b):=by rw [Bool.eq_iff_iff];simp
theorem b8N {t:TypeId} {x y:AV} {u v:Value} {b:Bool} (d:Nat) (h:b4H P t x y=some b) (hx:Rep w η L x u) (hy:Rep w η L y v):(Op.equalIn (d+1) t u v).run P w=.ok b w:=by
 unfold b4H at h
 split at h
 ·rename_i hu
  simp only [Option.some.injEq] at h;subst h;cases hx;cases hy
  rw [run_equalIn_bool w d t _ _ hu,b6G]
 ·rename_i hu
  simp only [Option.some.injEq] at h;subst h;cases hx;cases hy
  rw [run_equalIn_int w d t _ _ _ _ hu,b6G]
 ·rename_i hu
  simp only [Option.some.injEq] at h;subst h;cases hx;cases hy
  rw [run_equalIn_int w d t _ _ _ _ hu,b6G]
 ·rename_i hu
  simp only [Option.some.injEq] at h;subst h;cases hx;cases hy
  rw [run_equalIn_string w d t _ _ hu]
  simp [ByteArray.toList_eq,b6G]
 ·cases h
end
abbrev Out:=Option (Prop×AV)
def d53 (op:BinOp) (a b:Int):Out:=
 match op with
 | .add=>some (-9223372036854775808<=a+b/\a+b<=9223372036854775807,.val (.int .i64 (a+b)))
 | .sub=>some (-9223372036854775808<=a-b/\a-b<=9223372036854775807,.val (.int .i64 (a-b)))
 | .mul=>some (-9223372036854775808<=a*b/\a*b<=9223372036854775807,.val (.int .i64 (a*b)))
 | .quo=>some (b≠0/\-9223372036854775808<=a.tdiv b/\a.tdiv b<=9223372036854775807,.val (.int .i64 (a.tdiv b)))
 | .rem=>some (b≠0,.val (.int .i64 (a.tmod b)))
 | .eql=>some (True,.val (.bool (decide (a=b))))
 | .neq=>some (True,.val (.bool (decide (a≠b))))
 | .lss=>some (True,.val (.bool (decide (a<b))))
 | .leq=>some (True,.val (.bool (decide (a<=b))))
 | .gtr=>some (True,.val (.bool (decide (b<a))))
 | .geq=>some (True,.val (.bool (decide (b<=a))))
 | _=>none
def d1a (k:IntKind) (op:BinOp) (a b:Int):Out:=
 match op with
 | .add=>some (True,.val (.int k (k.wrap (a+b))))
 | .sub=>some (True,.val (.int k (k.wrap (a-b))))
 | .mul=>some (True,.val (.int k (k.wrap (a*b))))
 | .quo=>some (b≠0,.val (.int k (k.wrap (a.tdiv b))))
 | .rem=>some (b≠0,.val (.int k (a.tmod b)))
 | .eql=>some (True,.val (.bool (decide (a=b))))
 | .neq=>some (True,.val (.bool (decide (a≠b))))
 | .lss=>some (True,.val (.bool (decide (a<b))))
 | .leq=>some (True,.val (.bool (decide (a<=b))))
 | .gtr=>some (True,.val (.bool (decide (b<a))))
 | .geq=>some (True,.val (.bool (decide (b<=a))))
 | _=>none
def d59 (op:BinOp) (a b:List UInt8):Out:=
 match op with
 | .add=>some (a.length+b.length<=9223372036854775807,.st (a++b))
 | .eql=>some (True,.val (.bool (decide (a=b))))
 | .neq=>some (True,.val (.bool (decide (a≠b))))
 | _=>none
def c3R (P:Program) (op:BinOp) (t:TypeId) (x y:AV):Out:=
 match x,y with
 | .val (.int .i64 a),.val (.int .i64 b)=>d53 op a b
 | .val (.int .u8 a),.val (.int .u8 b)=>d1a .u8 op a b
 | .val (.int .u64 a),.val (.int .u64 b)=>d1a .u64 op a b
 | .val (.int .i32 a),.val (.int .i32 b)=>d1a .i32 op a b
 | .st a,.st b=>d59 op a b
 | .val (.bool a),.val (.bool b)=>
   match op with
   | .eql=>some (P.underlying t=some .bool,.val (.bool (decide (a=b))))
   | .neq=>some (P.underlying t=some .bool,.val (.bool (decide (a≠b))))
   | _=>none
 | .ag m c,.ag m' e=>match aEq P 12 t m c e with
   | some b=>match op with
     | .eql=>some (m'=m/\(a2z P t).isSome=true/\P.eqGuardType P.depth t=false,.val (.bool b))
     | .neq=>some (m'=m/\(a2z P t).isSome=true/\P.eqGuardType P.depth t=false,.val (.bool (!b)))
     | _=>none
   | none=>none
 | _,_=>none
section
variable {P:Program} {w:World}
theorem a5N (n:Int) (h:-9223372036854775808<=n/\n<=9223372036854775807):IntKind.i64.wrap n=n:=by
 unfold IntKind.wrap
 simp only [IntKind.bits,IntKind.signed]
 simp
 omega
theorem c4R {op:BinOp} {a b:Int} {pre:Prop} {x:AV} {η:Env} {L:Nat->Prop} {t:TypeId} (h:d53 op a b=some (pre,x)) (hp:pre) :
  ∃ v,(binOp op t (.int .i64 a) (.int .i64 b)).run P w=.ok v w/\Rep w η L x v:=by
 cases op<;>simp only [d53,reduceCtorEq,Option.some.injEq,Prod.mk.injEq] at h<;>
  (obtain⟨rfl,rfl⟩:=h
   refine⟨_,?_,rfl⟩
   first
    | (simp [binOp,Op.intArith,a5N _ hp];done)
    | (simp [binOp,Op.intDiv,hp.1,a5N _ hp.2];done)
    | (simp [binOp,Op.intDiv,hp];done)
    | (simp [binOp,Op.intCmp];done)
    | (simp [binOp,Op.intCmp];rfl))
theorem b2J {k:IntKind} {op:BinOp} {a b:Int} {pre:Prop} {x:AV} {η:Env} {L:Nat->Prop} {t:TypeId} (h:d1a k op a b=some (pre,x)) (hp:pre) :
  ∃ v,(binOp op t (.int k a) (.int k b)).run P w=.ok v w/\Rep w η L x v:=by
 cases op<;>simp only [d1a,reduceCtorEq,Option.some.injEq,Prod.mk.injEq] at h<;>
  (obtain⟨rfl,rfl⟩:=h
   refine⟨_,?_,rfl⟩
   first
    | (simp [binOp,Op.intArith];done)
    | (simp [binOp,Op.intDiv,hp];done)
    | (simp [binOp,Op.intCmp];done)
    | (simp [binOp,Op.intCmp];rfl))
theorem c1k {α:Type} [BEq α] [LawfulBEq α] [DecidableEq α] (a b:α):(a==b)=decide (a=b):=by rw [Bool.eq_iff_iff];simp
theorem d1X:IntKind.i64.max=9223372036854775807:=rfl
theorem c4v {op:BinOp} {a b:List UInt8} {pre:Prop} {x:AV} {η:Env} {L:Nat->Prop} {t:TypeId} (h:d59 op a b=some (pre,x)) (hp:pre) :
  ∃ v,(binOp op t (.string ⟨a.toArray⟩) (.string ⟨b.toArray⟩)).run P w=.ok v w/\Rep w η L x v:=by
 cases op<;>simp only [d59,reduceCtorEq,Option.some.injEq,Prod.mk.injEq] at h<;>
  (obtain⟨rfl,rfl⟩:=h
   refine⟨_,?_,rfl⟩)
 case add=>
  simp only [binOp,Op.stringOp,d1X,ByteArray.size_mk',List.size_toArray,ByteArray.mk_append_mk]
  rw [if_neg (by omega)]
  rfl
 all_goals (simp [binOp,Op.stringOp,c1k])
theorem a0P {t:TypeId} {k:Nat} (h:P.cellsOf t=k) (hk:0<k):(sizeOf t).run P w=.ok k w:=by
 unfold Program.cellsOf at h
 cases hi:P.info? t with
 | none=>rw [hi] at h;simp at h;omega
 | some i=>rw [hi] at h;simp at h;subst h;simp [sizeOf,typeInfo,hi]
def a5P (P:Program) (t:TypeId):Option Bool:=(P.underlying t).map fun|.struct _=>true|.array _ _=>true|_=>false
theorem a4o {t:TypeId} {b:Bool} (h:a5P P t=some b):(isAgg t).run P w=.ok b w:=by
 unfold a5P at h
 cases hu:P.underlying t with
 | none=>rw [hu] at h;cases h
 | some d=>
   rw [hu] at h
   simp only [Option.map_some,Option.some.injEq] at h
   subst h
   unfold isAgg
   simp only [Sem.run_bind,run_underlying hu,Result.andThen_ok]
   cases d<;>rfl
theorem a3A (b o j:Nat):(⟨b,o,none⟩:Addr).add j=⟨b,o+j,none⟩:=by
 unfold Addr.add;split<;>simp_all
theorem Rep.up {w:World} {η:Env} {L:Nat->Prop} {x:AV} {v:Value} (h:Rep w a1l L x v):Rep w η L x v:=
 Rep.keep (O:=fun _=>False) (Fr.refl _ w) (fun _ _ h=>h.elim) (fun _ _ h=>h) x a1l η v (fun _ _ h=>by cases h) h
theorem a2v {η η':Env} {L:Nat->Prop} (hη:∀ x v,Rep w η L x v->Rep w η' L x v) {t:TypeId} {ag:Bool} (ht:a5P P t=some ag) {b off m:Nat} {c:Nat->AV} (hk:P.cellsOf t<=m) (h0:0<P.cellsOf t) (h1:ag=false->P.cellsOf t=1)
  (hc:∀ j,j<m->∃ u,w.cell? ⟨b,off+j,none⟩=some u/\u.oneCell'=true/\Rep w η L (c j) u) :
  ∃ v,(loadVar t ⟨b,off,none⟩).run P w=.ok v w/\Rep w η' L (if ag then .ag (P.cellsOf t) c else c 0) v:=by
 unfold loadVar
 simp only [Sem.run_bind,a4o ht,Result.andThen_ok]
 cases ag with
 | true=>
   simp only [if_true,Sem.run_bind,a0P rfl h0,Result.andThen_ok]
   have hf:∀ j,∃ u,j<P.cellsOf t->w.cell? ⟨b,off+j,none⟩=some u/\u.oneCell'=true/\Rep w η L (c j) u:=fun j=>by
    by_cases hj:j<P.cellsOf t
    ·obtain⟨u,h⟩:=hc j (by omega);exact⟨u,fun _=>h⟩
    ·exact⟨undef,fun h=>absurd h hj⟩
   have hr:=run_loadCells (P:=P) w ⟨b,off,none⟩ (P.cellsOf t) (fun j=>(hf j).choose) (fun j hj=>by rw [a3A];exact ((hf j).choose_spec hj).1)
   refine⟨_,by rw [hr];rfl,_,rfl,by simp,fun j hj=>⟨(hf j).choose,by simp [hj],((hf j).choose_spec hj).2.1,hη _ _ ((hf j).choose_spec hj).2.2⟩⟩
 | false=>
   obtain⟨u,hu,_,hr⟩:=hc 0 (by omega)
   refine⟨u,?_,hη _ _ hr⟩
   simp only [Bool.false_eq_true,if_false,run_load,Nat.add_zero] at hu ⊢
   rw [hu]
def a9m (P:Program) (hp:Nat->Row) (t:TypeId) (x:AV):Out:=
 match a5P P t,x with
 | some true,.ps m c=>some (0<P.cellsOf t/\P.cellsOf t<=m,.ag (P.cellsOf t) c)
 | some false,.ps m c=>some (P.cellsOf t=1/\0<m,c 0)
 | some true,.pt p ver j=>match hp p with
   | .box v _ m c=>some (v=ver/\0<P.cellsOf t/\j+P.cellsOf t<=m,.ag (P.cellsOf t) fun i=>c (j+i))
   | _=>none
 | some false,.pt p ver j=>match hp p with
   | .box v _ m c=>some (v=ver/\P.cellsOf t=1/\j<m,c j)
   | _=>none
 | some true,.pe p ver sz i j=>match hp p with
   | .sl v _ sz' n c=>some (v=ver/\sz'=sz/\i<n/\0<P.cellsOf t/\j+P.cellsOf t<=sz,.ag (P.cellsOf t) fun k=>c i (j+k))
   | _=>none
 | some false,.pe p ver sz i j=>match hp p with
   | .sl v _ sz' n c=>some (v=ver/\sz'=sz/\i<n/\P.cellsOf t=1/\j<sz,c i j)
   | _=>none
 | _,_=>none
theorem a0Z {b k:Nat} {cur:Array Value} {e:TypeId} {f:Nat×Nat} (h:w.heap[b]?=some (.cells cur e f)):w.cell? ⟨b,k,none⟩=cur[k]?:=by
 simp [World.cell?,h]
theorem b0g {hp:Nat->Row} {t:TypeId} {x z:AV} {u:Value} {pre:Prop} {η:Env} {L:Nat->Prop} (hrows:∀ p,a13 w η L (hp p)) (h:a9m P hp t x=some (pre,z)) (hpre:pre)
  (hx:Rep w η L x u):∃ v,(Instr.loadAt t u).run P w=.ok v w/\Rep w η L z v:=by
 unfold a9m at h
 split at h
 ·
  rename_i ht
  simp only [Option.some.injEq,Prod.mk.injEq] at h
  obtain⟨rfl,rfl⟩:=h
  obtain⟨b,off,rfl,_,hc⟩:=hx
  have:=a2v (P:=P) (w:=w) (η:=a1l) (η':=η) (L:=L) (fun x v h=>Rep.up h) ht hpre.2 hpre.1 (by simp) hc
  simpa [Instr.loadAt,Instr.sureAddr] using this
 ·rename_i ht
  simp only [Option.some.injEq,Prod.mk.injEq] at h
  obtain⟨rfl,rfl⟩:=h
  obtain⟨b,off,rfl,_,hc⟩:=hx
  have:=a2v (P:=P) (w:=w) (η:=a1l) (η':=η) (L:=L) (fun x v h=>Rep.up h) ht (m:=1) (by omega) (by omega) (fun _=>hpre.1) (fun j hj=>hc j (by omega))
  simpa [Instr.loadAt,Instr.sureAddr] using this
 ·rename_i p ver j ht
  split at h
  ·rename_i v e m c hrow
   simp only [Option.some.injEq,Prod.mk.injEq] at h
   obtain⟨rfl,rfl⟩:=h
   obtain⟨rfl,h0,hm⟩:=hpre
   obtain⟨g,cap,hη,rfl⟩:=hx
   have hr:=hrows p
   rw [hrow] at hr
   obtain⟨b,cur,hb,hh,hsz,hc⟩:=hr _ _ hη
   obtain rfl:g=b:=by simpa using hb
   have:=a2v (P:=P) (w:=w) (η:=η) (η':=η) (L:=L) (fun _ _ h=>h) ht (b:=g) (off:=j) (m:=P.cellsOf t) (c:=fun i=>c (j+i)) (by omega) h0 (by simp) (fun i hi=>by
    obtain⟨u,hu,hrep⟩:=hc (j+i) (by omega)
    exact⟨u,by rw [a0Z hh];exact hu,hrep⟩)
   simpa [Instr.loadAt,Instr.sureAddr] using this
  ·cases h
 ·rename_i p ver j ht
  split at h
  ·rename_i v e m c hrow
   simp only [Option.some.injEq,Prod.mk.injEq] at h
   obtain⟨rfl,rfl⟩:=h
   obtain⟨rfl,h1,hm⟩:=hpre
   obtain⟨g,cap,hη,rfl⟩:=hx
   have hr:=hrows p
   rw [hrow] at hr
   obtain⟨b,cur,hb,hh,hsz,hc⟩:=hr _ _ hη
   obtain rfl:g=b:=by simpa using hb
   have:=a2v (P:=P) (w:=w) (η:=η) (η':=η) (L:=L) (fun _ _ h=>h) ht (b:=g) (off:=j) (m:=1) (c:=fun i=>c (j+i)) (by omega) (by omega) (fun _=>h1) (fun i hi=>by
    obtain⟨u,hu,hrep⟩:=hc (j+i) (by omega)
    exact⟨u,by rw [a0Z hh];exact hu,hrep⟩)
   simpa [Instr.loadAt,Instr.sureAddr] using this
  ·cases h
 ·rename_i p ver sz i j ht
  split at h
  ·rename_i v e sz' n c hrow
   simp only [Option.some.injEq,Prod.mk.injEq] at h
   obtain⟨rfl,rfl⟩:=h
   obtain⟨rfl,rfl,hi,h0,hm⟩:=hpre
   obtain⟨g,cap,hη,rfl⟩:=hx
   have hr:=hrows p
   rw [hrow] at hr
   obtain⟨cur,hh,hsz,hn,hcm,hc⟩:=hr _ _ hη
   have:=a2v (P:=P) (w:=w) (η:=η) (η':=η) (L:=L) (fun _ _ h=>h) ht (b:=g) (off:=i*sz'+j) (m:=P.cellsOf t) (c:=fun k=>c i (j+k)) (by omega) h0 (by simp) (fun k hk=>by
    obtain⟨u,hu,hrep⟩:=hc i hi (j+k) (by omega)
    exact⟨u,by rw [a0Z hh,Nat.add_assoc];exact hu,hrep⟩)
   simpa [Instr.loadAt,Instr.sureAddr] using this
  ·cases h
 ·rename_i p ver sz i j ht
  split at h
  ·rename_i v e sz' n c hrow
   simp only [Option.some.injEq,Prod.mk.injEq] at h
   obtain⟨rfl,rfl⟩:=h
   obtain⟨rfl,rfl,hi,h1,hm⟩:=hpre
   obtain⟨g,cap,hη,rfl⟩:=hx
   have hr:=hrows p
   rw [hrow] at hr
   obtain⟨cur,hh,hsz,hn,hcm,hc⟩:=hr _ _ hη
   have:=a2v (P:=P) (w:=w) (η:=η) (η':=η) (L:=L) (fun _ _ h=>h) ht (b:=g) (off:=i*sz'+j) (m:=1) (c:=fun k=>c i (j+k)) (by omega) (by omega) (fun _=>h1) (fun k hk=>by
    obtain⟨u,hu,hrep⟩:=hc i hi (j+k) (by omega)
    exact⟨u,by rw [a0Z hh,Nat.add_assoc];exact hu,hrep⟩)
   simpa [Instr.loadAt,Instr.sureAddr] using this
  ·cases h
 ·cases h
def fld (P:Program) (s:TypeId) (f:Nat):Option (Nat×TypeId):=
 match P.underlying s with
 | some (.struct fs)=>(fs[f]?).map fun x=>(x.offset,x.type)
 | _=>none
theorem b6V {s:TypeId} {f off:Nat} {t:TypeId} (h:fld P s f=some (off,t)):∃ fs x,P.underlying s=some (.struct fs)/\fs[f]?=some x/\x.offset=off/\x.type=t:=by
 unfold fld at h
 split at h
 ·rename_i fs hu
  cases hf:fs[f]? with
  | none=>rw [hf] at h;cases h
  | some x=>
    rw [hf] at h
    simp only [Option.map_some,Option.some.injEq,Prod.mk.injEq] at h
    exact⟨fs,x,hu,hf,h.1,h.2⟩
 ·cases h
def a6T (P:Program) (s:TypeId) (f:Nat) (x:AV):Out:=
 match fld P s f,x with
 | some (off,t),.ps m c=>some (0<P.cellsOf t/\off<=m,.ps (m-off) fun j=>c (off+j))
 | some (off,t),.pt p ver j=>some (0<P.cellsOf t,.pt p ver (j+off))
 | some (off,t),.pe p ver sz i j=>some (0<P.cellsOf t,.pe p ver sz i (j+off))
 | _,_=>none
theorem a7s {s:TypeId} {f off:Nat} {t:TypeId} (h:fld P s f=some (off,t)) (ht:0<P.cellsOf t) (b o:Nat) :
  (Instr.fieldAt s (.pointer (some ⟨b,o,none⟩)) f).run P w=.ok (.pointer (some ⟨b,o+off,none⟩)) w:=by
 obtain⟨fs,x,hu,hf,rfl,rfl⟩:=b6V h
 have hne:P.cellsOf x.type≠0:=by omega
 simp [Instr.fieldAt,run_underlying hu,hf,Instr.sureAddr,fieldPlace,a0P (P:=P) (w:=w) rfl ht,hne,a3A]
theorem b08 {s:TypeId} {f:Nat} {x z:AV} {u:Value} {pre:Prop} {η:Env} {L:Nat->Prop} (h:a6T P s f x=some (pre,z)) (hpre:pre)
  (hx:Rep w η L x u):∃ v,(Instr.fieldAt s u f).run P w=.ok v w/\Rep w η L z v:=by
 unfold a6T at h
 split at h
 ·rename_i off t m c hf
  simp only [Option.some.injEq,Prod.mk.injEq] at h
  obtain⟨rfl,rfl⟩:=h
  obtain⟨b,o,rfl,hL,hc⟩:=hx
  exact⟨_,a7s hf hpre.1 b o,b,o+off,rfl,fun h0=>hL (by omega),fun j hj=>by
   obtain⟨u,hu,hr⟩:=hc (off+j) (by omega)
   exact⟨u,by rw [Nat.add_assoc];exact hu,hr⟩⟩
 ·rename_i off t p ver j hf
  simp only [Option.some.injEq,Prod.mk.injEq] at h
  obtain⟨rfl,rfl⟩:=h
  obtain⟨g,cap,hη,rfl⟩:=hx
  exact⟨_,a7s hf hpre g j,g,cap,hη,rfl⟩
 ·rename_i off t p ver sz i j hf
  simp only [Option.some.injEq,Prod.mk.injEq] at h
  obtain⟨rfl,rfl⟩:=h
  obtain⟨g,cap,hη,rfl⟩:=hx
  exact⟨_,a7s hf hpre g (i*sz+j),g,cap,hη,by rw [Nat.add_assoc]⟩
 ·cases h
def a23 (P:Program) (hp:Nat->Row) (t:TypeId) (x i:AV):Out:=
 match P.underlying t,x,i with
 | some (.slice e),.sn n sz c,.val (.int .i64 k)=>some (P.cellsOf e=sz/\0<sz/\0<=k/\k<n,.ps sz (c k.toNat))
 | some (.slice e),.ow p ver n,.val (.int .i64 k)=>match hp p with
   | .sl v _ sz _ _=>some (v=ver/\P.cellsOf e=sz/\0<sz/\0<=k/\k<n,.pe p ver sz k.toNat 0)
   | _=>none
 | some (.array n e),.ps m c,.val (.int .i64 k)=>some (0<P.cellsOf e/\n*P.cellsOf e<=m/\0<=k/\k<n,.ps (m-k.toNat*P.cellsOf e) fun j=>c (k.toNat*P.cellsOf e+j))
 | some (.array n e),.pt p ver j,.val (.int .i64 k)=>some (0<P.cellsOf e/\0<=k/\k<n,.pt p ver (j+k.toNat*P.cellsOf e))
 | some (.array n e),.pe p ver sz i j,.val (.int .i64 k)=>some (0<P.cellsOf e/\0<=k/\k<n,.pe p ver sz i (j+k.toNat*P.cellsOf e))
 | _,_,_=>none
theorem a5h {t e:TypeId} {sz:Nat} (hu:P.underlying t=some (.slice e)) (hs:P.cellsOf e=sz) (h0:0<sz) {b o len cap:Nat} {k:Int} (hk:0<=k/\k<len) :
  (Instr.indexAt t (.slice (some ⟨b,o,none⟩) len cap) (.int .i64 k)).run P w=.ok (.pointer (some ⟨b,o+k.toNat*sz,none⟩)) w:=by
 simp [Instr.indexAt,asIntOf,run_underlying hu,hk,a0P (P:=P) (w:=w) hs h0,a3A]
theorem a3J {t e:TypeId} {n:Nat} (hu:P.underlying t=some (.array n e)) (h0:0<P.cellsOf e) {b o:Nat} {k:Int} (hk:0<=k/\k<n) :
  (Instr.indexAt t (.pointer (some ⟨b,o,none⟩)) (.int .i64 k)).run P w=.ok (.pointer (some ⟨b,o+k.toNat*P.cellsOf e,none⟩)) w:=by
 simp [Instr.indexAt,asIntOf,run_underlying hu,Instr.sureAddr,hk,a0P (P:=P) (w:=w) rfl h0,a3A]
theorem b4F {k:Int} {n:Nat} (h:0<=k/\k<n):k.toNat<n:=by omega
theorem b1a {hp:Nat->Row} {t:TypeId} {x i z:AV} {u v:Value} {pre:Prop} {η:Env} {L:Nat->Prop} (h:a23 P hp t x i=some (pre,z)) (hpre:pre)
  (hx:Rep w η L x u) (hi:Rep w η L i v):∃ r,(Instr.indexAt t u v).run P w=.ok r w/\Rep w η L z r:=by
 unfold a23 at h
 split at h
 ·rename_i e n sz c k hu
  simp only [Option.some.injEq,Prod.mk.injEq] at h
  obtain⟨rfl,rfl⟩:=h
  obtain⟨hs,h0,hk⟩:=hpre
  cases hi
  obtain⟨a,cap,rfl,hn,hc⟩:=hx
  obtain⟨b,off,rfl,hL,hc⟩:=hc (by omega) h0
  refine⟨_,a5h hu hs h0 hk,b,off+k.toNat*sz,rfl,fun _=>hL,fun j hj=>?_⟩
  obtain⟨u,hu',hr⟩:=hc k.toNat (b4F hk) j hj
  exact⟨u,by rw [Nat.add_assoc];exact hu',hr⟩
 ·rename_i e p ver n k hu
  split at h
  ·rename_i vv ety sz n' c hrow
   simp only [Option.some.injEq,Prod.mk.injEq] at h
   obtain⟨rfl,rfl⟩:=h
   obtain⟨rfl,hs,h0,hk⟩:=hpre
   cases hi
   obtain⟨g,cap,hη,hv⟩:=hx
   cases g with
   | none=>obtain⟨hn,_⟩:=hv;omega
   | some g=>
     obtain⟨rfl,hn⟩:=hv
     refine⟨_,a5h hu hs h0 hk,g,cap,hη,by simp⟩
  ·cases h
 ·rename_i n e m c k hu
  simp only [Option.some.injEq,Prod.mk.injEq] at h
  obtain⟨rfl,rfl⟩:=h
  obtain⟨h0,hm,hk⟩:=hpre
  cases hi
  obtain⟨b,off,rfl,hL,hc⟩:=hx
  refine⟨_,a3J hu h0 hk,b,off+k.toNat*P.cellsOf e,rfl,fun h1=>hL (by omega),fun j hj=>?_⟩
  obtain⟨u,hu',hr⟩:=hc (k.toNat*P.cellsOf e+j) (by omega)
  exact⟨u,by rw [Nat.add_assoc];exact hu',hr⟩
 ·rename_i n e p ver j k hu
  simp only [Option.some.injEq,Prod.mk.injEq] at h
  obtain⟨rfl,rfl⟩:=h
  obtain⟨h0,hk⟩:=hpre
  cases hi
  obtain⟨g,cap,hη,rfl⟩:=hx
  exact⟨_,a3J hu h0 hk,g,cap,hη,rfl⟩
 ·rename_i n e p ver sz i j k hu
  simp only [Option.some.injEq,Prod.mk.injEq] at h
  obtain⟨rfl,rfl⟩:=h
  obtain⟨h0,hk⟩:=hpre
  cases hi
  obtain⟨g,cap,hη,rfl⟩:=hx
  exact⟨_,a3J hu h0 hk,g,cap,hη,by rw [Nat.add_assoc]⟩
 ·cases h
end
section
variable {P:Program} {w:World} {η:Env} {L:Nat->Prop}
theorem b9O {t:TypeId} {l:List (Nat×TypeId)} (h:a2z P t=some l):a5P P t=some true:=by
 unfold a2z at h
 unfold a5P
 split at h
 ·rename_i hu;rw [hu];rfl
 ·rename_i hu;rw [hu];rfl
 ·cases h
theorem b61 {t:TypeId} {x y:AV} {b:Bool} (h:b4H P t x y=some b):a5P P t=some false:=by
 unfold b4H at h
 unfold a5P
 split at h<;>first
  | (rename_i hu;rw [hu];rfl)
  | cases h
theorem b7M {u:TypeId} {off m d:Nat} {x y:Nat->AV} {b:Bool} {cs:Array Value} (hk:0<P.cellsOf u) (hm:off+P.cellsOf u<=m) (he:aEq P d u (P.cellsOf u) (fun j=>x (off+j)) y=some b\/aEq P d u (P.cellsOf u) y (fun j=>x (off+j))=some b)
  (hc:∀ j,j<m->∃ v,cs[j]?=some v/\Rep w η L (x j) v):∃ v,(part u cs off).run P w=.ok v w/\a9e P w η L u (P.cellsOf u) (fun j=>x (off+j)) v:=by
 unfold part a9e
 cases hp:a2z P u with
 | some l=>
   refine⟨.agg (cs.extract off (off+P.cellsOf u)),?_,?_⟩
   ·simp [Sem.run_bind,a4o (P:=P) (w:=w) (b9O hp),a0P (P:=P) (w:=w) rfl hk]
   ·rw [if_pos (by rfl)]
    refine⟨_,rfl,fun j hj=>?_⟩
    obtain⟨v,hv,hr⟩:=hc (off+j) (by omega)
    have hlt:off+j<cs.size:=(Array.getElem?_eq_some_iff.1 hv).1
    refine⟨v,?_,hr⟩
    rw [Array.getElem?_extract]
    rw [if_pos (by omega)]
    exact hv
 | none=>
   have ha:a5P P u=some false:=by
    cases d with
    | zero=>rcases he with he|he<;>(unfold aEq at he;cases he)
    | succ d=>
      rcases he with he|he
      ·unfold aEq at he
       rw [hp] at he
       simp only at he
       rw [if_pos hk] at he
       exact b61 he
      ·unfold aEq at he
       rw [hp] at he
       simp only at he
       rw [if_pos hk] at he
       exact b61 he
   obtain⟨v,hv,hr⟩:=hc off (by omega)
   refine⟨v,?_,?_⟩
   ·simp [Sem.run_bind,a4o (P:=P) (w:=w) ha,hv]
   ·rw [if_neg (by simp)]
    exact hr
theorem c97:∀ (d D:Nat) (t:TypeId) (m:Nat) (x y:Nat->AV) (u v:Value) (b:Bool),aEq P d t m x y=some b->a9e P w η L t m x u->a9e P w η L t m y v->(Op.equalIn (d+D) t u v).run P w=.ok b w:=by
 intro d
 induction d with
 | zero=>intro D t m x y u v b h;unfold aEq at h;cases h
 | succ d ih=>
   intro D t m x y u v b h hx hy
   rw [show d+1+D=(d+D)+1 by omega]
   unfold aEq at h
   cases hp:a2z P t with
   | none=>
     rw [hp] at h
     simp only at h
     unfold a9e at hx hy
     rw [hp] at hx hy
     simp only [Option.isSome_none,Bool.false_eq_true,if_false] at hx hy
     split at h
     ·exact b8N _ h hx hy
     ·cases h
   | some l=>
     rw [hp] at h
     simp only at h
     unfold a9e at hx hy
     rw [hp] at hx hy
     simp only [Option.isSome_some,if_true] at hx hy
     obtain⟨xs,rfl,hxs⟩:=hx
     obtain⟨ys,rfl,hys⟩:=hy
     have one:∀ (o:Nat) (ty:TypeId) (b:Bool),(if 0<P.cellsOf ty/\o+P.cellsOf ty<=m then aEq P d ty (P.cellsOf ty) (fun j=>x (o+j)) (fun j=>y (o+j)) else none)=some b->
       ∃ p q,(part ty xs o).run P w=.ok p w/\(part ty ys o).run P w=.ok q w/\(Op.equalIn (d+D) ty p q).run P w=.ok b w:=by
      intro o ty b hb
      split at hb
      ·rename_i hk
       obtain⟨p,hp1,hp2⟩:=b7M (P:=P) (w:=w) hk.1 hk.2 (.inl hb) hxs
       obtain⟨q,hq1,hq2⟩:=b7M (P:=P) (w:=w) hk.1 hk.2 (.inr hb) hys
       exact⟨p,q,hp1,hq1,ih D ty _ _ _ p q b hb hp2 hq2⟩
      ·cases hb
     unfold a2z at hp
     split at hp
     ·rename_i fs hu
      split at hp
      ·cases hp
      ·rename_i hst
       simp only [Option.some.injEq] at hp
       have hfs:P.fieldsOf t=fs:=by unfold Program.fieldsOf;rw [hu]
       rw [run_equalIn_struct w (d+D) t xs ys (by rw [hfs];exact hu) (by simpa using hst),hfs]
       subst hp
       have key:∀ (l:List Field) (b:Bool),b0e (fun o u=>if 0<P.cellsOf u/\o+P.cellsOf u<=m then aEq P d u (P.cellsOf u) (fun j=>x (o+j)) (fun j=>y (o+j)) else none)
         ((l.filter fun f=>decide (f.name ≠ "_")).map fun f=>(f.offset,f.type))=some b->(Op.eqFields (d+D) xs ys l).run P w=.ok b w:=by
        intro l
        induction l with
        | nil=>intro b hb;simp only [List.filter_nil,List.map_nil,b0e,Option.some.injEq] at hb;subst hb;rfl
        | cons f l ihl=>
          intro b hb
          unfold Op.eqFields
          by_cases hn:f.name = "_"
          ·rw [if_neg (by simpa using hn)]
           rw [List.filter_cons_of_neg (by simpa using hn)] at hb
           exact ihl b hb
          ·rw [if_pos hn]
           rw [List.filter_cons_of_pos (by simpa using hn),List.map_cons] at hb
           unfold b0e at hb
           split at hb
           ·rename_i b1 b2 h1 h2
            simp only [Option.some.injEq] at hb
            subst hb
            obtain⟨p,q,e1,e2,e3⟩:=one _ _ _ h1
            simp only [Sem.run_bind,e1,e2,e3,Result.andThen_ok]
            cases b1 with
            | false=>simp
            | true=>simpa using ihl b2 h2
           ·cases hb
       exact key fs.toList b h
     ·rename_i n e hu
      split at hp
      ·rename_i hi
       simp only [Option.some.injEq] at hp
       subst hp
       obtain⟨i,hi⟩:=Option.isSome_iff_exists.1 hi
       rw [run_equalIn_array w (d+D) xs ys hu hi]
       have key:∀ (l:List Nat) (b:Bool),b0e (fun o u=>if 0<P.cellsOf u/\o+P.cellsOf u<=m then aEq P d u (P.cellsOf u) (fun j=>x (o+j)) (fun j=>y (o+j)) else none)
         (l.map fun i=>(i*P.cellsOf e,e))=some b->(Op.eqItems (d+D) e (P.cellsOf e) xs ys l).run P w=.ok b w:=by
        intro l
        induction l with
        | nil=>intro b hb;simp only [List.map_nil,b0e,Option.some.injEq] at hb;subst hb;rfl
        | cons k l ihl=>
          intro b hb
          unfold Op.eqItems
          rw [List.map_cons] at hb
          unfold b0e at hb
          split at hb
          ·rename_i b1 b2 h1 h2
           simp only [Option.some.injEq] at hb
           subst hb
           obtain⟨p,q,e1,e2,e3⟩:=one _ _ _ h1
           simp only [Sem.run_bind,e1,e2,e3,Result.andThen_ok]
           cases b1 with
           | false=>simp
           | true=>simpa using ihl b2 h2
          ·cases hb
       exact key (List.range n) b h
      ·cases hp
     ·cases hp
theorem c6g {op:BinOp} {x y z:AV} {u v:Value} {pre:Prop} {η:Env} {L:Nat->Prop} {t:TypeId} (h:c3R P op t x y=some (pre,z)) (hp:pre)
  (hx:Rep w η L x u) (hy:Rep w η L y v):∃ r,(binOp op t u v).run P w=.ok r w/\Rep w η L z r:=by
 unfold c3R at h
 split at h
 ·cases hx;cases hy;exact c4R h hp
 ·cases hx;cases hy;exact b2J h hp
 ·cases hx;cases hy;exact b2J h hp
 ·cases hx;cases hy;exact b2J h hp
 ·cases hx;cases hy;exact c4v h hp
 ·cases hx;cases hy
  cases op<;>simp only [reduceCtorEq,Option.some.injEq,Prod.mk.injEq] at h<;>
   (obtain⟨rfl,rfl⟩:=h
    refine⟨_,?_,rfl⟩
    simp [run_eql_bool w t _ _ hp,run_neq_bool w t _ _ hp,c1k])
 ·rename_i m c m' e
  split at h
  ·rename_i b hb
   have fin:∀ (neg:Bool),m'=m->(a2z P t).isSome=true->∃ xs ys,u=.agg xs/\v=.agg ys/\(Op.equalIn 10000 t u v).run P w=.ok b w:=by
    intro _ hm hparts
    obtain⟨xs,rfl,hxs,hxc⟩:=hx
    obtain⟨ys,rfl,hys,hyc⟩:=hy
    refine⟨xs,ys,rfl,rfl,?_⟩
    refine c97 (η:=η) (L:=L) 12 9988 t m c e _ _ b hb ?_ ?_
    ·unfold a9e
     rw [if_pos hparts]
     exact⟨xs,rfl,fun j hj=>by obtain⟨z,hz,_,hr⟩:=hxc j hj;exact⟨z,hz,hr⟩⟩
    ·unfold a9e
     rw [if_pos hparts]
     exact⟨ys,rfl,fun j hj=>by obtain⟨z,hz,_,hr⟩:=hyc j (by omega);exact⟨z,hz,hr⟩⟩
   split at h
   ·simp only [Option.some.injEq,Prod.mk.injEq] at h
    obtain⟨rfl,rfl⟩:=h
    obtain⟨xs,ys,rfl,rfl,hrun⟩:=fin false hp.1 hp.2.1
    exact⟨.bool b,by rw [run_eql_struct w t xs ys,hrun];rfl,rfl⟩
   ·simp only [Option.some.injEq,Prod.mk.injEq] at h
    obtain⟨rfl,rfl⟩:=h
    obtain⟨xs,ys,rfl,rfl,hrun⟩:=fin true hp.1 hp.2.1
    exact⟨.bool (!b),by rw [run_neq_struct w t xs ys,hrun];rfl,rfl⟩
   ·cases h
  ·cases h
 ·cases h
end
end Go.Proofs.YthpjjjnbkfnghaaGreatDoor
namespace Go.Proofs.YthpjjjnbkfnghaaGreatDoor
open Go
section
variable {P:Program} {w:World} {η:Env} {L:Nat->Prop}
def AV.one:AV->Bool
 | .val v=>v.oneCell'
 | .st _=>true
 | .em=>true
 | .sn _ _ _=>true
 | .ps _ _=>true
 | .ow _ _ _=>true
 | .pt _ _ _=>true
 | .pe _ _ _ _ _=>true
 | .mp _ _=>true
 | _=>false
theorem c8W {x:AV} {v:Value} (h:x.one=true) (hr:Rep w η L x v):v.oneCell'=true:=by
 cases x with
 | val u=>cases hr;exact h
 | st l=>cases hr;rfl
 | em=>obtain⟨a,rfl⟩:=hr;rfl
 | sn n sz c=>obtain⟨a,cap,rfl,_⟩:=hr;rfl
 | ps m c=>obtain⟨b,o,rfl,_⟩:=hr;rfl
 | ow p ver n=>
   obtain⟨g,cap,_,hv⟩:=hr
   cases g with
   | none=>obtain⟨_,a,rfl⟩:=hv;rfl
   | some g=>obtain⟨rfl,_⟩:=hv;rfl
 | pt p ver j=>obtain⟨g,cap,_,rfl⟩:=hr;rfl
 | pe p ver sz i j=>obtain⟨g,cap,_,rfl⟩:=hr;rfl
 | mp p ver=>obtain⟨g,cap,_,rfl⟩:=hr;rfl
 | any=>cases h
 | mb q=>cases h
 | ob R=>cases h
 | gd b y=>cases h
 | ag m c=>cases h
 | tu m c=>cases h
def a1u:AV->Option (Nat×(Nat->AV))
 | .ag m c=>some (m,c)
 | x=>if x.one then some (1,fun _=>x) else none
theorem a5y {x:AV} {v:Value} {m:Nat} {c:Nat->AV} (h:a1u x=some (m,c)) (hr:Rep w η L x v) :
  v.cells.size=m/\∀ j,j<m->∃ u,v.cells[j]?=some u/\u.oneCell'=true/\Rep w η L (c j) u:=by
 unfold a1u at h
 split at h
 ·simp only [Option.some.injEq,Prod.mk.injEq] at h
  obtain⟨rfl,rfl⟩:=h
  obtain⟨cs,rfl,hm,hc⟩:=hr
  exact⟨hm,hc⟩
 ·split at h
  ·rename_i h1
   simp only [Option.some.injEq,Prod.mk.injEq] at h
   obtain⟨rfl,rfl⟩:=h
   have ho:=c8W h1 hr
   have hv:v.cells=#[v]:=by cases v<;>first|rfl|(simp [Value.oneCell'] at ho)
   rw [hv]
   refine⟨rfl,fun j hj=>?_⟩
   obtain rfl:j=0:=by omega
   exact⟨v,rfl,ho,hr⟩
  ·cases h
def b6h (P:Program) (t:TypeId) (x i:AV):Out:=
 match P.underlying t,x,i with
 | some .string,.st l,.val (.int .i64 k)=>some (0<=k/\k<l.length,.val (.int .u8 (l.getD k.toNat 0).toNat))
 | some (.array n e),.ag m c,.val (.int .i64 k)=>match a5P P e with
   | some false=>some (P.cellsOf e=1/\n<=m/\0<=k/\k<n,c k.toNat)
   | _=>none
 | _,_,_=>none
theorem b8i {t:TypeId} {x i z:AV} {u v:Value} {pre:Prop} (h:b6h P t x i=some (pre,z)) (hpre:pre)
  (hx:Rep w η L x u) (hi:Rep w η L i v):∃ r,(Instr.index t u v).run P w=.ok r w/\Rep w η L z r:=by
 unfold b6h at h
 split at h
 ·rename_i l k hu
  simp only [Option.some.injEq,Prod.mk.injEq] at h
  obtain⟨rfl,rfl⟩:=h
  cases hx;cases hi
  have hk:k.toNat<l.length:=b4F hpre
  have hs:k.toNat<(ByteArray.mk l.toArray).size:=by simpa [ByteArray.size_mk'] using hk
  refine⟨_,?_,rfl⟩
  have e1:(ByteArray.mk l.toArray)[k.toNat]?=some (l.getD k.toNat 0):=by
   rw [getElem?_pos (ByteArray.mk l.toArray) k.toNat hs]
   congr 1
   simp [List.getD,List.getElem?_eq_getElem hk]
   rfl
  simp [Instr.index,asIntOf,run_underlying hu,hpre.1,e1]
 ·rename_i n e m c k hu
  split at h
  ·rename_i ht
   simp only [Option.some.injEq,Prod.mk.injEq] at h
   obtain⟨rfl,rfl⟩:=h
   obtain⟨h1,hm,hk⟩:=hpre
   cases hi
   obtain⟨cs,rfl,hcm,hc⟩:=hx
   obtain⟨r,hr,_,hrep⟩:=hc k.toNat (by omega)
   refine⟨r,?_,hrep⟩
   simp [Instr.index,asIntOf,run_underlying hu,hk,part,a4o ht,a0P (P:=P) (w:=w) h1 (by omega),hr]
  ·cases h
 ·cases h
def a6U (x:AV) (i:Nat):Out:=
 match x with
 | .tu m c=>some (i<m,c i)
 | _=>none
theorem b4D {x z:AV} {i:Nat} {u:Value} {pre:Prop} (h:a6U x i=some (pre,z)) (hpre:pre) (hx:Rep w η L x u) :
  ∃ r,(Instr.extract u i).run P w=.ok r w/\Rep w η L z r:=by
 unfold a6U at h
 split at h
 ·simp only [Option.some.injEq,Prod.mk.injEq] at h
  obtain⟨rfl,rfl⟩:=h
  obtain⟨cs,rfl,hm,hc⟩:=hx
  obtain⟨r,hr,hrep⟩:=hc i hpre
  exact⟨r,by simp [Instr.extract,hr],hrep⟩
 ·cases h
def b72 (P:Program) (t:TypeId) (f:Nat) (x:AV):Out:=
 match fld P t f,x with
 | some (off,ft),.ag m c=>match a5P P ft with
   | some true=>some (0<P.cellsOf ft/\off+P.cellsOf ft<=m,.ag (P.cellsOf ft) fun j=>c (off+j))
   | some false=>some (off<m,c off)
   | none=>none
 | _,_=>none
theorem b8D {t:TypeId} {f:Nat} {x z:AV} {u:Value} {pre:Prop} (h:b72 P t f x=some (pre,z)) (hpre:pre) (hx:Rep w η L x u) :
  ∃ r,(Instr.field t u f).run P w=.ok r w/\Rep w η L z r:=by
 unfold b72 at h
 split at h
 ·rename_i off ft m c hf
  obtain⟨fs,fd,hu,hfs,rfl,rfl⟩:=b6V hf
  obtain⟨cs,rfl,hm,hc⟩:=hx
  split at h
  ·rename_i ht
   simp only [Option.some.injEq,Prod.mk.injEq] at h
   obtain⟨rfl,rfl⟩:=h
   refine⟨_,?_,cs.extract fd.offset (fd.offset+P.cellsOf fd.type),rfl,by simp;omega,fun j hj=>?_⟩
   ·simp [Instr.field,run_underlying hu,hfs,asAgg,part,a4o ht,a0P (P:=P) (w:=w) rfl hpre.1]
   ·obtain⟨r,hr,hrep⟩:=hc (fd.offset+j) (by omega)
    exact⟨r,by rw [Array.getElem?_extract];simpa [show j<min (fd.offset+P.cellsOf fd.type) cs.size-fd.offset by omega] using hr,hrep⟩
  ·rename_i ht
   simp only [Option.some.injEq,Prod.mk.injEq] at h
   obtain⟨rfl,rfl⟩:=h
   obtain⟨r,hr,_,hrep⟩:=hc fd.offset hpre
   exact⟨r,by simp [Instr.field,run_underlying hu,hfs,asAgg,part,a4o ht,hr],hrep⟩
  ·cases h
 ·cases h
def bd (d:Int):Option AV->Option Int
 | none=>some d
 | some (.val (.int .i64 k))=>some k
 | _=>none
def b1H (P:Program) (t:TypeId) (x:AV) (lo hi:Option AV):Out:=
 match P.underlying t,x with
 | some .string,.st l=>match bd 0 lo,bd l.length hi with
   | some a,some b=>some (0<=a/\a<=b/\b<=l.length,.st ((l.take b.toNat).drop a.toNat))
   | _,_=>none
 | some (.slice e),.sn n sz c=>match bd 0 lo,bd n hi with
   | some a,some b=>some (P.cellsOf e=sz/\0<sz/\0<=a/\a<=b/\b<=n,.sn (b.toNat-a.toNat) sz fun i=>c (a.toNat+i))
   | _,_=>none
 | some (.slice e),.em=>match bd 0 lo,bd 0 hi with
   | some a,some b=>some (0<P.cellsOf e/\a=0/\b=0,.em)
   | _,_=>none
 | some (.slice e),.ow p ver n=>match lo,bd 0 lo,bd n hi with
   | none,some a,some b=>some (0<P.cellsOf e/\a=0/\0<=b/\b<=n,.ow p ver b.toNat)
   | _,_,_=>none
 | _,_=>none
theorem c27 {d k:Int} {o:Option AV} {vo:Option Value} (h:bd d o=some k) (hr:Option.Rel (Rep w η L) o vo):(vo=none/\k=d)\/vo=some (.int .i64 k):=by
 cases hr with
 | none=>simp only [bd,Option.some.injEq] at h;exact .inl ⟨rfl,h.symm⟩
 | some hx=>
   unfold bd at h
   split at h
   ·rename_i heq;cases heq
   ·rename_i heq
    simp only [Option.some.injEq] at heq h
    subst heq;subst h
    cases hx
    exact .inr rfl
   ·cases h
theorem a3b {k:Int} {n:Nat} {code:BoundsCode} (h:0<=k/\k<=n):(Instr.sliceBound (.int .i64 k) n code).run P w=.ok k.toNat w:=by
 simp [Instr.sliceBound,asIntOf,h]
theorem a39 {isS:Bool} {len cap:Nat} {lo hi:Option AV} {vlo vhi:Option Value} {a b:Int} (ha:bd 0 lo=some a) (hb:bd len hi=some b) (h0:0<=a) (h1:a<=b) (h2:b<=cap)
  (hlo:Option.Rel (Rep w η L) lo vlo) (hhi:Option.Rel (Rep w η L) hi vhi):(Instr.sliceBounds isS len cap vlo vhi none).run P w=.ok (a.toNat,b.toNat,cap) w:=by
 unfold Instr.sliceBounds
 rcases c27 ha hlo with⟨rfl,rfl⟩|rfl<;>rcases c27 hb hhi with⟨rfl,rfl⟩|rfl
 ·simp
 ·simp [a3b (P:=P) (w:=w) (k:=b) (n:=cap) (by omega)]
 ·simp [a3b (P:=P) (w:=w) (k:=a) (n:=len) (by omega)]
 ·simp [a3b (P:=P) (w:=w) (k:=b) (n:=cap) (by omega),a3b (P:=P) (w:=w) (k:=a) (n:=b.toNat) (by omega)]
theorem b8T {t:TypeId} {x z:AV} {u:Value} {lo hi:Option AV} {vlo vhi:Option Value} {pre:Prop} (h:b1H P t x lo hi=some (pre,z)) (hpre:pre)
  (hx:Rep w η L x u) (hlo:Option.Rel (Rep w η L) lo vlo) (hhi:Option.Rel (Rep w η L) hi vhi):∃ r,(Instr.sliceAt t u vlo vhi none).run P w=.ok r w/\Rep w η L z r:=by
 unfold b1H at h
 split at h
 ·rename_i l hu
  split at h
  ·rename_i a b ha hb
   simp only [Option.some.injEq,Prod.mk.injEq] at h
   obtain⟨rfl,rfl⟩:=h
   cases hx
   refine⟨_,?_,rfl⟩
   have hsz:(ByteArray.mk l.toArray).size=l.length:=by simp [ByteArray.size_mk']
   have:=a39 (P:=P) (w:=w) (η:=η) (L:=L) (isS:=false) (len:=l.length) (cap:=l.length) ha hb hpre.1 hpre.2.1 hpre.2.2 hlo hhi
   simp only [Instr.sliceAt,Sem.run_bind,run_underlying hu,Result.andThen_ok,Instr.slice,Option.isSome_none,Bool.false_eq_true,if_false,hsz,this,Sem.run_pure,ByteArray.extract_mk]
   congr 4
   rw [List.drop_take]
  ·cases h
 ·rename_i e n sz c hu
  split at h
  ·rename_i a b ha hb
   simp only [Option.some.injEq,Prod.mk.injEq] at h
   obtain⟨rfl,rfl⟩:=h
   obtain⟨hs,h0,ha0,hab,hbn⟩:=hpre
   obtain⟨ad,cap,rfl,hn,hc⟩:=hx
   have:=a39 (P:=P) (w:=w) (η:=η) (L:=L) (isS:=true) (len:=n) (cap:=cap) ha hb ha0 hab (by omega) hlo hhi
   refine⟨.slice (if cap=a.toNat then ad else ad.map (·.add (a.toNat*sz))) (b.toNat-a.toNat) (cap-a.toNat),?_,_,_,rfl,by omega,fun h1 h2=>?_⟩
   ·simp [Instr.sliceAt,run_underlying hu,Instr.slice,this,a0P (P:=P) (w:=w) hs h0]
   ·obtain⟨bb,off,rfl,hL,hcell⟩:=hc (by omega) h2
    refine⟨bb,off+a.toNat*sz,?_,hL,fun i hi j hj=>?_⟩
    ·rw [if_neg (by omega)];simp [a3A]
    ·obtain⟨u,hu',hr⟩:=hcell (a.toNat+i) (by omega) j hj
     exact⟨u,by rw [<-hu'];congr 2;rw [Nat.add_mul];omega,hr⟩
  ·cases h
 ·rename_i e hu
  split at h
  ·rename_i a b ha hb
   simp only [Option.some.injEq,Prod.mk.injEq] at h
   obtain⟨rfl,rfl⟩:=h
   obtain⟨h0,rfl,rfl⟩:=hpre
   obtain⟨ad,rfl⟩:=hx
   have:=a39 (P:=P) (w:=w) (η:=η) (L:=L) (isS:=true) (len:=0) (cap:=0) ha hb (by omega) (by omega) (by omega) hlo hhi
   exact⟨_,by simp [Instr.sliceAt,run_underlying hu,Instr.slice,this,a0P (P:=P) (w:=w) rfl h0],ad,rfl⟩
  ·cases h
 ·rename_i e p ver n hu
  split at h
  ·rename_i a b hb ha
   simp only [Option.some.injEq,Prod.mk.injEq] at h
   obtain⟨rfl,rfl⟩:=h
   obtain⟨h0,rfl,hb0,hbn⟩:=hpre
   obtain⟨g,cap,hη,hv⟩:=hx
   cases g with
   | none=>
     obtain⟨rfl,ad,rfl⟩:=hv
     obtain rfl:b=0:=by omega
     have:=a39 (P:=P) (w:=w) (η:=η) (L:=L) (isS:=true) (len:=0) (cap:=0) ha hb (by omega) (by omega) (by omega) hlo hhi
     exact⟨_,by simp [Instr.sliceAt,run_underlying hu,Instr.slice,this,a0P (P:=P) (w:=w) rfl h0],none,cap,hη,rfl,ad,rfl⟩
   | some g=>
     obtain⟨rfl,hcap⟩:=hv
     have:=a39 (P:=P) (w:=w) (η:=η) (L:=L) (isS:=true) (len:=n) (cap:=cap) ha hb (by omega) hb0 (by omega) hlo hhi
     refine⟨.slice (some ⟨g,0,none⟩) b.toNat cap,by simp [Instr.sliceAt,run_underlying hu,Instr.slice,this,a0P (P:=P) (w:=w) rfl h0,Addr.add],some g,cap,hη,rfl,by omega⟩
  ·cases h
 ·cases h
def b2K (P:Program) (t:TypeId) (x:AV) (lo hi:Option AV) (m:AV):Out:=
 match P.underlying t,lo,hi,m with
 | some (.slice e),none,some (.val (.int .i64 b)),.val (.int .i64 k)=>match x with
   | .sn _ _ _=>some (0<P.cellsOf e/\b=0/\k=0,.em)
   | .em=>some (0<P.cellsOf e/\b=0/\k=0,.em)
   | .ow _ _ _=>some (0<P.cellsOf e/\b=0/\k=0,.em)
   | _=>none
 | _,_,_,_=>none
theorem b5i {t:TypeId} {x m z:AV} {u vm:Value} {lo hi:Option AV} {vlo vhi:Option Value} {pre:Prop} (h:b2K P t x lo hi m=some (pre,z)) (hpre:pre)
  (hx:Rep w η L x u) (hlo:Option.Rel (Rep w η L) lo vlo) (hhi:Option.Rel (Rep w η L) hi vhi) (hm:Rep w η L m vm):∃ r,(Instr.sliceAt t u vlo vhi (some vm)).run P w=.ok r w/\Rep w η L z r:=by
 have key:∀ e,P.underlying t=some (.slice e)->0<P.cellsOf e->∀ (a:Option Addr) (n cap:Nat),u=.slice a n cap->vlo=none->vhi=some (.int .i64 0)->vm=.int .i64 0->
   ∃ r,(Instr.sliceAt t u vlo vhi (some vm)).run P w=.ok r w/\Rep w η L .em r:=by
  rintro e hu h0 a n cap rfl rfl rfl rfl
  refine⟨.slice a 0 0,?_,a,rfl⟩
  have hb:=fun n c=>a3b (P:=P) (w:=w) (k:=0) (n:=n) (code:=c) (by omega)
  simp [Instr.sliceAt,run_underlying hu,Instr.slice,Instr.sliceBounds,hb,a0P (P:=P) (w:=w) rfl h0]
 unfold b2K at h
 split at h
 ·rename_i e b k hu
  cases hlo
  cases hhi with
  | some hb=>
  cases hb
  cases hm
  split at h
  ·rename_i n sz c
   simp only [Option.some.injEq,Prod.mk.injEq] at h
   obtain⟨rfl,rfl⟩:=h
   obtain⟨h0,rfl,rfl⟩:=hpre
   obtain⟨a,cap,hv,_⟩:=hx
   exact key e hu h0 a _ cap hv rfl rfl rfl
  ·simp only [Option.some.injEq,Prod.mk.injEq] at h
   obtain⟨rfl,rfl⟩:=h
   obtain⟨h0,rfl,rfl⟩:=hpre
   obtain⟨a,hv⟩:=hx
   exact key e hu h0 a _ _ hv rfl rfl rfl
  ·rename_i p ver n
   simp only [Option.some.injEq,Prod.mk.injEq] at h
   obtain⟨rfl,rfl⟩:=h
   obtain⟨h0,rfl,rfl⟩:=hpre
   obtain⟨g,cap,_,hv⟩:=hx
   cases g with
   | none=>
     obtain⟨_,a,hv⟩:=hv
     exact key e hu h0 a _ _ hv rfl rfl rfl
   | some g=>exact key e hu h0 _ _ _ hv.1 rfl rfl rfl
  ·cases h
 ·cases h
def c5B (c x y:AV):Out:=
 match c,x,y with
 | .val (.bool b),.val (.bool p),.val (.bool q)=>some (True,.val (.bool (bif b then p else q)))
 | .val (.bool b),.gd g (.val (.bool p)),.val (.bool q)=>some (b=true->g=true,.val (.bool (bif b then p else q)))
 | .val (.bool b),.val (.bool p),.gd g (.val (.bool q))=>some (b=false->g=true,.val (.bool (bif b then p else q)))
 | .val (.bool b),.gd _ .any,.val (.bool q)=>some (b=false,.val (.bool q))
 | .val (.bool b),.val (.bool p),.gd _ .any=>some (b=true,.val (.bool p))
 | _,_,_=>none
theorem b99 {c x y z:AV} {vc vx vy:Value} {pre:Prop} (h:c5B c x y=some (pre,z)) (hpre:pre) (hc:Rep w η L c vc) (hx:Rep w η L x vx) (hy:Rep w η L y vy) :
  ∃ b,vc=.bool b/\Rep w η L z (if b then vx else vy):=by
 unfold c5B at h
 split at h
 ·rename_i b p q
  simp only [Option.some.injEq,Prod.mk.injEq] at h
  obtain⟨rfl,rfl⟩:=h
  cases hc;cases hx;cases hy
  exact⟨b,rfl,by cases b<;>rfl⟩
 ·rename_i b g p q
  simp only [Option.some.injEq,Prod.mk.injEq] at h
  obtain⟨rfl,rfl⟩:=h
  cases hc;cases hy
  exact⟨b,rfl,by cases b with
   | false=>rfl
   | true=>have:=hx.1 (hpre rfl);cases this;rfl⟩
 ·rename_i b p g q
  simp only [Option.some.injEq,Prod.mk.injEq] at h
  obtain⟨rfl,rfl⟩:=h
  cases hc;cases hx
  exact⟨b,rfl,by cases b with
   | true=>rfl
   | false=>have:=hy.1 (hpre rfl);cases this;rfl⟩
 ·simp only [Option.some.injEq,Prod.mk.injEq] at h
  obtain⟨rfl,rfl⟩:=h
  cases hc;cases hy
  subst hpre
  exact⟨false,rfl,rfl⟩
 ·simp only [Option.some.injEq,Prod.mk.injEq] at h
  obtain⟨rfl,rfl⟩:=h
  cases hc;cases hx
  subst hpre
  exact⟨true,rfl,rfl⟩
 ·cases h
def aUn (op:UnOp) (x:AV):Out:=
 match op,x with
 | .not,.val (.bool b)=>some (True,.val (.bool (!b)))
 | .neg,.val (.int .i64 n)=>some (-9223372036854775808<=-n/\-n<=9223372036854775807,.val (.int .i64 (-n)))
 | _,_=>none
theorem c8R {op:UnOp} {x z:AV} {v:Value} {pre:Prop} (h:aUn op x=some (pre,z)) (hpre:pre) (hx:Rep w η L x v) :
  ∃ r,(Op.unary op v).run P w=.ok r w/\Rep w η L z r:=by
 unfold aUn at h
 split at h
 ·simp only [Option.some.injEq,Prod.mk.injEq] at h
  obtain⟨rfl,rfl⟩:=h
  cases hx
  exact⟨_,rfl,rfl⟩
 ·simp only [Option.some.injEq,Prod.mk.injEq] at h
  obtain⟨rfl,rfl⟩:=h
  cases hx
  refine⟨_,?_,rfl⟩
  rename_i n
  have:=a5N (0-n) (by omega)
  simp [Op.unary,Op.intArith]
  simpa using this
 ·cases h
def c6s (P:Program) (src dst:TypeId) (x:AV):Out:=
 match P.underlying src,P.underlying dst,x with
 | some (.int _),some (.int .i64),.val (.int _ n)=>some (-9223372036854775808<=n/\n<=9223372036854775807,.val (.int .i64 n))
 | some (.int _),some (.int k),.val (.int _ n)=>some (True,.val (.int k (k.wrap n)))
 | _,_,_=>none
theorem c2l {src dst:TypeId} {x z:AV} {v:Value} {pre:Prop} (h:c6s P src dst x=some (pre,z)) (hpre:pre) (hx:Rep w η L x v) :
  ∃ r,(convert src dst v).run P w=.ok r w/\Rep w η L z r:=by
 unfold c6s at h
 split at h
 ·rename_i hs hd
  simp only [Option.some.injEq,Prod.mk.injEq] at h
  obtain⟨rfl,rfl⟩:=h
  cases hx
  exact⟨_,by simp [convert,run_underlying hs,run_underlying hd,Conv.intToInt,a5N _ hpre],rfl⟩
 ·rename_i hs hd
  simp only [Option.some.injEq,Prod.mk.injEq] at h
  obtain⟨rfl,rfl⟩:=h
  cases hx
  exact⟨_,by simp [convert,run_underlying hs,run_underlying hd,Conv.intToInt],rfl⟩
 ·cases h
def b73 (P:Program) (t:TypeId) (x:AV):Out:=
 match P.underlying t,x with
 | some .string,.st l=>some (True,.val (.int .i64 l.length))
 | some (.slice _),.sn n _ _=>some (True,.val (.int .i64 n))
 | some (.slice _),.ow _ _ n=>some (True,.val (.int .i64 n))
 | some (.slice _),.em=>some (True,.val (.int .i64 0))
 | _,_=>none
theorem c3T {t ty:TypeId} {x z:AV} {v:Value} {pre:Prop} (h:b73 P t x=some (pre,z)) (_hpre:pre) (hx:Rep w η L x v) :
  ∃ r,(Builtin.len_ #[t] ty #[v]).run P w=.ok r w/\Rep w η L z r:=by
 unfold b73 at h
 split at h
 ·rename_i l hu
  simp only [Option.some.injEq,Prod.mk.injEq] at h
  obtain⟨rfl,rfl⟩:=h
  cases hx
  exact⟨_,by simp [Builtin.len_,run_underlying hu,goInt,ByteArray.size_mk'],rfl⟩
 ·rename_i hu
  simp only [Option.some.injEq,Prod.mk.injEq] at h
  obtain⟨rfl,rfl⟩:=h
  obtain⟨a,cap,rfl,_⟩:=hx
  exact⟨_,by simp [Builtin.len_,run_underlying hu,goInt],rfl⟩
 ·rename_i n hu
  simp only [Option.some.injEq,Prod.mk.injEq] at h
  obtain⟨rfl,rfl⟩:=h
  obtain⟨g,cap,_,hv⟩:=hx
  cases g with
  | none=>
    obtain⟨rfl,a,rfl⟩:=hv
    exact⟨_,by simp [Builtin.len_,run_underlying hu,goInt],rfl⟩
  | some g=>
    obtain⟨rfl,_⟩:=hv
    exact⟨_,by simp [Builtin.len_,run_underlying hu,goInt],rfl⟩
 ·rename_i hu
  simp only [Option.some.injEq,Prod.mk.injEq] at h
  obtain⟨rfl,rfl⟩:=h
  obtain⟨a,rfl⟩:=hx
  exact⟨_,by simp [Builtin.len_,run_underlying hu,goInt],rfl⟩
 ·cases h
def d5W:List AV->Out
 | [.val (.int .i64 a),.val (.int .i64 b)]=>some (True,.val (.int .i64 (min a b)))
 | [.val (.int .i64 a),.val (.int .i64 b),.val (.int .i64 c)]=>some (True,.val (.int .i64 (min (min a b) c)))
 | _=>none
def d50:List AV->Out
 | [.val (.int .i64 a),.val (.int .i64 b)]=>some (True,.val (.int .i64 (max a b)))
 | [.val (.int .i64 a),.val (.int .i64 b),.val (.int .i64 c)]=>some (True,.val (.int .i64 (max (max a b) c)))
 | _=>none
theorem c7R (a b:Int):(if b<a then b else a)=min a b:=by omega
theorem c7p (a b:Int):(if a<b then b else a)=max a b:=by omega
end
end Go.Proofs.YthpjjjnbkfnghaaGreatDoor
namespace Go.Proofs.YthpjjjnbkfnghaaGreatDoor
open Go Go.MapKept
section
variable {P:Program} {w:World} {η:Env} {L:Nat->Prop}
inductive a4C {α β:Type} (R:α->β->Prop):List α->List β->Prop where
 | nil:a4C R [] []
 | cons {a:α} {b:β} {l:List α} {m:List β}:R a b->a4C R l m->a4C R (a::l) (b::m)
theorem b30 (off:Nat):∀ (l:List Value) (k:Nat) (cs:Array Value),off+k+l.length<=cs.size->
  ((l.zipIdx k).foldl (fun (cs:Array Value) (x:Value×Nat)=>cs.setIfInBounds (off+x.2) x.1) cs).size=cs.size/\
  ∀ i,((l.zipIdx k).foldl (fun (cs:Array Value) (x:Value×Nat)=>cs.setIfInBounds (off+x.2) x.1) cs)[i]?=if off+k<=i/\i<off+k+l.length then l[i-(off+k)]? else cs[i]?
 | [],k,cs,_=>by
   refine⟨rfl,fun i=>?_⟩
   rw [if_neg (by simp only [List.length_nil];omega)]
   rfl
 | v::l,k,cs,h=>by
   simp only [List.length_cons] at h
   obtain⟨h1,h2⟩:=b30 off l (k+1) (cs.setIfInBounds (off+k) v) (by simp;omega)
   simp only [List.zipIdx_cons,List.foldl_cons]
   refine⟨by rw [h1];simp,fun i=>?_⟩
   rw [h2 i]
   by_cases hi:i=off+k
   ·subst hi
    rw [if_neg (by omega),if_pos (by simp)]
    simp [show off+k<cs.size by omega]
   ·by_cases hr:off+(k+1)<=i/\i<off+(k+1)+l.length
    ·rw [if_pos hr,if_pos (by simp;omega)]
     obtain⟨d,rfl⟩:∃ d,i=off+(k+1)+d:=⟨i-(off+(k+1)),by omega⟩
     rw [show off+(k+1)+d-(off+(k+1))=d by omega,show off+(k+1)+d-(off+k)=d+1 by omega]
     rfl
    ·rw [if_neg hr,if_neg (by simp;omega),Array.getElem?_setIfInBounds_ne (Ne.symm hi)]
def a50 (place:Nat->Option (Nat×Nat)) (m:Nat):(Nat->AV)->List (Nat×AV)->Option (Nat->AV)
 | c,[]=>some c
 | c,(i,x)::r=>match place i,a1u x with
   | some (off,k),some (k',d)=>if k'=k/\off+k<=m then a50 place m (fun j=>if off<=j/\j<off+k then d (j-off) else c j) r else none
   | _,_=>none
theorem a9v {place:Nat->Option (Nat×Nat)} {m:Nat}:∀ (l:List (Nat×AV)) (vs:List (Nat×Value)) (c c':Nat->AV) (cells:Array Value),
  a50 place m c l=some c'->cells.size=m->(∀ j,j<m->∃ u,cells[j]?=some u/\u.oneCell'=true/\Rep w η L (c j) u)->a4C (fun a b=>a.1=b.1/\Rep w η L a.2 b.2) l vs->
  ∃ cells',Instr.fill place cells vs=some cells'/\cells'.size=m/\∀ j,j<m->∃ u,cells'[j]?=some u/\u.oneCell'=true/\Rep w η L (c' j) u:=by
 intro l
 induction l with
 | nil=>
   intro vs c c' cells h hm hc hf
   cases hf
   simp only [a50,Option.some.injEq] at h
   subst h
   exact⟨cells,rfl,hm,hc⟩
 | cons x l ih=>
   intro vs c c' cells h hm hc hf
   obtain⟨i,x⟩:=x
   cases hf with
   | cons hx hf=>
     rename_i b vs
     obtain⟨i',v⟩:=b
     obtain⟨rfl,hr⟩:=hx
     simp only [a50] at h
     split at h
     ·rename_i off k k' d hp hcl
      split at h
      ·rename_i hk
       obtain⟨rfl,hle⟩:=hk
       obtain⟨hsz,hcells⟩:=a5y hcl hr
       have hs:=b30 off v.cells.toList 0 cells (by simp [hsz,hm];omega)
       simp only [Nat.add_zero,Array.length_toList,hsz] at hs
       have e:v.cells.zipIdx.foldl (fun cs (c,j)=>cs.setIfInBounds (off+j) c) cells=(v.cells.toList.zipIdx 0).foldl (fun (cs:Array Value) (x:Value×Nat)=>cs.setIfInBounds (off+x.2) x.1) cells:=by
        rw [<-Array.foldl_toList,Array.toList_zipIdx]
       obtain⟨cells',h1,h2,h3⟩:=ih vs _ c' ((v.cells.toList.zipIdx 0).foldl (fun (cs:Array Value) (x:Value×Nat)=>cs.setIfInBounds (off+x.2) x.1) cells) h (by rw [hs.1,hm]) (fun j hj=>by
        rw [hs.2 j]
        by_cases hj':off<=j/\j<off+k'
        ·rw [if_pos hj']
         simp only [hj',and_self,if_true]
         obtain⟨u,hu,hrep⟩:=hcells (j-off) (by omega)
         exact⟨u,by simpa using hu,hrep⟩
        ·rw [if_neg hj']
         simp only [hj',if_false]
         exact hc j hj) hf
       refine⟨cells',?_,h2,h3⟩
       rw [Instr.fill,hp]
       simp only
       rw [if_neg (by simp [hsz,hm];omega),e]
       exact h1
      ·cases h
     ·cases h
def a4V (P:Program) (t:TypeId):Option (List (Nat×Nat)):=
 match P.underlying t with
 | some (.struct fs)=>some (fs.toList.map fun f=>(f.offset,P.cellsOf f.type))
 | _=>none
def a2g (P:Program) (t:TypeId):Option (List Value):=((P.info? t).bind (·.zero)).bind fun v=>if v.cells.toList.all Value.oneCell' then some v.cells.toList else none
theorem a5I {t:TypeId} {l:List Value} (h:a2g P t=some l):∃ z,(zeroValue t).run P w=.ok z w/\z.cells=l.toArray/\l.all Value.oneCell'=true:=by
 unfold a2g at h
 cases hi:P.info? t with
 | none=>rw [hi] at h;cases h
 | some i=>
   rw [hi] at h
   cases hz:i.zero with
   | none=>simp [hz] at h
   | some z=>
     simp only [hz,Option.bind_some] at h
     split at h
     ·rename_i ha
      simp only [Option.some.injEq] at h
      subst h
      exact⟨z,by simp [zeroValue,typeInfo,hi,hz],by simp,ha⟩
     ·cases h
def zC (l:List Value):Nat->AV:=fun j=>a7i (l.getD j undef)
theorem c1T (l:List Value) (h:l.all Value.oneCell'=true):∀ j,j<l.length->∃ u,l.toArray[j]?=some u/\u.oneCell'=true/\Rep w η L (zC l j) u:=fun j hj=>
 ⟨l[j],by simp [hj],List.all_eq_true.1 h _ (by simp),by simpa [zC,List.getD,List.getElem?_eq_getElem hj] using a4T l[j]⟩
def a5X (P:Program) (t:TypeId):Bool:=
 match P.underlying t with
 | some (.struct fs)=>fs.toList.all fun f=>(P.info? f.type).isSome
 | _=>false
def c32 (P:Program) (t:TypeId):Option Nat:=
 match P.underlying t with
 | some (.array _ e)=>if (P.info? e).isSome then some (P.cellsOf e) else none
 | _=>none
def b6i (P:Program) (t:TypeId) (parts:List (Nat×AV)):Out:=
 match a4V P t,a2g P t with
 | some lay,some z=>match a50 (fun i=>lay[i]?) z.length (zC z) parts with
   | some c=>some (a5X P t=true,.ag z.length c)
   | none=>none
 | none,some z=>match c32 P t with
   | some size=>match a50 (fun i=>some (i*size,size)) z.length (zC z) parts with
     | some c=>some (True,.ag z.length c)
     | none=>none
   | none=>none
 | _,_=>none
theorem b62 {α β:Type} (g:α->Sem β) (h:α->β):∀ (l:List α),(∀ f∈l,(g f).run P w=.ok (h f) w)->(l.mapM g).run P w=.ok (l.map h) w
 | [],_=>rfl
 | f::l,hh=>by
   rw [List.mapM_cons,Sem.run_bind,hh f (List.mem_cons_self ..)]
   simp only [Result.andThen_ok,Sem.run_bind,b62 g h l (fun x hx=>hh x (List.mem_cons_of_mem _ hx)),Sem.run_pure,List.map_cons]
theorem b8E {t:TypeId} {parts:List (Nat×AV)} {vs:List (Nat×Value)} {z:AV} {pre:Prop} (h:b6i P t parts=some (pre,z)) (hpre:pre)
  (hf:a4C (fun a b=>a.1=b.1/\Rep w η L a.2 b.2) parts vs):∃ r,(Instr.build t vs.toArray).run P w=.ok r w/\Rep w η L z r:=by
 unfold b6i at h
 split at h
 ·rename_i lay zl hlay hz
  split at h
  ·rename_i c hfill
   simp only [Option.some.injEq,Prod.mk.injEq] at h
   obtain⟨rfl,rfl⟩:=h
   obtain⟨zv,hzr,hzc,hz1⟩:=a5I (w:=w) hz
   unfold a4V at hlay
   split at hlay
   ·rename_i fs hu
    simp only [Option.some.injEq] at hlay
    subst hlay
    unfold a5X at hpre
    rw [hu] at hpre
    simp only at hpre
    obtain⟨cells',h1,h2,h3⟩:=a9v parts vs (zC zl) c zl.toArray hfill (by simp) (c1T zl hz1) hf
    refine⟨.agg cells',?_,cells',rfl,h2,h3⟩
    have hm:(fs.mapM fun f=>(do pure (f.offset,<-sizeOf f.type):Sem (Nat×Nat))).run P w=.ok (fs.toList.map fun f=>(f.offset,P.cellsOf f.type)).toArray w:=by
     rw [Array.mapM_eq_mapM_toList,Sem.run_map,b62 _ (fun f=>(f.offset,P.cellsOf f.type)) fs.toList (fun f hf=>by
      obtain⟨i,hi⟩:=Option.isSome_iff_exists.1 (List.all_eq_true.1 hpre f hf)
      simp [sizeOf,typeInfo,hi,Program.cellsOf])]
     rfl
    have e:(fun (i:Nat)=>(fs.toList.map fun f=>(f.offset,P.cellsOf f.type)).toArray[i]?)=(fun (i:Nat)=>(fs.toList.map fun f=>(f.offset,P.cellsOf f.type))[i]?):=by funext i;simp
    simp only [Instr.build,Sem.run_bind,hzr,Result.andThen_ok,run_underlying hu,hm,hzc,e,h1,Sem.run_pure]
   ·cases hlay
  ·cases h
 ·rename_i zl hlay hz
  split at h
  ·rename_i size harr
   split at h
   ·rename_i c hfill
    simp only [Option.some.injEq,Prod.mk.injEq] at h
    obtain⟨rfl,rfl⟩:=h
    obtain⟨zv,hzr,hzc,hz1⟩:=a5I (w:=w) hz
    unfold c32 at harr
    split at harr
    ·rename_i n e hu
     split at harr
     ·rename_i hi
      simp only [Option.some.injEq] at harr
      subst harr
      obtain⟨cells',h1,h2,h3⟩:=a9v parts vs (zC zl) c zl.toArray hfill (by simp) (c1T zl hz1) hf
      refine⟨.agg cells',?_,cells',rfl,h2,h3⟩
      obtain⟨i,hi⟩:=Option.isSome_iff_exists.1 hi
      have hm:(sizeOf e).run P w=.ok (P.cellsOf e) w:=by simp [sizeOf,typeInfo,hi,Program.cellsOf]
      simp only [Instr.build,Sem.run_bind,hzr,Result.andThen_ok,run_underlying hu,hm,hzc,h1,Sem.run_pure]
     ·cases harr
    ·cases harr
   ·cases h
  ·cases h
 ·cases h
def d4O:AV->Out
 | .ps m c=>some (True,.ps m c)
 | .pt p v j=>some (True,.pt p v j)
 | .pe p v sz i j=>some (True,.pe p v sz i j)
 | _=>none
theorem c2N (v:Value) (k:Key):k.hit v=true↔v=k.val:=by
 cases k with
 | i n=>
   cases v with
   | int kk m=>cases kk<;>simp [Key.val,Key.hit]
   | _=>simp [Key.val,Key.hit]
 | s l=>cases v<;>simp [Key.val,Key.hit]
theorem a5e {e:MapEntry} {es:List MapEntry} {k:Key} (h:e.key=k.val):a6g (e::es) k=some e.val:=by
 unfold a6g
 rw [if_pos ((c2N _ _).2 h)]
theorem a3j {e:MapEntry} {es:List MapEntry} {k:Key} (h:e.key≠k.val):a6g (e::es) k=a6g es k:=by
 conv=>lhs;unfold a6g
 rw [if_neg (fun h'=>h ((c2N _ _).1 h'))]
def a4A (str:Bool):TypeDesc:=if str then .string else .int .i64
theorem a4q (k:Key):IsKey (a4A k.isStr) k.val:=by cases k<;>simp [a4A,Key.isStr,IsKey,Key.val]
theorem b3k {d:TypeDesc} {k:Key} (hk:IsKey d k.val):∀ (l:List MapEntry) (i:Nat),(∀ x∈l,IsKey d x.key)->
  (Instr.findNow d k.val l i=some none/\a6g l k=none/\∀ x∈l,x.key≠k.val)\/
  ∃ j e,Instr.findNow d k.val l i=some (some (i+j,e.val))/\l[j]?=some e/\e.key=k.val/\a6g l k=some e.val/\∀ m x,m<j->l[m]?=some x->x.key≠k.val
 | [],_,_=>.inl ⟨rfl,rfl,fun _ h=>by cases h⟩
 | e::es,i,h=>by
   obtain⟨r,hr,hiff⟩:=sameNow_of_keys hk (h e (List.mem_cons_self ..))
   cases r with
   | true=>
     have e1:e.key=k.val:=(hiff.1 rfl).symm
     exact .inr ⟨0,e,by simp [Instr.findNow,hr],rfl,e1,a5e e1,fun m x hm=>absurd hm (Nat.not_lt_zero _)⟩
   | false=>
     have hne:e.key≠k.val:=fun q=>by have:=hiff.2 q.symm;cases this
     rcases b3k hk es (i+1) (fun x hx=>h x (List.mem_cons_of_mem _ hx)) with⟨h1,h2,h3⟩|⟨j,e',h1,h2,h3,h4,h5⟩
     ·refine .inl ⟨by simp [Instr.findNow,hr,h1],by rw [a3j hne,h2],fun x hx=>?_⟩
      rcases List.mem_cons.1 hx with rfl|hx
      ·exact hne
      ·exact h3 x hx
     ·refine .inr ⟨j+1,e',by simp [Instr.findNow,hr,h1];omega,by simpa using h2,h3,by rw [a3j hne,h4],fun m x hm hx=>?_⟩
      cases m with
      | zero=>simp only [List.getElem?_cons_zero,Option.some.injEq] at hx;subst hx;exact hne
      | succ m=>exact h5 m x (by omega) (by simpa using hx)
def b5Q:AV->Option Key
 | .val (.int .i64 n)=>some (.i n)
 | .st l=>some (.s l)
 | _=>none
theorem b4e {x:AV} {k:Key} {v:Value} (h:b5Q x=some k) (hr:Rep w η L x v):v=k.val:=by
 unfold b5Q at h
 split at h
 ·simp only [Option.some.injEq] at h;subst h;exact hr
 ·simp only [Option.some.injEq] at h;subst h;exact hr
 ·cases h
def c1c (P:Program) (t:TypeId):Option Value:=(P.info? t).bind (·.zero)
theorem c3z {t:TypeId} {z:Value} (h:c1c P t=some z):(zeroValue t).run P w=.ok z w:=by
 unfold c1c at h
 cases hi:P.info? t with
 | none=>rw [hi] at h;cases h
 | some i=>
   rw [hi] at h
   simp only [Option.bind_some] at h
   simp [zeroValue,typeInfo,hi,h]
def tu2 (x y:AV):AV:=.tu 2 fun j=>if j=0 then x else y
def tu3 (x y z:AV):AV:=.tu 3 fun j=>if j=0 then x else if j=1 then y else z
def a7q (P:Program) (hp:Nat->Row) (t:TypeId) (m k:AV) (ok:Bool):Out:=
 match P.underlying t,m with
 | some (.map kt et),.mp p ver=>match hp p,c1c P et,b5Q k with
   | .mp v str _ f,some z,some key=>some (v=ver/\key.isStr=str/\P.underlying kt=some (a4A str),
     if ok then tu2 (.val ((f key).getD z)) (.val (.bool (f key).isSome)) else .val ((f key).getD z))
   | _,_,_=>none
 | _,_=>none
theorem b5z {hp:Nat->Row} {t:TypeId} {m k z:AV} {vm vk:Value} {ok:Bool} {pre:Prop} (hrows:∀ p,a13 w η L (hp p)) (h:a7q P hp t m k ok=some (pre,z)) (hpre:pre)
  (hm:Rep w η L m vm) (hk:Rep w η L k vk):∃ r,(Instr.lookup t vm vk ok).run P w=.ok r w/\Rep w η L z r:=by
 unfold a7q at h
 split at h
 ·rename_i kt et p ver hu
  split at h
  ·rename_i v str n f zv key hrow hz hkey
   simp only [Option.some.injEq,Prod.mk.injEq] at h
   obtain⟨rfl,rfl⟩:=h
   obtain⟨rfl,rfl,hkt⟩:=hpre
   obtain⟨g,cap,he,rfl⟩:=hm
   have hr:=hrows p
   rw [hrow] at hr
   obtain⟨b,es,clock,hg,hh,hn,hks,hf⟩:=hr _ _ he
   simp only [Option.some.injEq] at hg
   subst hg
   obtain rfl:=b4e hkey hk
   have hall:∀ x∈es.toList,IsKey (a4A key.isStr) x.key:=fun x hx=>by
    obtain⟨k',e1,e2⟩:=hks x (by simpa using hx)
    rw [e1,<-e2];exact a4q k'
   have hck:=fun (emp:Bool)=>run_checkKey (P:=P) (w:=w) hkt (a4q key) emp 9999
   have hfk:=hf key rfl
   rcases b3k (a4q key) es.toList 0 hall with⟨h1,h2,_⟩|⟨j,e,h1,_,_,h4,_⟩
   ·rw [h2] at hfk
    have hrun:(Instr.lookup t (.map (some g)) key.val ok).run P w=.ok (if ok then .tuple #[zv,.bool false] else zv) w:=by
     simp [Instr.lookup,run_underlying hu,Go.MapKept.run_getObj_map hh,hck,run_findKey hkt h1,c3z (P:=P) (w:=w) hz,Result.andThen]
    refine⟨_,hrun,?_⟩
    rw [<-hfk]
    cases ok with
    | false=>rfl
    | true=>
      refine⟨#[zv,.bool false],rfl,rfl,fun j hj=>?_⟩
      match j,hj with
      | 0,_=>exact⟨_,rfl,rfl⟩
      | 1,_=>exact⟨_,rfl,rfl⟩
   ·rw [h4] at hfk
    have hrun:(Instr.lookup t (.map (some g)) key.val ok).run P w=.ok (if ok then .tuple #[e.val,.bool true] else e.val) w:=by
     simp [Instr.lookup,run_underlying hu,Go.MapKept.run_getObj_map hh,hck,run_findKey hkt h1,Result.andThen]
    refine⟨_,hrun,?_⟩
    rw [<-hfk]
    cases ok with
    | false=>rfl
    | true=>
      refine⟨#[e.val,.bool true],rfl,rfl,fun j hj=>?_⟩
      match j,hj with
      | 0,_=>exact⟨_,rfl,rfl⟩
      | 1,_=>exact⟨_,rfl,rfl⟩
  ·cases h
 ·cases h
def a9l (P:Program) (hp:Nat->Row) (t:TypeId) (x:AV):Out:=
 match x with
 | .mp p ver=>match P.underlying t,hp p with
   | some (.map _ _),.mp v _ n _=>some (v=ver,.val (.int .i64 n))
   | _,_=>none
 | x=>b73 P t x
theorem c18 {hp:Nat->Row} {t ty:TypeId} {x z:AV} {v:Value} {pre:Prop} (hrows:∀ p,a13 w η L (hp p)) (h:a9l P hp t x=some (pre,z)) (hpre:pre) (hx:Rep w η L x v) :
  ∃ r,(Builtin.len_ #[t] ty #[v]).run P w=.ok r w/\Rep w η L z r:=by
 unfold a9l at h
 split at h
 ·rename_i p ver
  split at h
  ·rename_i kt et v' str n f hu hrow
   simp only [Option.some.injEq,Prod.mk.injEq] at h
   obtain⟨rfl,rfl⟩:=h
   subst hpre
   obtain⟨g,cap,he,rfl⟩:=hx
   have hr:=hrows p
   rw [hrow] at hr
   obtain⟨b,es,clock,hg,hh,hn,_⟩:=hr _ _ he
   simp only [Option.some.injEq] at hg
   subst hg
   exact⟨.int .i64 es.size,by simp [Builtin.len_,run_underlying hu,Go.MapKept.run_getObj_map hh,goInt,Result.andThen],by rw [<-hn];rfl⟩
  ·cases h
 ·exact c3T h hpre hx
def a9g (P:Program) (t:TypeId) (x:AV):Out:=
 match P.underlying t,x with
 | some (.slice _),.sn n sz _=>some (0<sz,.mb (n=0))
 | some (.slice _),.em=>some (True,.mb True)
 | _,_=>none
theorem b9e {t:TypeId} {x z:AV} {u:Value} {pre:Prop} (h:a9g P t x=some (pre,z)) (hpre:pre) (hx:Rep w η L x u) :
  ∃ r,(binOp .eql t u (.slice none 0 0)).run P w=.ok r w/\Rep w η L z r:=by
 have key:∀ (e:TypeId) (a:Option Addr) (n cap:Nat),P.underlying t=some (.slice e)->(binOp .eql t (.slice a n cap) (.slice none 0 0)).run P w=.ok (.bool a.isNone) w:=by
  intro e a n cap hu
  have:=run_equal_slice_nil (P:=P) w t e a n cap hu
  simp only [binOp,Sem.run_bind,this,Result.andThen_ok,Sem.run_pure]
 unfold a9g at h
 split at h
 ·rename_i e n sz c hu
  simp only [Option.some.injEq,Prod.mk.injEq] at h
  obtain⟨rfl,rfl⟩:=h
  obtain⟨a,cap,rfl,_,hc⟩:=hx
  refine⟨_,key e a n cap hu,_,rfl,fun hn=>?_⟩
  rcases Nat.eq_zero_or_pos n with h0|h0
  ·exact h0
  ·obtain⟨b,off,rfl,_⟩:=hc h0 hpre
   cases hn
 ·rename_i e hu
  simp only [Option.some.injEq,Prod.mk.injEq] at h
  obtain⟨rfl,rfl⟩:=h
  obtain⟨a,rfl⟩:=hx
  exact⟨_,key e a 0 0 hu,_,rfl,fun _=>trivial⟩
 ·cases h
def c3K (P:Program) (t:TypeId):Prop:=P.underlying t=some (.pointer (P.pointee t))
def d3O (P:Program) (t:TypeId):Prop:=P.underlying t=some (.interface (P.methodsAt t))
def b3K (P:Program) (t:TypeId) (x:AV):Out:=
 match x with
 | .val (.pointer none)=>some (c3K P t,.val (.bool true))
 | .pt _ _ _=>some (c3K P t,.val (.bool false))
 | .ps _ _=>some (c3K P t,.val (.bool false))
 | _=>none
def b2d (P:Program) (t:TypeId) (b:Bool) (x:AV):Out:=
 match x with
 | .val .nilIface=>some (d3O P t,.val (.bool b))
 | _=>none
theorem c2m {t:TypeId} {x z:AV} {u:Value} {pre:Prop} (h:b3K P t x=some (pre,z)) (hpre:pre) (hx:Rep w η L x u) :
  (∃ a,u=.pointer a)/\∃ r,(binOp .eql t u (.pointer none)).run P w=.ok r w/\Rep w η L z r:=by
 unfold b3K at h
 split at h
 ·simp only [Option.some.injEq,Prod.mk.injEq] at h
  obtain⟨rfl,rfl⟩:=h
  cases hx
  exact⟨⟨_,rfl⟩,_,run_eql_pointer_nil w t none hpre,rfl⟩
 ·simp only [Option.some.injEq,Prod.mk.injEq] at h
  obtain⟨rfl,rfl⟩:=h
  obtain⟨g,cap,_,rfl⟩:=hx
  exact⟨⟨_,rfl⟩,_,run_eql_pointer_nil w t (some _) hpre,rfl⟩
 ·simp only [Option.some.injEq,Prod.mk.injEq] at h
  obtain⟨rfl,rfl⟩:=h
  obtain⟨b,off,rfl,_⟩:=hx
  exact⟨⟨_,rfl⟩,_,run_eql_pointer_nil w t (some _) hpre,rfl⟩
 ·cases h
def a8x (P:Program) (ev:Operand->AV) (op:BinOp) (t:TypeId) (x y:Operand):Out:=
 match op,y with
 | .eql,.const (.slice none 0 0)=>a9g P t (ev x)
 | .eql,.const (.pointer none)=>b3K P t (ev x)
 | .eql,.const .nilIface=>b2d P t true (ev x)
 | .neq,.const .nilIface=>b2d P t false (ev x)
 | op,y=>c3R P op t (ev x) (ev y)
theorem b52 {P:Program} {ev:Operand->AV} {op:BinOp} {t:TypeId} {x y:Operand} {r:Prop×AV} (h:a8x P ev op t x y=some r) :
  (op=.eql/\y=.const (.slice none 0 0)/\a9g P t (ev x)=some r)\/(op=.eql/\y=.const (.pointer none)/\b3K P t (ev x)=some r)\/
  (op=.eql/\y=.const .nilIface/\b2d P t true (ev x)=some r)\/(op=.neq/\y=.const .nilIface/\b2d P t false (ev x)=some r)\/c3R P op t (ev x) (ev y)=some r:=by
 unfold a8x at h
 split at h
 ·exact .inl ⟨rfl,rfl,h⟩
 ·exact .inr (.inl ⟨rfl,rfl,h⟩)
 ·exact .inr (.inr (.inl ⟨rfl,rfl,h⟩))
 ·exact .inr (.inr (.inr (.inl ⟨rfl,rfl,h⟩)))
 ·exact .inr (.inr (.inr (.inr h)))
def b50:AV->UInt8
 | .val (.int .u8 b)=>UInt8.ofNat b.toNat
 | _=>0
def a9S (P:Program) (hp:Nat->Row) (s d:TypeId) (x:AV):Out:=
 match x with
 | .ow p v n=>match P.underlying s,P.underlying d,hp p with
   | some (.slice e),some .string,.sl v' _ sz n' cc=>some (v'=v/\sz=1/\n<=n'/\P.underlying e=some (.int .u8)/\∀ i,i<n->∃ b:UInt8,cc i 0=.val (.int .u8 b.toNat),.st ((List.range n).map fun i=>b50 (cc i 0)))
   | _,_,_=>none
 | .em=>match P.underlying s,P.underlying d with
   | some (.slice e),some .string=>some (P.underlying e=some (.int .u8),.st [])
   | _,_=>none
 | x=>c6s P s d x
theorem b8Z {hp:Nat->Row} {s d:TypeId} {x z:AV} {v:Value} {pre:Prop} (hrows:∀ p,a13 w η L (hp p)) (h:a9S P hp s d x=some (pre,z)) (hpre:pre) (hx:Rep w η L x v) :
  ∃ r,(convert s d v).run P w=.ok r w/\Rep w η L z r:=by
 have none_key:∀ (e:TypeId) (a:Option Addr),P.underlying s=some (.slice e)->P.underlying e=some (.int .u8)->P.underlying d=some .string->(convert s d (.slice a 0 0)).run P w=.ok (.string ⟨#[]⟩) w:=by
  intro e a hs he hd
  cases a with
  | none=>exact run_convert_bytes_nil w s e hs he 0 0 d hd
  | some ad=>
    rw [run_convert_bytes_string w s d e _ 0 0 hs he hd,run_bytesToString w ad 0 0 [] (run_loadCells_list w ad [] fun j v h=>by simp at h)]
    rfl
 unfold a9S at h
 split at h
 ·rename_i p ver n
  split at h
  ·rename_i e v' ety sz n' cc hs hd hrow
   simp only [Option.some.injEq,Prod.mk.injEq] at h
   obtain⟨rfl,rfl⟩:=h
   obtain⟨rfl,rfl,hnn,he,hc⟩:=hpre
   obtain⟨g,cap,hη,hv⟩:=hx
   cases g with
   | none=>
     obtain⟨rfl,av,rfl⟩:=hv
     exact⟨_,none_key e av hs he hd,rfl⟩
   | some g=>
     obtain⟨rfl,hcap⟩:=hv
     have hr:=hrows p
     rw [hrow] at hr
     obtain⟨cur,hh,hsz,hn,hm,hcell⟩:=hr (some g) cap hη
     have hb:∀ i,i<n->cc i 0=.val (.int .u8 (b50 (cc i 0)).toNat):=fun i hi=>by
      obtain⟨b,e⟩:=hc i hi
      rw [e]
      simp [b50]
     refine⟨_,run_convert_bytes_arg w s e hs he g 0 n cap (((List.range n).map fun i=>b50 (cc i 0)).map fun x=>(x.toNat:Int)) (by simp) (fun i hi=>by
      obtain⟨u,hu,_,hrep⟩:=hcell i (by omega) 0 (by decide)
      rw [hb i hi] at hrep
      have hrep:u=.int .u8 (b50 (cc i 0)).toNat:=hrep
      rw [Nat.mul_one,Nat.add_zero] at hu
      rw [Nat.zero_add,a0Z hh,hu,hrep]
      simp [hi]) d hd,?_⟩
     show _=Value.string _
     congr 2
     simp [strOfNums,List.map_map]
  ·cases h
 ·split at h
  ·rename_i e hs hd
   simp only [Option.some.injEq,Prod.mk.injEq] at h
   obtain⟨rfl,rfl⟩:=h
   obtain⟨a,rfl⟩:=hx
   exact⟨_,none_key e a hs hpre hd,rfl⟩
  ·cases h
 ·exact c2l h hpre hx
def a3s (P:Program) (hp:Nat->Row) (ev:Operand->AV):Op->Out
 | .move x=>some (True,ev x)
 | .assign x=>some (True,ev x)
 | .pick c x y=>c5B (ev c) (ev x) (ev y)
 | .build t parts=>b6i P t (parts.toList.map fun a=>(a.1,ev a.2))
 | .load t a=>a9m P hp t (ev a)
 | .nilCheck x=>d4O (ev x)
 | .binOp op t x y _=>a8x P ev op t x y
 | .unOp op _ x=>aUn op (ev x)
 | .convert s d x=>a9S P hp s d (ev x)
 | .slice t x lo hi none=>b1H P t (ev x) (lo.map ev) (hi.map ev)
 | .slice t x lo hi (some m)=>b2K P t (ev x) (lo.map ev) (hi.map ev) (ev m)
 | .lookup t m k ok=>a7q P hp t (ev m) (ev k) ok
 | .fieldAddr s x f=>a6T P s f (ev x)
 | .field t x f=>b72 P t f (ev x)
 | .indexAddr t x i=>a23 P hp t (ev x) (ev i)
 | .index t x i=>b6h P t (ev x) (ev i)
 | .extract x i=>a6U (ev x) i
 | .makeFunc fn ⟨[]⟩ ⟨[]⟩=>some (True,.val (.func fn #[] #[]))
 | .call ⟨.builtin .len,⟨[x]⟩,⟨[t]⟩⟩=>a9l P hp t (ev x)
 | .call ⟨.builtin .min,⟨xs⟩,_⟩=>d5W (xs.map ev)
 | .call ⟨.builtin .max,⟨xs⟩,_⟩=>d50 (xs.map ev)
 | _=>none
theorem b3s {ev:Operand->AV} {ρ:Operand->Value} (h:∀ x,Rep w η L (ev x) (ρ x)) (o:Option Operand):Option.Rel (Rep w η L) (o.map ev) (o.map ρ):=by
 cases o with
 | none=>exact .none
 | some x=>exact .some (h x)
theorem b0d {ev:Operand->AV} {ρ:Operand->Value} (h:∀ x,Rep w η L (ev x) (ρ x)):∀ (l:List (Nat×Operand)),
  a4C (fun (a:Nat×AV) (b:Nat×Value)=>a.1=b.1/\Rep w η L a.2 b.2) (l.map fun a=>(a.1,ev a.2)) (l.map fun a=>(a.1,ρ a.2))
 | []=>.nil
 | _::l=>.cons ⟨rfl,h _⟩ (b0d h l)
theorem b5x {op:BinOp} {t:TypeId} {x y:Operand} {a b z:AV} {u v:Value} {pre:Prop} (h:c3R P op t a b=some (pre,z)) (hpre:pre) (ha:Rep w η L a u) (hb:Rep w η L b v) :
  (eqGuard op t x y u v).run P w=.ok () w:=by
 unfold c3R at h
 split at h
 ·cases ha;cases hb;simp only [eqGuard];split<;>rfl
 ·cases ha;cases hb;simp only [eqGuard];split<;>rfl
 ·cases ha;cases hb;simp only [eqGuard];split<;>rfl
 ·cases ha;cases hb;simp only [eqGuard];split<;>rfl
 ·cases ha;cases hb;simp only [eqGuard];split<;>rfl
 ·cases ha;cases hb;simp only [eqGuard];split<;>rfl
 ·obtain⟨xs,rfl,_⟩:=ha
  obtain⟨ys,rfl,_⟩:=hb
  have:P.eqGuardType P.depth t=false:=by
   split at h
   ·split at h
    ·simp only [Option.some.injEq,Prod.mk.injEq] at h
     obtain⟨rfl,_⟩:=h
     exact hpre.2.2
    ·simp only [Option.some.injEq,Prod.mk.injEq] at h
     obtain⟨rfl,_⟩:=h
     exact hpre.2.2
    ·cases h
   ·cases h
  exact run_eqGuard_agg w op t x y xs ys this
 ·cases h
theorem c9L {x z:AV} {u:Value} {pre:Prop} (h:d4O x=some (pre,z)) (hx:Rep w η L x u):Rep w η L z u/\∃ a,u=.pointer (some a):=by
 unfold d4O at h
 split at h<;>first
  | (simp only [Option.some.injEq,Prod.mk.injEq] at h
     obtain⟨_,rfl⟩:=h
     refine⟨hx,?_⟩
     first
      | (obtain⟨b,o,rfl,_⟩:=hx;exact⟨_,rfl⟩)
      | (obtain⟨g,cap,_,rfl⟩:=hx;exact⟨_,rfl⟩))
  | cases h
theorem c5S {l:List AV} {vs:List Value} {z:AV} {pre:Prop} (h:d5W l=some (pre,z)) (hf:a4C (Rep w η L) l vs):∃ r,(Builtin.min_ #[] 0 vs.toArray).run P w=.ok r w/\Rep w η L z r:=by
 unfold d5W at h
 split at h
 ·simp only [Option.some.injEq,Prod.mk.injEq] at h
  obtain⟨_,rfl⟩:=h
  cases hf with|cons h1 hf=>cases hf with|cons h2 hf=>cases hf;cases h1;cases h2;exact⟨_,by simp [Builtin.min_,Builtin.min2,c7R],rfl⟩
 ·simp only [Option.some.injEq,Prod.mk.injEq] at h
  obtain⟨_,rfl⟩:=h
  cases hf with|cons h1 hf=>cases hf with|cons h2 hf=>cases hf with|cons h3 hf=>cases hf;cases h1;cases h2;cases h3;exact⟨_,by simp [Builtin.min_,Builtin.min2,c7R],rfl⟩
 ·cases h
theorem c6T {l:List AV} {vs:List Value} {z:AV} {pre:Prop} (h:d50 l=some (pre,z)) (hf:a4C (Rep w η L) l vs):∃ r,(Builtin.max_ #[] 0 vs.toArray).run P w=.ok r w/\Rep w η L z r:=by
 unfold d50 at h
 split at h
 ·simp only [Option.some.injEq,Prod.mk.injEq] at h
  obtain⟨_,rfl⟩:=h
  cases hf with|cons h1 hf=>cases hf with|cons h2 hf=>cases hf;cases h1;cases h2;exact⟨_,by simp [Builtin.max_,Builtin.max2,c7p],rfl⟩
 ·simp only [Option.some.injEq,Prod.mk.injEq] at h
  obtain⟨_,rfl⟩:=h
  cases hf with|cons h1 hf=>cases hf with|cons h2 hf=>cases hf with|cons h3 hf=>cases hf;cases h1;cases h2;cases h3;exact⟨_,by simp [Builtin.max_,Builtin.max2,c7p],rfl⟩
 ·cases h
theorem a6J {ev:Operand->AV} {ρ:Operand->Value} (h:∀ x,Rep w η L (ev x) (ρ x)):∀ (l:List Operand),a4C (Rep w η L) (l.map ev) (l.map ρ)
 | []=>.nil
 | _::l=>.cons (h _) (a6J h l)
theorem c0d {hp:Nat->Row} {ev:Operand->AV} {ρ:Operand->Value} {o:Oper} {pre:Prop} {z:AV} (hρ:∀ v,ρ (.const v)=v) (hrows:∀ p,a13 w η L (hp p)) (hev:∀ x,Rep w η L (ev x) (ρ x))
  (h:a3s P hp ev o.op=some (pre,z)) (hpre:pre):∃ v,(execOp ρ o).run P w=.ok (.value v) w/\Rep w η L z v:=by
 have fin:∀ (s:Sem Value),(∃ v,s.run P w=.ok v w/\Rep w η L z v)->∃ v,((do pure (.value (<-s)):Sem Next)).run P w=.ok (.value v) w/\Rep w η L z v:=by
  rintro s ⟨v,hv,hr⟩
  exact⟨v,by simp [hv],hr⟩
 unfold a3s at h
 unfold execOp
 split at h<;>rename_i hop<;>(try rw [hop])<;>simp only
 ·simp only [Option.some.injEq,Prod.mk.injEq] at h
  obtain⟨_,rfl⟩:=h
  exact⟨_,rfl,hev _⟩
 ·simp only [Option.some.injEq,Prod.mk.injEq] at h
  obtain⟨_,rfl⟩:=h
  exact⟨_,rfl,hev _⟩
 ·rename_i c x y
  obtain⟨b,hb,hr⟩:=b99 h hpre (hev c) (hev x) (hev y)
  exact⟨_,by rw [hb];simp [asBool],hr⟩
 ·rename_i t parts
  refine fin _ ?_
  have e:(parts.map fun (i,x)=>(i,ρ x))=(parts.toList.map fun a=>(a.1,ρ a.2)).toArray:=by cases parts;simp
  rw [e]
  exact b8E h hpre (b0d hev _)
 ·exact fin _ (b0g hrows h hpre (hev _))
 ·rename_i x
  obtain⟨hr,a,ha⟩:=c9L h (hev x)
  rw [ha]
  exact⟨_,rfl,ha▸hr⟩
 ·rename_i op t x y _
  rcases b52 h with⟨rfl,rfl,h'⟩|⟨rfl,rfl,h'⟩|⟨rfl,rfl,h'⟩|⟨rfl,rfl,h'⟩|h'
  ·obtain⟨r,hr,hz⟩:=b9e h' hpre (hev x)
   have hc:ρ (.const (.slice none 0 0))=.slice none 0 0:=hρ _
   have hg:(eqGuard .eql t x (.const (.slice none 0 0)) (ρ x) (.slice none 0 0)).run P w=.ok () w:=by
    unfold eqGuard
    cases ρ x<;>rfl
   exact⟨r,by rw [hc];simp [hg,hr],hz⟩
  ·obtain⟨⟨a,ha⟩,r,hr,hz⟩:=c2m h' hpre (hev x)
   have hc:ρ (.const (.pointer none))=.pointer none:=hρ _
   have hg:(eqGuard .eql t x (.const (.pointer none)) (ρ x) (.pointer none)).run P w=.ok () w:=by
    rw [ha]
    rfl
   exact⟨r,by rw [hc];simp [hg,hr],hz⟩
  ·unfold b2d at h'
   split at h'
   ·rename_i e
    simp only [Option.some.injEq,Prod.mk.injEq] at h'
    obtain⟨rfl,rfl⟩:=h'
    have hxv:=hev x
    rw [e] at hxv
    have hxv:ρ x=.nilIface:=hxv
    have hc:ρ (.const .nilIface)=.nilIface:=hρ _
    have hg:(eqGuard .eql t x (.const .nilIface) .nilIface .nilIface).run P w=.ok () w:=by
     unfold eqGuard
     simp
    have hq:(Op.equalIn Op.maxDepth t .nilIface .nilIface).run P w=.ok true w:=run_equalIn_nil_nil w (Op.maxDepth-1) t hpre
    exact⟨.bool true,by rw [hc,hxv];simp [hg,binOp,Op.equal,hq],rfl⟩
   ·cases h'
  ·unfold b2d at h'
   split at h'
   ·rename_i e
    simp only [Option.some.injEq,Prod.mk.injEq] at h'
    obtain⟨rfl,rfl⟩:=h'
    have hxv:=hev x
    rw [e] at hxv
    have hxv:ρ x=.nilIface:=hxv
    have hc:ρ (.const .nilIface)=.nilIface:=hρ _
    have hg:(eqGuard .neq t x (.const .nilIface) .nilIface .nilIface).run P w=.ok () w:=by
     unfold eqGuard
     simp
    have hq:(Op.equalIn Op.maxDepth t .nilIface .nilIface).run P w=.ok true w:=run_equalIn_nil_nil w (Op.maxDepth-1) t hpre
    exact⟨.bool false,by rw [hc,hxv];simp [hg,binOp,Op.equal,hq],rfl⟩
   ·cases h'
  ·obtain⟨r,hr,hz⟩:=c6g h' hpre (hev x) (hev y)
   exact⟨r,by simp [b5x h' hpre (hev x) (hev y),hr],hz⟩
 ·exact fin _ (c8R h hpre (hev _))
 ·exact fin _ (b8Z hrows h hpre (hev _))
 ·exact fin _ (b8T h hpre (hev _) (b3s hev _) (b3s hev _))
 ·exact fin _ (b5i h hpre (hev _) (b3s hev _) (b3s hev _) (hev _))
 ·exact fin _ (b5z hrows h hpre (hev _) (hev _))
 ·exact fin _ (b08 h hpre (hev _))
 ·exact fin _ (b8D h hpre (hev _))
 ·exact fin _ (b1a h hpre (hev _) (hev _))
 ·exact fin _ (b8i h hpre (hev _) (hev _))
 ·exact fin _ (b4D h hpre (hev _))
 ·simp only [Option.some.injEq,Prod.mk.injEq] at h
  obtain⟨_,rfl⟩:=h
  exact⟨_,rfl,by simp [Rep]⟩
 ·rename_i x t
  obtain⟨r,hr,hz⟩:=c18 (P:=P) (ty:=o.type) hrows h hpre (hev x)
  exact⟨r,by simp [resolve,invoke,builtin,hr],hz⟩
 ·rename_i xs ts
  obtain⟨r,hr,hz⟩:=c5S (P:=P) h (a6J hev xs)
  have hr':(Builtin.min_ ts o.type (xs.map ρ).toArray).run P w=.ok r w:=hr
  exact⟨r,by simp [resolve,invoke,builtin,hr'],hz⟩
 ·rename_i xs ts
  obtain⟨r,hr,hz⟩:=c6T (P:=P) h (a6J hev xs)
  have hr':(Builtin.max_ ts o.type (xs.map ρ).toArray).run P w=.ok r w:=hr
  exact⟨r,by simp [resolve,invoke,builtin,hr'],hz⟩
 ·cases h
end
end Go.Proofs.YthpjjjnbkfnghaaGreatDoor
namespace Go.Proofs.YthpjjjnbkfnghaaGreatDoor
open Go
def e0s (o:Obj):Prop:=∃ t f,o=.cells (Lib.pow10Tab.map fun z=>Value.int .u64 z).toArray t f
def d8V (o:Obj):Prop:=∃ m t f,o=.cells #[.int .i64 m] t f
def c2t (o:Obj):Prop:=∃ u v t f,o=.cells #[.iface u v] t f
def tabZ (b:Nat):Option (Obj->Prop):=if b=5 then some e0s else if b=0 then some d8V else if b=1 then some c2t else if b=2 then some c2t else none
end Go.Proofs.YthpjjjnbkfnghaaGreatDoor
namespace Go.Proofs.YthpjjjnbkfnghaaGreatDoor
open Go
structure Ctx where
 w0:World
 η0:Env
 O:Nat->Prop
 Lx:Nat->Prop
 n0:Nat
def e1j (c:Ctx) (nx:Nat) (η:Env):Prop:=Env.le c.η0 η/\c.n0<=nx/\∀ k,k<c.n0->c.η0 k=none->η k=none
def a0Y (c:Ctx) (η:Env) (hp:Nat->Row):Nat->Prop:=fun b=>c.Lx b\/∃ p,(hp p).blk η=some b
structure e1Q (c:Ctx):Prop where
 lt:∀ b,c.Lx b->b<c.w0.heap.size
 tb:∀ b q,tabZ b=some q->(∃ o,c.w0.heap[b]?=some o/\q o)/\¬c.O b
def Tz (w:World):Prop:=∀ b q,tabZ b=some q->∃ o,w.heap[b]?=some o/\q o
structure HS (c:Ctx) (hp:Nat->Row) (nx:Nat) (η:Env) (w:World):Prop where
 fr:Fr c.O c.w0 w
 lx:e1Q c
 rows:∀ p,a13 w η (a0Y c η hp) (hp p)
 vers:∀ p q v,(hp p).ver=some v->(hp q).ver=some v->p=q
 bnd:∀ p v,(hp p).ver=some v->v<nx
 disj:∀ p q b,(hp p).blk η=some b->(hp q).blk η=some b->p=q
 own:∀ p b,(hp p).blk η=some b->(c.O b\/c.w0.heap.size<=b)/\¬c.Lx b/\b<w.heap.size
 fresh:∀ ver,nx<=ver->η ver=none
 env:e1j c nx η
theorem HS.tab {c:Ctx} {hp:Nat->Row} {nx:Nat} {η:Env} {w:World} (h:HS c hp nx η w) (b:Nat) (q:Obj->Prop) (ho:tabZ b=some q):(∃ o,w.heap[b]?=some o/\q o)/\¬∃ p,(hp p).blk η=some b:=by
 obtain⟨⟨o,h1,hq⟩,h2⟩:=h.lx.tb b q ho
 have hlt:b<c.w0.heap.size:=by
  rcases Nat.lt_or_ge b c.w0.heap.size with g|g
  ·exact g
  ·rw [Array.getElem?_eq_none g] at h1;cases h1
 refine⟨⟨o,by rw [h.fr.block b hlt h2];exact h1,hq⟩,fun⟨p,hp⟩=>?_⟩
 rcases (h.own p b hp).1 with g|g
 ·exact h2 g
 ·omega
theorem HS.tz {c:Ctx} {hp:Nat->Row} {nx:Nat} {η:Env} {w:World} (h:HS c hp nx η w):Tz w:=fun b o ho=>(h.tab b o ho).1
structure Stp (c:Ctx) (hp:Nat->Row) (η:Env) (w:World) (η':Env) (w':World):Prop where
 fr:Fr (fun _=>False) w w'
 le:Env.le η η'
 L:∀ b,b<w.heap.size->a0Y c η' hp b->a0Y c η hp b
theorem Stp.refl (c:Ctx) (hp:Nat->Row) (η:Env) (w:World):Stp c hp η w η w:=⟨Fr.refl _ _,Env.le_refl _,fun _ _ h=>h⟩
theorem Stp.rep {c:Ctx} {hp:Nat->Row} {η η':Env} {w w':World} (h:Stp c hp η w η' w') {x:AV} {v:Value} (hr:Rep w η (a0Y c η hp) x v):Rep w' η' (a0Y c η' hp) x v:=
 Rep.keep h.fr (fun _ _ h=>h.elim) h.L x η η' v h.le hr
theorem a13.keep {w w':World} {η η':Env} {L L' O:Nat->Prop} (hf:Fr O w w') (hη:Env.le η η') (hO:∀ k,k<w.heap.size->O k->L k) (hL:∀ k,k<w.heap.size->L' k->L k) {r:Row}
  (hv:∀ v,r.ver=some v->η' v=η v) (hb:∀ b,r.blk η=some b->w'.heap[b]?=w.heap[b]?) (h:a13 w η L r):a13 w' η' L' r:=by
 cases r with
 | dead=>trivial
 | box ver ety m c=>
   intro g cap he
   rw [hv ver rfl] at he
   obtain⟨b,cur,rfl,hh,hs,hc⟩:=h g cap he
   refine⟨b,cur,rfl,by rw [hb b (by simp [Row.blk,Row.ver,he])];exact hh,hs,fun j hj=>?_⟩
   obtain⟨u,hu,h1,hr⟩:=hc j hj
   exact⟨u,hu,h1,Rep.keep hf hO hL _ _ _ _ hη hr⟩
 | sl ver ety sz n c=>
   intro g cap he
   rw [hv ver rfl] at he
   have:=h g cap he
   cases g with
   | none=>exact this
   | some b=>
     obtain⟨cur,hh,hs,hn,hm,hc⟩:=this
     refine⟨cur,by rw [hb b (by simp [Row.blk,Row.ver,he])];exact hh,hs,hn,hm,fun i hi j hj=>?_⟩
     obtain⟨u,hu,h1,hr⟩:=hc i hi j hj
     exact⟨u,hu,h1,Rep.keep hf hO hL _ _ _ _ hη hr⟩
 | mp ver str n f=>
   intro g cap he
   rw [hv ver rfl] at he
   obtain⟨b,es,clock,rfl,hh,r⟩:=h g cap he
   exact⟨b,es,clock,rfl,by rw [hb b (by simp [Row.blk,Row.ver,he])];exact hh,r⟩
theorem HS.world {c:Ctx} {hp:Nat->Row} {nx:Nat} {η:Env} {w w':World} (h:HS c hp nx η w) (hf:Fr (fun _=>False) w w'):HS c hp nx η w' where
 fr:=h.fr.trans (hf.mono fun _ _ h=>h.elim)
 lx:=h.lx
 rows:=fun p=>a13.keep hf (Env.le_refl _) (fun _ _ h=>h.elim) (fun _ _ h=>h) (fun _ _=>rfl) (fun b hb=>hf.block b (h.own p b hb).2.2 not_false) (h.rows p)
 vers:=h.vers
 bnd:=h.bnd
 disj:=h.disj
 own:=fun p b hb=>⟨(h.own p b hb).1,(h.own p b hb).2.1,Nat.lt_of_lt_of_le (h.own p b hb).2.2 hf.size⟩
 fresh:=h.fresh
 env:=h.env
def a1Q (η:Env) (ver:Nat) (r:Option Nat×Nat):Env:=fun k=>if k=ver then some r else η k
theorem b2j {η:Env} {ver:Nat} {r:Option Nat×Nat} (h:η ver=none):Env.le η (a1Q η ver r):=fun k s hk=>by
 unfold a1Q
 by_cases e:k=ver
 ·subst e;rw [h] at hk;cases hk
 ·rw [if_neg e];exact hk
theorem a2V {η:Env} {ver k:Nat} {r:Option Nat×Nat} (h:k≠ver):a1Q η ver r k=η k:=if_neg h
theorem a0Q (η:Env) (ver:Nat) (r:Option Nat×Nat):a1Q η ver r ver=some r:=if_pos rfl
theorem HS.lay {c:Ctx} {hp:Nat->Row} {nx:Nat} {η:Env} {w:World} (h:HS c hp nx η w) {p ver cap:Nat} (hv:(hp p).ver=some ver) (hn:η ver=none) (hn0:c.n0<=ver) (o:Obj)
  (hrow:a13 (w.alloc o) (a1Q η ver (some w.heap.size,cap)) (a0Y c (a1Q η ver (some w.heap.size,cap)) hp) (hp p)) :
  HS c hp nx (a1Q η ver (some w.heap.size,cap)) (w.alloc o)/\Stp c hp η w (a1Q η ver (some w.heap.size,cap)) (w.alloc o):=by
 have hf:Fr (fun _=>False) w (w.alloc o):=Fr.alloc _ w o
 have hle:Env.le η (a1Q η ver (some w.heap.size,cap)):=b2j hn
 have hbk:∀ q b,(hp q).blk (a1Q η ver (some w.heap.size,cap))=some b->(q=p/\b=w.heap.size)\/(q≠p/\(hp q).blk η=some b):=by
  intro q b hb
  by_cases e:q=p
  ·subst e
   simp only [Row.blk,hv,Option.bind_some,a0Q,Option.some.injEq] at hb
   exact .inl ⟨rfl,hb.symm⟩
  ·refine .inr ⟨e,?_⟩
   unfold Row.blk at hb ⊢
   cases hq:(hp q).ver with
   | none=>rw [hq] at hb;cases hb
   | some v=>
     rw [hq] at hb
     simp only [Option.bind_some] at hb ⊢
     rwa [a2V (fun e'=>e (h.vers q p ver (by rw [hq,e']) hv))] at hb
 have hL:∀ b,b<w.heap.size->a0Y c (a1Q η ver (some w.heap.size,cap)) hp b->a0Y c η hp b:=by
  rintro b hb (hl|⟨q,hq⟩)
  ·exact .inl hl
  ·rcases hbk q b hq with⟨_,rfl⟩|⟨_,hq'⟩
   ·omega
   ·exact .inr ⟨q,hq'⟩
 refine⟨⟨h.fr.trans (hf.mono fun _ _ h=>h.elim),h.lx,fun q=>?_,h.vers,h.bnd,fun q r b hq hr=>?_,fun q b hq=>?_,fun k hk=>?_,Env.le_trans h.env.1 hle,h.env.2.1,fun k hk h0=>by rw [a2V (by omega)];exact h.env.2.2 k hk h0⟩,hf,hle,hL⟩
 ·by_cases e:q=p
  ·subst e;exact hrow
  ·exact a13.keep hf hle (fun _ _ h=>h.elim) hL (fun v hq=>a2V fun e'=>e (h.vers q p ver (by rw [hq,e']) hv)) (fun b hb=>hf.block b (h.own q b hb).2.2 not_false) (h.rows q)
 ·rcases hbk q b hq with⟨rfl,rfl⟩|⟨e1,hq'⟩<;>rcases hbk r _ hr with⟨rfl,_⟩|⟨e2,hr'⟩
  ·rfl
  ·have:=(h.own r _ hr').2.2;omega
  ·have:=(h.own q b hq').2.2;omega
  ·exact h.disj q r b hq' hr'
 ·rcases hbk q b hq with⟨rfl,rfl⟩|⟨e1,hq'⟩
  ·exact⟨.inr h.fr.size,fun hl=>by have:=h.lx.lt _ hl;have:=h.fr.size;omega,by simp⟩
  ·exact⟨(h.own q b hq').1,(h.own q b hq').2.1,by have:=(h.own q b hq').2.2;simp;omega⟩
 ·rw [a2V (fun e=>by subst e;have:=h.bnd p k hv;omega)]
  exact h.fresh k hk
structure a0s where
 pre:List AV->Prop
 res:List AV->AV
def a0d (P:Program) (f:FuncId) (s:a0s):Prop:=
 (∀ (args:Array Value) (w:World),(callFunc f args).run P w=.ok (.enter f args) w)/\
 ∀ args,s.pre args->∀ (w:World) (L:Nat->Prop) (vs:List Value),Tz w->(∀ b,L b->b<w.heap.size)->a4C (Rep w a1l L) args vs->
  Calls P f vs.toArray w fun e w'=>∃ v,e=.returned v/\Fr (fun _=>False) w w'/\Rep w' a1l L (s.res args) v
abbrev a0L:=List AV->(Nat->Row)->Nat->Nat->(AV->(Nat->Row)->Nat->Nat->Prop)->Prop
def a0i (P:Program) (f:FuncId) (S:a0L):Prop:=
 (∀ (args:Array Value) (w:World),(callFunc f args).run P w=.ok (.enter f args) w)/\
 ∀ args hp top nx K,S args hp top nx K->∀ (c:Ctx) (η:Env) (w:World) (vs:List Value),HS c hp nx η w->(∀ p,top<=p->hp p=.dead)->a4C (Rep w η (a0Y c η hp)) args vs->
  Calls P f vs.toArray w fun e w'=>∃ v r hp' top' nx' η',e=.returned v/\K r hp' top' nx'/\HS c hp' nx' η' w'/\(∀ p,top'<=p->hp' p=.dead)/\Rep w' η' (a0Y c η' hp') r v
inductive Con where
 | spec (s:a0s)
 | meth (S:a0L)
def d16 (P:Program) (f:FuncId):Con->Prop
 | .spec s=>a0d P f s
 | .meth S=>a0i P f S
abbrev Gam:=FuncId->Option Con
def GOK (P:Program) (Γ:Gam):Prop:=∀ f s,Γ f=some s->d16 P f s
def AV.flat:AV->Bool
 | .any=>true
 | .val _=>true
 | .st _=>true
 | .em=>true
 | .sn _ _ _=>true
 | .ps _ _=>true
 | _=>false
def b1m:AV->Prop
 | .ag m c=>∀ j,j<m->(c j).flat=true
 | x=>x.flat=true
theorem a3d {w:World} {η:Env} {L:Nat->Prop} {x:AV} {v:Value} (h:x.flat=true) (hr:Rep w η L x v):Rep w a1l L x v:=by
 cases x<;>first|(simp [AV.flat] at h;done)|exact hr
theorem a8b {w:World} {η:Env} {L:Nat->Prop} {x:AV} {v:Value} (h:b1m x) (hr:Rep w η L x v):Rep w a1l L x v:=by
 cases x with
 | ag m c=>
   obtain⟨cs,rfl,hm,hc⟩:=hr
   exact⟨cs,rfl,hm,fun j hj=>by obtain⟨u,hu,h1,hr⟩:=hc j hj;exact⟨u,hu,h1,a3d (h j hj) hr⟩⟩
 | _=>exact a3d h hr
def vw0 (hp:Nat->Row):AV->AV
 | .ow p _ n=>match hp p with
   | .sl _ _ sz _ c=>.sn n sz c
   | _=>.any
 | .pt p _ j=>match hp p with
   | .box _ _ m c=>.ps (m-j) fun i=>c (j+i)
   | _=>.any
 | .pe p _ sz i j=>match hp p with
   | .sl _ _ _ _ c=>.ps (sz-j) fun k=>c i (j+k)
   | _=>.any
 | x=>x
def b2y (hp:Nat->Row):AV->Prop
 | .ow p ver n=>match hp p with
   | .sl v _ sz n' c=>v=ver/\n<=n'/\∀ i,i<n->∀ j,j<sz->(c i j).flat=true
   | _=>False
 | .pt p ver j=>match hp p with
   | .box v _ m c=>v=ver/\j<=m/\∀ i,i<m->(c i).flat=true
   | _=>False
 | .pe p ver sz i j=>match hp p with
   | .sl v _ sz' n c=>v=ver/\sz'=sz/\i<n/\j<=sz/\∀ k,k<sz->(c i k).flat=true
   | _=>False
 | x=>b1m x
def b5n:AV->Bool
 | .ow _ _ _=>true
 | .pt _ _ _=>true
 | .pe _ _ _ _ _=>true
 | _=>false
theorem b7x {hp:Nat->Row} {x:AV} (h:b5n x=false):vw0 hp x=x/\(b2y hp x->b1m x):=by
 cases x<;>first|(simp [b5n] at h;done)|exact⟨rfl,fun h=>h⟩
theorem c3c {w:World} {η:Env} {L:Nat->Prop} {hp:Nat->Row} (hrows:∀ p,a13 w η L (hp p)) {x:AV} {v:Value} (h:b2y hp x) (hr:Rep w η L x v) :
  Rep w a1l (fun _=>False) (vw0 hp x) v:=by
 have less:∀ {x v},Rep w a1l L x v->Rep w a1l (fun _=>False) x v:=fun h=>Rep.less (fun _ _ h=>h.elim) h
 cases x with
 | ow p ver n=>
   simp only [b2y] at h
   have hrow:=hrows p
   split at h
   ·rename_i vv ety sz n' c heq
    obtain⟨rfl,hn,hfl⟩:=h
    obtain⟨g,cap,hη,hv⟩:=hr
    rw [heq] at hrow
    have hrow:=hrow g cap hη
    have hvw:vw0 hp (.ow p vv n)=.sn n sz c:=by simp only [vw0,heq]
    rw [hvw]
    cases g with
    | none=>
      obtain⟨rfl,a,rfl⟩:=hv
      exact⟨a,0,rfl,Nat.le_refl _,fun h=>absurd h (by omega)⟩
    | some g=>
      obtain⟨rfl,hcap⟩:=hv
      obtain⟨cur,hh,hsz,hnc,hm,hc⟩:=hrow
      refine⟨_,cap,rfl,hcap,fun h0 hs=>⟨g,0,rfl,not_false,fun i hi j hj=>?_⟩⟩
      obtain⟨u,hu,h1,hrep⟩:=hc i (by omega) j hj
      exact⟨u,by rw [a0Z hh,Nat.zero_add];exact hu,h1,less (a3d (hfl i hi j hj) hrep)⟩
   ·exact h.elim
 | pt p ver k=>
   simp only [b2y] at h
   have hrow:=hrows p
   split at h
   ·rename_i vv ety m c heq
    obtain⟨rfl,hk,hfl⟩:=h
    obtain⟨g,cap,hη,rfl⟩:=hr
    rw [heq] at hrow
    obtain⟨b,cur,hb,hh,hsz,hc⟩:=hrow _ cap hη
    obtain rfl:g=b:=by simpa using hb
    have hvw:vw0 hp (.pt p vv k)=.ps (m-k) fun i=>c (k+i):=by simp only [vw0,heq]
    rw [hvw]
    refine⟨g,k,rfl,fun _=>not_false,fun j hj=>?_⟩
    obtain⟨u,hu,h1,hrep⟩:=hc (k+j) (by omega)
    exact⟨u,by rw [a0Z hh];exact hu,h1,less (a3d (hfl (k+j) (by omega)) hrep)⟩
   ·exact h.elim
 | pe p ver sz i k=>
   simp only [b2y] at h
   have hrow:=hrows p
   split at h
   ·rename_i vv ety sz' n c heq
    obtain⟨rfl,rfl,hi,hk,hfl⟩:=h
    obtain⟨g,cap,hη,rfl⟩:=hr
    rw [heq] at hrow
    obtain⟨cur,hh,hsz,hnc,hm,hc⟩:=hrow _ cap hη
    have hvw:vw0 hp (.pe p vv sz' i k)=.ps (sz'-k) fun x=>c i (k+x):=by simp only [vw0,heq]
    rw [hvw]
    refine⟨g,i*sz'+k,rfl,fun _=>not_false,fun j hj=>?_⟩
    obtain⟨u,hu,h1,hrep⟩:=hc i hi (k+j) (by omega)
    exact⟨u,by rw [a0Z hh,Nat.add_assoc];exact hu,h1,less (a3d (hfl (k+j) (by omega)) hrep)⟩
   ·exact h.elim
 | _=>exact less (a8b h hr)
def vw (hp:Nat->Row):AV->AV
 | .ag m c=>.ag m fun j=>if j<m then vw0 hp (c j) else .any
 | x=>vw0 hp x
def vwQ (hp:Nat->Row) (x:AV):Prop:=b2y hp x/\(x.flat=true\/b5n x=true)
def vwP (hp:Nat->Row):AV->Prop
 | .ag m c=>∀ j,j<m->vwQ hp (c j)
 | x=>b2y hp x
def vwO:AV->Bool
 | .ag m c=>(List.range m).any fun j=>b5n (c j)
 | x=>b5n x
theorem a9N (x:AV):(∃ m c,x=.ag m c)\/((∀ hp,vw hp x=vw0 hp x/\vwP hp x=b2y hp x)/\vwO x=b5n x):=by
 cases x with
 | ag m c=>exact .inl ⟨m,c,rfl⟩
 | _=>exact .inr ⟨fun hp=>⟨rfl,rfl⟩,rfl⟩
theorem c57 {w:World} {η:Env} {L:Nat->Prop} {hp:Nat->Row} {x:AV} {v:Value} (hr:Rep w η L x v) (h:b5n x=false) (hP:b2y hp x):Rep w a1l L (vw0 hp x) v:=by
 obtain⟨e1,e2⟩:=b7x (hp:=hp) h
 rw [e1]
 exact a8b (e2 hP) hr
theorem c8S {w:World} {η:Env} {L:Nat->Prop} {hp:Nat->Row} {x:AV} {v:Value} (h:vwO x=false) (hP:vwP hp x) (hr:Rep w η L x v):Rep w a1l L (vw hp x) v:=by
 rcases a9N x with⟨m,c,rfl⟩|⟨e,e3⟩
 ·obtain⟨cs,rfl,hm,hc⟩:=hr
  refine⟨cs,rfl,hm,fun j hj=>?_⟩
  obtain⟨u,hu,h1,hr⟩:=hc j hj
  have ho:b5n (c j)=false:=by
   have:=List.any_eq_false.1 h j (List.mem_range.2 hj)
   simpa using this
  have hf:(c j).flat=true:=((hP j hj).2).resolve_right (by rw [ho];simp)
  refine⟨u,hu,h1,?_⟩
  dsimp only
  rw [if_pos hj,(b7x (hp:=hp) ho).1]
  exact a3d hf hr
 ·rw [(e hp).1]
  rw [(e hp).2] at hP
  rw [e3] at h
  exact c57 hr h hP
theorem d3E {w:World} {η:Env} {L:Nat->Prop} {hp:Nat->Row} (hrows:∀ p,a13 w η L (hp p)) {x:AV} {v:Value} (h:vwP hp x) (hr:Rep w η L x v) :
  Rep w a1l (fun _=>False) (vw hp x) v:=by
 rcases a9N x with⟨m,c,rfl⟩|⟨e,_⟩
 ·obtain⟨cs,rfl,hm,hc⟩:=hr
  refine⟨cs,rfl,hm,fun j hj=>?_⟩
  obtain⟨u,hu,h1,hr⟩:=hc j hj
  exact⟨u,hu,h1,by dsimp only;rw [if_pos hj];exact c3c hrows (h j hj).1 hr⟩
 ·rw [(e hp).1]
  rw [(e hp).2] at h
  exact c3c hrows h hr
def sc:AV->Bool
 | .any=>true
 | .val _=>true
 | .st _=>true
 | .em=>true
 | _=>false
def c7u:AV->Prop
 | .tu m c=>∀ j,j<m->sc (c j)=true
 | .ag m c=>∀ j,j<m->sc (c j)=true
 | x=>sc x=true
theorem c1b {w w':World} {η η':Env} {L L':Nat->Prop} {x:AV} {v:Value} (h:sc x=true) (hr:Rep w η L x v):Rep w' η' L' x v:=by
 cases x<;>first|(simp [sc] at h;done)|exact hr
theorem c5Z {w w':World} {η η':Env} {L L':Nat->Prop} {x:AV} {v:Value} (h:c7u x) (hr:Rep w η L x v):Rep w' η' L' x v:=by
 cases x with
 | tu m c=>
   obtain⟨cs,rfl,hm,hc⟩:=hr
   exact⟨cs,rfl,hm,fun j hj=>by obtain⟨u,hu,hr⟩:=hc j hj;exact⟨u,hu,c1b (h j hj) hr⟩⟩
 | ag m c=>
   obtain⟨cs,rfl,hm,hc⟩:=hr
   exact⟨cs,rfl,hm,fun j hj=>by obtain⟨u,hu,h1,hr⟩:=hc j hj;exact⟨u,hu,h1,c1b (h j hj) hr⟩⟩
 | _=>exact c1b h hr
abbrev b3x:=Option (Prop×AV×Row)
def b42 (Γ:Gam) (hp:Nat->Row) (f:FuncId) (args:List AV):b3x:=
 match Γ f with
 | some (.spec s)=>some ((∀ x∈args,vwP hp x)/\s.pre (args.map (vw hp))/\(args.any vwO=true->c7u (s.res (args.map (vw hp)))),s.res (args.map (vw hp)),.dead)
 | _=>none
def a2F (P:Program) (t:TypeId) (n:Nat) (parts:List (Nat×AV)):b3x:=
 match P.underlying t with
 | some (.slice e)=>match n,a2g P e with
   | 0,some _=>some (parts=[]/\0<P.cellsOf e,.em,.dead)
   | n+1,some z=>match a50 (fun i=>some (i*P.cellsOf e,P.cellsOf e)) ((n+1)*P.cellsOf e) (fun k=>a7i (z.getD (k % z.length) undef)) parts with
     | some c=>some ((∀ x∈parts,b1m x.2)/\z.length=P.cellsOf e/\0<P.cellsOf e/\(n+1)*P.cellsOf e<=16777216,.sn (n+1) (P.cellsOf e) (fun i j=>c (i*P.cellsOf e+j)),.dead)
     | none=>none
   | _,none=>none
 | _=>none
def a2I (sz:Nat):Nat->List (Nat×AV)->Option (List (Nat->AV))
 | _,[]=>some []
 | k,(i,x)::r=>match a1u x with
   | some (m,c)=>if i=k/\m=sz then (a2I sz (k+1) r).map (c::·) else none
   | none=>none
def a7o (parts:List (Nat×AV)):AV->AV
 | .sn n sz c=>match a2I sz 0 parts with
   | some l=>if l.length=n then .sn n sz fun i=>l.getD i fun _=>.any else .sn n sz c
   | none=>.sn n sz c
 | z=>z
def a2K (P:Program) (t:TypeId) (n:Nat) (parts:List (Nat×AV)):b3x:=
 if (parts.any fun x=>vwO x.2)=true then none else (a2F P t n parts).map fun x=>(x.1,a7o parts x.2.1,x.2.2)
theorem a6d {P:Program} {t:TypeId} {n:Nat} {parts:List (Nat×AV)} {pre:Prop} {z:AV} {row:Row} (h:a2K P t n parts=some (pre,z,row)) :
  ∃ z0,a2F P t n parts=some (pre,z0,row)/\z=a7o parts z0:=by
 unfold a2K at h
 split at h
 ·cases h
 cases h0:a2F P t n parts with
 | none=>rw [h0] at h;cases h
 | some x=>
   rw [h0] at h
   simp only [Option.map_some,Option.some.injEq,Prod.mk.injEq] at h
   obtain⟨rfl,rfl,rfl⟩:=h
   exact⟨_,rfl,rfl⟩
theorem b3W {sz m:Nat}:∀ (parts:List (Nat×AV)) (k:Nat) (c c':Nat->AV) (l:List (Nat->AV)),a50 (fun i=>some (i*sz,sz)) m c parts=some c'->a2I sz k parts=some l->∀ q,q<k*sz->c' q=c q
 | [],_,_,_,_,h,_,_,_=>by simp only [a50,Option.some.injEq] at h;rw [h]
 | (i,x)::r,k,c,c',l,h,ho,q,hq=>by
   unfold a50 at h
   unfold a2I at ho
   cases hx:a1u x with
   | none=>rw [hx] at ho;cases ho
   | some y=>
     obtain⟨k',d⟩:=y
     simp only [hx] at h ho
     split at ho
     ·rename_i e
      obtain⟨rfl,rfl⟩:=e
      split at h
      ·cases hr:a2I k' (i+1) r with
       | none=>rw [hr] at ho;cases ho
       | some l'=>
         rw [b3W r (i+1) _ c' l' h hr q (by rw [Nat.add_mul];omega)]
         rw [if_neg (by omega)]
      ·cases h
     ·cases ho
theorem b0P {sz m:Nat}:∀ (parts:List (Nat×AV)) (k:Nat) (c c':Nat->AV) (l:List (Nat->AV)),a50 (fun i=>some (i*sz,sz)) m c parts=some c'->a2I sz k parts=some l->
  ∀ i,k<=i->i<k+l.length->∀ j,j<sz->c' (i*sz+j)=l.getD (i-k) (fun _=>.any) j
 | [],_,_,_,_,_,ho,_,h1,h2,_,_=>by simp only [a2I,Option.some.injEq] at ho;subst ho;simp only [List.length_nil] at h2;omega
 | (i0,x)::r,k,c,c',l,h,ho,i,h1,h2,j,hj=>by
   unfold a50 at h
   unfold a2I at ho
   cases hx:a1u x with
   | none=>rw [hx] at ho;cases ho
   | some y=>
     obtain⟨k',d⟩:=y
     simp only [hx] at h ho
     split at ho
     ·rename_i e
      obtain⟨rfl,rfl⟩:=e
      split at h
      ·cases hr:a2I k' (i0+1) r with
       | none=>rw [hr] at ho;cases ho
       | some l'=>
         rw [hr] at ho
         simp only [Option.map_some,Option.some.injEq] at ho
         subst ho
         simp only [List.length_cons] at h2
         by_cases e:i=i0
         ·subst e
          rw [b3W r (i+1) _ c' l' h hr _ (by rw [Nat.add_mul];omega),if_pos (by omega),show i*k'+j-i*k'=j by omega,Nat.sub_self]
          rfl
         ·rw [b0P r (i0+1) _ c' l' h hr i (by omega) (by omega) j hj,show i-i0=(i-(i0+1))+1 by omega]
          rfl
      ·cases h
     ·cases ho
theorem c8X {P:Program} {t:TypeId} {n:Nat} {parts:List (Nat×AV)} {pre:Prop} {z:AV} {row:Row} (h:a2F P t n parts=some (pre,z,row))
  {w:World} {η:Env} {L:Nat->Prop} {v:Value} (hr:Rep w η L z v):Rep w η L (a7o parts z) v:=by
 unfold a2F at h
 split at h
 ·split at h
  ·simp only [Option.some.injEq,Prod.mk.injEq] at h
   obtain⟨_,rfl,_⟩:=h
   exact hr
  ·split at h
   ·rename_i e _ _ n zl _ c hfill
    simp only [Option.some.injEq,Prod.mk.injEq] at h
    obtain⟨_,rfl,_⟩:=h
    simp only [a7o]
    split
    ·rename_i l hl
     split
     ·rename_i hlen
      obtain⟨a,cap,hv,hn,hc⟩:=hr
      refine⟨a,cap,hv,hn,fun h0 hs=>?_⟩
      obtain⟨b,off,ha,hLb,hc⟩:=hc h0 hs
      refine⟨b,off,ha,hLb,fun i hi j hj=>?_⟩
      obtain⟨u,hu,h1,hrep⟩:=hc i hi j hj
      refine⟨u,hu,h1,?_⟩
      have:=b0P parts 0 _ _ l hfill hl i (Nat.zero_le _) (by omega) j hj
      simp only [this] at hrep
      exact hrep
     ·exact hr
    ·exact hr
   ·cases h
  ·cases h
 ·cases h
def c6r (P:Program) (p ver:Nat) (t:TypeId) (l c:AV):b3x:=
 match P.underlying t,l,c with
 | some (.slice e),.val (.int .i64 n),.val (.int .i64 m)=>match a2g P e with
   | some z=>some (0<=n/\n<=m/\m*P.bytesOf e<=281474976710656/\0<P.bytesOf e/\z.length=P.cellsOf e/\0<P.cellsOf e,.ow p ver n.toNat,.sl ver e (P.cellsOf e) n.toNat fun _=>zC z)
   | none=>none
 | _,_,_=>none
def c0e:Option AV->Bool
 | none=>true
 | some (.val (.int _ _))=>true
 | _=>false
def a9I (P:Program) (p ver:Nat) (t:TypeId) (r:Option AV):b3x:=
 match P.underlying t with
 | some (.map kt _)=>if c0e r then match P.underlying kt with
   | some .string=>some (True,.mp p ver,.mp ver true 0 fun _=>none)
   | some (.int .i64)=>some (True,.mp p ver,.mp ver false 0 fun _=>none)
   | _=>none
   else none
 | _=>none
def aop (P:Program) (Γ:Gam) (hp:Nat->Row) (p ver:Nat) (ev:Operand->AV):Op->b3x
 | .alloc e=>match a2g P e with
   | some z=>some (True,.pt p ver 0,.box ver e z.length (zC z))
   | none=>none
 | .box e x=>match a1u (ev x) with
   | some (m,c)=>some (True,.pt p ver 0,.box ver e m c)
   | none=>none
 | .buildSlice t n parts=>a2K P t n (parts.toList.map fun a=>(a.1,ev a.2))
 | .makeSlice t l c=>c6r P p ver t (ev l) (ev c)
 | .makeMap t r=>a9I P p ver t (r.map ev)
 | .call ⟨.value (.func f),⟨xs⟩,_⟩=>b42 Γ hp f (xs.map ev)
 | op=>match a3s P hp ev op with
   | some (pre,z)=>some (pre,z,.dead)
   | none=>none
end Go.Proofs.YthpjjjnbkfnghaaGreatDoor
namespace Go.Proofs.YthpjjjnbkfnghaaGreatDoor
open Go
section
variable {P:Program} {Γ:Gam} {c:Ctx} {hp:Nat->Row} {nx:Nat} {η:Env} {w:World}
theorem a5f {f:FuncId} {args:List AV} {pre:Prop} {z:AV} {row:Row} (h:b42 Γ hp f args=some (pre,z,row)) :
  ∃ s,Γ f=some (.spec s)/\pre=((∀ x∈args,vwP hp x)/\s.pre (args.map (vw hp))/\(args.any vwO=true->c7u (s.res (args.map (vw hp)))))/\z=s.res (args.map (vw hp))/\row=.dead:=by
 unfold b42 at h
 split at h
 ·rename_i s hs
  simp only [Option.some.injEq,Prod.mk.injEq] at h
  exact⟨s,hs,h.1.symm,h.2.1.symm,h.2.2.symm⟩
 ·cases h
theorem d3N {L:Nat->Prop} (hrows:∀ p,a13 w η L (hp p)):∀ (args:List AV) (vs:List Value),(∀ x∈args,vwP hp x)->a4C (Rep w η L) args vs->
  a4C (Rep w a1l fun _=>False) (args.map (vw hp)) vs
 | [],_,_,.nil=>.nil
 | x::args,_,h,.cons hx hf=>.cons (d3E hrows (h x (List.mem_cons_self ..)) hx) (d3N hrows args _ (fun y hy=>h y (List.mem_cons_of_mem _ hy)) hf)
theorem d26 {L:Nat->Prop}:∀ (args:List AV) (vs:List Value),(∀ x∈args,vwP hp x)->args.any vwO=false->a4C (Rep w η L) args vs->a4C (Rep w a1l L) (args.map (vw hp)) vs
 | [],_,_,_,.nil=>.nil
 | x::args,_,h,ho,.cons hx hf=>by
   simp only [List.any_cons,Bool.or_eq_false_iff] at ho
   exact .cons (c8S ho.1 (h x (List.mem_cons_self ..)) hx) (d26 args _ (fun y hy=>h y (List.mem_cons_of_mem _ hy)) ho.2 hf)
theorem c0W {f:FuncId} {args:List AV} {vs:List Value} {pre:Prop} {z:AV} {row:Row} (hΓ:GOK P Γ) (hs:HS c hp nx η w) (h:b42 Γ hp f args=some (pre,z,row)) (hpre:pre)
  (hf:a4C (Rep w η (a0Y c η hp)) args vs):Calls P f vs.toArray w fun e w'=>∃ v,e=.returned v/\HS c hp nx η w'/\Stp c hp η w η w'/\Rep w' η (a0Y c η hp) z v:=by
 obtain⟨s,hsome,rfl,rfl,_⟩:=a5f h
 obtain⟨hvw,hsp,hsc⟩:=hpre
 obtain⟨_,hcall⟩:a0d P f s:=hΓ f _ hsome
 have hLb:∀ b,a0Y c η hp b->b<w.heap.size:=by
  rintro b (hl|⟨p,hb⟩)
  ·exact Nat.lt_of_lt_of_le (hs.lx.lt b hl) hs.fr.size
  ·exact (hs.own p b hb).2.2
 by_cases ho:args.any vwO=true
 ·refine (hcall _ hsp w (fun _=>False) vs hs.tz (fun _ h=>h.elim) (d3N hs.rows args vs hvw hf)).mono ?_
  rintro e w' ⟨v,rfl,hfr,hr⟩
  exact⟨v,rfl,hs.world hfr,⟨hfr,Env.le_refl _,fun _ _ h=>h⟩,c5Z (hsc ho) hr⟩
 ·refine (hcall _ hsp w (a0Y c η hp) vs hs.tz hLb (d26 args vs hvw (by simpa using ho) hf)).mono ?_
  rintro e w' ⟨v,rfl,hfr,hr⟩
  exact⟨v,rfl,hs.world hfr,⟨hfr,Env.le_refl _,fun _ _ h=>h⟩,Rep.up hr⟩
theorem b5X {z:List Value} {n:Nat} (h1:z.all Value.oneCell'=true):∀ k,k<n*z.length->∃ u,((Array.range (n*z.length)).map fun i=>z.toArray[i % z.toArray.size]!)[k]?=some u/\u.oneCell'=true/\u=z.getD (k % z.length) undef:=by
 intro k hk
 have hz:0<z.length:=by
  rcases Nat.eq_zero_or_pos z.length with h|h
  ·rw [h] at hk;simp at hk
  ·exact h
 have hm:=Nat.mod_lt k hz
 refine⟨_,by simp [hk];rfl,?_⟩
 have e:z[k % z.length]?.getD default=z[k % z.length]:=by simp [List.getElem?_eq_getElem hm]
 exact⟨by simpa [List.getElem?_eq_getElem hm] using List.all_eq_true.1 h1 _ (List.getElem_mem hm),by simp [List.getD,hm]⟩
theorem b7t (hΓ:GOK P Γ) (hs:HS c hp nx η w) {o:Oper} {a:Act} {ev:Operand->AV} (hev:∀ x,Rep w η (a0Y c η hp) (ev x) (a.eval x)) {p ver:Nat} {pre:Prop} {z:AV} {row:Row}
  (h:aop P Γ hp p ver ev o.op=some (pre,z,row)) (hpre:pre) (hrow:row=.dead\/(hp p=row/\η ver=none/\c.n0<=ver)) {K:Act->World->Prop} {Q:Exit->Act->World->Prop}
  (hK:∀ v η' w',HS c hp nx η' w'->Stp c hp η w η' w'->(∀ k,k≠ver\/row=.dead->η' k=η k)->Rep w' η' (a0Y c η' hp) z v->K (a.put o.dst v) w'):o.wp P a w K Q:=by
 have val:∀ v w',(execOp a.eval o).run P w=.ok (.value v) w'->K (a.put o.dst v) w'->o.wp P a w K Q:=fun v w' e hk=>by
  unfold Oper.wp
  rw [e]
  exact hk
 unfold aop at h
 split at h
 ·
  rename_i e hop
  split at h
  ·rename_i zl hz
   simp only [Option.some.injEq,Prod.mk.injEq] at h
   obtain⟨_,rfl,rfl⟩:=h
   rcases hrow with hrow|⟨hrow,hn,hn0⟩
   ·cases hrow
   obtain⟨zv,hzr,hzc,hz1⟩:=a5I (w:=w) hz
   have hlay:=hs.lay (p:=p) (ver:=ver) (cap:=0) (by rw [hrow];rfl) hn hn0 (.cells zl.toArray e) (by
    rw [hrow]
    intro g cap he
    rw [a0Q] at he
    simp only [Option.some.injEq,Prod.mk.injEq] at he
    obtain⟨rfl,rfl⟩:=he
    exact⟨_,_,rfl,heap_alloc_new w _,by simp,c1T zl hz1⟩)
   refine val (.pointer (some ⟨w.heap.size,0,none⟩)) (w.alloc (.cells zl.toArray e)) ?_ (hK _ _ _ hlay.1 hlay.2 (fun k hk=>a2V (hk.resolve_right (by simp))) ⟨w.heap.size,0,a0Q _ _ _,rfl⟩)
   simp [execOp,hop,Instr.alloc,hzr,newVar,newRow,hzc]
  ·cases h
 ·rename_i e x hop
  split at h
  ·rename_i m cc hcl
   simp only [Option.some.injEq,Prod.mk.injEq] at h
   obtain⟨_,rfl,rfl⟩:=h
   rcases hrow with hrow|⟨hrow,hn,hn0⟩
   ·cases hrow
   have hstep:∀ (o:Obj),Fr (fun _=>False) w (w.alloc o):=Fr.alloc _ w
   have hL:∀ b,b<w.heap.size->a0Y c (a1Q η ver (some w.heap.size,0)) hp b->a0Y c η hp b:=by
    rintro b hb (hl|⟨q,hq⟩)
    ·exact .inl hl
    ·by_cases e:q=p
     ·subst e
      rw [hrow] at hq
      simp only [Row.blk,Row.ver,Option.bind_some,a0Q,Option.some.injEq] at hq
      omega
     ·refine .inr ⟨q,?_⟩
      unfold Row.blk at hq ⊢
      cases hqv:(hp q).ver with
      | none=>rw [hqv] at hq;cases hq
      | some v=>
        rw [hqv] at hq
        simp only [Option.bind_some] at hq ⊢
        rwa [a2V (fun e'=>e (hs.vers q p ver (by rw [hqv,e']) (by rw [hrow];rfl)))] at hq
   obtain⟨hsz,hcells⟩:=a5y hcl (hev x)
   have hlay:=hs.lay (p:=p) (ver:=ver) (cap:=0) (by rw [hrow];rfl) hn hn0 (.cells (a.eval x).cells e) (by
    rw [hrow]
    intro g cap he
    rw [a0Q] at he
    simp only [Option.some.injEq,Prod.mk.injEq] at he
    obtain⟨rfl,rfl⟩:=he
    refine⟨_,_,rfl,heap_alloc_new w _,hsz,fun j hj=>?_⟩
    obtain⟨u,hu,h1,hr⟩:=hcells j hj
    exact⟨u,hu,h1,Rep.keep (hstep _) (fun _ _ h=>h.elim) hL _ _ _ _ (b2j hn) hr⟩)
   refine val (.pointer (some ⟨w.heap.size,0,none⟩)) (w.alloc (.cells (a.eval x).cells e)) ?_ (hK _ _ _ hlay.1 hlay.2 (fun k hk=>a2V (hk.resolve_right (by simp))) ⟨w.heap.size,0,a0Q _ _ _,rfl⟩)
   simp [execOp,hop,Instr.box,newVar,newRow]
  ·cases h
 ·
  rename_i t n parts hop
  obtain⟨z0,hrow0,rfl⟩:=a6d h
  clear h
  have h:=hrow0
  have hK:=fun v η' w' h1 h2 h3 (h4:Rep w' η' (a0Y c η' hp) z0 v)=>hK v η' w' h1 h2 h3 (c8X hrow0 h4)
  unfold a2F at h
  split at h
  ·rename_i e hu
   split at h
   ·rename_i zl hz
    simp only [Option.some.injEq,Prod.mk.injEq] at h
    obtain⟨rfl,rfl,rfl⟩:=h
    obtain⟨hparts,hsz⟩:=hpre
    have hnil:parts=#[]:=by cases parts;simpa using hparts
    subst hnil
    have hf:Fr (fun _=>False) w (w.alloc (.cells #[] e)):=Fr.alloc _ w _
    refine val (.slice (some ⟨w.heap.size,0,none⟩) 0 0) (w.alloc (.cells #[] e)) ?_ (hK _ _ _ (hs.world hf) ⟨hf,Env.le_refl _,fun _ _ h=>h⟩ (fun _ _=>rfl) ⟨_,rfl⟩)
    have e0:∀ f:Nat->Value,(Array.range 0).map f=#[]:=fun f=>by simp
    simp [execOp,hop,Instr.buildSlice,run_underlying hu,a0P (P:=P) (w:=w) rfl hsz,Instr.fill,newRow,e0]
   ·rename_i n zl hz
    split at h
    ·rename_i cc hfill
     simp only [Option.some.injEq,Prod.mk.injEq] at h
     obtain⟨rfl,rfl,rfl⟩:=h
     obtain⟨hfl,hzl,hsz,hbig⟩:=hpre
     obtain⟨zv,hzr,hzc,hz1⟩:=a5I (w:=w) hz
     have hall:a4C (fun (x:Nat×AV) (y:Nat×Value)=>x.1=y.1/\Rep w a1l (a0Y c η hp) x.2 y.2) (parts.toList.map fun a=>(a.1,ev a.2)) (parts.toList.map fun x=>(x.1,a.eval x.2)):=by
      have:∀ (l:List (Nat×Operand)),(∀ x∈l.map fun a=>(a.1,ev a.2),b1m x.2)->a4C (fun (x:Nat×AV) (y:Nat×Value)=>x.1=y.1/\Rep w a1l (a0Y c η hp) x.2 y.2) (l.map fun a=>(a.1,ev a.2)) (l.map fun x=>(x.1,a.eval x.2)):=by
       intro l
       induction l with
       | nil=>exact fun _=>.nil
       | cons x l ih=>exact fun hx=>.cons ⟨rfl,a8b (hx _ (List.mem_cons_self ..)) (hev _)⟩ (ih fun y hy=>hx y (List.mem_cons_of_mem _ hy))
      exact this _ hfl
     obtain⟨cells',h1,h2,h3⟩:=a9v (m:=(n+1)*P.cellsOf e) _ _ (fun k=>a7i (zl.getD (k % zl.length) undef)) cc ((Array.range ((n+1)*zl.length)).map fun i=>zl.toArray[i % zl.toArray.size]!) hfill (by simp [hzl]) (fun j hj=>by
      obtain⟨u,hu',h1,rfl⟩:=b5X (z:=zl) (n:=n+1) hz1 j (by rw [hzl];exact hj)
      exact⟨_,hu',h1,a4T _⟩) hall
     have hf:Fr (fun _=>False) w (w.alloc (.cells cells' e)):=Fr.alloc _ w _
     refine val (.slice (some ⟨w.heap.size,0,none⟩) (n+1) (n+1)) (w.alloc (.cells cells' e)) ?_ (hK _ _ _ (hs.world hf) ⟨hf,Env.le_refl _,fun _ _ h=>h⟩ (fun _ _=>rfl) ⟨_,_,rfl,Nat.le_refl _,fun _ _=>⟨w.heap.size,0,rfl,fun hl=>?_,fun i hi j hj=>?_⟩⟩)
     ·have e1:((parts.map fun (i,x)=>(i,a.eval x)).toList)=(parts.toList.map fun x=>(x.1,a.eval x.2)):=by cases parts;simp
      have hne:¬(n+1)*P.cellsOf e=0:=by
       have:0<(n+1)*P.cellsOf e:=Nat.mul_pos (by omega) hsz
       omega
      rw [hzl] at h1
      simp only [execOp,hop,Instr.buildSlice,Sem.run_bind,run_underlying hu,Result.andThen_ok,a0P (P:=P) (w:=w) rfl hsz]
      rw [if_neg (show ¬(n+1)*P.cellsOf e > 2 ^ 24 from Nat.not_lt.2 hbig)]
      simp only [Sem.run_bind,Sem.run_pure,Result.andThen_ok,if_neg hne,hzr,e1,hzc,h1,newRow,run_newObj,World.alloc_eq]
     ·rcases hl with hl|⟨q,hq⟩
      ·have:=hs.lx.lt _ hl;have:=hs.fr.size;omega
      ·have:=(hs.own q _ hq).2.2;omega
     ·have hb:i*P.cellsOf e+j<(n+1)*P.cellsOf e:=by
       have:i*P.cellsOf e<=n*P.cellsOf e:=Nat.mul_le_mul_right _ (by omega)
       rw [Nat.add_mul];omega
      obtain⟨u,hu',h1,hr⟩:=h3 _ hb
      exact⟨u,by rw [a0Z (heap_alloc_new w _),Nat.zero_add];exact hu',h1,Rep.keep hf (fun _ _ h=>h.elim) (fun _ _ h=>h) _ _ _ _ (Env.le_refl _) hr⟩
    ·cases h
   ·cases h
  ·cases h
 ·
  rename_i t l cp hop
  unfold c6r at h
  split at h
  ·rename_i e n m hu hl hc
   split at h
   ·rename_i zl hz
    simp only [Option.some.injEq,Prod.mk.injEq] at h
    obtain⟨rfl,rfl,rfl⟩:=h
    obtain⟨hn0,hnm,hbig,hby,hzl,hsz⟩:=hpre
    rcases hrow with hrow|⟨hrow,hn,hn0⟩
    ·cases hrow
    obtain⟨zv,hzr,hzc,hz1⟩:=a5I (w:=w) hz
    have el:a.eval l=.int .i64 n:=by have:=hev l;rw [hl] at this;exact this
    have ec:a.eval cp=.int .i64 m:=by have:=hev cp;rw [hc] at this;exact this
    have hm:m<=281474976710656:=by
     have:m*1<=m*P.bytesOf e:=Int.mul_le_mul_of_nonneg_left (by omega) (by omega)
     omega
    have hlay:=hs.lay (p:=p) (ver:=ver) (cap:=m.toNat) (by rw [hrow];rfl) hn hn0 (.cells ((Array.range (m.toNat*zl.length)).map fun i=>zl.toArray[i % zl.toArray.size]!) e) (by
     rw [hrow]
     intro g cap he
     rw [a0Q] at he
     simp only [Option.some.injEq,Prod.mk.injEq] at he
     obtain⟨rfl,rfl⟩:=he
     refine⟨_,heap_alloc_new w _,by simp [hzl],by omega,by simp only [maxLen];omega,fun i hi j hj=>?_⟩
     have hb:i*P.cellsOf e+j<m.toNat*zl.length:=by
      rw [hzl]
      have:(i+1)*P.cellsOf e<=m.toNat*P.cellsOf e:=Nat.mul_le_mul_right _ (by omega)
      rw [Nat.add_mul] at this;omega
     obtain⟨u,hu',h1,rfl⟩:=b5X (z:=zl) (n:=m.toNat) hz1 _ hb
     refine⟨_,hu',h1,?_⟩
     have e1:(i*P.cellsOf e+j) % zl.length=j:=by rw [hzl,Nat.mul_comm,Nat.mul_add_mod,Nat.mod_eq_of_lt hj]
     rw [e1]
     exact a4T _)
    refine val (.slice (some ⟨w.heap.size,0,none⟩) n.toNat m.toNat) _ ?_ (hK _ _ _ hlay.1 hlay.2 (fun k hk=>a2V (hk.resolve_right (by simp))) ⟨some w.heap.size,m.toNat,a0Q _ _ _,rfl,by omega⟩)
    obtain⟨i,hi⟩:∃ i,P.info? e=some i:=by
     unfold Program.bytesOf at hby
     cases hi:P.info? e with
     | none=>rw [hi] at hby;simp at hby
     | some i=>exact⟨i,rfl⟩
    have hby':P.bytesOf e=i.bytes:=by simp [Program.bytesOf,hi]
    have hw1:IntKind.i64.wrap n=n:=a5N n (by omega)
    have hw2:IntKind.i64.wrap m=m:=a5N m (by omega)
    rw [hby'] at hbig
    have hle:¬((i.bytes:Int)*m > 2 ^ 48):=by rw [Int.mul_comm];simpa using hbig
    simp only [execOp,hop,Instr.makeSlice,Sem.run_bind,run_underlying hu,Result.andThen_ok,el,ec,asInt,asIntOf,Sem.run_pure,typeInfo,run_program,hi,hw1,hw2,hle,decide_false,Bool.or_false]
    have hneg:(decide (m<0))=false:=by simp;omega
    have hneg1:(decide (n<0))=false:=by simp;omega
    have hneg2:(decide (n > m))=false:=by simp;omega
    simp only [hneg,hneg1,hneg2,Bool.or_false,Bool.false_eq_true,if_false,Sem.run_bind,run_askRoom,Result.andThen_ok,a0P (P:=P) (w:=w) rfl hsz]
    by_cases hm0:m.toNat=0
    ·have e0:∀ f:Nat->Value,(Array.range 0).map f=#[]:=fun f=>by simp
     simp [hm0,newRow,e0]
    ·have hne:¬m.toNat*P.cellsOf e=0:=by
      have:0<m.toNat*P.cellsOf e:=Nat.mul_pos (by omega) hsz
      omega
     simp only [if_neg hne,Sem.run_bind,hzr,Result.andThen_ok,Sem.run_pure,hzc,newRow,run_newObj,World.alloc_eq,hzl]
   ·cases h
  ·cases h
 ·
  rename_i t r hop
  unfold a9I at h
  split at h
  ·rename_i kt et hu
   split at h
   ·rename_i hhint
    have hm:(execOp a.eval o).run P w=.ok (.value (.map (some w.heap.size))) (w.alloc (.map #[] 0)):=by
     unfold execOp
     rw [hop]
     simp only [Sem.run_bind]
     cases r with
     | none=>simp [Instr.makeMap]
     | some x=>
       have hx:=hev x
       simp only [Option.map_some] at hhint ⊢
       unfold c0e at hhint
       split at hhint
       ·rename_i hn
        cases hn
       ·rename_i k n hn
        simp only [Option.some.injEq] at hn
        rw [hn] at hx
        have hx':a.eval x=.int k n:=hx
        simp [Instr.makeMap,run_underlying hu,hx',asInt,asIntOf]
       ·cases hhint
    have lay:∀ str,hp p=.mp ver str 0 (fun _=>none)->η ver=none->c.n0<=ver->z=.mp p ver->row=.mp ver str 0 (fun _=>none)->o.wp P a w K Q:=by
     rintro str hrw hn hn0 rfl rfl
     have hlay:=hs.lay (p:=p) (ver:=ver) (cap:=0) (by rw [hrw];rfl) hn hn0 (.map #[] 0) (by
      rw [hrw]
      intro g cap he
      rw [a0Q] at he
      simp only [Option.some.injEq,Prod.mk.injEq] at he
      obtain⟨rfl,rfl⟩:=he
      exact⟨_,#[],0,rfl,heap_alloc_new w _,rfl,fun e he=>by simp at he,fun k _=>rfl⟩)
     exact val _ _ hm (hK _ _ _ hlay.1 hlay.2 (fun k hk=>a2V (hk.resolve_right (by simp))) ⟨w.heap.size,0,a0Q _ _ _,rfl⟩)
    split at h
    ·simp only [Option.some.injEq,Prod.mk.injEq] at h
     obtain⟨_,rfl,rfl⟩:=h
     rcases hrow with hrow|⟨hrow,hn,hn0⟩
     ·cases hrow
     ·exact lay true hrow hn hn0 rfl rfl
    ·simp only [Option.some.injEq,Prod.mk.injEq] at h
     obtain⟨_,rfl,rfl⟩:=h
     rcases hrow with hrow|⟨hrow,hn,hn0⟩
     ·cases hrow
     ·exact lay false hrow hn hn0 rfl rfl
    ·cases h
   ·cases h
  ·cases h
 ·
  rename_i f xs ts hop
  obtain⟨s,hsome,_,_,rfl⟩:=a5f h
  have henter:=(show a0d P f s from hΓ f _ hsome).1 (xs.map a.eval).toArray w
  unfold Oper.wp
  have e:(execOp a.eval o).run P w=.ok (.enter f (xs.map a.eval).toArray) w:=by
   have e2:execOp a.eval o=callFunc f (#[]++(⟨xs⟩:Array Operand).map a.eval++#[]):=by unfold execOp;rw [hop];rfl
   rw [e2]
   simpa using henter
  rw [e]
  simp only [Oper.upon]
  refine (c0W hΓ hs h hpre (a6J hev xs)).mono ?_
  rintro e w' ⟨v,rfl,h1,h2,h3⟩
  exact hK v η w' h1 h2 (fun _ _=>rfl) h3
 ·
  split at h
  ·rename_i pre' z' hp'
   simp only [Option.some.injEq,Prod.mk.injEq] at h
   obtain⟨rfl,rfl,rfl⟩:=h
   obtain⟨v,hv,hr⟩:=c0d (o:=o) (fun _=>rfl) hs.rows hev hp' hpre
   exact val v w hv (hK v η w hs (Stp.refl _ _ _ _) (fun _ _=>rfl) hr)
  ·cases h
end
end Go.Proofs.YthpjjjnbkfnghaaGreatDoor
namespace Go.Proofs.YthpjjjnbkfnghaaGreatDoor
open Go
structure AS where
 fr:Nat->AV
 hp:Nat->Row
 sz:Nat
 top:Nat
 nx:Nat
 df:List Deferred
def c30 (f:Nat->AV) (d:Nat) (v:AV):Nat->AV:=fun t=>if t=d then v else f t
def a0S (f:Nat->Row) (d:Nat) (v:Row):Nat->Row:=fun t=>if t=d then v else f t
def a2b (f:Nat->AV) (d:Option Tmp) (v:AV):Nat->AV:=match d with
 | some d=>c30 f d v
 | none=>f
def a0N (sz:Nat):Option Tmp->Prop
 | some d=>d<sz
 | none=>True
structure SR (c:Ctx) (st:AS) (η:Env) (a:Act) (w:World):Prop where
 hs:HS c st.hp st.nx η w
 dead:∀ p,st.top<=p->st.hp p=.dead
 size:a.tmps.size=st.sz
 slots:∀ t,Rep w η (a0Y c η st.hp) (st.fr t) (a.tmps.getD t undef)
 defs:a.defers=st.df
section
variable {c:Ctx} {st:AS} {η η':Env} {a:Act} {w w':World}
theorem b16 (a:Act) (d:Option Tmp) (v:Value) (t:Nat) (h:a0N a.tmps.size d):(a.put d v).tmps.getD t undef=if d=some t then v else a.tmps.getD t undef:=by
 cases d with
 | none=>rfl
 | some d=>
   simp only [a0N] at h
   simp only [Act.put,Option.some.injEq,Array.getD_eq_getD_getElem?]
   by_cases e:d=t
   ·subst e;simp [h]
   ·rw [if_neg e,Array.getElem?_setIfInBounds_ne e]
theorem a9y (a:Act) (d:Option Tmp) (v:Value):(a.put d v).tmps.size=a.tmps.size:=by cases d<;>simp [Act.put]
theorem a6M (a:Act) (d:Option Tmp) (v:Value):(a.put d v).defers=a.defers:=by cases d<;>rfl
theorem a24 (f:Nat->AV) (d:Option Tmp) (v:AV) (t:Nat):a2b f d v t=if d=some t then v else f t:=by
 cases d with
 | none=>rfl
 | some d=>
   simp only [a2b,c30,Option.some.injEq]
   by_cases e:t=d
   ·subst e;simp
   ·rw [if_neg e,if_neg (Ne.symm e)]
theorem SR.put (h:SR c st η a w) {d:Option Tmp} {z:AV} {v:Value} (hd:a0N st.sz d) {hp':Nat->Row} {nx' top':Nat} (hs:HS c hp' nx' η' w') (hdead:∀ p,top'<=p->hp' p=.dead)
  (hk:∀ x u,Rep w η (a0Y c η st.hp) x u->Rep w' η' (a0Y c η' hp') x u) (hr:Rep w' η' (a0Y c η' hp') z v):SR c ⟨a2b st.fr d z,hp',st.sz,top',nx',st.df⟩ η' (a.put d v) w' where
 hs:=hs
 dead:=hdead
 size:=(a9y _ _ _).trans h.size
 slots:=fun t=>by
  rw [b16 a d v t (by rw [h.size];exact hd)]
  simp only [a24]
  by_cases e:d=some t
  ·rw [if_pos e,if_pos e];exact hr
  ·rw [if_neg e,if_neg e];exact hk _ _ (h.slots t)
 defs:=(a6M _ _ _).trans h.defs
theorem HS.declare {hp:Nat->Row} {nx:Nat} (h:HS c hp nx η w) {p:Nat} {row:Row} (hv:row.ver=some nx):HS c (a0S hp p row) (nx+1) η w/\∀ b,a0Y c η (a0S hp p row) b->a0Y c η hp b:=by
 have hn:η nx=none:=h.fresh nx (Nat.le_refl _)
 have hbk:∀ q b,(a0S hp p row q).blk η=some b->q≠p/\(hp q).blk η=some b:=by
  intro q b hb
  unfold a0S at hb
  split at hb
  ·simp [Row.blk,hv,hn] at hb
  ·rename_i e;exact⟨e,hb⟩
 have hL:∀ b,a0Y c η (a0S hp p row) b->a0Y c η hp b:=by
  rintro b (hl|⟨q,hq⟩)
  ·exact .inl hl
  ·exact .inr ⟨q,(hbk q b hq).2⟩
 refine⟨⟨h.fr,h.lx,fun q=>?_,fun q r v hq hr=>?_,fun q v hq=>?_,fun q r b hq hr=>h.disj q r b (hbk q b hq).2 (hbk r b hr).2,fun q b hq=>h.own q b (hbk q b hq).2,fun k hk=>h.fresh k (by omega),h.env.1,Nat.le_succ_of_le h.env.2.1,h.env.2.2⟩,hL⟩
 ·unfold a0S
  split
  ·cases row with
   | dead=>trivial
   | box v ety m cc=>intro g cap he;simp only [Row.ver,Option.some.injEq] at hv;subst hv;rw [hn] at he;cases he
   | sl v ety sz n cc=>intro g cap he;simp only [Row.ver,Option.some.injEq] at hv;subst hv;rw [hn] at he;cases he
   | mp v str n f=>intro g cap he;simp only [Row.ver,Option.some.injEq] at hv;subst hv;rw [hn] at he;cases he
  ·exact a13.keep (Fr.refl (fun _=>False) w) (Env.le_refl _) (fun _ _ h=>h.elim) (fun b _ hb=>hL b hb) (fun _ _=>rfl) (fun _ _=>rfl) (h.rows q)
 ·unfold a0S at hq hr
  split at hq<;>split at hr
  ·rename_i e1 e2;rw [e1,e2]
  ·rw [hv] at hq
   obtain rfl:nx=v:=by simpa using hq
   have:=h.bnd r nx hr;omega
  ·rw [hv] at hr
   obtain rfl:nx=v:=by simpa using hr
   have:=h.bnd q nx hq;omega
  ·exact h.vers q r v hq hr
 ·unfold a0S at hq
  split at hq
  ·rw [hv] at hq
   obtain rfl:nx=v:=by simpa using hq
   omega
  ·have:=h.bnd q v hq;omega
def a1v (x:AV) (want:Bool):Option Bool:=
 match x with
 | .val (.bool b)=>some (if want then b else !b)
 | .gd g (.val (.bool b))=>some (g&&if want then b else !b)
 | _=>none
def a3l (g:Bool):AV->AV
 | .gd b x=>if (!g||b)=true then x else .any
 | x=>x
theorem b1v {L:Nat->Prop} {g:Bool} (hg:g=true) {x:AV} {v:Value} (h:Rep w η L x v):Rep w η L (a3l g x) v:=by
 cases x with
 | gd b y=>
   subst hg
   unfold a3l
   cases b with
   | true=>simpa using h.1 rfl
   | false=>simp [Rep]
 | _=>exact h
def d28 (g:Bool):AV->AV
 | .gd b x=>.gd (!g||b) x
 | x=>x
theorem c3X {L:Nat->Prop} {g:Bool} (hg:g=true) {x:AV} {v:Value} (h:Rep w η L x v):Rep w η L (d28 g x) v:=by
 subst hg
 cases x with
 | gd b x=>exact h
 | _=>exact h
def evG (g:Bool) (op:Op) (ev:Operand->AV) (o:Operand):AV:=
 match op,o with
 | .pick (.tmp t) _ _,.tmp u=>if u=t then a3l g (ev (.tmp u)) else d28 g (ev (.tmp u))
 | _,o=>a3l g (ev o)
theorem b96 {L:Nat->Prop} {g:Bool} (hg:g=true) {op:Op} {ev:Operand->AV} {o:Operand} {v:Value} (h:Rep w η L (ev o) v):Rep w η L (evG g op ev o) v:=by
 unfold evG
 split
 ·split
  ·exact b1v hg h
  ·exact c3X hg h
 ·exact b1v hg h
theorem b9K {g:Bool} {op:Op} {ev ev':Operand->AV} {o:Operand} (h:ev' o=ev o):evG g op ev' o=evG g op ev o:=by
 unfold evG
 split<;>simp only [h]
def AS.ev (st:AS) (x:Operand):AV:=a9b st.fr x
def gop (P:Program) (Γ:Gam) (ops:Array Oper) (st:AS) (o:Oper):b3x:=
 match o.guard with
 | none=>aop P Γ st.hp st.top st.nx st.ev o.op
 | some (j,want)=>match (ops[j]?).bind (·.dst) with
   | some d=>match a1v (st.fr d) want with
     | some g=>match aop P Γ st.hp st.top st.nx (evG g o.op st.ev) o.op with
       | some (pre,z,row)=>some (g=true->pre,.gd g z,row)
       | none=>some (g=false,.gd g .any,.dead)
     | none=>none
   | none=>none
def AS.put (st:AS) (d:Option Tmp) (z:AV) (row:Row):AS:=
 match row with
 | .dead=>⟨a2b st.fr d z,st.hp,st.sz,st.top,st.nx,st.df⟩
 | row=>⟨a2b st.fr d z,a0S st.hp st.top row,st.sz,st.top+1,st.nx+1,st.df⟩
def OpW (P:Program) (o:Oper) (st:AS) (K:AS->Prop):Prop:=
 ∀ (c:Ctx) (η:Env) (a:Act) (w:World) (next:Act->World->Prop) (Q:Exit->Act->World->Prop),SR c st η a w->
  (∀ st' η' a' w',SR c st' η' a' w'->K st'->next a' w')->o.wp P a w next Q
theorem b2v {P:Program} {Γ:Gam} {hp:Nat->Row} {p ver:Nat} {ev:Operand->AV} {op:Op} {pre:Prop} {z:AV} {row:Row} (h:aop P Γ hp p ver ev op=some (pre,z,row)):row=.dead\/row.ver=some ver:=by
 unfold aop at h
 split at h
 ·split at h
  ·simp only [Option.some.injEq,Prod.mk.injEq] at h
   obtain⟨_,_,rfl⟩:=h
   exact .inr rfl
  ·cases h
 ·split at h
  ·simp only [Option.some.injEq,Prod.mk.injEq] at h
   obtain⟨_,_,rfl⟩:=h
   exact .inr rfl
  ·cases h
 ·obtain⟨z0,h,_⟩:=a6d h
  unfold a2F at h
  split at h
  ·split at h
   ·simp only [Option.some.injEq,Prod.mk.injEq] at h
    exact .inl h.2.2.symm
   ·split at h
    ·simp only [Option.some.injEq,Prod.mk.injEq] at h
     exact .inl h.2.2.symm
    ·cases h
   ·cases h
  ·cases h
 ·unfold c6r at h
  split at h
  ·split at h
   ·simp only [Option.some.injEq,Prod.mk.injEq] at h
    obtain⟨_,_,rfl⟩:=h
    exact .inr rfl
   ·cases h
  ·cases h
 ·unfold a9I at h
  split at h
  ·split at h
   ·split at h
    ·simp only [Option.some.injEq,Prod.mk.injEq] at h
     obtain⟨_,_,rfl⟩:=h
     exact .inr rfl
    ·simp only [Option.some.injEq,Prod.mk.injEq] at h
     obtain⟨_,_,rfl⟩:=h
     exact .inr rfl
    ·cases h
   ·cases h
  ·cases h
 ·obtain⟨_,_,_,_,h⟩:=a5f h
  exact .inl h
 ·split at h
  ·simp only [Option.some.injEq,Prod.mk.injEq] at h
   exact .inl h.2.2.symm
  ·cases h
theorem b5e {P:Program} {Γ:Gam} {hp:Nat->Row} {top ver:Nat} {ev:Operand->AV} {op:Op} {pre:Prop} {z:AV} {row:Row}
  (h:aop P Γ hp top ver ev op=some (pre,z,row)) (hr:row≠.dead) (hp':Nat->Row):aop P Γ hp' top ver ev op=some (pre,z,row):=by
 unfold aop at h ⊢
 split at h
 ·exact h
 ·exact h
 ·unfold a2K at h ⊢;exact h
 ·exact h
 ·exact h
 ·obtain⟨_,_,_,_,h⟩:=a5f h
  exact absurd h hr
 ·split at h
  ·simp only [Option.some.injEq,Prod.mk.injEq] at h
   exact absurd h.2.2.symm hr
  ·cases h
theorem c73 {P:Program} {Γ:Gam} (hΓ:GOK P Γ) (h:SR c st η a w) {o:Oper} {ev:Operand->AV} (hev:∀ x,Rep w η (a0Y c η st.hp) (ev x) (a.eval x)) {pre:Prop} {z z':AV} {row:Row}
  (ho:aop P Γ st.hp st.top st.nx ev o.op=some (pre,z,row)) (hpre:pre) (hd:a0N st.sz o.dst) (hz:∀ w η L v,Rep w η L z v->Rep w η L z' v) {K:Act->World->Prop} {Q:Exit->Act->World->Prop}
  (hK:∀ η' a' w',SR c (st.put o.dst z' row) η' a' w'->K a' w'):o.wp P a w K Q:=by
 by_cases hr:row=.dead
 ·subst hr
  refine b7t hΓ h.hs hev ho hpre (.inl rfl) fun v η' w' hs hst _ hrep=>hK η' _ w' ?_
  exact h.put hd hs h.dead (fun x u hx=>hst.rep hx) (hz _ _ _ _ hrep)
 ·have hv:row.ver=some st.nx:=(b2v ho).resolve_left hr
  obtain⟨hs',hL⟩:=h.hs.declare (p:=st.top) hv
  refine b7t hΓ hs' (fun x=>Rep.less (fun b _ hb=>hL b hb) (hev x)) (b5e ho hr _) hpre (.inr ⟨by simp [a0S],h.hs.fresh _ (Nat.le_refl _),h.hs.env.2.1⟩) fun v η' w' hs hst _ hrep=>hK η' _ w' ?_
  have e:st.put o.dst z' row=⟨a2b st.fr o.dst z',a0S st.hp st.top row,st.sz,st.top+1,st.nx+1,st.df⟩:=by
   cases row with
   | dead=>exact absurd rfl hr
   | _=>rfl
  rw [e]
  refine h.put hd hs (fun p hp=>?_) (fun x u hx=>hst.rep (Rep.less (fun b _ hb=>hL b hb) hx)) (hz _ _ _ _ hrep)
  simp only [a0S]
  rw [if_neg (by omega)]
  exact h.dead p (by omega)
theorem SR.skip (h:SR c st η a w) {d:Option Tmp} {z:AV} {row:Row} (hd:a0N st.sz d) (hr:row=.dead\/row.ver=some st.nx):SR c (st.put d (.gd false z) row) η (a.put d undef) w:=by
 have hz:∀ w η L,Rep w η L (.gd false z) undef:=fun _ _ _=>⟨fun h=>(by cases h),fun _=>rfl⟩
 by_cases he:row=.dead
 ·subst he
  exact h.put hd h.hs h.dead (fun _ _ hx=>hx) (hz _ _ _)
 ·have hv:=hr.resolve_left he
  obtain⟨hs',hL⟩:=h.hs.declare (p:=st.top) hv
  have e:st.put d (.gd false z) row=⟨a2b st.fr d (.gd false z),a0S st.hp st.top row,st.sz,st.top+1,st.nx+1,st.df⟩:=by
   cases row with
   | dead=>exact absurd rfl he
   | _=>rfl
  rw [e]
  refine h.put hd hs' (fun p hp=>?_) (fun x u hx=>Rep.less (fun b _ hb=>hL b hb) hx) (hz _ _ _)
  simp only [a0S]
  rw [if_neg (by omega)]
  exact h.dead p (by omega)
theorem a9E {ops:Array Oper} {j:Nat} {d:Tmp} {want g:Bool} (hj:(ops[j]?).bind (·.dst)=some d) (h:SR c st η a w) (hg:a1v (st.fr d) want=some g) :
  (yielded ops a.tmps j==some want)=g:=by
 have hs:=h.slots d
 have key:∀ b,a.tmps.getD d undef=.bool b->yielded ops a.tmps j=some b:=fun b hb=>by
  unfold yielded
  rw [hj]
  simp only [Option.bind_some]
  rw [Array.getD_eq_getD_getElem?] at hb
  cases hd:a.tmps[d]? with
  | none=>rw [hd] at hb;cases hb
  | some v=>rw [hd] at hb;simp only [Option.getD_some] at hb;subst hb;rfl
 have key0:a.tmps.getD d undef=undef->yielded ops a.tmps j=none:=fun hb=>by
  unfold yielded
  rw [hj]
  simp only [Option.bind_some]
  rw [Array.getD_eq_getD_getElem?] at hb
  cases hd:a.tmps[d]? with
  | none=>rfl
  | some v=>rw [hd] at hb;simp only [Option.getD_some] at hb;subst hb;rfl
 unfold a1v at hg
 split at hg
 ·rename_i b heq
  rw [heq] at hs
  simp only [Option.some.injEq] at hg
  rw [key b hs,<-hg]
  cases b<;>cases want<;>rfl
 ·rename_i gg b heq
  rw [heq] at hs
  simp only [Option.some.injEq] at hg
  cases gg with
  | false=>rw [key0 (hs.2 rfl),<-hg];rfl
  | true=>
    rw [key b (hs.1 rfl),<-hg]
    cases b<;>cases want<;>rfl
 ·cases hg
theorem b1G {P:Program} {Γ:Gam} (hΓ:GOK P Γ) {ops:Array Oper} (h:SR c st η a w) {o:Oper} {pre:Prop} {z:AV} {row:Row}
  (ho:gop P Γ ops st o=some (pre,z,row)) (hpre:pre) (hd:a0N st.sz o.dst) {K:Act->World->Prop} {Q:Exit->Act->World->Prop}
  (hK:∀ η' a' w',SR c (st.put o.dst z row) η' a' w'->K a' w') :
  if Region.wanted o (yielded ops a.tmps) then o.wp P a w K Q else K (a.put o.dst undef) w:=by
 unfold gop at ho
 split at ho
 ·rename_i hg
  rw [if_pos (by simp [Region.wanted,hg])]
  exact c73 hΓ h (a1X h.slots) ho hpre hd (fun _ _ _ _ h=>h) hK
 ·rename_i j want hg
  split at ho
  ·rename_i d hj
   split at ho
   ·rename_i g hgv
    split at ho
    ·rename_i pre' z' row' ha
     simp only [Option.some.injEq,Prod.mk.injEq] at ho
     obtain⟨rfl,rfl,rfl⟩:=ho
     have hy:=a9E hj h hgv
     have hw:Region.wanted o (yielded ops a.tmps)=g:=by simp only [Region.wanted,hg];exact hy
     rw [hw]
     cases g with
     | true=>
       simp only [if_true]
       exact c73 hΓ h (z':=.gd true z') (fun x=>b96 rfl (a1X h.slots x)) ha (hpre rfl) hd (fun w η L v hv=>⟨fun _=>hv,fun h=>(by cases h)⟩) hK
     | false=>
       simp only [Bool.false_eq_true,if_false]
       exact hK η _ w (h.skip hd (b2v ha))
    ·simp only [Option.some.injEq,Prod.mk.injEq] at ho
     obtain⟨rfl,rfl,rfl⟩:=ho
     subst hpre
     have hy:=a9E hj h hgv
     have hw:Region.wanted o (yielded ops a.tmps)=false:=by simp only [Region.wanted,hg];exact hy
     rw [hw]
     simp only [Bool.false_eq_true,if_false]
     exact hK η _ w (h.skip hd (.inl rfl))
   ·cases ho
  ·cases ho
end
end Go.Proofs.YthpjjjnbkfnghaaGreatDoor
namespace Go.Proofs.YthpjjjnbkfnghaaGreatDoor
open Go
section
variable {c:Ctx} {hp:Nat->Row} {nx:Nat} {η:Env} {w w':World}
theorem a0k (f:Nat->Row) (p:Nat) (r:Row):a0S f p r p=r:=if_pos rfl
theorem a0f (f:Nat->Row) {p q:Nat} (r:Row) (h:q≠p):a0S f p r q=f q:=if_neg h
theorem HS.write (h:HS c hp nx η w) {p g:Nat} {row:Row} (hb:(hp p).blk η=some g) (hv:row.ver=(hp p).ver) (hf:Fr (fun b=>b=g) w w')
  (hrow:a13 w' η (a0Y c η hp) row):HS c (a0S hp p row) nx η w'/\∀ x u,Rep w η (a0Y c η hp) x u->Rep w' η (a0Y c η (a0S hp p row)) x u:=by
 have hbk:∀ q,(a0S hp p row q).blk η=(hp q).blk η:=fun q=>by
  by_cases e:q=p
  ·subst e;rw [a0k];simp only [Row.blk,hv]
  ·rw [a0f _ _ e]
 have hL:a0Y c η (a0S hp p row)=a0Y c η hp:=by
  funext b
  simp only [a0Y,hbk]
 have hO:∀ k,k<w.heap.size->k=g->a0Y c η hp k:=fun k _ e=>.inr ⟨p,by rw [e];exact hb⟩
 have hkeep:∀ x u,Rep w η (a0Y c η hp) x u->Rep w' η (a0Y c η hp) x u:=fun x u hx=>Rep.keep hf hO (fun _ _ h=>h) x η η u (Env.le_refl _) hx
 refine⟨⟨h.fr.trans' hf ?_,h.lx,fun q=>?_,fun q r v hq hr=>?_,fun q v hq=>?_,fun q r b hq hr=>?_,fun q b hq=>?_,h.fresh,h.env⟩,by rw [hL];exact hkeep⟩
 ·intro k hk e
  subst e
  exact (h.own p k hb).1.resolve_right (by omega)
 ·rw [hL]
  by_cases e:q=p
  ·subst e;rw [a0k];exact hrow
  ·rw [a0f _ _ e]
   exact a13.keep hf (Env.le_refl _) hO (fun _ _ h=>h) (fun _ _=>rfl) (fun b hq=>by
    refine hf.block b (h.own q b hq).2.2 fun e'=>e ?_
    subst e'
    exact h.disj q p b hq hb) (h.rows q)
 ·have hver:∀ q,(a0S hp p row q).ver=(hp q).ver:=fun q=>by
   by_cases e:q=p
   ·subst e;rw [a0k,hv]
   ·rw [a0f _ _ e]
  rw [hver] at hq hr
  exact h.vers q r v hq hr
 ·by_cases e:q=p
  ·subst e;rw [a0k,hv] at hq;exact h.bnd q v hq
  ·rw [a0f _ _ e] at hq;exact h.bnd q v hq
 ·rw [hbk] at hq hr;exact h.disj q r b hq hr
 ·rw [hbk] at hq
  exact⟨(h.own q b hq).1,(h.own q b hq).2.1,Nat.lt_of_lt_of_le (h.own q b hq).2.2 hf.size⟩
theorem HS.swap (h:HS c hp nx η w) {p:Nat} {row:Row} {r:Option Nat×Nat} {O:Nat->Prop} (hv:row.ver=some nx) (hf:Fr O w w') (hO:∀ k,k<w.heap.size->O k->(hp p).blk η=some k)
  (hr:∀ g,r.1=some g->(hp p).blk η=some g\/(w.heap.size<=g/\g<w'.heap.size))
  (hrow:(∀ x u,Rep w η (a0Y c η hp) x u->Rep w' (a1Q η nx r) (a0Y c (a1Q η nx r) (a0S hp p row)) x u)->a13 w' (a1Q η nx r) (a0Y c (a1Q η nx r) (a0S hp p row)) row) :
  HS c (a0S hp p row) (nx+1) (a1Q η nx r) w'/\∀ x u,Rep w η (a0Y c η hp) x u->Rep w' (a1Q η nx r) (a0Y c (a1Q η nx r) (a0S hp p row)) x u:=by
 have hn:η nx=none:=h.fresh nx (Nat.le_refl _)
 have hle:Env.le η (a1Q η nx r):=b2j hn
 have hbk:∀ q b,(a0S hp p row q).blk (a1Q η nx r)=some b->(q=p/\r.1=some b)\/(q≠p/\(hp q).blk η=some b):=by
  intro q b hb
  by_cases e:q=p
  ·subst e
   rw [a0k] at hb
   simp only [Row.blk,hv,Option.bind_some,a0Q] at hb
   exact .inl ⟨rfl,hb⟩
  ·rw [a0f _ _ e] at hb
   refine .inr ⟨e,?_⟩
   unfold Row.blk at hb ⊢
   cases hq:(hp q).ver with
   | none=>rw [hq] at hb;cases hb
   | some v=>
     rw [hq] at hb
     simp only [Option.bind_some] at hb ⊢
     have:=h.bnd q v hq
     rwa [a2V (by omega)] at hb
 have hL:∀ b,b<w.heap.size->a0Y c (a1Q η nx r) (a0S hp p row) b->a0Y c η hp b:=by
  rintro b hb (hl|⟨q,hq⟩)
  ·exact .inl hl
  ·rcases hbk q b hq with⟨rfl,hg⟩|⟨_,hq'⟩
   ·rcases hr b hg with h1|h1
    ·exact .inr ⟨q,h1⟩
    ·omega
   ·exact .inr ⟨q,hq'⟩
 have hOL:∀ k,k<w.heap.size->O k->a0Y c η hp k:=fun k hk ho=>.inr ⟨p,hO k hk ho⟩
 have hrow:=hrow fun x u hx=>Rep.keep hf hOL hL x _ _ u hle hx
 refine⟨⟨h.fr.trans' hf fun k hk ho=>(h.own p k (hO k (Nat.lt_of_lt_of_le hk h.fr.size) ho)).1.resolve_right (by omega),h.lx,fun q=>?_,fun q s v hq hs=>?_,fun q v hq=>?_,fun q s b hq hs=>?_,fun q b hq=>?_,fun k hk=>?_,Env.le_trans h.env.1 hle,Nat.le_succ_of_le h.env.2.1,fun k hk h0=>by rw [a2V (by have:=h.env.2.1;omega)];exact h.env.2.2 k hk h0⟩,
  fun x u hx=>Rep.keep hf hOL hL x _ _ u hle hx⟩
 ·by_cases e:q=p
  ·subst e;rw [a0k];exact hrow
  ·rw [a0f _ _ e]
   exact a13.keep hf hle hOL hL (fun v hq=>a2V (by have:=h.bnd q v hq;omega)) (fun b hq=>by
    refine hf.block b (h.own q b hq).2.2 fun ho=>e ?_
    exact h.disj q p b hq (hO b (h.own q b hq).2.2 ho)) (h.rows q)
 ·by_cases e1:q=p<;>by_cases e2:s=p
  ·rw [e1,e2]
  ·subst e1
   rw [a0k,hv] at hq
   rw [a0f _ _ e2] at hs
   obtain rfl:nx=v:=by simpa using hq
   have:=h.bnd s nx hs;omega
  ·subst e2
   rw [a0k,hv] at hs
   rw [a0f _ _ e1] at hq
   obtain rfl:nx=v:=by simpa using hs
   have:=h.bnd q nx hq;omega
  ·rw [a0f _ _ e1] at hq
   rw [a0f _ _ e2] at hs
   exact h.vers q s v hq hs
 ·by_cases e:q=p
  ·subst e
   rw [a0k,hv] at hq
   obtain rfl:nx=v:=by simpa using hq
   omega
  ·rw [a0f _ _ e] at hq
   have:=h.bnd q v hq;omega
 ·rcases hbk q b hq with⟨rfl,hg⟩|⟨e1,hq'⟩<;>rcases hbk s b hs with⟨rfl,hg'⟩|⟨e2,hs'⟩
  ·rfl
  ·rcases hr b hg with h1|h1
   ·exact h.disj q s b h1 hs'
   ·have:=(h.own s b hs').2.2;omega
  ·rcases hr b hg' with h1|h1
   ·exact h.disj q s b hq' h1
   ·have:=(h.own q b hq').2.2;omega
  ·exact h.disj q s b hq' hs'
 ·rcases hbk q b hq with⟨rfl,hg⟩|⟨e1,hq'⟩
  ·rcases hr b hg with h1|h1
   ·exact⟨(h.own q b h1).1,(h.own q b h1).2.1,Nat.lt_of_lt_of_le (h.own q b h1).2.2 hf.size⟩
   ·refine⟨.inr (Nat.le_trans h.fr.size h1.1),fun hl=>?_,h1.2⟩
    have:=h.lx.lt _ hl
    have:=h.fr.size
    omega
  ·exact⟨(h.own q b hq').1,(h.own q b hq').2.1,Nat.lt_of_lt_of_le (h.own q b hq').2.2 hf.size⟩
 ·rw [a2V (by omega)]
  exact h.fresh k (by omega)
def stC (c:Nat->AV) (j k:Nat) (d:Nat->AV):Nat->AV:=fun i=>if j<=i/\i<j+k then d (i-j) else c i
def stE (c:Nat->Nat->AV) (i j k:Nat) (d:Nat->AV):Nat->Nat->AV:=fun a b=>if a=i/\j<=b/\b<j+k then d (b-j) else c a b
def a6k (P:Program) (st:AS) (t:TypeId) (x y:AV) (d:Option Tmp) (K:AS->Prop):Prop:=
 match x,a1u y with
 | .pt p ver j,some (k,e)=>match st.hp p with
   | .box v ety m cc=>(v=ver/\P.cellsOf t=k/\0<k/\j+k<=m/\a0N st.sz d)/\K ⟨a2b st.fr d .any,a0S st.hp p (.box v ety m (stC cc j k e)),st.sz,st.top,st.nx,st.df⟩
   | _=>False
 | .pe p ver sz i j,some (k,e)=>match st.hp p with
   | .sl v ety sz' n cc=>(v=ver/\sz'=sz/\i<n/\P.cellsOf t=k/\0<k/\j+k<=sz/\a0N st.sz d)/\K ⟨a2b st.fr d .any,a0S st.hp p (.sl v ety sz n (stE cc i j k e)),st.sz,st.top,st.nx,st.df⟩
   | _=>False
 | _,_=>False
theorem a6u (w:World) (g:Nat) (cs:Array Value):Fr (fun b=>b=g) w (w.setRow g cs):=
 ⟨rfl,rfl,rfl,by simp,fun k _ hk=>setRow_other w g k cs hk⟩
theorem b0y (cur:Array Value) (vs:List Value) (o i:Nat) (h:o+vs.length<=cur.size) :
  (cur.toList.take o++vs++cur.toList.drop (o+vs.length)).toArray[i]?=if o<=i/\i<o+vs.length then vs[i-o]? else cur[i]?:=by
 simp only [List.getElem?_toArray,List.append_assoc]
 have hl:(cur.toList.take o).length=o:=by simp;omega
 by_cases h1:i<o
 ·rw [if_neg (by omega),List.getElem?_append_left (by omega),List.getElem?_take,if_pos h1,Array.getElem?_toList]
 ·rw [List.getElem?_append_right (by omega),hl]
  by_cases h2:i<o+vs.length
  ·rw [if_pos (by omega),List.getElem?_append_left (by omega)]
  ·rw [if_neg (by omega),List.getElem?_append_right (by omega),List.getElem?_drop,Array.getElem?_toList]
   congr 1
   omega
theorem a56 {P:Program} {t:TypeId} {v:Value} {g o:Nat} {cur:Array Value} {e:TypeId} (hh:w.heap[g]?=some (.cells cur e (0,0))) (hk:P.cellsOf t=v.cells.size) (h0:0<v.cells.size)
  (hfit:o+v.cells.size<=cur.size) (h1:∀ j,j<v.cells.size->∃ u,v.cells[j]?=some u/\u.oneCell'=true) :
  (Instr.storeAt t (.pointer (some ⟨g,o,none⟩)) v).run P w=.ok () (w.setRow g (cur.toList.take o++v.cells.toList++cur.toList.drop (o+v.cells.toList.length)).toArray):=by
 have hs:=run_storeCells_at P g o e v.cells.toList 0 cur w hh (by simpa using hfit) (fun u hu=>by
  obtain⟨i,hi,rfl⟩:=List.mem_iff_getElem.1 hu
  obtain⟨u',hu',ho⟩:=h1 i (by simpa using hi)
  rw [Array.getElem?_eq_getElem (by simpa using hi)] at hu'
  simp only [Option.some.injEq] at hu'
  simpa [hu'] using ho)
 simp only [Nat.add_zero] at hs
 simp [Instr.storeAt,Instr.sureAddr,storeVar,a0P (P:=P) (w:=w) hk h0]
 simpa using hs
theorem b7b {P:Program} {st:AS} {o:Oper} {t:TypeId} {x y:Operand} {K:AS->Prop} (ho:o.op=.store t x y) (h:a6k P st t (st.ev x) (st.ev y) o.dst K):OpW P o st K:=by
 intro c η a w next Q hsr hnext
 have hev:∀ x,Rep w η (a0Y c η st.hp) (st.ev x) (a.eval x):=a1X hsr.slots
 have fin:∀ w',(Instr.storeAt t (a.eval x) (a.eval y)).run P w=.ok () w'->next (a.put o.dst undef) w'->o.wp P a w next Q:=fun w' hr hn=>by
  unfold Oper.wp
  have:(execOp a.eval o).run P w=.ok .skip w':=by
   unfold execOp
   rw [ho]
   simp [hr]
  rw [this]
  exact hn
 have hx:=hev x
 have hy:=hev y
 unfold a6k at h
 split at h
 ·rename_i p ver j k e hxe hye
  rw [hxe] at hx
  split at h
  ·rename_i v ety m cc hrow
   obtain⟨⟨rfl,hk,h0,hm,hd⟩,hK⟩:=h
   obtain⟨g,cap,hη,hxv⟩:=hx
   have hr:=hsr.hs.rows p
   rw [hrow] at hr
   obtain⟨b,cur,hb,hh,hsz,hc⟩:=hr _ _ hη
   obtain rfl:g=b:=by simpa using hb
   obtain⟨hcs,hcells⟩:=a5y hye hy
   have hw:=a56 (P:=P) (t:=t) (o:=j) hh (by rw [hcs];exact hk) (by omega) (by omega) (fun q hq=>by
    obtain⟨u,hu,h1,_⟩:=hcells q (by omega);exact⟨u,hu,h1⟩)
   have hblk:(st.hp p).blk η=some g:=by rw [hrow];simp [Row.blk,Row.ver,hη]
   have hf:=a6u w g (cur.toList.take j++(a.eval y).cells.toList++cur.toList.drop (j+(a.eval y).cells.toList.length)).toArray
   have hO:∀ k,k<w.heap.size->k=g->a0Y c η st.hp k:=fun k _ e=>.inr ⟨p,by rw [e];exact hblk⟩
   have hlen:(a.eval y).cells.toList.length=k:=by simpa using hcs
   have hwr:=hsr.hs.write (row:=.box v ety m (stC cc j k e)) hblk (by rw [hrow];rfl) hf (by
    intro g' cap' he
    rw [hη] at he
    simp only [Option.some.injEq,Prod.mk.injEq] at he
    obtain⟨rfl,rfl⟩:=he
    refine⟨_,_,rfl,setRow_heap w g cur _ ety (0,0) hh,by simp [hcs];omega,fun i hi=>?_⟩
    rw [b0y cur _ j i (by omega)]
    unfold stC
    by_cases hji:j<=i/\i<j+k
    ·rw [if_pos (by omega),if_pos hji]
     obtain⟨u,hu,h1,hrep⟩:=hcells (i-j) (by omega)
     exact⟨u,by simpa using hu,h1,Rep.keep hf hO (fun _ _ h=>h) _ _ _ _ (Env.le_refl _) hrep⟩
    ·rw [if_neg (by omega),if_neg hji]
     obtain⟨u,hu,h1,hrep⟩:=hc i hi
     exact⟨u,hu,h1,Rep.keep hf hO (fun _ _ h=>h) _ _ _ _ (Env.le_refl _) hrep⟩)
   refine fin _ (by rw [hxv];exact hw) (hnext _ η _ _ (hsr.put (z:=.any) hd hwr.1 (fun q hq=>?_) hwr.2 trivial) hK)
   by_cases e:q=p
   ·subst e;rw [hsr.dead q hq] at hrow;cases hrow
   ·rw [a0f _ _ e];exact hsr.dead q hq
  ·exact h.elim
 ·rename_i p ver sz i j k e hxe hye
  rw [hxe] at hx
  split at h
  ·rename_i v ety sz' n cc hrow
   obtain⟨⟨rfl,rfl,hi,hk,h0,hm,hd⟩,hK⟩:=h
   obtain⟨g,cap,hη,hxv⟩:=hx
   have hr:=hsr.hs.rows p
   rw [hrow] at hr
   obtain⟨cur,hh,hsz,hn,hcm,hc⟩:=hr _ _ hη
   obtain⟨hcs,hcells⟩:=a5y hye hy
   have hfit:i*sz'+sz'<=cur.size:=by
    rw [hsz]
    have:(i+1)*sz'<=cap*sz':=Nat.mul_le_mul_right _ (by omega)
    rwa [Nat.add_mul,Nat.one_mul] at this
   have hw:=a56 (P:=P) (t:=t) (o:=i*sz'+j) hh (by rw [hcs];exact hk) (by omega) (by omega) (fun q hq=>by
    obtain⟨u,hu,h1,_⟩:=hcells q (by omega);exact⟨u,hu,h1⟩)
   have hblk:(st.hp p).blk η=some g:=by rw [hrow];simp [Row.blk,Row.ver,hη]
   have hf:=a6u w g (cur.toList.take (i*sz'+j)++(a.eval y).cells.toList++cur.toList.drop (i*sz'+j+(a.eval y).cells.toList.length)).toArray
   have hO:∀ k,k<w.heap.size->k=g->a0Y c η st.hp k:=fun k _ e=>.inr ⟨p,by rw [e];exact hblk⟩
   have hlen:(a.eval y).cells.toList.length=k:=by simpa using hcs
   have hwr:=hsr.hs.write (row:=.sl v ety sz' n (stE cc i j k e)) hblk (by rw [hrow];rfl) hf (by
    intro g' cap' he
    rw [hη] at he
    simp only [Option.some.injEq,Prod.mk.injEq] at he
    obtain⟨rfl,rfl⟩:=he
    refine⟨_,setRow_heap w g cur _ ety (0,0) hh,by simp [hcs];omega,hn,hcm,fun a' ha' b' hb'=>?_⟩
    rw [b0y cur _ (i*sz'+j) _ (by omega)]
    unfold stE
    by_cases hab:a'=i
    ·subst hab
     by_cases hjb:j<=b'/\b'<j+k
     ·rw [if_pos (by omega),if_pos (by omega)]
      obtain⟨u,hu,h1,hrep⟩:=hcells (b'-j) (by omega)
      refine⟨u,?_,h1,Rep.keep hf hO (fun _ _ h=>h) _ _ _ _ (Env.le_refl _) hrep⟩
      rw [show a'*sz'+b'-(a'*sz'+j)=b'-j by omega]
      simpa using hu
     ·rw [if_neg (by omega),if_neg (by omega)]
      obtain⟨u,hu,h1,hrep⟩:=hc a' ha' b' hb'
      exact⟨u,hu,h1,Rep.keep hf hO (fun _ _ h=>h) _ _ _ _ (Env.le_refl _) hrep⟩
    ·have hne:¬(i*sz'+j<=a'*sz'+b'/\a'*sz'+b'<i*sz'+j+k):=by
      rcases Nat.lt_or_gt_of_ne hab with hlt|hlt
      ·have:(a'+1)*sz'<=i*sz':=Nat.mul_le_mul_right _ (by omega)
       rw [Nat.add_mul,Nat.one_mul] at this
       omega
      ·have:(i+1)*sz'<=a'*sz':=Nat.mul_le_mul_right _ (by omega)
       rw [Nat.add_mul,Nat.one_mul] at this
       omega
     rw [if_neg (by rw [hlen];exact hne),if_neg (by simp [hab])]
     obtain⟨u,hu,h1,hrep⟩:=hc a' ha' b' hb'
     exact⟨u,hu,h1,Rep.keep hf hO (fun _ _ h=>h) _ _ _ _ (Env.le_refl _) hrep⟩)
   refine fin _ (by rw [hxv];exact hw) (hnext _ η _ _ (hsr.put (z:=.any) hd hwr.1 (fun q hq=>?_) hwr.2 trivial) hK)
   by_cases e:q=p
   ·subst e;rw [hsr.dead q hq] at hrow;cases hrow
   ·rw [a0f _ _ e];exact hsr.dead q hq
  ·exact h.elim
 ·exact h.elim
theorem a8T {b off k sz:Nat} {R:Nat->Nat->Value->Prop} (h:∀ i,i<k->∀ j,j<sz->∃ u,w.cell? ⟨b,off+(i*sz+j),none⟩=some u/\u.oneCell'=true/\R i j u) :
  ∃ news:List Value,news.length=k*sz/\(∀ q u,news[q]?=some u->w.cell? ((⟨b,off,none⟩:Addr).add q)=some u)/\(∀ u∈news,u.oneCell'=true)/\
   ∀ i,i<k->∀ j,j<sz->∃ u,news[i*sz+j]?=some u/\u.oneCell'=true/\R i j u:=by
 have hq:∀ q,q<k*sz->∃ u,w.cell? ⟨b,off+q,none⟩=some u/\u.oneCell'=true/\R (q / sz) (q % sz) u:=fun q hq=>by
  have hs:0<sz:=by
   rcases Nat.eq_zero_or_pos sz with e|e
   ·rw [e] at hq;simp at hq
   ·exact e
  have h1:q / sz<k:=(Nat.div_lt_iff_lt_mul hs).2 hq
  obtain⟨u,hu,ho,hr⟩:=h (q / sz) h1 (q % sz) (Nat.mod_lt _ hs)
  exact⟨u,by rw [Nat.mul_comm,Nat.div_add_mod] at hu;exact hu,ho,hr⟩
 refine⟨(List.range (k*sz)).map fun q=>(w.cell? ⟨b,off+q,none⟩).getD undef,by simp,fun q u hu=>?_,fun u hu=>?_,fun i hi j hj=>?_⟩
 ·rw [List.getElem?_map] at hu
  by_cases hlt:q<k*sz
  ·obtain⟨v,hv,_⟩:=hq q hlt
   simp [hlt,hv] at hu
   subst hu
   rw [a3A];exact hv
  ·simp [hlt] at hu
 ·obtain⟨q,hq',rfl⟩:=List.mem_map.1 hu
  obtain⟨v,hv,ho,_⟩:=hq q (by simpa using hq')
  simpa [hv] using ho
 ·have hb:i*sz+j<k*sz:=by
   have:(i+1)*sz<=k*sz:=Nat.mul_le_mul_right _ (by omega)
   rw [Nat.add_mul,Nat.one_mul] at this
   omega
  obtain⟨u,hu,ho,hr⟩:=h i hi j hj
  exact⟨u,by simp [hb,hu],ho,hr⟩
def apC (n:Nat) (c d:Nat->Nat->AV):Nat->Nat->AV:=fun i j=>if i<n then c i j else d (i-n) j
def a8M (P:Program) (e:TypeId) (sz n:Nat):Prop:=
 P.cellsOf e=sz/\0<sz/\0<P.bytesOf e/\n*P.bytesOf e<=140737488355328/\∃ z,a2g P e=some z/\z.length=sz
def vwA (hp:Nat->Row):AV->Prop
 | .ow p ver n=>match hp p with
   | .sl v _ _ n' _=>v=ver/\n<=n'
   | _=>False
 | _=>True
def c0p (P:Program) (st:AS) (t:TypeId) (x y:AV) (d:Option Tmp) (K:AS->Prop):Prop:=
 match P.underlying t,x,vw st.hp y with
 | some (.slice e),.ow p ver n,.sn k sz' dd=>match st.hp p with
   | .sl v ety sz n' cc=>(vwA st.hp y/\v=ver/\n'=n/\ety=e/\sz'=sz/\a0N st.sz d/\a8M P e sz (n+k))/\K ⟨a2b st.fr d (.ow p st.nx (n+k)),a0S st.hp p (.sl st.nx e sz (n+k) (apC n cc dd)),st.sz,st.top,st.nx+1,st.df⟩
   | _=>False
 | some (.slice e),.em,.sn k sz dd=>(vwA st.hp y/\a0N st.sz d/\a8M P e sz k)/\K ⟨a2b st.fr d (.ow st.top st.nx k),a0S st.hp st.top (.sl st.nx e sz k dd),st.sz,st.top+1,st.nx+1,st.df⟩
 | some (.slice e),x,.em=>a0N st.sz d/\(∃ b,b73 P t x=some b)/\0<P.cellsOf e/\(∀ w η L v,Rep w η L x v->∃ a n cap,v=.slice a n cap/\n<=cap)/\K ⟨a2b st.fr d x,st.hp,st.sz,st.top,st.nx,st.df⟩
 | _,_,_=>False
theorem a2H {P:Program} {t e ty:TypeId} (ht:P.underlying t=some (.slice e)) {k:Nat} (hk:P.cellsOf e=k) (h0:0<k) {a b:Option Addr} {n cap cap':Nat} (hn:n<=cap) :
  (Builtin.append_ #[t,t] ty #[.slice a n cap,.slice b 0 cap']).run P w=.ok (.slice a n cap) w:=by
 cases a<;>cases b<;>simp [Builtin.append_,run_underlying ht,a0P (P:=P) (w:=w) hk h0,Builtin.lenOf,hn,Builtin.firstCells,loadCells,loadCellsFrom,storeCells]
theorem b7q {L:Nat->Prop} (hrows:∀ p,a13 w η L (hp p)) {y:AV} {u:Value} {k sz:Nat} {dd:Nat->Nat->AV} (hy:vw hp y=.sn k sz dd) (hP:vwA hp y) (hr:Rep w η L y u) :
  ∃ a cap,u=.slice a k cap/\(0<k->0<sz->∃ b off,a=some ⟨b,off,none⟩/\∀ i,i<k->∀ j,j<sz->∃ u,w.cell? ⟨b,off+(i*sz+j),none⟩=some u/\u.oneCell'=true/\Rep w η L (dd i j) u):=by
 cases y with
 | sn n s d=>
   simp only [vw,vw0,AV.sn.injEq] at hy
   obtain⟨rfl,rfl,rfl⟩:=hy
   obtain⟨a,cap,rfl,_,h⟩:=hr
   exact⟨a,cap,rfl,fun h0 h1=>by obtain⟨b,off,e,_,hc⟩:=h h0 h1;exact⟨b,off,e,fun i hi j hj=>by obtain⟨u,h1,h2,h3⟩:=hc i hi j hj;exact⟨u,h1,h2,Rep.up h3⟩⟩⟩
 | ow p ver n=>
   simp only [vwA] at hP
   simp only [vw,vw0] at hy
   have hrow:=hrows p
   split at hP
   ·rename_i v ety s n' cc heq
    rw [heq] at hy hrow
    simp only [AV.sn.injEq] at hy
    obtain⟨rfl,rfl,rfl⟩:=hy
    obtain⟨rfl,hn⟩:=hP
    obtain⟨g,cap,hη,hv⟩:=hr
    have hrow:=hrow g cap hη
    cases g with
    | none=>
      obtain⟨rfl,a,rfl⟩:=hv
      exact⟨a,0,rfl,fun h=>absurd h (by omega)⟩
    | some g=>
      obtain⟨rfl,hcap⟩:=hv
      obtain⟨cur,hh,hsz,hnc,hm,hc⟩:=hrow
      refine⟨_,_,rfl,fun _ _=>⟨g,0,rfl,fun i hi j hj=>?_⟩⟩
      obtain⟨u,hu,h1,hrep⟩:=hc i (by omega) j hj
      exact⟨u,by rw [a0Z hh,Nat.zero_add];exact hu,h1,hrep⟩
   ·exact hP.elim
 | pt p ver j=>simp only [vw,vw0] at hy;split at hy<;>cases hy
 | pe p ver s i j=>simp only [vw,vw0] at hy;split at hy<;>cases hy
 | ag m c=>simp only [vw] at hy;cases hy
 | _=>simp only [vw,vw0] at hy;cases hy
theorem b0c {P:Program} {e:TypeId} {z:List Value} (h:a2g P e=some z):∃ i zv,P.info? e=some i/\i.zero=some zv/\zv.cells=z.toArray/\i.size=P.cellsOf e/\i.bytes=P.bytesOf e:=by
 unfold a2g at h
 cases hi:P.info? e with
 | none=>rw [hi] at h;cases h
 | some i=>
   rw [hi] at h
   cases hz:i.zero with
   | none=>simp [hz] at h
   | some zv=>
     simp only [hz,Option.bind_some] at h
     split at h
     ·simp only [Option.some.injEq] at h
      exact⟨i,zv,rfl,hz,by rw [<-h],by simp [Program.cellsOf,hi],by simp [Program.bytesOf,hi]⟩
     ·cases h
theorem a49 {η':Env} {L:Nat->Prop} {n k sz:Nat} {cc dd:Nat->Nat->AV} {olds news:List Value} {cur:Array Value} (ho:olds.length=n*sz)
  (hcur:∀ q,q<(n+k)*sz->cur[q]?=(olds++news)[q]?)
  (hold:∀ i,i<n->∀ j,j<sz->∃ u,olds[i*sz+j]?=some u/\u.oneCell'=true/\Rep w η' L (cc i j) u)
  (hnew:∀ i,i<k->∀ j,j<sz->∃ u,news[i*sz+j]?=some u/\u.oneCell'=true/\Rep w η' L (dd i j) u) :
  ∀ i,i<n+k->∀ j,j<sz->∃ u,cur[i*sz+j]?=some u/\u.oneCell'=true/\Rep w η' L (apC n cc dd i j) u:=by
 intro i hi j hj
 have hb:i*sz+j<(n+k)*sz:=by
  have:(i+1)*sz<=(n+k)*sz:=Nat.mul_le_mul_right _ (by omega)
  rw [Nat.add_mul,Nat.one_mul] at this
  omega
 rw [hcur _ hb]
 unfold apC
 by_cases h:i<n
 ·have hb':i*sz+j<n*sz:=by
   have:(i+1)*sz<=n*sz:=Nat.mul_le_mul_right _ (by omega)
   rw [Nat.add_mul,Nat.one_mul] at this
   omega
  rw [if_pos h,List.getElem?_append_left (by omega)]
  exact hold i h j hj
 ·have hge:n*sz<=i*sz:=Nat.mul_le_mul_right _ (by omega)
  rw [if_neg h,List.getElem?_append_right (by omega),ho]
  have:=hnew (i-n) (by omega) j hj
  rwa [Nat.sub_mul,<-Nat.sub_add_comm hge] at this
theorem c7r {P:Program} {st:AS} {o:Oper} {t t':TypeId} {x y:Operand} {K:AS->Prop} (ho:o.op=.call ⟨.builtin .append,⟨[x,y]⟩,⟨[t,t']⟩⟩) (ht:t'=t)
  (h:c0p P st t (st.ev x) (st.ev y) o.dst K):OpW P o st K:=by
 subst ht
 intro c η a w next Q hsr hnext
 have hev:∀ x,Rep w η (a0Y c η st.hp) (st.ev x) (a.eval x):=a1X hsr.slots
 have fin:∀ v w',(Builtin.append_ #[t',t'] o.type #[a.eval x,a.eval y]).run P w=.ok v w'->next (a.put o.dst v) w'->o.wp P a w next Q:=fun v w' hr hn=>by
  unfold Oper.wp
  have:(execOp a.eval o).run P w=.ok (.value v) w':=by
   unfold execOp
   rw [ho]
   simp [resolve,invoke,builtin,hr]
  rw [this]
  exact hn
 have hx:=hev x
 have hy:=hev y
 unfold c0p at h
 split at h
 ·
  rename_i e p ver n k sz' dd hu hxe hvw
  rw [hxe] at hx
  split at h
  ·rename_i v ety sz n' cc hrow
   obtain⟨⟨hP,rfl,rfl,rfl,rfl,hd,hsz,h0,hb0,hbytes,zl,hz,hzl⟩,hK⟩:=h
   obtain⟨i,zv,hi,hiz,hzc,his,hib⟩:=b0c hz
   obtain⟨b,capb,hyv,hcells⟩:=b7q hsr.hs.rows hvw hP hy
   obtain⟨g,cap,hη,hv⟩:=hx
   have hr:=hsr.hs.rows p
   rw [hrow] at hr
   have hr:=hr g cap hη
   have hdead:∀ q row,st.top<=q->a0S st.hp p row q=.dead\/q=p:=fun q row hq=>by
    by_cases e:q=p
    ·exact .inr e
    ·rw [a0f _ _ e];exact .inl (hsr.dead q hq)
   have hpt:p<st.top:=by
    rcases Nat.lt_or_ge p st.top with h|h
    ·exact h
    ·rw [hsr.dead p h] at hrow;cases hrow
   have finish:∀ (v':Value) (w':World) (r:Option Nat×Nat) (O:Nat->Prop),(Builtin.append_ #[t',t'] o.type #[a.eval x,a.eval y]).run P w=.ok v' w'->Fr O w w'->
     (∀ k,k<w.heap.size->O k->(st.hp p).blk η=some k)->(∀ g,r.1=some g->(st.hp p).blk η=some g\/(w.heap.size<=g/\g<w'.heap.size))->
     ((∀ x u,Rep w η (a0Y c η st.hp) x u->Rep w' (a1Q η st.nx r) (a0Y c (a1Q η st.nx r) (a0S st.hp p (.sl st.nx ety sz' (n'+k) (apC n' cc dd)))) x u)->
      a13 w' (a1Q η st.nx r) (a0Y c (a1Q η st.nx r) (a0S st.hp p (.sl st.nx ety sz' (n'+k) (apC n' cc dd)))) (.sl st.nx ety sz' (n'+k) (apC n' cc dd)))->
     (match r.1 with|none=>n'+k=0/\∃ a,v'=.slice a 0 0|some g=>v'=.slice (some ⟨g,0,none⟩) (n'+k) r.2/\n'+k<=r.2)->o.wp P a w next Q:=by
    intro v' w' r O hrun hf hO hrb hrok hval
    obtain⟨hs',hkeep⟩:=hsr.hs.swap (p:=p) (row:=.sl st.nx ety sz' (n'+k) (apC n' cc dd)) (r:=r) rfl hf hO hrb hrok
    refine fin v' w' hrun (hnext _ (a1Q η st.nx r) _ _ (hsr.put hd hs' (fun q hq=>(hdead q _ hq).resolve_right (by omega)) hkeep ?_) hK)
    exact⟨r.1,r.2,a0Q _ _ _,hval⟩
   have hmb:(n'+k)*1<=(n'+k)*P.bytesOf ety:=Nat.mul_le_mul_left _ hb0
   by_cases hk0:k=0
   ·
    subst hk0
    have hcapn:∃ av nn cp,a.eval x=.slice av nn cp/\nn<=cp:=by
     cases g with
     | none=>obtain⟨_,av,e⟩:=hv;exact⟨av,0,0,e,Nat.le_refl _⟩
     | some g=>obtain⟨e,hc⟩:=hv;exact⟨_,_,_,e,hc⟩
    obtain⟨av,nn,cp,hxv,hcp⟩:=hcapn
    refine finish (a.eval x) w (g,cap) (fun _=>False) (by rw [hxv,hyv];exact a2H hu hsz h0 hcp) (Fr.refl _ _) (fun _ _ h=>h.elim) (fun g' hg'=>.inl ?_) (fun hkeep=>?_) ?_
    ·simp only at hg'
     rw [hrow];simp [Row.blk,Row.ver,hη,hg']
    ·intro g' cap' he
     rw [a0Q] at he
     simp only [Option.some.injEq,Prod.mk.injEq] at he
     obtain⟨rfl,rfl⟩:=he
     cases g with
     | none=>simpa using hr
     | some g=>
       obtain⟨cur,hh,hcs,hnc,hcm,hc⟩:=hr
       refine⟨cur,hh,hcs,by omega,hcm,fun i hi j hj=>?_⟩
       obtain⟨u,hu',h1,hrep⟩:=hc i (by omega) j hj
       exact⟨u,hu',h1,by unfold apC;rw [if_pos (by omega)];exact hkeep _ _ hrep⟩
    ·cases g with
     | none=>simpa using hv
     | some g=>simpa using hv
   ·obtain⟨bb,off,rfl,hcell⟩:=hcells (by omega) (by rw [<-hsz];omega)
    obtain⟨news,hnl,hnc,hn1,hnr⟩:=a8T hcell
    cases g with
    | none=>
      obtain⟨rfl,av,hxv⟩:=hv
      have hgrow:∃ cap',(Builtin.append_ #[t',t'] o.type #[a.eval x,a.eval y]).run P w=.ok (.slice (some ⟨w.heap.size,0,none⟩) k cap')
        (w.drew.alloc (.cells (news.toArray++Builtin.zeroCells zv.cells (cap'-k)) ety))/\k<=cap'/\cap'<=maxLen:=by
       have hm:k<=maxLen:=by simp only [maxLen];omega
       refine⟨grownCap w k 0 ety,?_,grownCap_ge _ _ _ _,grownCap_le_maxLen _ _ _ _ hm⟩
       rw [hxv,hyv]
       have hk48:k*i.bytes<=281474976710656:=by rw [hib];simp only [Nat.zero_add] at hbytes;omega
       cases av with
       | none=>exact run_append_nil (P:=P) w t' o.type ety i zv hu hi hiz _ k capb news (by rw [his,hsz];exact hnl) hnc (by omega) (by omega) hk48
       | some ad=>
         have:=run_append_grow (P:=P) w t' o.type ety i zv hu hi hiz ad 0 0 [] (by simp) (by simp) ⟨bb,off,none⟩ k capb news (by rw [his,hsz];exact hnl) hnc (by omega) (by omega)
          (growslice_fits (by omega) (by rw [hib];exact hbytes))
         simpa using this
      obtain⟨cap',hrun,hge,hle⟩:=hgrow
      have hf:Fr (fun _=>False) w (w.drew.alloc (.cells (news.toArray++Builtin.zeroCells zv.cells (cap'-k)) ety)):=(Fr.refl _ w).drew.trans (Fr.alloc _ _ _)
      refine finish _ _ (some w.heap.size,cap') (fun _=>False) hrun hf (fun _ _ h=>h.elim) (fun g' hg'=>.inr ?_) (fun hkeep=>?_) ⟨by rw [Nat.zero_add],by omega⟩
      ·simp only [Option.some.injEq] at hg'
       subst hg'
       simp
      ·intro g' cap'' he
       rw [a0Q] at he
       simp only [Option.some.injEq,Prod.mk.injEq] at he
       obtain⟨rfl,rfl⟩:=he
       refine⟨_,heap_alloc_new w.drew _,?_,by omega,hle,?_⟩
       ·simp only [Array.size_append,List.size_toArray,size_zeroCells,hzc,hzl,hnl,<-Nat.add_mul]
        congr 1
        omega
       ·refine a49 (olds:=[]) (news:=news) (by simp) (fun q hq=>?_) (fun i hi=>absurd hi (by omega)) (fun i hi j hj=>?_)
        ·rw [Nat.zero_add] at hq
         rw [List.nil_append,Array.getElem?_append_left (by simp only [List.size_toArray];omega),List.getElem?_toArray]
        ·obtain⟨u,hu',h1,hrep⟩:=hnr i hi j hj
         exact⟨u,hu',h1,hkeep _ _ hrep⟩
    | some g=>
      obtain⟨hxv,hcap⟩:=hv
      obtain⟨cur,hh,hcs,hncap,hcm,hc⟩:=hr
      have hblk:(st.hp p).blk η=some g:=by rw [hrow];simp [Row.blk,Row.ver,hη]
      have hold:(cur.toList.take (n'*sz')).length=n'*sz':=by
       have:n'*sz'<=cap*sz':=Nat.mul_le_mul_right _ hncap
       simp;omega
      have holdr:∀ (w':World) (η':Env) (L':Nat->Prop),(∀ x u,Rep w η (a0Y c η st.hp) x u->Rep w' η' L' x u)->∀ i,i<n'->∀ j,j<sz'->∃ u,(cur.toList.take (n'*sz'))[i*sz'+j]?=some u/\u.oneCell'=true/\Rep w' η' L' (cc i j) u:=by
       intro w' η' L' hkeep i hi j hj
       obtain⟨u,hu',h1,hrep⟩:=hc i hi j hj
       have hb':i*sz'+j<n'*sz':=by
        have:(i+1)*sz'<=n'*sz':=Nat.mul_le_mul_right _ (by omega)
        rw [Nat.add_mul,Nat.one_mul] at this
        omega
       exact⟨u,by rw [List.getElem?_take,if_pos hb',Array.getElem?_toList];exact hu',h1,hkeep _ _ hrep⟩
      by_cases hroom:n'+k<=cap
      ·
       have hrun:=run_append_room (P:=P) w t' o.type ety i hu hi g n' cap cur hh ⟨bb,off,none⟩ k capb news (by rw [his,hsz];exact hnl) hnc hn1 hroom (by
        rw [his,hsz,hnl,hcs,<-Nat.add_mul];exact Nat.mul_le_mul_right _ hroom)
       rw [his,hsz] at hrun
       refine finish _ _ (some g,cap) (fun b=>b=g) (by rw [hxv,hyv];exact hrun) (a6u w g _) (fun k _ e=>by rw [e];exact hblk) (fun g' hg'=>.inl (by simp only [Option.some.injEq] at hg';rw [<-hg'];exact hblk)) (fun hkeep=>?_) ⟨rfl,hroom⟩
       intro g' cap'' he
       rw [a0Q] at he
       simp only [Option.some.injEq,Prod.mk.injEq] at he
       obtain⟨rfl,rfl⟩:=he
       have hle:n'*sz'+news.length<=cur.size:=by rw [hnl,hcs,<-Nat.add_mul];exact Nat.mul_le_mul_right _ hroom
       refine⟨_,setRow_heap w g cur _ ety (0,0) hh,?_,hroom,hcm,?_⟩
       ·simp only [List.size_toArray,List.length_append,List.length_take,List.length_drop,Array.length_toList]
        omega
       ·refine a49 (olds:=cur.toList.take (n'*sz')) (news:=news) hold (fun q hq=>?_) (holdr _ _ _ hkeep) (fun i hi j hj=>?_)
        ·rw [List.getElem?_toArray]
         rw [List.getElem?_append_left (by rw [List.length_append,hold,hnl,<-Nat.add_mul];exact hq)]
        ·obtain⟨u,hu',h1,hrep⟩:=hnr i hi j hj
         exact⟨u,hu',h1,hkeep _ _ hrep⟩
      ·
       have hrun:=run_append_grow (P:=P) w t' o.type ety i zv hu hi hiz ⟨g,0,none⟩ n' cap (cur.toList.take (n'*sz')) (by rw [his,hsz];exact hold) (fun j v hj=>by
         rw [a3A,Nat.zero_add,a0Z hh,<-Array.getElem?_toList]
         rw [List.getElem?_take] at hj
         split at hj
         ·exact hj
         ·cases hj) ⟨bb,off,none⟩ k capb news (by rw [his,hsz];exact hnl) hnc (by omega) (by omega) (growslice_fits (by omega) (by rw [hib];exact hbytes))
       have hm:n'+k<=maxLen:=by simp only [maxLen];omega
       have hge:=grownCap_ge w (n'+k) cap ety
       have hle:=grownCap_le_maxLen w (n'+k) cap ety hm
       generalize grownCap w (n'+k) cap ety=cap' at hrun hge hle
       have hf:Fr (fun _=>False) w (w.drew.alloc (.cells ((cur.toList.take (n'*sz')).toArray++news.toArray++Builtin.zeroCells zv.cells (cap'-(n'+k))) ety)):=(Fr.refl _ w).drew.trans (Fr.alloc _ _ _)
       refine finish _ _ (some w.heap.size,cap') (fun _=>False) (by rw [hxv,hyv];exact hrun) hf (fun _ _ h=>h.elim) (fun g' hg'=>.inr ?_) (fun hkeep=>?_) ⟨rfl,hge⟩
       ·simp only [Option.some.injEq] at hg'
        subst hg'
        simp
       ·intro g' cap'' he
        rw [a0Q] at he
        simp only [Option.some.injEq,Prod.mk.injEq] at he
        obtain⟨rfl,rfl⟩:=he
        refine⟨_,heap_alloc_new w.drew _,?_,hge,hle,?_⟩
        ·simp only [Array.size_append,List.size_toArray,size_zeroCells,hzc,hzl,hnl,hold,<-Nat.add_mul]
         congr 1
         omega
        ·refine a49 (olds:=cur.toList.take (n'*sz')) (news:=news) hold (fun q hq=>?_) (holdr _ _ _ hkeep) (fun i hi j hj=>?_)
         ·rw [Array.getElem?_append_left (by simp only [Array.size_append,List.size_toArray,hold,hnl,<-Nat.add_mul];exact hq)]
          simp only [List.append_toArray,List.getElem?_toArray]
         ·obtain⟨u,hu',h1,hrep⟩:=hnr i hi j hj
          exact⟨u,hu',h1,hkeep _ _ hrep⟩
  ·exact h.elim
 ·
  rename_i e k sz' dd hu hxe hvw
  rw [hxe] at hx
  obtain⟨⟨hP,hd,hsz,h0,hb0,hbytes,zl,hz,hzl⟩,hK⟩:=h
  obtain⟨i,zv,hi,hiz,hzc,his,hib⟩:=b0c hz
  obtain⟨b,capb,hyv,hcells⟩:=b7q hsr.hs.rows hvw hP hy
  obtain⟨av,hxv⟩:=hx
  have hnone:(st.hp st.top).blk η=none:=by rw [hsr.dead _ (Nat.le_refl _)];rfl
  have finish:∀ (v':Value) (w':World) (r:Option Nat×Nat),(Builtin.append_ #[t',t'] o.type #[a.eval x,a.eval y]).run P w=.ok v' w'->Fr (fun _=>False) w w'->
    (∀ g,r.1=some g->w.heap.size<=g/\g<w'.heap.size)->
    ((∀ x u,Rep w η (a0Y c η st.hp) x u->Rep w' (a1Q η st.nx r) (a0Y c (a1Q η st.nx r) (a0S st.hp st.top (.sl st.nx e sz' k dd))) x u)->
     a13 w' (a1Q η st.nx r) (a0Y c (a1Q η st.nx r) (a0S st.hp st.top (.sl st.nx e sz' k dd))) (.sl st.nx e sz' k dd))->
    (match r.1 with|none=>k=0/\∃ a,v'=.slice a 0 0|some g=>v'=.slice (some ⟨g,0,none⟩) k r.2/\k<=r.2)->o.wp P a w next Q:=by
   intro v' w' r hrun hf hrb hrok hval
   obtain⟨hs',hkeep⟩:=hsr.hs.swap (p:=st.top) (row:=.sl st.nx e sz' k dd) (r:=r) rfl hf (fun _ _ h=>h.elim) (fun g hg=>.inr (hrb g hg)) hrok
   refine fin v' w' hrun (hnext _ (a1Q η st.nx r) _ _ (hsr.put hd hs' (fun q hq=>?_) hkeep ?_) hK)
   ·rw [a0f _ _ (by omega)];exact hsr.dead q (by omega)
   ·exact⟨r.1,r.2,a0Q _ _ _,hval⟩
  have hmb:k*1<=k*P.bytesOf e:=Nat.mul_le_mul_left _ hb0
  by_cases hk0:k=0
  ·subst hk0
   refine finish (a.eval x) w (none,0) (by rw [hxv,hyv];exact a2H hu hsz h0 (Nat.le_refl _)) (Fr.refl _ _) (fun g hg=>by cases hg) (fun _=>?_) ⟨rfl,av,hxv⟩
   intro g' cap' he
   rw [a0Q] at he
   simp only [Option.some.injEq,Prod.mk.injEq] at he
   obtain⟨rfl,rfl⟩:=he
   rfl
  ·obtain⟨bb,off,rfl,hcell⟩:=hcells (by omega) (by rw [<-hsz];omega)
   obtain⟨news,hnl,hnc,hn1,hnr⟩:=a8T hcell
   have hgrow:∃ cap',(Builtin.append_ #[t',t'] o.type #[a.eval x,a.eval y]).run P w=.ok (.slice (some ⟨w.heap.size,0,none⟩) k cap')
     (w.drew.alloc (.cells (news.toArray++Builtin.zeroCells zv.cells (cap'-k)) e))/\k<=cap'/\cap'<=maxLen:=by
    have hm:k<=maxLen:=by simp only [maxLen];omega
    refine⟨grownCap w k 0 e,?_,grownCap_ge _ _ _ _,grownCap_le_maxLen _ _ _ _ hm⟩
    rw [hxv,hyv]
    have hk48:k*i.bytes<=281474976710656:=by rw [hib];omega
    cases av with
    | none=>exact run_append_nil (P:=P) w t' o.type e i zv hu hi hiz _ k capb news (by rw [his,hsz];exact hnl) hnc (by omega) (by omega) hk48
    | some ad=>
      have:=run_append_grow (P:=P) w t' o.type e i zv hu hi hiz ad 0 0 [] (by simp) (by simp) ⟨bb,off,none⟩ k capb news (by rw [his,hsz];exact hnl) hnc (by omega) (by omega)
       (growslice_fits (by omega) (by rw [hib,Nat.zero_add];exact hbytes))
      simpa using this
   obtain⟨cap',hrun,hge,hle⟩:=hgrow
   have hf:Fr (fun _=>False) w (w.drew.alloc (.cells (news.toArray++Builtin.zeroCells zv.cells (cap'-k)) e)):=(Fr.refl _ w).drew.trans (Fr.alloc _ _ _)
   refine finish _ _ (some w.heap.size,cap') hrun hf (fun g' hg'=>?_) (fun hkeep=>?_) ⟨rfl,hge⟩
   ·simp only [Option.some.injEq] at hg'
    subst hg'
    simp
   ·intro g' cap'' he
    rw [a0Q] at he
    simp only [Option.some.injEq,Prod.mk.injEq] at he
    obtain⟨rfl,rfl⟩:=he
    refine⟨_,heap_alloc_new w.drew _,?_,hge,hle,fun i hi j hj=>?_⟩
    ·simp only [Array.size_append,List.size_toArray,size_zeroCells,hzc,hzl,hnl,<-Nat.add_mul]
     congr 1
     omega
    ·obtain⟨u,hu',h1,hrep⟩:=hnr i hi j hj
     have hb':i*sz'+j<k*sz':=by
      have:(i+1)*sz'<=k*sz':=Nat.mul_le_mul_right _ (by omega)
      rw [Nat.add_mul,Nat.one_mul] at this
      omega
     exact⟨u,by rw [Array.getElem?_append_left (by simp only [List.size_toArray];omega),List.getElem?_toArray];exact hu',h1,hkeep _ _ hrep⟩
 ·
  rename_i e x' hu hvw
  obtain⟨hd,⟨b,hb⟩,h0,hcap,hK⟩:=h
  have hyv:∃ av,a.eval y=.slice av 0 0:=by
   have hyy:vw st.hp (st.ev y)=.em:=hvw
   generalize st.ev y=y' at hy hyy
   cases y' with
   | em=>exact hy
   | ow p ver n=>simp only [vw,vw0] at hyy;split at hyy<;>cases hyy
   | pt p ver j=>simp only [vw,vw0] at hyy;split at hyy<;>cases hyy
   | pe p ver s i j=>simp only [vw,vw0] at hyy;split at hyy<;>cases hyy
   | ag m c=>simp only [vw] at hyy;cases hyy
   | _=>simp only [vw,vw0] at hyy;cases hyy
  obtain⟨av,hyv⟩:=hyv
  obtain⟨bv,n,cap,hxv,hn⟩:=hcap _ _ _ _ hx
  exact fin (a.eval x) w (by rw [hxv,hyv];exact a2H hu rfl h0 hn) (hnext _ η _ _ (hsr.put hd hsr.hs hsr.dead (fun _ _ h=>h) hx) hK)
 ·exact h.elim
def b8K (P:Program) (st:AS) (t:TypeId) (x y:AV) (d:Option Tmp) (K:AS->Prop):Prop:=
 match P.underlying t,x,vw st.hp y with
 | some (.slice e),.em,.sn k sz dd=>(vwP st.hp y/\a0N st.sz d/\a8M P e sz k)/\K ⟨a2b st.fr d (.sn k sz dd),st.hp,st.sz,st.top,st.nx,st.df⟩
 | some (.slice e),.em,.em=>(0<P.cellsOf e/\a0N st.sz d)/\K ⟨a2b st.fr d .em,st.hp,st.sz,st.top,st.nx,st.df⟩
 | _,_,_=>False
theorem c24 {L:Nat->Prop} (hrows:∀ p,a13 w η L (hp p)) {y:AV} {u:Value} {k sz:Nat} {dd:Nat->Nat->AV} (hy:vw hp y=.sn k sz dd) (hP:vwP hp y) (hr:Rep w η L y u) :
  ∃ a cap,u=.slice a k cap/\(0<k->0<sz->∃ b off,a=some ⟨b,off,none⟩/\∀ i,i<k->∀ j,j<sz->∃ u,w.cell? ⟨b,off+(i*sz+j),none⟩=some u/\u.oneCell'=true/\Rep w a1l L (dd i j) u):=by
 cases y with
 | sn n s d=>
   simp only [vw,vw0,AV.sn.injEq] at hy
   obtain⟨rfl,rfl,rfl⟩:=hy
   obtain⟨a,cap,rfl,_,h⟩:=hr
   exact⟨a,cap,rfl,fun h0 h1=>by obtain⟨b,off,e,_,hc⟩:=h h0 h1;exact⟨b,off,e,hc⟩⟩
 | ow p ver n=>
   simp only [vwP,b2y] at hP
   simp only [vw,vw0] at hy
   have hrow:=hrows p
   split at hP
   ·rename_i v ety s n' cc heq
    rw [heq] at hy hrow
    simp only [AV.sn.injEq] at hy
    obtain⟨rfl,rfl,rfl⟩:=hy
    obtain⟨rfl,hn,hfl⟩:=hP
    obtain⟨g,cap,hη,hv⟩:=hr
    have hrow:=hrow g cap hη
    cases g with
    | none=>
      obtain⟨rfl,a,rfl⟩:=hv
      exact⟨a,0,rfl,fun h=>absurd h (by omega)⟩
    | some g=>
      obtain⟨rfl,hcap⟩:=hv
      obtain⟨cur,hh,hsz,hnc,hm,hc⟩:=hrow
      refine⟨_,_,rfl,fun _ _=>⟨g,0,rfl,fun i hi j hj=>?_⟩⟩
      obtain⟨u,hu,h1,hrep⟩:=hc i (by omega) j hj
      exact⟨u,by rw [a0Z hh,Nat.zero_add];exact hu,h1,a3d (hfl i hi j hj) hrep⟩
   ·exact hP.elim
 | pt p ver j=>simp only [vw,vw0] at hy;split at hy<;>cases hy
 | pe p ver s i j=>simp only [vw,vw0] at hy;split at hy<;>cases hy
 | ag m c=>simp only [vw] at hy;cases hy
 | _=>simp only [vw,vw0] at hy;cases hy
theorem c9y {P:Program} {st:AS} {o:Oper} {t t':TypeId} {x y:Operand} {K:AS->Prop} (ho:o.op=.call ⟨.builtin .append,⟨[x,y]⟩,⟨[t,t']⟩⟩) (ht:t'=t)
  (h:b8K P st t (st.ev x) (st.ev y) o.dst K):OpW P o st K:=by
 subst ht
 intro c η a w next Q hsr hnext
 have hev:∀ x,Rep w η (a0Y c η st.hp) (st.ev x) (a.eval x):=a1X hsr.slots
 have fin:∀ v w',(Builtin.append_ #[t',t'] o.type #[a.eval x,a.eval y]).run P w=.ok v w'->next (a.put o.dst v) w'->o.wp P a w next Q:=fun v w' hr hn=>by
  unfold Oper.wp
  have:(execOp a.eval o).run P w=.ok (.value v) w':=by
   unfold execOp
   rw [ho]
   simp [resolve,invoke,builtin,hr]
  rw [this]
  exact hn
 have hx:=hev x
 have hy:=hev y
 unfold b8K at h
 split at h
 ·rename_i e k sz' dd hu hxe hvw
  rw [hxe] at hx
  obtain⟨⟨hP,hd,hsz,h0,hb0,hbytes,zl,hz,hzl⟩,hK⟩:=h
  obtain⟨i,zv,hi,hiz,hzc,his,hib⟩:=b0c hz
  obtain⟨b,capb,hyv,hcells⟩:=c24 hsr.hs.rows hvw hP hy
  obtain⟨av,hxv⟩:=hx
  have hmb:k*1<=k*P.bytesOf e:=Nat.mul_le_mul_left _ hb0
  have finish:∀ (v':Value) (w':World),(Builtin.append_ #[t',t'] o.type #[a.eval x,a.eval y]).run P w=.ok v' w'->Fr (fun _=>False) w w'->Rep w' η (a0Y c η st.hp) (.sn k sz' dd) v'->o.wp P a w next Q:=by
   intro v' w' hrun hf hrep
   exact fin v' w' hrun (hnext _ η _ _ (hsr.put hd (hsr.hs.world hf) hsr.dead (fun x u hx=>Rep.keep hf (fun _ _ h=>h.elim) (fun _ _ h=>h) x η η u (Env.le_refl _) hx) hrep) hK)
  by_cases hk0:k=0
  ·subst hk0
   refine finish (a.eval x) w (by rw [hxv,hyv];exact a2H hu hsz h0 (Nat.le_refl _)) (Fr.refl _ _) ?_
   rw [hxv]
   exact⟨av,0,rfl,Nat.le_refl _,fun h=>absurd h (by omega)⟩
  ·obtain⟨bb,off,rfl,hcell⟩:=hcells (by omega) (by rw [<-hsz];omega)
   obtain⟨news,hnl,hnc,hn1,hnr⟩:=a8T hcell
   have hgrow:∃ cap',(Builtin.append_ #[t',t'] o.type #[a.eval x,a.eval y]).run P w=.ok (.slice (some ⟨w.heap.size,0,none⟩) k cap')
     (w.drew.alloc (.cells (news.toArray++Builtin.zeroCells zv.cells (cap'-k)) e))/\k<=cap':=by
    have hm:k<=maxLen:=by simp only [maxLen];omega
    refine⟨grownCap w k 0 e,?_,grownCap_ge _ _ _ _⟩
    rw [hxv,hyv]
    have hk48:k*i.bytes<=281474976710656:=by rw [hib];omega
    cases av with
    | none=>exact run_append_nil (P:=P) w t' o.type e i zv hu hi hiz _ k capb news (by rw [his,hsz];exact hnl) hnc (by omega) (by omega) hk48
    | some ad=>
      have:=run_append_grow (P:=P) w t' o.type e i zv hu hi hiz ad 0 0 [] (by simp) (by simp) ⟨bb,off,none⟩ k capb news (by rw [his,hsz];exact hnl) hnc (by omega) (by omega)
       (growslice_fits (by omega) (by rw [hib,Nat.zero_add];exact hbytes))
      simpa using this
   obtain⟨cap',hrun,hge⟩:=hgrow
   have hf:Fr (fun _=>False) w (w.drew.alloc (.cells (news.toArray++Builtin.zeroCells zv.cells (cap'-k)) e)):=(Fr.refl _ w).drew.trans (Fr.alloc _ _ _)
   refine finish _ _ hrun hf ⟨_,cap',rfl,hge,fun _ _=>⟨w.heap.size,0,rfl,fun hl=>?_,fun i hi j hj=>?_⟩⟩
   ·rcases hl with hl|⟨q,hq⟩
    ·have:=hsr.hs.lx.lt _ hl;have:=hsr.hs.fr.size;omega
    ·have:=(hsr.hs.own q _ hq).2.2;omega
   ·obtain⟨u,hu',h1,hrep⟩:=hnr i hi j hj
    have hb':i*sz'+j<k*sz':=by
     have:(i+1)*sz'<=k*sz':=Nat.mul_le_mul_right _ (by omega)
     rw [Nat.add_mul,Nat.one_mul] at this
     omega
    refine⟨u,?_,h1,Rep.keep hf (fun _ _ h=>h.elim) (fun _ _ h=>h) _ _ _ _ (Env.le_refl _) hrep⟩
    refine (a0Z (heap_alloc_new w.drew _)).trans ?_
    rw [Nat.zero_add,Array.getElem?_append_left (by simp only [List.size_toArray];omega),List.getElem?_toArray]
    exact hu'
 ·rename_i e hu hxe hvw
  obtain⟨⟨h0,hd⟩,hK⟩:=h
  rw [hxe] at hx
  have hyv:∃ av,a.eval y=.slice av 0 0:=by
   have hyy:vw st.hp (st.ev y)=.em:=hvw
   generalize st.ev y=y' at hy hyy
   cases y' with
   | em=>exact hy
   | ow p ver n=>simp only [vw,vw0] at hyy;split at hyy<;>cases hyy
   | pt p ver j=>simp only [vw,vw0] at hyy;split at hyy<;>cases hyy
   | pe p ver s i j=>simp only [vw,vw0] at hyy;split at hyy<;>cases hyy
   | ag m c=>simp only [vw] at hyy;cases hyy
   | _=>simp only [vw,vw0] at hyy;cases hyy
  obtain⟨av,hyv⟩:=hyv
  obtain⟨bv,hxv⟩:=hx
  exact fin (a.eval x) w (by rw [hxv,hyv];exact a2H hu rfl h0 (Nat.le_refl _)) (hnext _ η _ _ (hsr.put (z:=.em) hd hsr.hs hsr.dead (fun _ _ h=>h) ⟨bv,hxv⟩) hK)
 ·exact h.elim
def a7X (P:Program) (st:AS) (t:TypeId) (n:Nat) (parts:List (Nat×AV)) (d:Option Tmp) (K:AS->Prop):Prop:=
 match P.underlying t with
 | some (.slice e)=>match a2g P e,a2I (P.cellsOf e) 0 parts with
   | some z,some l=>(l.length=n/\0<n/\z.length=P.cellsOf e/\0<P.cellsOf e/\n*P.cellsOf e<=16777216/\a0N st.sz d)/\
     K ⟨a2b st.fr d (.ow st.top st.nx n),a0S st.hp st.top (.sl st.nx e (P.cellsOf e) n fun i=>l.getD i fun _=>.any),st.sz,st.top+1,st.nx+1,st.df⟩
   | _,_=>False
 | _=>False
theorem b6l {sz m:Nat}:∀ (parts:List (Nat×AV)) (k:Nat) (c:Nat->AV) (l:List (Nat->AV)),a2I sz k parts=some l->(k+l.length)*sz<=m->
  ∃ c',a50 (fun i=>some (i*sz,sz)) m c parts=some c'
 | [],_,c,_,_,_=>⟨c,rfl⟩
 | (i,x)::r,k,c,l,ho,hm=>by
   unfold a2I at ho
   cases hx:a1u x with
   | none=>rw [hx] at ho;cases ho
   | some y=>
     obtain⟨k',d⟩:=y
     simp only [hx] at ho
     split at ho
     ·rename_i e
      obtain⟨rfl,rfl⟩:=e
      cases hr:a2I k' (i+1) r with
      | none=>rw [hr] at ho;cases ho
      | some l'=>
        rw [hr] at ho
        simp only [Option.map_some,Option.some.injEq] at ho
        subst ho
        simp only [List.length_cons] at hm
        unfold a50
        simp only [hx]
        have h1:(i+1)*k'<=(i+(l'.length+1))*k':=Nat.mul_le_mul_right _ (by omega)
        rw [Nat.add_mul] at h1
        rw [if_pos ⟨trivial,by omega⟩]
        exact b6l r (i+1) _ l' hr (by rw [show i+1+l'.length=i+(l'.length+1) by omega];exact hm)
     ·cases ho
theorem a9r {P:Program} {st:AS} {o:Oper} {t:TypeId} {n:Nat} {parts:Array (Nat×Operand)} {K:AS->Prop} (ho:o.op=.buildSlice t n parts)
  (h:a7X P st t n (parts.toList.map fun a=>(a.1,st.ev a.2)) o.dst K):OpW P o st K:=by
 intro c η a w next Q hsr hnext
 have hev:∀ x,Rep w η (a0Y c η st.hp) (st.ev x) (a.eval x):=a1X hsr.slots
 unfold a7X at h
 split at h
 ·rename_i e hu
  split at h
  ·rename_i zl l hz hones
   obtain⟨⟨hl,hn0,hzl,hsz,hbig,hd⟩,hK⟩:=h
   subst hl
   obtain⟨zv,hzr,hzc,hz1⟩:=a5I (w:=w) hz
   obtain⟨cc,hfill⟩:=b6l (m:=l.length*P.cellsOf e) _ 0 (fun k=>a7i (zl.getD (k % zl.length) undef)) l hones (by rw [Nat.zero_add];exact Nat.le_refl _)
   have hall:a4C (fun (x:Nat×AV) (y:Nat×Value)=>x.1=y.1/\Rep w η (a0Y c η st.hp) x.2 y.2) (parts.toList.map fun a=>(a.1,st.ev a.2)) (parts.toList.map fun x=>(x.1,a.eval x.2)):=by
    have:∀ (l:List (Nat×Operand)),a4C (fun (x:Nat×AV) (y:Nat×Value)=>x.1=y.1/\Rep w η (a0Y c η st.hp) x.2 y.2) (l.map fun a=>(a.1,st.ev a.2)) (l.map fun x=>(x.1,a.eval x.2)):=by
     intro l
     induction l with
     | nil=>exact .nil
     | cons x l ih=>exact .cons ⟨rfl,hev _⟩ ih
    exact this _
   obtain⟨cells',h1,h2,h3⟩:=a9v (m:=l.length*P.cellsOf e) _ _ (fun k=>a7i (zl.getD (k % zl.length) undef)) cc ((Array.range (l.length*zl.length)).map fun i=>zl.toArray[i % zl.toArray.size]!) hfill (by simp [hzl]) (fun j hj=>by
    obtain⟨u,hu',h1,rfl⟩:=b5X (z:=zl) (n:=l.length) hz1 j (by rw [hzl];exact hj)
    exact⟨_,hu',h1,a4T _⟩) hall
   have hf:Fr (fun _=>False) w (w.alloc (.cells cells' e)):=Fr.alloc _ w _
   obtain⟨hs',hkeep⟩:=hsr.hs.swap (p:=st.top) (row:=.sl st.nx e (P.cellsOf e) l.length fun i=>l.getD i fun _=>.any) (r:=(some w.heap.size,l.length)) rfl hf (fun _ _ h=>h.elim) (fun g hg=>.inr (by
    simp only [Option.some.injEq] at hg
    subst hg
    simp)) (fun hkeep=>by
    intro g' cap' he
    rw [a0Q] at he
    simp only [Option.some.injEq,Prod.mk.injEq] at he
    obtain⟨rfl,rfl⟩:=he
    have hmx:l.length*1<=l.length*P.cellsOf e:=Nat.mul_le_mul_left _ hsz
    refine⟨_,heap_alloc_new w _,h2,Nat.le_refl _,by simp only [maxLen];omega,fun i hi j hj=>?_⟩
    have hb:i*P.cellsOf e+j<l.length*P.cellsOf e:=by
     have:(i+1)*P.cellsOf e<=l.length*P.cellsOf e:=Nat.mul_le_mul_right _ (by omega)
     rw [Nat.add_mul] at this;omega
    obtain⟨u,hu',h1,hr⟩:=h3 _ hb
    have:=b0P _ 0 _ _ l hfill hones i (Nat.zero_le _) (by omega) j hj
    rw [this] at hr
    exact⟨u,hu',h1,hkeep _ _ hr⟩)
   have hrun:(execOp a.eval o).run P w=.ok (.value (.slice (some ⟨w.heap.size,0,none⟩) l.length l.length)) (w.alloc (.cells cells' e)):=by
    have e1:((parts.map fun (i,x)=>(i,a.eval x)).toList)=(parts.toList.map fun x=>(x.1,a.eval x.2)):=by cases parts;simp
    have hne:¬l.length*P.cellsOf e=0:=by
     have:0<l.length*P.cellsOf e:=Nat.mul_pos hn0 hsz
     omega
    rw [hzl] at h1
    simp only [execOp,ho,Instr.buildSlice,Sem.run_bind,run_underlying hu,Result.andThen_ok,a0P (P:=P) (w:=w) rfl hsz]
    rw [if_neg (show ¬l.length*P.cellsOf e > 2 ^ 24 from Nat.not_lt.2 hbig)]
    simp only [Sem.run_bind,Sem.run_pure,Result.andThen_ok,if_neg hne,hzr,e1,hzc,h1,newRow,run_newObj,World.alloc_eq]
   unfold Oper.wp
   rw [hrun]
   refine hnext _ (a1Q η st.nx (some w.heap.size,l.length)) _ _ (hsr.put (z:=.ow st.top st.nx l.length) hd hs' (fun q hq=>?_) hkeep ⟨some w.heap.size,l.length,a0Q _ _ _,rfl,Nat.le_refl _⟩) hK
   rw [a0f _ _ (by omega)];exact hsr.dead q (by omega)
  ·exact h.elim
 ·exact h.elim
end
end Go.Proofs.YthpjjjnbkfnghaaGreatDoor
namespace Go.Proofs.YthpjjjnbkfnghaaGreatDoor
open Go Go.MapKept
section
variable {P:Program} {Γ:Gam}
def b9T:AV->Option Value
 | .val v=>some v
 | .st l=>some (.string ⟨l.toArray⟩)
 | _=>none
theorem c0l {w:World} {η:Env} {L:Nat->Prop} {x:AV} {u v:Value} (h:b9T x=some u) (hr:Rep w η L x v):v=u:=by
 unfold b9T at h
 split at h
 ·simp only [Option.some.injEq] at h;subst h;exact hr
 ·simp only [Option.some.injEq] at h;subst h;exact hr
 ·cases h
def a5S (f:Key->Option Value) (k:Key) (u:Value):Key->Option Value:=fun k'=>if k'=k then some u else f k'
def a5x (P:Program) (st:AS) (t:TypeId) (m k x:AV) (d:Option Tmp) (K:AS->Prop):Prop:=
 match P.underlying t,m,b5Q k,b9T x with
 | some (.map kt _),.mp p ver,some key,some u=>match st.hp p with
   | .mp v str n f=>(v=ver/\key.isStr=str/\P.underlying kt=some (a4A str)/\a0N st.sz d)/\
     K ⟨a2b st.fr d .any,a0S st.hp p (.mp v str (if (f key).isSome then n else n+1) (a5S f key u)),st.sz,st.top,st.nx,st.df⟩
   | _=>False
 | _,_,_,_=>False
theorem b4Z {a b:Key} (h:a.val=b.val):a=b:=by
 cases a<;>cases b<;>simp [Key.val] at h
 ·rw [h]
 ·rw [h]
theorem b8h {k:Key} (es:List MapEntry) (e:MapEntry):a6g (es++[e]) k=(a6g es k).or (a6g [e] k):=by
 induction es with
 | nil=>simp [a6g]
 | cons x es ih=>
   by_cases h:x.key=k.val
   ·simp [a5e h]
   ·simp [a3j h,ih]
theorem a9h {k key:Key} {u:Value} {f:MapEntry->MapEntry} (hf:∀ e,(f e).key=key.val/\(f e).val=u):∀ (es:List MapEntry) (j:Nat) (e:MapEntry),es[j]?=some e->e.key=key.val->(∀ m x,m<j->es[m]?=some x->x.key≠key.val)->
  a6g (es.modify j f) k=if k=key then some u else a6g es k
 | [],j,e,h,_,_=>by simp at h
 | x::es,0,e,h,he,_=>by
   simp only [List.getElem?_cons_zero,Option.some.injEq] at h
   subst h
   simp only [List.modify_zero_cons]
   by_cases hk:k=key
   ·subst hk
    rw [if_pos rfl,a5e (hf x).1,(hf x).2]
   ·rw [if_neg hk,a3j (fun h=>hk (b4Z (((hf x).1.symm.trans h).symm))),a3j (fun h=>hk (b4Z ((he.symm.trans h).symm)))]
 | x::es,j+1,e,h,he,hm=>by
   simp only [List.modify_succ_cons]
   have hx:x.key≠key.val:=hm 0 x (by omega) rfl
   have ih:=a9h (k:=k) hf es j e (by simpa using h) he (fun m y hmj hy=>hm (m+1) y (by omega) (by simpa using hy))
   by_cases hxk:x.key=k.val
   ·rw [a5e hxk,a5e hxk,if_neg (fun e=>hx (by rw [hxk,e]))]
   ·rw [a3j hxk,a3j hxk,ih]
theorem c1Y (w:World) (g:Nat) (o:Obj):Fr (fun b=>b=g) w { w with heap:=w.heap.setIfInBounds g o }:=
 ⟨rfl,rfl,rfl,by simp,fun k _ hk=>by simp [Array.getElem?_setIfInBounds_ne (Ne.symm hk)]⟩
theorem b38 {st:AS} {o:Oper} {t:TypeId} {m k x:Operand} {K:AS->Prop} (ho:o.op=.mapUpdate t m k x) (h:a5x P st t (st.ev m) (st.ev k) (st.ev x) o.dst K):OpW P o st K:=by
 intro c η a w next Q hsr hnext
 unfold a5x at h
 split at h
 ·rename_i kt et p ver key u hu hm hk hx
  split at h
  ·rename_i v str n f hrow
   obtain⟨⟨rfl,rfl,hkt,hd⟩,hK⟩:=h
   have rm:=a1X hsr.slots m
   rw [show a9b st.fr m=_ from hm] at rm
   obtain⟨g,cap,he,em⟩:=rm
   have ek:=b4e hk (a1X hsr.slots k)
   have ex:=c0l hx (a1X hsr.slots x)
   have hr:=hsr.hs.rows p
   rw [hrow] at hr
   obtain⟨b,es,clock,hg,hh,hn,hks,hf⟩:=hr _ _ he
   simp only [Option.some.injEq] at hg
   subst hg
   have hall:∀ x∈es.toList,IsKey (a4A key.isStr) x.key:=fun x hx=>by
    obtain⟨k',e1,e2⟩:=hks x (by simpa using hx)
    rw [e1,<-e2];exact a4q k'
   have hck:=run_checkKey (P:=P) (w:=w) hkt (a4q key) false 9999
   have hfk:=hf key rfl
   have hblk:(st.hp p).blk η=some g:=by rw [hrow];simp [Row.blk,Row.ver,he]
   have fin:∀ es' clock',(execOp a.eval o).run P w=.ok .skip { w with heap:=w.heap.setIfInBounds g (.map es' clock') }->es'.size=(if (f key).isSome then n else n+1)->
     (∀ e∈es',∃ k:Key,e.key=k.val/\k.isStr=key.isStr)->(∀ k:Key,k.isStr=key.isStr->a6g es'.toList k=a5S f key u k)->o.wp P a w next Q:=by
    intro es' clock' hrun hsz hks' hf'
    have hh':=(Go.MapKept.heap_set (o':=.map es' clock') hh).1
    obtain⟨hs',hkeep⟩:=hsr.hs.write (row:=.mp v key.isStr (if (f key).isSome then n else n+1) (a5S f key u)) hblk (by rw [hrow];rfl) (c1Y w g (.map es' clock')) (by
     intro g' cap' he'
     rw [he] at he'
     simp only [Option.some.injEq,Prod.mk.injEq] at he'
     obtain⟨rfl,rfl⟩:=he'
     exact⟨g,es',clock',rfl,hh',hsz,hks',hf'⟩)
    unfold Oper.wp
    rw [hrun]
    simp only [Oper.upon]
    exact hnext _ η _ _ (hsr.put (z:=.any) (v:=undef) hd hs' (fun q hq=>by
     rw [a0f _ _ (fun e=>by
      subst e
      have:=hsr.dead q hq
      rw [hrow] at this;cases this)]
     exact hsr.dead q hq) hkeep trivial) hK
   have e0:execOp a.eval o=(do Instr.mapUpdate t (a.eval m) (a.eval k) (a.eval x);pure .skip):=by unfold execOp;rw [ho]
   rcases b3k (a4q key) es.toList 0 hall with⟨h1,h2,h3⟩|⟨j,e,h1,h2,h3,h4,h5⟩
   ·rw [h2] at hfk
    refine fin (es.push { key:=key.val,val:=u,born:=clock }) (clock+1) ?_ ?_ ?_ ?_
    ·rw [e0,em,ek,ex]
     simp [Instr.mapUpdate,run_underlying hu,Go.MapKept.run_getObj_map hh,hck,run_findKey hkt h1,Go.MapKept.run_setObj_map _ hh,Result.andThen]
    ·rw [<-hfk];simp [hn]
    ·intro e he
     rcases Array.mem_push.1 he with he|rfl
     ·exact hks e he
     ·exact⟨key,rfl,rfl⟩
    ·intro k' hk'
     rw [Array.toList_push,b8h,hf k' hk']
     unfold a5S
     by_cases e:k'=key
     ·subst e
      rw [<-hfk,if_pos rfl,a5e rfl]
      rfl
     ·rw [if_neg e,a3j (fun q=>e (b4Z q.symm))]
      simp [a6g]
   ·rw [h4] at hfk
    have hj:es[j]?=some e:=by simpa using h2
    have hmk:∀ e':MapEntry,({ e' with key:=key.val,val:=u }:MapEntry).key=key.val/\({ e' with key:=key.val,val:=u }:MapEntry).val=u:=fun _=>⟨rfl,rfl⟩
    refine fin (es.modify j fun e=>{ e with key:=key.val,val:=u }) clock ?_ ?_ ?_ ?_
    ·rw [e0,em,ek,ex]
     simp [Instr.mapUpdate,run_underlying hu,Go.MapKept.run_getObj_map hh,hck,run_findKey hkt h1,hj,h3,run_keyThatStays (a4q key),Go.MapKept.run_setObj_map _ hh,Result.andThen]
    ·rw [<-hfk];simp [hn]
    ·intro e' he'
     have:=isKey_modify hall j (fun e=>{ e with key:=key.val,val:=u }) (fun e'' he''=>by rw [hj] at he'';cases he'';exact h3.symm) e' (Array.mem_toList_iff.2 he')
     cases hks':key.isStr with
     | false=>
       rw [hks'] at this
       cases hkey:e'.key with
       | int kk nn=>rw [hkey] at this;simp only [a4A,IsKey] at this;exact⟨.i nn,by simp [Key.val];simpa [a4A,IsKey] using this,rfl⟩
       | _=>rw [hkey] at this;simp [a4A,IsKey] at this
     | true=>
       rw [hks'] at this
       cases hkey:e'.key with
       | string s=>exact⟨.s s.data.toList,by cases s;simp [Key.val],rfl⟩
       | _=>rw [hkey] at this;simp [a4A,IsKey] at this
    ·intro k' hk'
     rw [Array.toList_modify,a9h hmk es.toList j e (by simpa using hj) h3 h5,hf k' hk']
     rfl
  ·exact h.elim
 ·exact h.elim
theorem b75 (hΓ:GOK P Γ) {st:AS} {o:Oper} {f:FuncId} {xs:List Operand} {ts:Array TypeId} {S:a0L} {K:AS->Prop} {K0:AV->(Nat->Row)->Nat->Nat->Prop} (ho:o.op=.call ⟨.value (.func f),⟨xs⟩,ts⟩) (hS:Γ f=some (.meth S)) (hd:a0N st.sz o.dst)
  (h:S (xs.map st.ev) st.hp st.top st.nx K0) (hK0:∀ r hp' top' nx',K0 r hp' top' nx'->K ⟨a2b st.fr o.dst r,hp',st.sz,top',nx',st.df⟩):OpW P o st K:=by
 intro c η a w next Q hsr hnext
 obtain⟨henter,hcall⟩:a0i P f S:=hΓ f _ hS
 let c1:Ctx:=⟨w,η,fun b=>∃ p,(st.hp p).blk η=some b,c.Lx,st.nx⟩
 have hL:∀ η' hp',a0Y c1 η' hp'=a0Y c η' hp':=fun _ _=>rfl
 have hs1:HS c1 st.hp st.nx η w:=⟨Fr.refl _ _,⟨fun b hb=>Nat.lt_of_lt_of_le (hsr.hs.lx.lt b hb) hsr.hs.fr.size,hsr.hs.tab⟩,hsr.hs.rows,hsr.hs.vers,hsr.hs.bnd,hsr.hs.disj,
  fun p b hb=>⟨.inl ⟨p,hb⟩,(hsr.hs.own p b hb).2.1,(hsr.hs.own p b hb).2.2⟩,hsr.hs.fresh,Env.le_refl _,Nat.le_refl _,fun _ _ h=>h⟩
 have hargs:a4C (Rep w η (a0Y c1 η st.hp)) (xs.map st.ev) (xs.map a.eval):=a6J (a1X hsr.slots) xs
 have e:(execOp a.eval o).run P w=.ok (.enter f (xs.map a.eval).toArray) w:=by
  have e2:execOp a.eval o=callFunc f (#[]++(⟨xs⟩:Array Operand).map a.eval++#[]):=by unfold execOp;rw [ho];rfl
  rw [e2]
  simpa using henter (xs.map a.eval).toArray w
 unfold Oper.wp
 rw [e]
 simp only [Oper.upon]
 refine (hcall _ st.hp st.top st.nx _ h c1 η w _ hs1 hsr.dead hargs).mono ?_
 rintro e w' ⟨v,r,hp',top',nx',η',rfl,hK,hs',hdead',hr⟩
 have hO:∀ k,k<w.heap.size->c1.O k->a0Y c η st.hp k:=fun k _ hk=>.inr hk
 have hLk:∀ k,k<w.heap.size->a0Y c η' hp' k->a0Y c η st.hp k:=by
  rintro k hk (hl|⟨p,hp⟩)
  ·exact .inl hl
  ·rcases (hs'.own p k hp).1 with⟨q,hq⟩|hge
   ·exact .inr ⟨q,hq⟩
   ·exact absurd hk (Nat.not_lt.2 hge)
 have hkeep:∀ x u,Rep w η (a0Y c η st.hp) x u->Rep w' η' (a0Y c η' hp') x u:=fun x u hx=>Rep.keep hs'.fr hO hLk x η η' u hs'.env.1 hx
 have hs2:HS c hp' nx' η' w':=by
  refine⟨hsr.hs.fr.trans' hs'.fr ?_,hsr.hs.lx,hs'.rows,hs'.vers,hs'.bnd,hs'.disj,fun p b hb=>⟨?_,(hs'.own p b hb).2.1,(hs'.own p b hb).2.2⟩,hs'.fresh,Env.le_trans hsr.hs.env.1 hs'.env.1,Nat.le_trans hsr.hs.env.2.1 hs'.env.2.1,fun k hk h0=>hs'.env.2.2 k (Nat.lt_of_lt_of_le hk hsr.hs.env.2.1) (hsr.hs.env.2.2 k hk h0)⟩
  ·rintro k hk ⟨p,hp⟩
   exact (hsr.hs.own p k hp).1.resolve_right (by omega)
  ·rcases (hs'.own p b hb).1 with⟨q,hq⟩|hge
   ·exact (hsr.hs.own q b hq).1
   ·exact .inr (Nat.le_trans hsr.hs.fr.size hge)
 exact hnext _ η' _ w' (hsr.put (z:=r) (v:=v) hd hs2 hdead' hkeep hr) (hK0 _ _ _ _ hK)
theorem c9c (hΓ:GOK P Γ) {st:AS} {o:Oper} {f:FuncId} {xs:List Operand} {ts:Array TypeId} {S:a0L} {K:AS->Prop} (ho:o.op=.call ⟨.value (.func f),⟨xs⟩,ts⟩) (hS:Γ f=some (.meth S)) (hd:a0N st.sz o.dst)
  (h:S (xs.map st.ev) st.hp st.top st.nx fun r hp' top' nx'=>K ⟨a2b st.fr o.dst r,hp',st.sz,top',nx',st.df⟩):OpW P o st K:=b75 hΓ ho hS hd h fun _ _ _ _ h=>h
def bop (P:Program) (Γ:Gam) (st:AS) (o:Oper) (K:AS->Prop):Prop:=
 match o.op with
 | .mapUpdate t m k x=>a5x P st t (st.ev m) (st.ev k) (st.ev x) o.dst K
 | .call ⟨.value (.func f),⟨xs⟩,_⟩=>match Γ f with
   | some (.meth S)=>a0N st.sz o.dst/\S (xs.map st.ev) st.hp st.top st.nx fun r hp' top' nx'=>K ⟨a2b st.fr o.dst r,hp',st.sz,top',nx',st.df⟩
   | _=>OpW P o st K
 | .store t x y=>a6k P st t (st.ev x) (st.ev y) o.dst K
 | .call ⟨.builtin .append,⟨[x,y]⟩,⟨[t,t']⟩⟩=>t'=t/\c0p P st t (st.ev x) (st.ev y) o.dst K
 | .buildSlice t n parts=>a7X P st t n (parts.toList.map fun a=>(a.1,st.ev a.2)) o.dst K
 | .defer ⟨.value (.func f),⟨[]⟩,_⟩=>o.dst=none/\K ⟨st.fr,st.hp,st.sz,st.top,st.nx,⟨.fn (.func f) #[],#[]⟩::st.df⟩
 | _=>OpW P o st K
theorem b4v (hΓ:GOK P Γ) {st:AS} {o:Oper} {K:AS->Prop} (h:bop P Γ st o K):OpW P o st K:=by
 unfold bop at h
 split at h
 ·rename_i t m k x ho
  exact b38 ho h
 ·rename_i f xs ts ho
  split at h
  ·rename_i S hS
   exact c9c hΓ ho hS h.1 h.2
  ·exact h
 ·rename_i t x y ho
  exact b7b ho h
 ·rename_i x y t t' ho
  exact c7r ho h.1 h.2
 ·rename_i t n parts ho
  exact a9r ho h
 ·rename_i f ts ho
  intro c η a w next Q hsr hnext
  obtain⟨hd,hK⟩:=h
  unfold Oper.wp
  have e:(execOp a.eval o).run P w=.ok (.defer ⟨.fn (.func f) #[],#[]⟩) w:=by
   unfold execOp
   rw [ho]
   simp [resolve,Deferred.ofValue,Act.eval]
  rw [e]
  refine hnext ⟨st.fr,st.hp,st.sz,st.top,st.nx,⟨.fn (.func f) #[],#[]⟩::st.df⟩ η _ _ ⟨hsr.hs,hsr.dead,?_,?_,?_⟩ hK
  ·rw [a9y];exact hsr.size
  ·intro t;rw [hd];exact hsr.slots t
  ·rw [a6M];simp only;rw [hsr.defs]
 ·exact h
def a9G (P:Program) (Γ:Gam) (ops:Array Oper):List Oper->AS->(AS->Prop)->Prop
 | [],st,K=>K st
 | o::r,st,K=>match gop P Γ ops st o with
   | some (pre,z,row)=>(a0N st.sz o.dst/\pre)/\a9G P Γ ops r (st.put o.dst z row) K
   | none=>o.guard=none/\bop P Γ st o fun st'=>a9G P Γ ops r st' K
theorem a8s (hΓ:GOK P Γ) {ops:Array Oper} {Q:Exit->Act->World->Prop}:∀ (l:List Oper) (c:Ctx) (st:AS) (K:AS->Prop) (η:Env) (a:Act) (w:World),SR c st η a w->a9G P Γ ops l st K->
  (∀ st' η' a' w',SR c st' η' a' w'->K st'->Q .normal a' w')->wpList P ops Q l a w
 | [],_,_,_,η,a,w,hsr,h,hQ=>hQ _ η a w hsr h
 | o::r,c,st,K,η,a,w,hsr,h,hQ=>by
   unfold a9G at h
   split at h
   ·rename_i pre z row hg
    refine wpList_step fun KK hKK=>b1G hΓ hsr hg h.1.2 h.1.1 fun η' a' w' hsr'=>hKK _ _ (a8s hΓ r c _ K η' a' w' hsr' h.2 hQ)
   ·refine wpList_step fun KK hKK=>?_
    rw [if_pos (by simp [Region.wanted,h.1])]
    exact b4v hΓ h.2 c η a w KK Q hsr fun st' η' a' w' hsr' hx=>hKK _ _ (a8s hΓ r c st' K η' a' w' hsr' hx hQ)
def AW (P:Program) (code:Code) (Q:Exit->AS->Prop) (st:AS):Prop:=
 ∀ (c:Ctx) (η:Env) (a:Act) (w:World),SR c st η a w->code.wp P (fun e a' w'=>∃ st' η',Q e st'/\SR c st' η' a' w') a w
def c2K (K:AS->Prop) (Q:Exit->AS->Prop):Exit->AS->Prop
 | .normal,st=>K st
 | e,st=>Q e st
def inA (id:Nat) (Q:Exit->AS->Prop):Exit->AS->Prop
 | .exit id',st=>if id'=id then Q .normal st else Q (.exit id') st
 | e,st=>Q e st
variable {Q:Exit->AS->Prop} {st:AS}
theorem AW.seq {x y:Code} (h:∀ K:AS->Prop,(∀ st,AW P y Q st->K st)->AW P x (c2K K Q) st):AW P (.seq x y) Q st:=by
 intro c η a w hsr
 refine wp_seq (wp_mono (h _ (fun _ h=>h) c η a w hsr) ?_)
 rintro e a' w' ⟨st',η',hq,hsr'⟩
 cases e with
 | normal=>exact hq c η' a' w' hsr'
 | _=>exact⟨st',η',hq,hsr'⟩
theorem AW.region (hΓ:GOK P Γ) {id:Nat} {l:List Oper} (h:a9G P Γ l.toArray l st (Q .normal)):AW P (.region id l.toArray false) Q st:=by
 intro c η a w hsr
 exact wp_region_lit (a8s hΓ l c st _ η a w hsr h fun st' η' a' w' hsr' hq=>⟨st',η',hq,hsr'⟩)
theorem AW.cond {o:Operand} {x y:Code} {b:Bool} (he:st.ev o=.val (.bool b)) (ht:b=true->AW P x Q st) (hf:b=false->AW P y Q st):AW P (.cond o x y) Q st:=by
 intro c η a w hsr
 have hv:a.eval o=.bool b:=by
  have:=a1X hsr.slots o
  unfold AS.ev at he
  rw [he] at this
  exact this
 cases b with
 | true=>exact wp_cond_true hv (ht rfl c η a w hsr)
 | false=>exact wp_cond_false hv (hf rfl c η a w hsr)
theorem AW.condM {o:Operand} {x y:Code} {q:Prop} (he:st.ev o=.mb q) (ht:q->AW P x Q st) (hf:AW P y Q st):AW P (.cond o x y) Q st:=by
 intro c η a w hsr
 have hv:=a1X hsr.slots o
 unfold AS.ev at he
 rw [he] at hv
 obtain⟨b,hv,hq⟩:=hv
 cases b with
 | true=>exact wp_cond_true hv (ht (hq rfl) c η a w hsr)
 | false=>exact wp_cond_false hv (hf c η a w hsr)
theorem AW.block {id:Nat} {x:Code} (h:AW P x (inA id Q) st):AW P (.block id x) Q st:=by
 intro c η a w hsr
 refine wp_block (wp_mono (h c η a w hsr) ?_)
 rintro e a' w' ⟨st',η',hq,hsr'⟩
 cases e with
 | exit id'=>
   simp only [inA] at hq
   simp only [Exit.inBlock]
   split at hq
   ·rename_i e;rw [if_pos e];exact⟨st',η',hq,hsr'⟩
   ·rename_i e;rw [if_neg e];exact⟨st',η',hq,hsr'⟩
 | _=>exact⟨st',η',hq,hsr'⟩
theorem AW.scope {x:Code} (h:AW P x (fun e st=>match e with|.goto _=>False|e=>Q e st) st):AW P (.scope x) Q st:=by
 intro c η a w hsr
 refine wp_scope_straight (wp_mono (h c η a w hsr) ?_)
 rintro e a' w' ⟨st',η',hq,hsr'⟩
 cases e with
 | goto l=>exact hq.elim
 | _=>exact⟨st',η',hq,hsr'⟩
theorem AW.skip (h:Q .normal st):AW P .skip Q st:=fun _ η _ _ hsr=>wp_skip ⟨st,η,h,hsr⟩
theorem AW.exit {id:Nat} (h:Q (.exit id) st):AW P (.exit id) Q st:=fun _ η _ _ hsr=>wp_exit ⟨st,η,h,hsr⟩
theorem AW.ret (h:Q .ret st):AW P .ret Q st:=fun _ η _ _ hsr=>wp_ret ⟨st,η,h,hsr⟩
def a1g (st st':AS):Prop:=∀ (c:Ctx) (η:Env) (a:Act) (w:World),SR c st η a w->∃ η',SR c st' η' a w
theorem a1g.refl (st:AS):a1g st st:=fun _ η _ _ h=>⟨η,h⟩
theorem a1g.trans {a b d:AS} (h:a1g a b) (k:a1g b d):a1g a d:=fun c η x w hs=>let ⟨η',h'⟩:=h c η x w hs;k c η' x w h'
theorem AW.le {code:Code} {st':AS} (hle:a1g st st') (h:AW P code Q st'):AW P code Q st:=by
 intro c η a w hsr
 obtain⟨η',hsr'⟩:=hle c η a w hsr
 exact h c η' a w hsr'
theorem AW.loop {x:Code} {α:Type} (I:α->AS) (μ:α->Nat) (i₀:α) (h₀:a1g st (I i₀))
  (round:∀ i,AW P x (c2K (fun st'=>∃ j,a1g st' (I j)/\μ j<μ i) Q) (I i)):AW P (.loop x) Q st:=by
 intro c η a w hsr
 obtain⟨η₀,hsr₀⟩:=h₀ c η a w hsr
 intro b k cs
 have key:∀ n i η a w,μ i=n->SR c (I i) η a w->
   ∃ e a' w',(∃ st' η',Q e st'/\SR c st' η' a' w')/\Arrives P (lone (b.at a (.code x::.inLoop x::k)) cs w) b k cs e a' w':=by
  intro n
  induction n using Nat.strongRecOn with
  | _ n ih=>
    intro i η a w hn hs
    obtain⟨e,a₁,w₁,⟨st',η',hq,hs'⟩,harr⟩:=round i c η a w hs b (.inLoop x::k) cs
    cases e with
    | normal=>
      obtain⟨j,hle,hlt⟩:=hq
      obtain⟨η₂,hs₂⟩:=hle c η' a₁ w₁ hs'
      obtain⟨e₂,a₂,w₂,hq₂,harr₂⟩:=ih (μ j) (hn▸hlt) j η₂ a₁ w₁ rfl hs₂
      exact⟨e₂,a₂,w₂,hq₂,.of_steps (Steps.trans harr (.one step_inLoop)) harr₂⟩
    | exit id=>exact⟨_,a₁,w₁,⟨st',η',hq,hs'⟩,.pass (x:=.inLoop x) rfl (fun _ _=>.inl (by simp)) harr⟩
    | goto l=>exact⟨_,a₁,w₁,⟨st',η',hq,hs'⟩,.pass (x:=.inLoop x) rfl (fun _ _=>.inl (by simp)) harr⟩
    | ret=>exact⟨_,a₁,w₁,⟨st',η',hq,hs'⟩,.pass (x:=.inLoop x) rfl (fun _ _=>.inl (by simp)) harr⟩
    | panic ch=>exact⟨_,a₁,w₁,⟨st',η',hq,hs'⟩,.pass (x:=.inLoop x) rfl (fun _ _=>.inl (by simp)) harr⟩
    | outgrown=>exact⟨_,a₁,w₁,⟨st',η',hq,hs'⟩,.pass (x:=.inLoop x) rfl (fun _ _=>.inl (by simp)) harr⟩
 obtain⟨e,a',w',hq,harr⟩:=key _ i₀ η₀ a w rfl hsr₀
 exact⟨e,a',w',hq,.of_steps (.one step_loop) harr⟩
end
end Go.Proofs.YthpjjjnbkfnghaaGreatDoor
namespace Go.Proofs.YthpjjjnbkfnghaaGreatDoor
open Go
def a0e (x y:AV):Prop:=∀ (w:World) (η:Env) (L:Nat->Prop) (v:Value),Rep w η L x v->Rep w η L y v
theorem a0e.refl (x:AV):a0e x x:=fun _ _ _ _ h=>h
theorem a0e.trans {x y z:AV} (h:a0e x y) (k:a0e y z):a0e x z:=fun w η L v r=>k w η L v (h w η L v r)
theorem a0e.any (x:AV):a0e x .any:=fun _ _ _ _ _=>trivial
theorem a0e.of_eq {x y:AV} (h:x=y):a0e x y:=h▸a0e.refl x
theorem a0e.sn {n sz:Nat} {c d:Nat->Nat->AV} (h:∀ i,i<n->∀ j,j<sz->a0e (c i j) (d i j)):a0e (.sn n sz c) (.sn n sz d):=by
 rintro w η L v ⟨a,cap,rfl,hn,hc⟩
 refine⟨a,cap,rfl,hn,fun h0 h1=>?_⟩
 obtain⟨b,off,e,hL,hc⟩:=hc h0 h1
 refine⟨b,off,e,hL,fun i hi j hj=>?_⟩
 obtain⟨u,hu,h1,hr⟩:=hc i hi j hj
 exact⟨u,hu,h1,h i hi j hj _ _ _ _ hr⟩
theorem a0e.em_sn {sz:Nat} {d:Nat->Nat->AV}:a0e .em (.sn 0 sz d):=by
 rintro w η L v ⟨a,rfl⟩
 exact⟨a,0,rfl,Nat.le_refl _,fun h=>absurd h (by omega)⟩
theorem a0e.ag {m:Nat} {c d:Nat->AV} (h:∀ j,j<m->a0e (c j) (d j)):a0e (.ag m c) (.ag m d):=by
 rintro w η L v ⟨cs,rfl,hm,hc⟩
 refine⟨cs,rfl,hm,fun j hj=>?_⟩
 obtain⟨u,hu,h1,hr⟩:=hc j hj
 exact⟨u,hu,h1,h j hj _ _ _ _ hr⟩
theorem a0e.tu {m:Nat} {c d:Nat->AV} (h:∀ j,j<m->a0e (c j) (d j)):a0e (.tu m c) (.tu m d):=by
 rintro w η L v ⟨cs,rfl,hm,hc⟩
 refine⟨cs,rfl,hm,fun j hj=>?_⟩
 obtain⟨u,hu,hr⟩:=hc j hj
 exact⟨u,hu,h j hj _ _ _ _ hr⟩
def a0a (r r':Row):Prop:=r'.ver=r.ver/\∀ (w:World) (η:Env) (L:Nat->Prop),a13 w η L r->a13 w η L r'
theorem a0a.refl (r:Row):a0a r r:=⟨rfl,fun _ _ _ h=>h⟩
theorem a0a.sl {ver ety sz n n':Nat} {c d:Nat->Nat->AV} (hn:n'=n) (h:∀ i,i<n->∀ j,j<sz->a0e (c i j) (d i j)):a0a (.sl ver ety sz n c) (.sl ver ety sz n' d):=by
 subst hn
 refine⟨rfl,fun w η L hr g cap he=>?_⟩
 have:=hr g cap he
 cases g with
 | none=>exact this
 | some b=>
   obtain⟨cur,hh,hs,hn,hm,hc⟩:=this
   refine⟨cur,hh,hs,hn,hm,fun i hi j hj=>?_⟩
   obtain⟨u,hu,h1,hrep⟩:=hc i hi j hj
   exact⟨u,hu,h1,h i hi j hj _ _ _ _ hrep⟩
theorem a0a.box {ver ety m:Nat} {c d:Nat->AV} (h:∀ j,j<m->a0e (c j) (d j)):a0a (.box ver ety m c) (.box ver ety m d):=by
 refine⟨rfl,fun w η L hr g cap he=>?_⟩
 obtain⟨b,cur,hg,hh,hs,hc⟩:=hr g cap he
 refine⟨b,cur,hg,hh,hs,fun j hj=>?_⟩
 obtain⟨u,hu,h1,hrep⟩:=hc j hj
 exact⟨u,hu,h1,h j hj _ _ _ _ hrep⟩
theorem a13.less {w:World} {η:Env} {L L':Nat->Prop} {r:Row} (hL:∀ b,L' b->L b) (h:a13 w η L r):a13 w η L' r:=
 a13.keep (Fr.refl (fun _=>False) w) (Env.le_refl _) (fun _ _ h=>h.elim) (fun b _ hb=>hL b hb) (fun _ _=>rfl) (fun _ _=>rfl) h
theorem a1g.mk {st st':AS} (hsz:st'.sz=st.sz) (hdf:st'.df=st.df) (hfr:∀ t,a0e (st.fr t) (st'.fr t)) (hhp:∀ p,st'.hp p=.dead\/a0a (st.hp p) (st'.hp p))
  (htop:∀ p,st'.top<=p->st'.hp p=.dead) (hnx:st.nx<=st'.nx):a1g st st':=by
 intro c η a w h
 have hver:∀ p v,(st'.hp p).ver=some v->(st.hp p).ver=some v:=fun p v hv=>by
  rcases hhp p with e|e
  ·rw [e] at hv;cases hv
  ·rw [<-e.1];exact hv
 have hblk:∀ p b,(st'.hp p).blk η=some b->(st.hp p).blk η=some b:=fun p b hb=>by
  rcases hhp p with e|e
  ·rw [e] at hb;cases hb
  ·unfold Row.blk at hb ⊢;rw [e.1] at hb;exact hb
 have hL:∀ b,a0Y c η st'.hp b->a0Y c η st.hp b:=by
  rintro b (hl|⟨p,hp⟩)
  ·exact .inl hl
  ·exact .inr ⟨p,hblk p b hp⟩
 refine⟨η,⟨⟨h.hs.fr,h.hs.lx,fun p=>?_,fun p q v hp hq=>h.hs.vers p q v (hver p v hp) (hver q v hq),fun p v hp=>Nat.lt_of_lt_of_le (h.hs.bnd p v (hver p v hp)) hnx,
  fun p q b hp hq=>h.hs.disj p q b (hblk p b hp) (hblk q b hq),fun p b hp=>h.hs.own p b (hblk p b hp),fun v hv=>h.hs.fresh v (Nat.le_trans hnx hv),h.hs.env.1,Nat.le_trans h.hs.env.2.1 hnx,h.hs.env.2.2⟩,htop,by rw [hsz];exact h.size,
  fun t=>hfr t _ _ _ _ (Rep.less (fun b _ hb=>hL b hb) (h.slots t)),by rw [hdf];exact h.defs⟩⟩
 rcases hhp p with e|e
 ·rw [e];trivial
 ·exact e.2 _ _ _ (a13.less hL (h.hs.rows p))
def frm:List (Nat×AV)->Nat->AV
 | [],_=>.any
 | (d,x)::r,t=>if t=d then x else frm r t
def rws:List (Nat×Row)->Nat->Row
 | [],_=>.dead
 | (d,x)::r,t=>if t=d then x else rws r t
theorem c3w {f:Nat->AV}:∀ {l:List (Nat×AV)},(∀ p∈l,a0e (f p.1) p.2)->∀ t,a0e (f t) (frm l t)
 | [],_,_=>a0e.any _
 | (d,x)::r,h,t=>by
   unfold frm
   split
   ·rename_i e;subst e;exact h (t,x) (List.mem_cons_self ..)
   ·exact c3w (fun p hp=>h p (List.mem_cons_of_mem _ hp)) t
theorem c67 {f:Nat->Row}:∀ {l:List (Nat×Row)},(∀ p∈l,a0a (f p.1) p.2)->∀ t,rws l t=.dead\/a0a (f t) (rws l t)
 | [],_,_=>.inl rfl
 | (d,x)::r,h,t=>by
   unfold rws
   split
   ·rename_i e;subst e;exact .inr (h (t,x) (List.mem_cons_self ..))
   ·exact c67 (fun p hp=>h p (List.mem_cons_of_mem _ hp)) t
theorem a1Y {top:Nat}:∀ {l:List (Nat×Row)},(∀ p∈l,p.1<top)->∀ t,top<=t->rws l t=.dead
 | [],_,_,_=>rfl
 | (d,x)::r,h,t,ht=>by
   unfold rws
   rw [if_neg (by have:=h (d,x) (List.mem_cons_self ..);simp only at this;omega)]
   exact a1Y (fun p hp=>h p (List.mem_cons_of_mem _ hp)) t ht
theorem a1g.of {st:AS} {l:List (Nat×AV)} {r:List (Nat×Row)} {sz top nx:Nat} {df:List Deferred} (hsz:sz=st.sz) (hdf:df=st.df) (hl:∀ p∈l,a0e (st.fr p.1) p.2)
  (hr:∀ p∈r,a0a (st.hp p.1) p.2) (ht:∀ p∈r,p.1<top) (hnx:st.nx<=nx):a1g st ⟨frm l,rws r,sz,top,nx,df⟩:=
 a1g.mk hsz hdf (c3w hl) (c67 hr) (a1Y ht) hnx
theorem a1g.adopt {st:AS} {s:Nat} (e:TypeId) (sz:Nat) (cc:Nat->Nat->AV) (h:st.fr s=.em) :
  a1g st ⟨c30 st.fr s (.ow st.top st.nx 0),a0S st.hp st.top (.sl st.nx e sz 0 cc),st.sz,st.top+1,st.nx+1,st.df⟩:=by
 intro c η a w hsr
 obtain⟨hs',hkeep⟩:=hsr.hs.swap (p:=st.top) (row:=.sl st.nx e sz 0 cc) (r:=(none,0)) rfl (Fr.refl (fun _=>False) w) (fun _ _ h=>h.elim) (fun g hg=>by cases hg) (fun _=>by
  intro g cap he
  rw [a0Q] at he
  simp only [Option.some.injEq,Prod.mk.injEq] at he
  obtain⟨rfl,rfl⟩:=he
  rfl)
 refine⟨a1Q η st.nx (none,0),hs',fun p hp=>?_,hsr.size,fun t=>?_,hsr.defs⟩
 ·simp only at hp ⊢
  rw [a0f _ _ (by omega)]
  exact hsr.dead p (by omega)
 ·simp only [c30]
  split
  ·rename_i e'
   subst e'
   have:=hsr.slots t
   rw [h] at this
   exact⟨none,0,a0Q _ _ _,rfl,this⟩
  ·exact hkeep _ _ (hsr.slots t)
theorem b6A {c:Ctx} {hp:Nat->Row} {nx:Nat} {η:Env} {w:World} (hs:HS c hp nx η w) {x:AV} {v:Value} (h:b2y hp x) (hr:Rep w η (a0Y c η hp) x v):Rep w a1l c.Lx (vw0 hp x) v:=by
 have less:∀ {x v},Rep w a1l (a0Y c η hp) x v->Rep w a1l c.Lx x v:=fun h=>Rep.less (fun _ _ h=>.inl h) h
 have notL:∀ p b,(hp p).blk η=some b->¬c.Lx b:=fun p b hb=>(hs.own p b hb).2.1
 cases x with
 | ow p ver n=>
   simp only [b2y] at h
   have hrow:=hs.rows p
   split at h
   ·rename_i vv ety sz n' cc heq
    obtain⟨rfl,hn,hfl⟩:=h
    obtain⟨g,cap,hη,hv⟩:=hr
    rw [heq] at hrow
    have hrow:=hrow g cap hη
    have hvw:vw0 hp (.ow p vv n)=.sn n sz cc:=by simp only [vw0,heq]
    rw [hvw]
    cases g with
    | none=>
      obtain⟨rfl,a,rfl⟩:=hv
      exact⟨a,0,rfl,Nat.le_refl _,fun h=>absurd h (by omega)⟩
    | some g=>
      obtain⟨rfl,hcap⟩:=hv
      obtain⟨cur,hh,hsz,hnc,hm,hc⟩:=hrow
      refine⟨_,cap,rfl,hcap,fun h0 hs=>⟨g,0,rfl,notL p g (by rw [heq];simp [Row.blk,Row.ver,hη]),fun i hi j hj=>?_⟩⟩
      obtain⟨u,hu,h1,hrep⟩:=hc i (by omega) j hj
      exact⟨u,by rw [a0Z hh,Nat.zero_add];exact hu,h1,less (a3d (hfl i hi j hj) hrep)⟩
   ·exact h.elim
 | pt p ver k=>
   simp only [b2y] at h
   have hrow:=hs.rows p
   split at h
   ·rename_i vv ety m cc heq
    obtain⟨rfl,hk,hfl⟩:=h
    obtain⟨g,cap,hη,rfl⟩:=hr
    rw [heq] at hrow
    obtain⟨b,cur,hb,hh,hsz,hc⟩:=hrow _ cap hη
    obtain rfl:g=b:=by simpa using hb
    have hvw:vw0 hp (.pt p vv k)=.ps (m-k) fun i=>cc (k+i):=by simp only [vw0,heq]
    rw [hvw]
    refine⟨g,k,rfl,fun _=>notL p g (by rw [heq];simp [Row.blk,Row.ver,hη]),fun j hj=>?_⟩
    obtain⟨u,hu,h1,hrep⟩:=hc (k+j) (by omega)
    exact⟨u,by rw [a0Z hh];exact hu,h1,less (a3d (hfl (k+j) (by omega)) hrep)⟩
   ·exact h.elim
 | pe p ver sz i k=>
   simp only [b2y] at h
   have hrow:=hs.rows p
   split at h
   ·rename_i vv ety sz' n cc heq
    obtain⟨rfl,rfl,hi,hk,hfl⟩:=h
    obtain⟨g,cap,hη,rfl⟩:=hr
    rw [heq] at hrow
    obtain⟨cur,hh,hsz,hnc,hm,hc⟩:=hrow _ cap hη
    have hvw:vw0 hp (.pe p vv sz' i k)=.ps (sz'-k) fun x=>cc i (k+x):=by simp only [vw0,heq]
    rw [hvw]
    refine⟨g,i*sz'+k,rfl,fun _=>notL p g (by rw [heq];simp [Row.blk,Row.ver,hη]),fun j hj=>?_⟩
    obtain⟨u,hu,h1,hrep⟩:=hc i hi (k+j) (by omega)
    exact⟨u,by rw [a0Z hh,Nat.add_assoc];exact hu,h1,less (a3d (hfl (k+j) (by omega)) hrep)⟩
   ·exact h.elim
 | _=>exact less (a8b h hr)
theorem c3m {c:Ctx} {hp:Nat->Row} {nx:Nat} {η:Env} {w:World} (hs:HS c hp nx η w) {x:AV} {v:Value} (h:vwP hp x) (hr:Rep w η (a0Y c η hp) x v):Rep w a1l c.Lx (vw hp x) v:=by
 rcases a9N x with⟨m,cc,rfl⟩|⟨e,_⟩
 ·obtain⟨cs,rfl,hm,hc⟩:=hr
  refine⟨cs,rfl,hm,fun j hj=>?_⟩
  obtain⟨u,hu,h1,hr⟩:=hc j hj
  exact⟨u,hu,h1,by dsimp only;rw [if_pos hj];exact b6A hs (h j hj).1 hr⟩
 ·rw [(e hp).1]
  rw [(e hp).2] at h
  exact b6A hs h hr
def rOK (P:Program) (st:AS) (x:ResultVar) (r:AV):Prop:=
 match x with
 | .tmp t=>vwP st.hp (st.fr t)/\a0e (vw st.hp (st.fr t)) r
 | .cell t ty=>match a9m P st.hp ty (st.fr t) with
   | some (pre,z)=>pre/\vwP st.hp z/\a0e (vw st.hp z) r
   | none=>False
def b3p (P:Program) (l:List ResultVar) (r:AV) (st:AS):Prop:=
 st.df=[]/\match l with
 | []=>r=.val (.tuple #[])
 | [x]=>rOK P st x r
 | [x,y]=>∃ c,r=.tu 2 c/\rOK P st x (c 0)/\rOK P st y (c 1)
 | [x,y,z]=>∃ c,r=.tu 3 c/\rOK P st x (c 0)/\rOK P st y (c 1)/\rOK P st z (c 2)
 | _=>False
def c3O (P:Program) (l:List ResultVar) (r:AV):Exit->AS->Prop
 | .normal,st=>b3p P l r st
 | .ret,st=>b3p P l r st
 | _,_=>False
theorem a8D {P:Program} {c:Ctx} {st:AS} {η:Env} {a:Act} {w:World} (h:SR c st η a w) {x:ResultVar} {r:AV} (hx:rOK P st x r) :
  ∃ v,((match x with|.tmp t=>pure (a.tmps.getD t undef)|.cell t ty=>do loadVar ty (<-asAddr (a.tmps.getD t undef))):Sem Value).run P w=.ok v w/\Rep w a1l c.Lx r v:=by
 cases x with
 | tmp t=>
   obtain⟨h1,h2⟩:=hx
   exact⟨_,rfl,h2 _ _ _ _ (c3m h.hs h1 (h.slots t))⟩
 | cell t ty=>
   simp only [rOK] at hx
   split at hx
   ·rename_i pre z hl
    obtain⟨hpre,h1,h2⟩:=hx
    obtain⟨v,hv,hr⟩:=b0g h.hs.rows hl hpre (h.slots t)
    refine⟨v,?_,h2 _ _ _ _ (c3m h.hs h1 hr)⟩
    have hp:∃ ad,a.tmps.getD t undef=.pointer (some ad):=by
     have hs:=h.slots t
     unfold a9m at hl
     split at hl<;>first
      | (rename_i heq;rw [heq] at hs;first|(obtain⟨b,o,e,_⟩:=hs;exact⟨_,e⟩)|(obtain⟨g,cap,_,e⟩:=hs;exact⟨_,e⟩))
      | cases hl
    obtain⟨ad,e⟩:=hp
    simp only
    rw [e] at hv ⊢
    simpa [Instr.loadAt,Instr.sureAddr,asAddr] using hv
   ·exact hx.elim
theorem a8J {P:Program} {c:Ctx} {st:AS} {η:Env} {a:Act} {w:World} (h:SR c st η a w) {fn:Func} {l:List ResultVar} (hl:fn.results=l.toArray) {r:AV} (hr:b3p P l r st) :
  a.defers=[]/\∃ v,(results fn a.tmps).run P w=.ok v w/\Rep w a1l c.Lx r v:=by
 obtain⟨hd,hr⟩:=hr
 refine⟨by rw [h.defs,hd],?_⟩
 unfold results
 rw [hl]
 split at hr
 ·subst hr
  exact⟨_,by simp,rfl⟩
 ·obtain⟨v,hv,hrep⟩:=a8D h hr
  refine⟨v,?_,hrep⟩
  rw [Array.mapM_eq_mapM_toList]
  simp only [List.mapM_cons,List.mapM_nil,Sem.run_bind,Sem.run_map]
  rename_i x
  cases x<;>simp only at hv ⊢<;>rw [hv]<;>simp
 ·obtain⟨cc,rfl,h1,h2⟩:=hr
  obtain⟨v1,hv1,hr1⟩:=a8D h h1
  obtain⟨v2,hv2,hr2⟩:=a8D h h2
  refine⟨.tuple #[v1,v2],?_,#[v1,v2],rfl,rfl,fun j hj=>?_⟩
  ·rw [Array.mapM_eq_mapM_toList]
   simp only [List.mapM_cons,List.mapM_nil,Sem.run_bind,Sem.run_map]
   rename_i x y
   cases x<;>simp only at hv1 ⊢<;>rw [hv1]<;>cases y<;>simp only [Result.andThen_ok] at hv2 ⊢<;>rw [hv2]<;>simp
  ·match j,hj with
   | 0,_=>exact⟨v1,rfl,hr1⟩
   | 1,_=>exact⟨v2,rfl,hr2⟩
 ·obtain⟨cc,rfl,h1,h2,h3⟩:=hr
  obtain⟨v1,hv1,hr1⟩:=a8D h h1
  obtain⟨v2,hv2,hr2⟩:=a8D h h2
  obtain⟨v3,hv3,hr3⟩:=a8D h h3
  refine⟨.tuple #[v1,v2,v3],?_,#[v1,v2,v3],rfl,rfl,fun j hj=>?_⟩
  ·rw [Array.mapM_eq_mapM_toList]
   simp only [List.mapM_cons,List.mapM_nil,Sem.run_bind,Sem.run_map]
   rename_i x y z
   cases x<;>simp only at hv1 ⊢<;>rw [hv1]<;>cases y<;>simp only [Result.andThen_ok] at hv2 ⊢<;>rw [hv2]<;>cases z<;>simp only [Result.andThen_ok] at hv3 ⊢<;>rw [hv3]<;>simp
  ·match j,hj with
   | 0,_=>exact⟨v1,rfl,hr1⟩
   | 1,_=>exact⟨v2,rfl,hr2⟩
   | 2,_=>exact⟨v3,rfl,hr3⟩
 ·exact hr.elim
def st0 (n:Nat) (args:List AV):AS:=⟨fun t=>args.getD t .any,fun _=>.dead,n,0,0,[]⟩
theorem b2Y {α β:Type} {R:α->β->Prop}:∀ {l:List α} {m:List β},a4C R l m->l.length=m.length/\∀ (t:Nat) (x:α),l[t]?=some x->∃ y,m[t]?=some y/\R x y
 | [],[],.nil=>⟨rfl,fun t x h=>by simp at h⟩
 | a::l,b::m,.cons h hf=>by
   obtain⟨h1,h2⟩:=b2Y hf
   refine⟨by simp [h1],fun t x ht=>?_⟩
   cases t with
   | zero=>simp only [List.getElem?_cons_zero,Option.some.injEq] at ht;subst ht;exact⟨b,rfl,h⟩
   | succ t=>simpa using h2 t x (by simpa using ht)
theorem SR.begin {w:World} {L:Nat->Prop} (hT:Tz w) (hL:∀ b,L b->b<w.heap.size) {args:List AV} {vs:List Value} (hf:a4C (Rep w a1l L) args vs) {n:Nat} (hn:args.length<=n) :
  SR ⟨w,a1l,fun _=>False,L,0⟩ (st0 n args) a1l { tmps:=vs.toArray++Array.replicate (n-vs.toArray.size) undef,defers:=[] } w:=by
 obtain⟨hlen,hget⟩:=b2Y hf
 refine⟨⟨Fr.refl _ _,⟨hL,fun b o ho=>⟨hT b o ho,not_false⟩⟩,fun _=>trivial,fun p q v h=>(by cases h),fun p v h=>(by cases h),fun p q b h=>(by cases h),fun p b h=>(by cases h),fun _ _=>rfl,Env.le_refl _,Nat.le_refl _,fun _ _ h=>h⟩,fun _ _=>rfl,?_,fun t=>?_,rfl⟩
 ·simp [st0];omega
 ·have hLs:∀ {x v},Rep w a1l L x v->Rep w a1l (a0Y ⟨w,a1l,fun _=>False,L,0⟩ a1l (fun _=>.dead)) x v:=fun h=>Rep.less (fun b _ hb=>by
   rcases hb with hb|⟨p,hb⟩
   ·exact hb
   ·cases hb) h
  simp only [st0,List.getD_eq_getElem?_getD]
  cases ht:args[t]? with
  | none=>exact trivial
  | some x=>
    obtain⟨y,hy,hr⟩:=hget t x ht
    have:(vs.toArray++Array.replicate (n-vs.toArray.size) undef).getD t undef=y:=by
     have hlt:t<vs.length:=by
      rcases Nat.lt_or_ge t vs.length with h|h
      ·exact h
      ·rw [List.getElem?_eq_none h] at hy;cases hy
     rw [Array.getD_eq_getD_getElem?,Array.getElem?_append_left (by simpa using hlt)]
     simp [hy]
    rw [this]
    exact hLs hr
theorem a67 {P:Program} {f:FuncId} {fn:Func} {code:Code} (hf:P.funcs[f]?=some fn) (hb:fn.body=some code) (hn:(fn.name == "runtime.NumGoroutine")=false) (args:Array Value) (w:World) :
  (callFunc f args).run P w=.ok (.enter f args) w:=by
 have hn':¬fn.name = "runtime.NumGoroutine" := by simpa using hn
 simp [callFunc,hf,hb,hn']
theorem a0d.mk {P:Program} {f:FuncId} {fn:Func} {code:Code} {s:a0s} {l:List ResultVar} (hf:P.funcs[f]?=some fn) (hb:fn.body=some code) (hn:(fn.name == "runtime.NumGoroutine")=false) (hl:fn.results=l.toArray)
  (h:∀ args,s.pre args->args.length<=fn.ntmps/\AW P code (c3O P l (s.res args)) (st0 fn.ntmps args)):a0d P f s:=by
 refine⟨a67 hf hb hn,fun args hpre w L vs hT hL hargs=>?_⟩
 obtain⟨hlen,haw⟩:=h args hpre
 refine calls_of_wp hf hb (wp_mono (haw _ _ _ _ (SR.begin hT hL hargs hlen)) ?_)
 rintro e a' w' ⟨st',η',hq,hsr'⟩
 cases e with
 | normal=>
   obtain⟨hd,v,hv,hr⟩:=a8J hsr' hl hq
   exact⟨hd,v,hv,v,rfl,hsr'.hs.fr,hr⟩
 | ret=>
   obtain⟨hd,v,hv,hr⟩:=a8J hsr' hl hq
   exact⟨hd,v,hv,v,rfl,hsr'.hs.fr,hr⟩
 | exit id=>exact hq.elim
 | goto id=>exact hq.elim
 | panic ch=>exact hq.elim
 | outgrown=>exact hq.elim
end Go.Proofs.YthpjjjnbkfnghaaGreatDoor
