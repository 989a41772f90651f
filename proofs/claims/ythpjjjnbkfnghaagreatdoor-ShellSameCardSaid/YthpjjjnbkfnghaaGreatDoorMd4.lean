/-
  Part 4 of what the proof rests on: values that are told, code that is walked, what comes out.
-/
import Derived.Test.YthpjjjnbkfnghaaGreatDoorMd3
set_option maxRecDepth 100000
set_option maxHeartbeats 2000000
set_option linter.all false
namespace Go.Proofs.YthpjjjnbkfnghaaGreatDoor
open Go
attribute [local irreducible] AW a0e a1g a0a
def a7e (f:Bool) (p v q u:Nat) (l:List UInt8):Nat->AV:=b9p f p v (if l=[] then .val (.slice none 0 0) else .ow q u l.length)
def a8m (u:Nat) (l:List UInt8):Row:=if l=[] then .dead else a0m u l
theorem c55 (f:Bool) (p v q u:Nat):a7e f p v q u []=b9p f p v (.val (.slice none 0 0)):=rfl
theorem b2D {f:Bool} {p v q u:Nat} {l:List UInt8} (h:¬l=[]):a7e f p v q u l=b9p f p v (.ow q u l.length):=by
 unfold a7e
 rw [if_neg h]
theorem b7G (u:Nat):a8m u []=.dead:=rfl
theorem a5O {u:Nat} {l:List UInt8} (h:¬l=[]):a8m u l=a0m u l:=if_neg h
theorem c8y {f:Bool} {p v p':Nat} {x y:AV} (h:a0e x y):a0a (.box v 138 2 (b9p f p v x)) (.box v 138 2 (b9p f p' v y)):=a0a.box fun j hj=>by
 match j,hj with
 | 0,_=>
   cases f with
   | true=>exact a0e.pt
   | false=>exact a0e.refl _
 | 1,_=>exact h
theorem b29 (f:Bool) (p q p' q' v u:Nat) (l:List UInt8):a0a (.box v 138 2 (a7e f p v q u l)) (.box v 138 2 (a7e f p' v q' u l)):=c8y (by
 split
 ·exact a0e.refl _
 ·exact a0e.ow)
theorem b58:a1u (.val (.slice none 0 0))=some (1,fun _=>.val (.slice none 0 0)):=rfl
def b6s:a0L:=fun args hp top nx K=>∃ (f:Bool) (v u:Nat) (l s:List UInt8),args=[.pt 0 v 0,.st s]/\hp=rws [(0,.box v 138 2 (a7e f 0 v 1 u l)),(1,a8m u l)]/\top=2/\l.length+s.length<=100000000000/\
 ∀ u' nx',((l≠[]/\u'=u)\/nx<=u')->nx<=nx'->K (tu2 (.val (.int .i64 s.length)) (.val .nilIface)) (rws [(0,.box v 138 2 (a7e true 0 v 1 u' (l++s))),(1,a8m u' (l++s))]) 2 nx'
theorem c2J:a0i Tryz.prog 88 b6s:=by
 refine a0i.mk Tryz.func88 rfl (by decide) Tryz.results88 Tryz.ntmps88 ?_
 rintro args hp top nx K ⟨f,v,u,l,s,rfl,rfl,rfl,hl,hK⟩
 have hΓ:GOK Tryz.prog (gam [(147,a10)]):=(.cons b7W .nil)
 refine⟨Nat.le_of_ble_eq_true rfl,AW.late ?_⟩
 refine AW.of hΓ mixed [1] _ _ _ rfl ?_
 simp only [go_sem,a10]
 refine⟨f,0,v,_,rfl,rfl,?_⟩
 by_cases hl0:l=[]
 ·subst hl0
  refine AW.cut ⟨[(0,.pt 0 v 0),(1,.st s)],[(0,.box v 138 2 (b9p true 0 v (.val (.slice none 0 0))))],19,2,nx,[]⟩ ?_ ?_
  ·simp only [go_sem,a10]
   exact a0a.refl _
  refine AW.fork (AW.regionO hΓ [false,false,false,false,false,false,true] ?_)
  simp only [go_sem,a10,b80]
  by_cases hs0:s=[]
  ·subst hs0
   refine c6y rfl Tryz.underlying102 Tryz.underlying9 a64 (by decide) rfl rfl (Nat.lt_of_lt_of_le (by decide:14<19) (Nat.le_refl _)) ?_
   simp only [go_sem,a10,b80,b58]
   refine AW.of hΓ mixed [] _ _ _ rfl ?_
   simp only [go_sem,a10]
   refine⟨_,a0g (fun p=>p) (l:=[(4,.val (.int .i64 0)),(5,.val .nilIface)]) (r:=[(0,.box v 138 2 (a7e true 0 v 1 nx [])),(1,a8m nx [])]) (sz:=19) (top:=2) (nx:=nx+1) (df:=[]) ?_,?_⟩
   ·simp only [go_sem,a10]
    refine⟨Nat.le_succ _,a0e.refl _,a0a.box fun j hj=>?_,a0a.refl _⟩
    match j,hj with
    | 0,_=>exact a0e.refl _
    | 1,_=>exact a0e.refl _
   ·exact⟨rfl,⟨trivial,trivial⟩,hK nx (nx+1) (.inr (Nat.le_refl _)) (by omega)⟩
  ·refine c8d rfl Tryz.underlying102 Tryz.underlying9 rfl rfl hs0 (Nat.lt_of_lt_of_le (by decide:14<19) (Nat.le_refl _)) ⟨a64,by decide,by rw [a3F];decide,by rw [a3F];omega,_,b2G,rfl⟩ ?_
   simp only [go_sem,a10,b80]
   refine AW.of hΓ mixed [] _ _ _ rfl ?_
   simp only [go_sem,a10]
   refine⟨_,a0g (fun p=>if p=1 then 2 else p) (l:=[(4,.val (.int .i64 s.length)),(5,.val .nilIface)]) (r:=[(0,.box v 138 2 (a7e true 0 v 1 nx s)),(1,a8m nx s)]) (sz:=19) (top:=2) (nx:=nx+1) (df:=[]) ?_,?_⟩
   ·rw [b2D hs0,a5O hs0]
    simp only [go_sem,a10]
    refine⟨a0e.refl _,a0a.box fun j hj=>?_,a0a.refl _⟩
    match j,hj with
    | 0,_=>exact a0e.refl _
    | 1,_=>exact a0e.ow
   ·exact⟨rfl,⟨trivial,trivial⟩,hK nx (nx+1) (.inr (Nat.le_refl _)) (by omega)⟩
 ·have hls:¬l++s=[]:=fun h=>hl0 (List.append_eq_nil_iff.1 h).1
  refine AW.cut ⟨[(0,.pt 0 v 0),(1,.st s)],[(0,.box v 138 2 (b9p true 0 v (.ow 1 u l.length))),(1,a0m u l)],19,2,nx,[]⟩ ?_ ?_
  ·rw [a5O hl0]
   simp only [go_sem,a10,hl0]
   exact⟨a0a.refl _,a0a.refl _⟩
  refine AW.fork (AW.regionO hΓ [false,false,false,false,false,false,true] ?_)
  simp only [go_sem,a10,b80]
  refine a6m rfl Tryz.underlying102 Tryz.underlying9 rfl rfl rfl (Nat.lt_of_lt_of_le (by decide:14<19) (Nat.le_refl _)) ⟨a64,by decide,by rw [a3F];decide,by rw [a3F];omega,_,b2G,rfl⟩ ?_
  simp only [go_sem,a10,b80]
  refine AW.of hΓ mixed [] _ _ _ rfl ?_
  simp only [go_sem,a10]
  refine⟨_,a0g (fun p=>p) (l:=[(4,.val (.int .i64 s.length)),(5,.val .nilIface)]) (r:=[(0,.box v 138 2 (a7e true 0 v 1 nx (l++s))),(1,a8m nx (l++s))]) (sz:=19) (top:=2) (nx:=nx+1) (df:=[]) ?_,?_⟩
  ·rw [b2D hls,a5O hls]
   simp only [go_sem,a10]
   refine⟨a0e.refl _,a0a.box fun j hj=>?_,b2F rfl rfl⟩
   match j,hj with
   | 0,_=>exact a0e.refl _
   | 1,_=>exact a0e.refl _
  ·exact⟨rfl,⟨trivial,trivial⟩,hK nx (nx+1) (.inr (Nat.le_refl _)) (by omega)⟩
def a0D:a0L:=a1F b6s
theorem b7N:a0i Tryz.prog 88 a0D:=c2J.frame
theorem a5b {f:Bool} {p q v u:Nat} {l s:List UInt8} {hp:Nat->Row} {top nx:Nat} {K:AV->(Nat->Row)->Nat->Nat->Prop} (hpq:p≠q)
  (hr:a0a (hp p) (.box v 138 2 (a7e f p v q u l))) (hr2:a0a (hp q) (a8m u l)) (ht:p<top/\q<top) (hl:l.length+s.length<=100000000000)
  (hK:∀ u' nx',((l≠[]/\u'=u)\/nx<=u')->nx<=nx'->K (tu2 (.val (.int .i64 s.length)) (.val .nilIface)) (a0S (a0S hp p (.box v 138 2 (a7e true p v q u' (l++s)))) q (a8m u' (l++s))) top nx') :
  a0D [.pt p v 0,.st s] hp top nx K:=by
 have e1:(hp p).ver=some v:=hr.vers.symm
 have e2:(hp q).ver=(a8m u l).ver:=hr2.vers.symm
 refine⟨[p,q],[.pt 0 v 0,.st s],rws [(0,.box v 138 2 (a7e f 0 v 1 u l)),(1,a8m u l)],by simp [hpq],by simp;omega,.cons a0e.pt (.cons (a0e.refl _) .nil),b4p (hr.trans (b29 f p q 0 1 v u l)) hr2,fun i hi=>a1Y (top:=2) (by simp) i (by simpa using hi),f,v,u,l,s,rfl,rfl,rfl,hl,fun u' nx' h1 h3=>?_⟩
 refine⟨_,_,a0e.refl _,fun i o ho=>?_,fun o ho=>?_,fun o ho w hv=>?_,hK u' nx' h1 h3⟩
 ·match i with
  | 0=>
    simp only [List.getElem?_cons_zero,Option.some.injEq] at ho
    subst ho
    rw [a0f _ _ hpq,a0k]
    exact b29 true 0 1 p q v u' _
  | 1=>
    simp only [List.getElem?_cons_succ,List.getElem?_cons_zero,Option.some.injEq] at ho
    subst ho
    rw [a0k]
    exact a0a.refl _
  | i+2=>simp at ho
 ·simp only [List.mem_cons,List.not_mem_nil,or_false,not_or] at ho
  rw [a0f _ _ ho.2,a0f _ _ ho.1]
 ·simp only [List.mem_cons,List.not_mem_nil,or_false] at ho
  rcases ho with rfl|rfl
  ·rw [a0f _ _ hpq,a0k] at hv
   have:some v=some w:=hv
   obtain rfl:=Option.some.inj this
   exact .inl e1
  ·rw [a0k] at hv
   by_cases h0:l++s=[]
   ·rw [h0,b7G] at hv
    cases hv
   ·rw [a5O h0] at hv
    have:some u'=some w:=hv
    obtain rfl:=Option.some.inj this
    rcases h1 with⟨h1,rfl⟩|h1
    ·rw [e2,a5O h1]
     exact .inl rfl
    ·exact .inr h1
def a1K:a0L:=fun args hp top nx K=>∃ (f:Bool) (p v q u:Nat) (l:List UInt8),args=[.pt p v 0]/\hp p=.box v 138 2 (a7e f p v q u l)/\hp q=a8m u l/\l.length<=100000000000/\K (.st l) (a0S hp q .dead) top nx
theorem c77:a0i Tryz.prog 92 a1K:=by
 refine⟨a67 Tryz.func92 rfl (by decide),?_⟩
 rintro args hp top nx K ⟨f,p,v,q,u,l,rfl,hrow,hrow2,hlen,hK⟩ c η w vs hs hdead hargs
 by_cases h0:l=[]
 ·subst h0
  rw [c55] at hrow
  rw [b7G] at hrow2
  have e:a0S hp q .dead=hp:=by
   funext k
   unfold a0S
   split
   ·rename_i h;rw [h,hrow2]
   ·rfl
  rw [e] at hK
  cases hargs with
  | cons hx hr=>cases hr with
    | nil=>
      obtain⟨b,cap,hη,rfl⟩:=hx
      have hr:=hs.rows p
      rw [hrow] at hr
      obtain⟨b',cur,hb,hh,hsz,hc⟩:=hr _ _ hη
      obtain rfl:b=b':=by simpa using hb
      obtain⟨x0,hx0,_,_⟩:=hc 0 (by decide)
      obtain⟨x1,hx1,_,hr1⟩:=hc 1 (by decide)
      have hr1:x1=.slice none 0 0:=hr1
      subst hr1
      have hcur:cur=#[x0,.slice none 0 0]:=by
       apply Array.ext
       ·simp [hsz]
       ·intro i h1 h2
        match i,h2 with
        | 0,_=>rw [Array.getElem?_eq_getElem h1] at hx0;exact Option.some.inj hx0
        | 1,_=>rw [Array.getElem?_eq_getElem h1] at hx1;exact Option.some.inj hx1
      refine (b7C b x0 w (by rw [hh,hcur])).mono ?_
      rintro e w' ⟨rfl,hf⟩
      exact⟨_,_,_,_,_,η,rfl,hK,hs.world hf,hdead,rfl⟩
 ·rw [b2D h0] at hrow
  rw [a5O h0] at hrow2
  exact (d29.2 [.pt p v 0] hp top nx K (.inl ⟨f,p,v,q,u,l,rfl,hrow,hrow2,h0,hlen,hK⟩) c η w vs hs hdead hargs)
end Go.Proofs.YthpjjjnbkfnghaaGreatDoor
set_option maxRecDepth 100000
set_option maxHeartbeats 8000000
namespace Go.Proofs.YthpjjjnbkfnghaaGreatDoor
open Go
theorem Fr.grown (w:World) (k:Nat) (os:Array Obj):Fr (fun _=>False) w (Go.Sort.grow (w.drewN k) os):=by
 refine⟨rfl,rfl,rfl,?_,fun b hb _=>?_⟩
 ·show w.heap.size<=(w.heap++os).size
  rw [Array.size_append]
  omega
 ·show (w.heap++os)[b]?=w.heap[b]?
  rw [Array.getElem?_append_left hb]
theorem c79 {w:World} (hT:Tz w):Lib.TabIs Tryz.prog w "internal/strconv.uint64pow10" .u64 Lib.pow10Tab:=by
 obtain⟨o,ho,t,f,rfl⟩:=hT 5 e0s rfl
 have hg:Tryz.prog.globalNamed "internal/strconv.uint64pow10" = some 5:=by decide +kernel
 unfold Lib.TabIs World.var?
 rw [hg]
 simp only [Option.bind_some,ho]
def a0t:a0s:=a0s.f1 kI (fun n=>0<=n/\n<=1000000000000) (fun n=>kS.enc (Lib.itoa n))
theorem a9V:a0d Tryz.prog 117 a0t:=by
 refine a0d.rawT Tryz.func117 rfl (by decide) fun args hp w L vs hT hL ha=>?_
 match args,hp with
 | [x],hp=>
   obtain⟨h1,h2⟩:=hp
   cases ha with
   | cons hx hr=>cases hr with
     | nil=>
       have ex:=h1 _ _ _ _ hx
       simp only [kI,Rep] at ex
       subst ex
       refine (Tryz.strconv_Itoa (kI.dec x) (by omega) (by omega) w (c79 hT)).mono ?_
       rintro e w' ⟨rfl,k,os,rfl⟩
       exact⟨_,rfl,Fr.grown w k os,rfl⟩
attribute [local irreducible] AW a0e a1g a0a
theorem a47 {n:Int} (h:0<=n) (h2:n<1000000000000):(Lib.itoa n).length<=12:=by
 obtain⟨k,rfl⟩:=Int.eq_ofNat_of_zero_le h
 unfold Lib.itoa
 rw [if_neg (by omega)]
 exact b5S 12 _ (by omega) (by rw [Int.toNat_natCast];have:(10:Nat) ^ 12=1000000000000:=by decide
                               omega)
theorem a8l {a n:Int} (h1:0<=a) (h2:a<=1000000000) (h3:0<=n) (h4:n<=1000000000):(b3E a n).length<=30:=by
 have:=a47 (n:=a+1) (by omega) (by omega)
 have:=a47 (n:=n) (by omega) (by omega)
 unfold b3E
 simp only [List.length_append,List.length_cons,List.length_nil]
 omega
def b5P:a0s:=a0s.f2 kI kI (fun a n=>(0<=a/\a<=1000000000)/\0<=n/\n<=1000000000) (fun a n=>kS.enc (b3E a n))
theorem c5m:a0d Tryz.prog 148 b5P:=by
 refine a0d.f2 Tryz.func148 rfl (by decide) Tryz.results148 Tryz.ntmps148 (by decide) fun a n ⟨⟨h1,h2⟩,h3,h4⟩=>?_
 have hΓ:GOK Tryz.prog (gam [(117,a0t)]):=(.cons a9V .nil)
 refine AW.of hΓ mixed [99999] _ _ _ rfl ?_
 simp only [go_sem,a0t]
 have l1:=a47 (n:=a+1) (by omega) (by omega)
 have l2:=a47 (n:=n) (by omega) (by omega)
 exact⟨by omega,by omega,by omega,by omega,by omega,rfl⟩
def a1E:a0s:=a0s.f1 (kA (eP eI (eP eI (eL (eP eI (eL eS)))))) (fun h=>(0<=h.1/\h.1<=1000000)/\(0<=h.2.1/\h.2.1<=100000000)/\h.2.2.length<10000/\∀ s∈h.2.2,s.2.length<=10000) (fun h=>kS.enc (a6W h))
theorem d0d:a0d Tryz.prog 89 a1E:=by
 refine a0d.f1 Tryz.func89 rfl (by decide) Tryz.results89 Tryz.ntmps89 (by decide) fun h ⟨⟨h1,h2⟩,⟨h3,h4⟩,h5,h6⟩=>?_
 have hΓ:GOK Tryz.prog (gam [(108,a5L),(148,b5P)]):=(.cons b3C (.cons c5m .nil))
 obtain⟨A,B,st⟩:=h
 dsimp only at h1 h2 h3 h4 h5 h6
 have c0:=Nat.le_trans (a29 h6 0) (Nat.mul_le_mul_right _ (show st.length<=10000 by omega))
 have c1:=Nat.le_trans (a29 h6 1) (Nat.mul_le_mul_right _ (show st.length<=10000 by omega))
 have c2:=Nat.le_trans (a29 h6 2) (Nat.mul_le_mul_right _ (show st.length<=10000 by omega))
 refine AW.of hΓ mixed [99999] _ _ _ rfl ?_
 simp only [go_sem,a5L,b5P,a3z,b5H,d3o,d11,d1U,hk0,hk1,hk2]
 have l1:=a8l (a:=A) (n:=(a0G 0 st:Int)+a0G 1 st) h1 (by omega) (by omega) (by omega)
 have l2:=a8l (a:=B) (n:=(a0G 0 st:Int)+a0G 2 st) h3 (by omega) (by omega) (by omega)
 exact⟨⟨h5,h6⟩,by omega,⟨by omega,by omega,by omega⟩,by omega,by omega,by omega,⟨by omega,by omega,by omega⟩,by omega,by omega,rfl⟩
theorem c0f {nx n m:Nat} {l:List UInt8} {b:UInt8} {dd:Nat->Nat->AV} (hn:n=l.length) (hm:m=n+1) (hd:dd 0 0=.val (.int .u8 b.toNat)):a0a (.sl nx 5 1 m (apC n (a2j l) dd)) (a0m nx (l++[b])):=by
 refine a0a.trans (a0a.sl rfl (d:=apC n (a2j l) (a2j [b])) fun i hi j hj=>?_) (b2F hn (by simpa using hm))
 simp only [apC]
 split
 ·exact a0e.refl _
 ·rw [show i-n=0 by omega,show j=0 by omega,hd]
  exact a0e.refl _
def b6j:a0L:=fun args hp top nx K=>∃ (v u:Nat) (l:List UInt8) (b:UInt8),args=[.pt 0 v 0,.val (.int .u8 b.toNat)]/\hp=rws [(0,.box v 138 2 (a7e true 0 v 1 u l)),(1,a8m u l)]/\top=2/\l≠[]/\l.length<=100000000000/\
 ∀ u' nx',nx<=u'->nx<=nx'->K (.val .nilIface) (rws [(0,.box v 138 2 (a7e true 0 v 1 u' (l++[b]))),(1,a8m u' (l++[b]))]) 2 nx'
theorem c0u:a0i Tryz.prog 90 b6j:=by
 refine a0i.mk Tryz.func90 rfl (by decide) Tryz.results90 Tryz.ntmps90 ?_
 rintro args hp top nx K ⟨v,u,l,b,rfl,rfl,rfl,hl0,hl,hK⟩
 have hΓ:GOK Tryz.prog (gam [(147,a10)]):=(.cons b7W .nil)
 refine⟨Nat.le_of_ble_eq_true rfl,AW.late ?_⟩
 refine AW.of hΓ mixed [1] _ _ _ rfl ?_
 simp only [go_sem,a10]
 refine⟨true,0,v,_,rfl,rfl,?_⟩
 have hls:¬l++[b]=[]:=fun h=>hl0 (List.append_eq_nil_iff.1 h).1
 refine AW.cut ⟨[(0,.pt 0 v 0),(1,.val (.int .u8 b.toNat))],[(0,.box v 138 2 (b9p true 0 v (.ow 1 u l.length))),(1,a0m u l)],17,2,nx,[]⟩ ?_ ?_
 ·rw [a5O hl0]
  simp only [go_sem,a10,hl0]
  exact⟨a0a.refl _,a0a.refl _⟩
 refine AW.of hΓ mixed [99999] _ _ _ rfl ?_
 simp only [go_sem,a10,b80,a0m]
 refine⟨by omega,_,a0g (fun p=>p) (l:=[(4,.val .nilIface)]) (r:=[(0,.box v 138 2 (a7e true 0 v 1 nx (l++[b]))),(1,a8m nx (l++[b]))]) (sz:=17) (top:=2) (nx:=nx+1) (df:=[]) ?_,?_⟩
 ·rw [b2D hls,a5O hls]
  simp only [go_sem,a10]
  refine⟨a0e.refl _,a0a.box fun j hj=>?_,c0f rfl rfl rfl⟩
  match j,hj with
  | 0,_=>exact a0e.refl _
  | 1,_=>exact a0e.refl _
 ·exact⟨rfl,trivial,hK nx (nx+1) (Nat.le_refl _) (by omega)⟩
def a01:a0L:=a1F b6j
theorem c4M:a0i Tryz.prog 90 a01:=c0u.frame
theorem b3S {p q v u:Nat} {l:List UInt8} {b:UInt8} {hp:Nat->Row} {top nx:Nat} {K:AV->(Nat->Row)->Nat->Nat->Prop} (hpq:p≠q)
  (hr:a0a (hp p) (.box v 138 2 (a7e true p v q u l))) (hr2:a0a (hp q) (a8m u l)) (ht:p<top/\q<top) (hl0:l≠[]) (hl:l.length<=100000000000)
  (hK:∀ u' nx',nx<=u'->nx<=nx'->K (.val .nilIface) (a0S (a0S hp p (.box v 138 2 (a7e true p v q u' (l++[b])))) q (a8m u' (l++[b]))) top nx') :
  a01 [.pt p v 0,.val (.int .u8 b.toNat)] hp top nx K:=by
 have e1:(hp p).ver=some v:=hr.vers.symm
 refine⟨[p,q],[.pt 0 v 0,.val (.int .u8 b.toNat)],rws [(0,.box v 138 2 (a7e true 0 v 1 u l)),(1,a8m u l)],by simp [hpq],by simp;omega,.cons a0e.pt (.cons (a0e.refl _) .nil),b4p (hr.trans (b29 true p q 0 1 v u l)) hr2,fun i hi=>a1Y (top:=2) (by simp) i (by simpa using hi),v,u,l,b,rfl,rfl,rfl,hl0,hl,fun u' nx' h1 h3=>?_⟩
 refine⟨_,_,a0e.refl _,fun i o ho=>?_,fun o ho=>?_,fun o ho w hv=>?_,hK u' nx' h1 h3⟩
 ·match i with
  | 0=>
    simp only [List.getElem?_cons_zero,Option.some.injEq] at ho
    subst ho
    rw [a0f _ _ hpq,a0k]
    exact b29 true 0 1 p q v u' _
  | 1=>
    simp only [List.getElem?_cons_succ,List.getElem?_cons_zero,Option.some.injEq] at ho
    subst ho
    rw [a0k]
    exact a0a.refl _
  | i+2=>simp at ho
 ·simp only [List.mem_cons,List.not_mem_nil,or_false,not_or] at ho
  rw [a0f _ _ ho.2,a0f _ _ ho.1]
 ·simp only [List.mem_cons,List.not_mem_nil,or_false] at ho
  rcases ho with rfl|rfl
  ·rw [a0f _ _ hpq,a0k] at hv
   have:some v=some w:=hv
   obtain rfl:=Option.some.inj this
   exact .inl e1
  ·rw [a0k,a5O (by simp)] at hv
   have:some u'=some w:=hv
   obtain rfl:=Option.some.inj this
   exact .inr h1
end Go.Proofs.YthpjjjnbkfnghaaGreatDoor
set_option maxRecDepth 100000
set_option maxHeartbeats 8000000
namespace Go.Proofs.YthpjjjnbkfnghaaGreatDoor
open Go
theorem Fr.drewN (w:World) (k:Nat):Fr (fun _=>False) w (w.drewN k):=⟨rfl,rfl,rfl,Nat.le_refl _,fun _ _ _=>rfl⟩
theorem b5D {w:World} (hT:Tz w):∃ m,w.cell? ⟨0,0,none⟩=some (.int .i64 m):=by
 obtain⟨o,ho,m,t,f,rfl⟩:=hT 0 d8V rfl
 refine⟨m,?_⟩
 unfold World.cell?
 rw [show (⟨0,0,none⟩:Addr).block=0 from rfl,ho]
 rfl
end Go.Proofs.YthpjjjnbkfnghaaGreatDoor
set_option maxRecDepth 100000
set_option maxHeartbeats 8000000
namespace Go.Proofs.YthpjjjnbkfnghaaGreatDoor
open Go
theorem Fr.bytes (w:World) (e:TypeId) (t:ByteArray):Fr (fun _=>False) w (Lib.bytesWorld w e t):=by
 refine⟨?_,?_,?_,by rw [Lib.bytesWorld_size];omega,fun b hb _=>Lib.bytesWorld_at_old w e t b hb⟩
 all_goals (unfold Lib.bytesWorld World.freeze;split<;>rfl)
end Go.Proofs.YthpjjjnbkfnghaaGreatDoor
set_option maxRecDepth 100000
set_option maxHeartbeats 8000000
namespace Go.Proofs.YthpjjjnbkfnghaaGreatDoor
open Go
theorem c5t:∀ (n:Nat) (s:List UInt8),s.length<=n->Lib.count s [32]+1=(wdL s).length:=by
 intro n
 induction n with
 | zero=>
   intro s h
   obtain rfl:=List.length_eq_zero_iff.1 (by omega:s.length=0)
   rw [Lib.count_miss (b7R (by simp))]
   rfl
 | succ n ih=>
   intro s h
   rcases a3t 32 s with h1|⟨p,r,rfl,h1⟩
   ·rw [Lib.count_miss (b7R h1),a86 s h1]
    rfl
   ·rw [Lib.count_hit (i:=p.length) (by simp) (b4J h1)]
    have e:(p++32::r).drop (p.length+([32]:List UInt8).length)=r:=b7j p r 32
    rw [e,a7g p r h1,List.length_cons,<-ih r (by simp at h;omega)]
    omega
theorem b6M {w:World} {L:Nat->Prop} {n cap:Nat} {l:List (List UInt8)} {cells:Array Value} {t:TypeId} (hn:n=l.length) (hc:n<=cap) (hL:∀ b,L b->b<w.heap.size)
  (h:∀ i,i<l.length->cells[i]?=some (.string ⟨(l.getD i []).toArray⟩)):Rep (w.alloc (.cells cells t)) a1l L (sL eS l) (.slice (some ⟨w.heap.size,0,none⟩) n cap):=by
 subst hn
 refine⟨_,_,rfl,hc,fun _ _=>⟨w.heap.size,0,rfl,fun hl=>Nat.lt_irrefl _ (hL _ hl),fun i hi j hj=>?_⟩⟩
 have hj:j<1:=hj
 obtain rfl:j=0:=by omega
 refine⟨_,?_,rfl,rfl⟩
 rw [a0Z (heap_alloc_new w _)]
 rw [Nat.zero_add,show i*eS.sz+0=i from Nat.mul_one i,h i hi]
 rfl
def a0q:a0s:=a0s.f2 kS kS (fun s b=>s.length<=1000000000/\b=[32]) (fun s _=>sL eS (wdL s))
theorem b70:a0d Tryz.prog 55 a0q:=by
 refine a0d.rawT Tryz.func55 rfl (by decide) fun args hp w L vs hT hL ha=>?_
 match args,hp with
 | [x,y],hp=>
   obtain⟨h1,h2,h3,h4⟩:=hp
   cases ha with
   | cons hx hr=>cases hr with
     | cons hy hr=>cases hr with
       | nil=>
         have ex:=h1 _ _ _ _ hx
         have ey:=h2 _ _ _ _ hy
         simp only [kS,Rep] at ex ey
         rw [show AV.str y=[32] from h4] at ey
         subst ex ey
         have h3:(AV.str x).length<=1000000000:=h3
         show Calls _ _ _ _ fun e w'=>∃ v,e=.returned v/\Fr (fun _=>False) w w'/\Rep w' a1l L (sL eS (wdL (AV.str x))) v
         generalize AV.str x=s at *
         obtain⟨m,hm⟩:=b5D hT
         refine (Tryz.strings_Split ⟨s.toArray⟩ ⟨[32].toArray⟩ m w (by rw [Lib.size_eq];simp only [List.toList_toArray];omega) hm (by decide)).mono ?_
         rintro e w' ⟨rfl,rfl⟩
         refine⟨_,rfl,Fr.alloc _ _ _,?_⟩
         have hl:(Lib.splitB ⟨[32].toArray⟩ 0 (Lib.countB ⟨s.toArray⟩ ⟨[32].toArray⟩) ⟨s.toArray⟩).map (·.data.toList)=wdL s:=by
          rw [Lib.splitB_data]
          exact c4x _ s (Nat.le_refl _)
         have hc:Lib.countB ⟨s.toArray⟩ ⟨[32].toArray⟩+1=(wdL s).length:=c5t _ s (Nat.le_refl _)
         refine b6M hc (Nat.le_refl _) hL fun i hi=>?_
         rw [<-hl,List.length_map] at hi
         rw [<-hl]
         simp only [List.getElem?_toArray,List.getElem?_map,List.getElem?_eq_getElem hi,Option.map_some,List.getD,Option.getD_some]
def a1i:a0s:=a0s.f3 kS kS kI (fun s b n=>s.length<=1000000000/\b=[32]/\n=3) (fun s _ _=>sL eS (Lib.splitN s [32] 3))
theorem c4j:a0d Tryz.prog 113 a1i:=by
 refine a0d.rawT Tryz.func113 rfl (by decide) fun args hp w L vs hT hL ha=>?_
 match args,hp with
 | [x,y,z],hp=>
   obtain⟨h1,h2,h2',h3,h4,h5⟩:=hp
   cases ha with
   | cons hx hr=>cases hr with
     | cons hy hr=>cases hr with
       | cons hz hr=>cases hr with
         | nil=>
           have ex:=h1 _ _ _ _ hx
           have ey:=h2 _ _ _ _ hy
           have ez:=h2' _ _ _ _ hz
           simp only [kS,kI,Rep] at ex ey ez
           rw [show AV.str y=[32] from h4] at ey
           rw [show AV.int z=3 from h5] at ez
           subst ex ey ez
           have h3:(AV.str x).length<=1000000000:=h3
           show Calls _ _ _ _ fun e w'=>∃ v,e=.returned v/\Fr (fun _=>False) w w'/\Rep w' a1l L (sL eS (Lib.splitN (AV.str x) [32] 3)) v
           generalize AV.str x=s at *
           obtain⟨m,hm⟩:=b5D hT
           refine (Tryz.strings_SplitN ⟨s.toArray⟩ ⟨[32].toArray⟩ 3 m w (by rw [Lib.size_eq];simp only [List.toList_toArray];omega) hm (by decide) (by decide) (by decide)).mono ?_
           rintro e w' ⟨rfl,rfl⟩
           refine⟨_,rfl,Fr.alloc _ _ _,?_⟩
           have hs:(⟨s.toArray⟩:ByteArray).size=s.length:=by rw [Lib.size_eq]
           have hl:(Lib.splitB ⟨[32].toArray⟩ 0 (min 3 ((⟨s.toArray⟩:ByteArray).size+1)-1) ⟨s.toArray⟩).map (·.data.toList)=Lib.splitN s [32] 3:=by
            rw [Lib.splitB_data,hs]
            rfl
           have hle:=Lib.splitB_length_le ⟨[32].toArray⟩ 0 (min 3 ((⟨s.toArray⟩:ByteArray).size+1)-1) ⟨s.toArray⟩
           refine b6M (by rw [<-hl,List.length_map]) (by omega) hL fun i hi=>?_
           rw [<-hl,List.length_map] at hi
           rw [<-hl]
           unfold Lib.cellsOf
           simp only [List.getElem?_toArray,List.getElem?_append_left (by simpa using hi:i<(List.map Value.string _).length),List.getElem?_map,List.getElem?_eq_getElem hi,Option.map_some,List.getD,Option.getD_some]
def c2I:a0s:=a0s.f3 kS kS kS (fun s a b=>s.length<=4000000000/\a=[10]/\b=[59]) (fun s _ _=>kS.enc (c2k s))
theorem c9C:a0d Tryz.prog 171 c2I:=by
 refine a0d.rawT Tryz.func171 rfl (by decide) fun args hp w L vs hT hL ha=>?_
 match args,hp with
 | [x,y,z],hp=>
   obtain⟨h1,h2,h2',h3,h4,h5⟩:=hp
   cases ha with
   | cons hx hr=>cases hr with
     | cons hy hr=>cases hr with
       | cons hz hr=>cases hr with
         | nil=>
           have ex:=h1 _ _ _ _ hx
           have ey:=h2 _ _ _ _ hy
           have ez:=h2' _ _ _ _ hz
           simp only [kS,Rep] at ex ey ez
           rw [show AV.str y=[10] from h4] at ey
           rw [show AV.str z=[59] from h5] at ez
           subst ex ey ez
           have h3:(AV.str x).length<=4000000000:=h3
           show Calls _ _ _ _ fun e w'=>∃ v,e=.returned v/\Fr (fun _=>False) w w'/\Rep w' a1l L (kS.enc (c2k (AV.str x))) v
           generalize AV.str x=s at *
           obtain⟨m,hm⟩:=b5D hT
           have hs:(⟨s.toArray⟩:ByteArray).size=s.length:=by rw [Lib.size_eq]
           have hc:Lib.countB ⟨s.toArray⟩ ⟨[10].toArray⟩<=s.length+1:=Lib.count_le s [10]
           have h59:(⟨[(59:UInt8)].toArray⟩:ByteArray).size=1:=rfl
           refine (Tryz.strings_ReplaceAll ⟨s.toArray⟩ ⟨[10].toArray⟩ ⟨[59].toArray⟩ m w (by rw [hs];omega) hm (by decide) (by rw [hs,h59];omega)).mono ?_
           rintro e w' ⟨rfl,hb⟩
           refine⟨_,rfl,Fr.of_below hb _,?_⟩
           have e:Lib.replaceAll s [10] [59]=c2k s:=b47 _ s (Nat.le_refl _)
           show _=Value.string _
           rw [<-e]
def ifV:AV:=.ob fun _ v=>∃ u x,v=.iface u x
def b6d (s:List UInt8):AV:=match Lib.atoiAll s with
 | .ok n=>tu2 (.val (.int .i64 n)) (.val .nilIface)
 | .range=>tu2 (.val (.int .i64 (Lib.atoiSat s))) ifV
 | _=>tu2 (.val (.int .i64 0)) ifV
theorem c3b {w:World} (hT:Tz w) {g:Nat} (h:tabZ g=some c2t):∃ u v,w.cell? ⟨g,0,none⟩=some (.iface u v):=by
 obtain⟨o,ho,u,v,t,f,rfl⟩:=hT g _ h
 refine⟨u,v,?_⟩
 rw [a0Z ho]
 rfl
theorem c7k {w:World} {L:Nat->Prop} {n:Int} {u:TypeId} {x:Value}:Rep w a1l L (tu2 (.val (.int .i64 n)) ifV) (.tuple #[.int .i64 n,.iface u x]):=by
 refine⟨_,rfl,rfl,fun j hj=>?_⟩
 match j,hj with
 | 0,_=>exact⟨_,rfl,rfl⟩
 | 1,_=>exact⟨_,rfl,a1l,fun _ _ h=>h,u,x,rfl⟩
def a6t:a0s:=a0s.f1 kS (fun s=>s.length<=1000000000) b6d
theorem c8x:a0d Tryz.prog 144 a6t:=by
 refine a0d.rawT Tryz.func144 rfl (by decide) fun args hp w L vs hT hL ha=>?_
 match args,hp with
 | [x],hp=>
   obtain⟨h1,h2⟩:=hp
   cases ha with
   | cons hx hr=>cases hr with
     | nil=>
       have ex:=h1 _ _ _ _ hx
       simp only [kS,Rep] at ex
       subst ex
       have h2:(AV.str x).length<=1000000000:=h2
       show Calls _ _ _ _ fun e w'=>∃ v,e=.returned v/\Fr (fun _=>False) w w'/\Rep w' a1l L (b6d (AV.str x)) v
       generalize AV.str x=s at *
       have hs:(⟨s.toArray⟩:ByteArray).size=s.length:=by rw [Lib.size_eq]
       unfold b6d
       rcases h:Lib.atoiAll s with n|_|_
       ·refine (Tryz.strconv_Atoi_ok ⟨s.toArray⟩ (by rw [hs];omega) n h w).mono ?_
        rintro e w' ⟨rfl,hw⟩
        refine⟨_,rfl,?_,?_⟩
        ·rcases hw with rfl|⟨t,rfl⟩
         ·exact Fr.refl _ _
         ·exact Fr.bytes w _ t
        ·refine⟨_,rfl,rfl,fun j hj=>?_⟩
         match j,hj with
         | 0,_=>exact⟨_,rfl,rfl⟩
         | 1,_=>exact⟨_,rfl,rfl⟩
       ·obtain⟨u,v,hc⟩:=c3b hT (g:=1) rfl
        refine (Tryz.strconv_Atoi_syntax ⟨s.toArray⟩ (by rw [hs];omega) h _ w hc (.inr ⟨u,v,rfl⟩)).mono ?_
        rintro e w' ⟨N,rfl,_,_,hb⟩
        exact⟨_,rfl,Fr.of_below hb _,c7k⟩
       ·obtain⟨u,v,hc⟩:=c3b hT (g:=2) rfl
        refine (Tryz.strconv_Atoi_range ⟨s.toArray⟩ (by rw [hs];omega) h _ w hc (.inr ⟨u,v,rfl⟩)).mono ?_
        rintro e w' ⟨N,rfl,_,_,hb⟩
        exact⟨_,rfl,Fr.of_below hb _,c7k⟩
end Go.Proofs.YthpjjjnbkfnghaaGreatDoor
set_option maxRecDepth 100000
namespace Go.Proofs.YthpjjjnbkfnghaaGreatDoor
open Go
attribute [local irreducible] AW a0e a1g a0a
def b64:a0s:=a0s.f1 kS (fun l=>l.length<=100000000000) (fun l=>kI.enc (a6r l))
def a4c:a0s:=a0s.f2 kS kU (fun _ _=>True) (fun a c=>kI.enc (Lib.indexByte a c.toNat.toUInt8))
theorem b5b:a0d Tryz.prog 146 a4c:=by
 refine a0d.raw Tryz.func146 rfl (by decide) fun args hp w L vs hL ha=>?_
 match args,hp with
 | [x,y],hp=>
   obtain⟨h1,h2,h3⟩:=hp
   cases ha with
   | cons hx hr=>cases hr with
     | cons hy hr=>cases hr with
       | nil=>
         have ex:=b1j h1 hx
         have ey:=b1j h2 hy
         obtain rfl:=ex
         obtain rfl:=ey
         refine (Tryz.strings_IndexByte _ _ w).mono ?_
         rintro e w' ⟨rfl,rfl⟩
         exact⟨_,rfl,Fr.refl _ _,rfl⟩
theorem c5o (l:List UInt8) (h:l≠[]):(Lib.indexByte [60,124,61,62] (l.getD 0 0).toNat.toUInt8<0->a6r l=0)/\
  (¬Lib.indexByte [60,124,61,62] (l.getD 0 0).toNat.toUInt8<0->∀ n,1<=n->n<=l.length->(∀ k,k<n->l.getD k 0=l.getD 0 0)->(n<l.length->l.getD n 0≠l.getD 0 0)->n=a6r l):=by
 cases l with
 | nil=>exact absurd rfl h
 | cons c r=>
   have e:∀ c:UInt8,c.toNat.toUInt8=c:=fun c=>by simp
   simp only [List.getD_cons_zero,e]
   have hc:Lib.indexByte [60,124,61,62] c<0↔¬(c=60\/c=124\/c=61\/c=62):=by
    constructor
    ·intro h0 h1
     rcases h1 with rfl|rfl|rfl|rfl<;>exact absurd h0 (by decide)
    ·intro h0
     rcases Int.lt_or_le (Lib.indexByte [60,124,61,62] c) 0 with h1|h1
     ·exact h1
     ·obtain⟨o,ho⟩:=Int.eq_ofNat_of_zero_le h1
      have:=(Lib.indexByte_some (o:=o) ho).1
      have hm:=List.mem_of_getElem? this
      simp only [List.mem_cons,List.not_mem_nil,or_false] at hm
      exact absurd hm h0
   refine⟨fun h0=>?_,fun h0 n h1 h2 h3 h4=>?_⟩
   ·rw [a6r,if_neg (hc.1 h0)]
   ·rw [a6r,if_pos (Decidable.not_not.1 fun hh=>h0 (hc.2 hh))]
    obtain⟨m,rfl⟩:∃ m,n=m+1:=⟨n-1,by omega⟩
    rw [a9i c r m (by simpa using h2) (fun k hk=>by simpa using h3 (k+1) (by omega)) (fun hm=>by simpa using h4 (by simpa using hm))]
    omega
theorem d3J:a0d Tryz.prog 180 b64:=by
 refine a0d.f1 Tryz.func180 rfl (by decide) Tryz.results180 Tryz.ntmps180 (by decide) fun l hl=>?_
 have hΓ:GOK Tryz.prog (gam [(146,a4c)]):=(.cons b5b .nil)
 by_cases h:l=[]
 ·subst h
  refine AW.of hΓ mixed [99999] _ _ _ rfl ?_
  simp only [go_sem,a4c]
  rfl
 ·obtain⟨r1,r2⟩:=c5o l h
  have hpos:0<l.length:=List.length_pos_iff.2 h
  refine AW.of hΓ mixed [99999] _ _ _ rfl ?_
  simp only [go_sem,a4c,h]
  refine⟨by omega,fun h0=>by rw [r1 h0];rfl,fun h0=>?_⟩
  refine AW.round (α:={ n:Nat // 1<=n/\n<=l.length/\∀ k,k<n->l.getD k 0=l.getD 0 0 }) (fun n=>⟨[(0,.st l),(3,.val (.int .i64 n.1))],[],27,0,0,[]⟩) (fun n=>l.length-n.1) ⟨1,Nat.le_refl _,hpos,fun k hk=>by rw [show k=0 by omega]⟩ ?_ ?_
  ·simp only [go_sem,a4c]
  ·rintro⟨n,h1,h2,h3⟩
   refine AW.of hΓ mixed [99999] _ _ _ rfl ?_
   simp only [go_sem,a4c]
   refine⟨fun _=>by omega,fun _=>by omega,fun⟨ha,hb⟩=>⟨by omega,⟨n+1,by omega,by omega,fun k hk=>?_⟩,by dsimp only;omega⟩,fun hh=>?_⟩
   ·rcases Nat.lt_or_ge k n with h'|h'
    ·exact h3 k h'
    ·obtain rfl:k=n:=by omega
     exact hb
   ·rw [r2 h0 n h1 h2 h3 fun hl=>hh (by omega)]
theorem b8M (l:List (List UInt8)) (x:List UInt8):a4w (l++[x])=max (a4w l) (a6r x):=by
 unfold a4w
 rw [List.foldl_append]
 rfl
def a7O:a0s:=a0s.f1 (kL (eL eS)) (fun l=>l.length<=100000000/\∀ f∈l,b6H f) (fun l=>kI.enc (a4w l.flatten))
theorem b93:a0d Tryz.prog 198 a7O:=by
 refine a0d.f1 Tryz.func198 rfl (by decide) Tryz.results198 Tryz.ntmps198 (by decide) fun fs ⟨hl,hf⟩=>?_
 have hΓ:GOK Tryz.prog (gam [(180,b64)]):=(.cons d3J .nil)
 refine AW.of hΓ mixed [] _ _ _ rfl ?_
 simp only [go_sem,b64]
 refine AW.round (α:={ i:Nat // i<=fs.length }) (fun i=>⟨[(3,.val (.int .i64 (a4w (fs.take i.1).flatten))),(8,sL (eL eS) fs),(9,.val (.int .i64 fs.length)),(10,.val (.int .i64 i.1))],[],27,0,0,[]⟩) (fun i=>fs.length-i.1) ⟨0,by simp⟩ ?_ ?_
 ·simp only [go_sem,b64]
  rfl
 ·rintro⟨i,hi⟩
  refine AW.of hΓ mixed [5] _ _ _ rfl ?_
  simp only [go_sem,b64]
  refine⟨fun hil=>?_,fun hil=>?_⟩
  ·have hlt:i<fs.length:=by omega
   have hfi:=hf _ (a1e fs [] hlt▸List.getElem_mem hlt)
   have hft:(fs.take (i+1)).flatten=(fs.take i).flatten++fs.getD i []:=by rw [a2Q fs [] hlt];simp
   generalize hfe:fs.getD i []=f at *
   obtain⟨hf1,hf2⟩:=hfi
   refine⟨by omega,?_⟩
   refine AW.to (fun _:Unit=>Sh.st ⟨[(3,.val (.int .i64 (a4w ((fs.take i).flatten++f)))),(8,sL (eL eS) fs),(9,.val (.int .i64 fs.length)),(10,.val (.int .i64 i))],[],27,0,0,[]⟩) ?_ ?_
   ·refine AW.block (AW.round (α:={ k:Nat // k<=f.length }) (fun k=>⟨[(3,.val (.int .i64 (a4w ((fs.take i).flatten++f.take k.1)))),(8,sL (eL eS) fs),(9,.val (.int .i64 fs.length)),(10,.val (.int .i64 i)),(14,sL eS f),(15,.val (.int .i64 f.length)),(16,.val (.int .i64 k.1))],[],27,0,0,[]⟩) (fun k=>f.length-k.1) ⟨0,by simp⟩ ?_ ?_)
    ·simp only [go_sem,b64]
     simp
    ·rintro⟨k,hk⟩
     refine AW.of hΓ mixed [99999] _ _ _ rfl ?_
     simp only [go_sem,b64]
     refine⟨fun hkf=>?_,fun hkf=>?_⟩
     ·have hkl:k<f.length:=by omega
      have hfl:=b7g f k
      refine⟨by omega,by omega,by omega,⟨k+1,by omega⟩,⟨?_,by dsimp only;omega⟩,by dsimp only;omega⟩
      dsimp only
      rw [a2Q f [] hkl,<-List.append_assoc,b8M]
      omega
     ·obtain rfl:k=f.length:=by omega
      refine⟨(),a2D ?_⟩
      simp only [go_sem,b64]
   ·intro _
    simp only [go_sem,b64]
    exact⟨by omega,⟨i+1,by omega⟩,⟨by dsimp only;rw [hft],by dsimp only;omega⟩,by dsimp only;omega⟩
  ·obtain rfl:i=fs.length:=by omega
   rw [List.take_length]
end Go.Proofs.YthpjjjnbkfnghaaGreatDoor
set_option maxRecDepth 100000
set_option maxHeartbeats 8000000
namespace Go.Proofs.YthpjjjnbkfnghaaGreatDoor
open Go
attribute [local irreducible] AW a0e a1g a0a a6E
theorem b0h:∀ k:Nat,k<10->List.drop k (List.take (k+1) [48,49,50,51,52,53,54,55,56,57])=[UInt8.ofNat (48+k)]:=by decide
def c0h (k:Nat):a0s:=a0s.f1 kI (fun n=>(0<=n/\n<10 ^ (k+1))/\n<1000000000000) (fun n=>kS.enc (Lib.itoa n))
theorem d3e:∀ k,a0d Tryz.prog 39 (c0h k):=by
 intro k
 induction k with
 | zero=>
   refine a0d.f1 Tryz.func39 rfl (by decide) Tryz.results39 Tryz.ntmps39 (by decide) (fun n hn=>?_)
   obtain⟨⟨h0,h1⟩,hM⟩:=hn
   have h1:n<10:=by simpa using h1
   have hΓ:GOK Tryz.prog (gam []):=GOK.nil
   refine AW.of hΓ mixed [99999] _ _ _ rfl ?_
   simp only [go_sem]
   refine⟨fun h=>by omega,fun _=>⟨fun h=>by omega,fun _=>⟨fun _=>⟨⟨by omega,by omega⟩,⟨by omega,by omega,by omega⟩,?_⟩,fun h=>by omega⟩⟩⟩
   obtain⟨k,rfl⟩:=Int.eq_ofNat_of_zero_le h0
   have h1:k<10:=by omega
   rw [show ((k:Int)+1).toNat=k+1 by omega,Int.toNat_natCast,b0h k h1,a32,Lib.decDigits,dif_pos h1]
 | succ k ih=>
   refine a0d.f1 Tryz.func39 rfl (by decide) Tryz.results39 Tryz.ntmps39 (by decide) (fun n hn=>?_)
   obtain⟨⟨h0,h1⟩,hM⟩:=hn
   obtain⟨n,rfl⟩:=Int.eq_ofNat_of_zero_le h0
   have hΓ:GOK Tryz.prog (gam [(39,c0h k)]):=(.cons ih .nil)
   have e1:(n:Int).tdiv 10=((n / 10:Nat):Int):=by rw [Int.tdiv_eq_ediv_of_nonneg h0];omega
   have e2:(n:Int).tmod 10=((n % 10:Nat):Int):=by rw [Int.tmod_eq_emod_of_nonneg h0];omega
   have e3:((n / 10:Nat):Int)<10 ^ (k+1):=by
    rw [Int.pow_succ] at h1
    omega
   have hl:(Lib.itoa ((n / 10:Nat):Int)).length<=12:=a47 (by omega) (by omega)
   refine AW.of hΓ mixed [99999] _ _ _ rfl ?_
   simp only [go_sem,e1,e2,c0h]
   refine⟨fun h=>by omega,fun _=>⟨fun h=>by omega,fun _=>⟨fun _=>⟨⟨by omega,by omega⟩,⟨by omega,by omega,by omega⟩,?_⟩,fun h=>⟨⟨by omega,by omega⟩,⟨⟨by omega,e3⟩,by omega⟩,⟨by omega,by omega⟩,⟨by omega,by omega,by omega⟩,by omega,?_⟩⟩⟩⟩
   ·have h1:n<10:=by omega
    rw [b0h n h1,a32,Lib.decDigits,dif_pos h1]
   ·rw [b0h _ (Nat.mod_lt _ (by omega))]
    have h2:¬n<10:=by omega
    rw [a32,a32,Lib.decDigits.eq_def n,dif_neg h2]
def a6j:a0s:=c0h 9
theorem c4C:a0d Tryz.prog 39 a6j:=d3e 9
def nuO:Option Nat->AV
 | some n=>tu2 (kI.enc n) (kB.enc true)
 | none=>tu2 (kI.enc 0) (kB.enc false)
noncomputable def a0h:a0s:=a0s.f1 kS (fun w=>w.length<=1000000) (fun w=>nuO (a6E w))
theorem b2s {o:Option Nat} (h:none=d8k o):o=none:=by
 cases o with
 | none=>rfl
 | some k=>cases h
theorem c6h {o:Option Nat} {n:Int} (h:some n=d8k o):∃ k:Nat,n=k/\o=some k:=by
 cases o with
 | none=>cases h
 | some k=>exact⟨k,Option.some.inj h,rfl⟩
theorem c6d {P:Program} {o:Oper} {st:AS} {K:AS->Prop} {t t2:TypeId} {x:Operand} (ho:o.op=.binOp .neq t x (.const .nilIface) t2) (h:d3O P t) (hx:st.ev x=ifV) (hd:a0N st.sz o.dst)
  (hK:K ⟨a2b st.fr o.dst (.val (.bool true)),st.hp,st.sz,st.top,st.nx,st.df⟩):OpW P o st K:=by
 refine a7t hd (fun c η a w hsr=>?_) hK
 have hv:=a1X hsr.slots x
 unfold AS.ev at hx
 rw [hx] at hv
 obtain⟨_,_,u,y,hv⟩:=hv
 refine⟨.bool true,?_,rfl⟩
 unfold execOp
 rw [ho]
 have hc:a.eval (.const .nilIface)=.nilIface:=rfl
 have hq:(Op.equal t (.iface u y) .nilIface).run P w=.ok false w:=run_equal_held_nil w t u y h
 simp [hv,hc,binOp,eqGuard,hq]
theorem c2B (w:List UInt8):(∃ n,Lib.atoiAll w=.ok n)\/(∃ m:Int,b6d w=tu2 (.val (.int .i64 m)) ifV)/\a6E w=none:=by
 have hn:=b71 w
 unfold b9v at hn
 unfold b6d
 rcases h:Lib.atoiAll w with n|_|_
 ·exact .inl ⟨n,rfl⟩
 ·rw [h] at hn
  exact .inr ⟨⟨_,rfl⟩,b2s hn⟩
 ·rw [h] at hn
  exact .inr ⟨⟨_,rfl⟩,b2s hn⟩
theorem a8o:a0d Tryz.prog 114 a0h:=by
 refine a0d.f1 Tryz.func114 rfl (by decide) Tryz.results114 Tryz.ntmps114 (by decide) fun w hw=>?_
 have hΓ:GOK Tryz.prog (gam [(144,a6t),(117,a0t)]):=(.cons c8x (.cons a9V .nil))
 rcases c2B w with⟨n,h⟩|⟨⟨m,eo⟩,hn⟩
 ·have hn:=b71 w
  unfold b9v at hn
  have eo:b6d w=tu2 (.val (.int .i64 n)) (.val .nilIface):=by unfold b6d;rw [h]
  rw [h] at hn
  dsimp only at hn
  by_cases hb:n<0\/1000000<n\/Lib.itoa n≠w
  ·rw [if_pos hb] at hn
   rw [b2s hn]
   have hd:(decide (n<0)||decide (1000000<n)||decide ¬Lib.itoa n=w)=true:=by
    simpa [or_assoc] using hb
   refine AW.of hΓ mixed [99999] _ _ _ rfl ?_
   simp only [go_sem,a6t,a0t,eo]
   refine⟨by omega,fun h=>by simp [h],fun h=>?_,fun h=>by simp [h],fun _=>?_,fun h=>absurd (hd.symm.trans h) (by decide)⟩
   ·simp at h;omega
   ·simp only [go_sem,a6t,a0t,nuO]
  ·rw [if_neg hb] at hn
   obtain⟨k,rfl,hk⟩:=c6h hn
   rw [hk]
   simp only [not_or,Decidable.not_not] at hb
   obtain⟨hb1,hb2,hb3⟩:=hb
   have hI1:((k:Int)<0)=False:=eq_false hb1
   have hI2:((1000000:Int)<k)=False:=eq_false hb2
   refine AW.of hΓ mixed [99999] _ _ _ rfl ?_
   simp only [go_sem,a6t,a0t,eo,hI1,hI2,hb3]
   refine⟨by omega,by omega,?_⟩
   simp only [go_sem,a6t,a0t,nuO]
 ·rw [hn]
  refine AW.of hΓ mixed [1] _ _ _ rfl ?_
  simp only [go_sem,a6t,a0t,eo]
  refine⟨by omega,AW.fork (AW.fork (AW.regionO hΓ [false,true] ?_))⟩
  simp only [go_sem,a6t,a0t]
  refine c6d rfl (of_eq_true d1z) rfl (by exact (by decide:12<28)) ?_
  simp only [go_sem,a6t,a0t]
  refine AW.of hΓ mixed [99999] _ _ _ rfl ?_
  simp only [go_sem,a6t,a0t]
  simp only [go_sem,a6t,a0t,nuO]
def a3r (w:List UInt8):Int×Bool:=if w=[108,101,102,116] then (1,true) else if w=[98,97,115,101] then (2,true) else if w=[114,105,103,104,116] then (3,true) else (0,false)
def a1M:a0s:=a0s.f1 kS (fun _=>True) (fun w=>tu2 (kI.enc (a3r w).1) (kB.enc (a3r w).2))
theorem c1A:a0d Tryz.prog 121 a1M:=by
 refine a0d.f1 Tryz.func121 rfl (by decide) Tryz.results121 Tryz.ntmps121 (by decide) fun w _=>?_
 have hΓ:GOK Tryz.prog (gam []):=GOK.nil
 by_cases h1:w=[108,101,102,116]
 ·subst h1
  refine AW.of hΓ mixed [99999] _ _ _ rfl ?_
  simp only [go_sem]
  trivial
 by_cases h2:w=[98,97,115,101]
 ·subst h2
  refine AW.of hΓ mixed [99999] _ _ _ rfl ?_
  simp only [go_sem]
  decide
 by_cases h3:w=[114,105,103,104,116]
 ·subst h3
  refine AW.of hΓ mixed [99999] _ _ _ rfl ?_
  simp only [go_sem]
  decide
 have e:a3r w=(0,false):=by unfold a3r;rw [if_neg h1,if_neg h2,if_neg h3]
 refine AW.of hΓ mixed [99999] _ _ _ rfl ?_
 simp only [go_sem,h1,h2,h3,e]
def b9n (w:List UInt8):List UInt8:=if w=[45] then [] else w
def a58:a0s:=a0s.f1 kS (fun _=>True) (fun w=>kS.enc (b9n w))
theorem c4z:a0d Tryz.prog 115 a58:=by
 refine a0d.f1 Tryz.func115 rfl (by decide) Tryz.results115 Tryz.ntmps115 (by decide) fun w _=>?_
 have hΓ:GOK Tryz.prog (gam []):=GOK.nil
 refine AW.of hΓ mixed [99999] _ _ _ rfl ?_
 simp only [go_sem]
 unfold b9n
 exact⟨fun h=>by rw [if_pos h],fun h=>by rw [if_neg h]⟩
def a2N:a0s:=a0s.f1 kS (fun s=>s.length<=4000000000) (fun s=>kS.enc (a7a s))
theorem c3B:a0d Tryz.prog 118 a2N:=by
 refine a0d.f1 Tryz.func118 rfl (by decide) Tryz.results118 Tryz.ntmps118 (by decide) fun s hs=>?_
 have hΓ:GOK Tryz.prog (gam [(171,c2I)]):=(.cons c9C .nil)
 refine AW.of hΓ mixed [99999] _ _ _ rfl ?_
 simp only [go_sem,c2I]
 unfold a7a
 exact⟨fun h=>by rw [if_pos h],fun h=>⟨hs,by rw [if_neg h]⟩⟩
end Go.Proofs.YthpjjjnbkfnghaaGreatDoor
set_option maxRecDepth 100000
namespace Go.Proofs.YthpjjjnbkfnghaaGreatDoor
open Go
attribute [local irreducible] AW a0e a1g a0a
def b5Z:a0s:=a0s.f2 (kL eI) (kL eI) (fun a b=>a.length<1000000000/\b.length<1000000000) (fun a b=>kI.enc (ahd a b))
theorem b8z:c9o Tryz.prog 242:=a4z Tryz.func242 (by decide) rfl rfl
theorem c4f:a0d Tryz.prog 218 b5Z:=by
 refine a0d.f2D b8z Tryz.func218 rfl (by decide) Tryz.results218 Tryz.ntmps218 (by decide) fun a b hd=>?_
 have hΓ:GOK Tryz.prog (gam []):=GOK.nil
 refine AW.of hΓ mixed [] _ _ _ rfl ?_
 simp only [go_sem]
 refine AW.round (α:={ i:Nat // i<=a.length/\i<=b.length/\∀ k,k<i->a.getD k 0=b.getD k 0 }) (fun i=>⟨[(0,sL eI a),(1,sL eI b),(4,.val (.int .i64 i.1))],[],29,0,0,[⟨.fn (.func 242) #[],#[]⟩]⟩) (fun i=>a.length-i.1) ⟨0,by simp⟩ ?_ ?_
 ·simp only [go_sem]
 ·rintro⟨i,hi,hb,hk⟩
  refine AW.of hΓ mixed [] _ _ _ rfl ?_
  simp only [go_sem]
  repeat' (first|refine And.intro ?_ ?_|intro h)
  all_goals (try omega)
  ·refine⟨⟨i+1,by omega,by omega,fun k hk'=>?_⟩,by simp,by simp;omega⟩
   rcases Nat.lt_or_ge k i with h'|h'
   ·exact hk k h'
   ·obtain rfl:k=i:=by omega
    exact h.2
  ·exact congrArg _ (b6R 0 i a b hi hb hk fun p q=>h ⟨by omega,by omega⟩)
def b2n:a0s:=a0s.f2 (kL eI) (kL eI) (fun a b=>a.length<1000000000/\b.length<1000000000) (fun a b=>kI.enc (bhd a b))
theorem b53:c9o Tryz.prog 243:=a4z Tryz.func243 (by decide) rfl rfl
theorem c2Q:a0d Tryz.prog 219 b2n:=by
 refine a0d.f2D b53 Tryz.func219 rfl (by decide) Tryz.results219 Tryz.ntmps219 (by decide) fun a b hd=>?_
 have hΓ:GOK Tryz.prog (gam []):=GOK.nil
 refine AW.of hΓ mixed [] _ _ _ rfl ?_
 simp only [go_sem]
 refine AW.round (α:={ i:Nat // i<=a.length/\i<=b.length/\∀ k,k<i->a.getD (a.length-1-k) 0=b.getD (b.length-1-k) 0 }) (fun i=>⟨[(0,sL eI a),(1,sL eI b),(4,.val (.int .i64 i.1))],[],37,0,0,[⟨.fn (.func 243) #[],#[]⟩]⟩) (fun i=>a.length-i.1) ⟨0,by simp⟩ ?_ ?_
 ·simp only [go_sem]
 ·rintro⟨i,hi,hb,hk⟩
  refine AW.of hΓ mixed [] _ _ _ rfl ?_
  simp only [go_sem]
  have e1:(↑i:Int)<↑a.length->((a.length:Int)-1-i).toNat=a.length-1-i:=fun h=>by omega
  have e2:(↑i:Int)<↑b.length->((b.length:Int)-1-i).toNat=b.length-1-i:=fun h=>by omega
  repeat' (first|refine And.intro ?_ ?_|intro h)
  all_goals (try omega)
  ·refine⟨⟨i+1,by omega,by omega,fun k hk'=>?_⟩,by simp,by simp;omega⟩
   rcases Nat.lt_or_ge k i with h'|h'
   ·exact hk k h'
   ·obtain rfl:k=i:=by omega
    have:=h.2
    rwa [e1 h.1.1,e2 h.1.2] at this
  ·refine congrArg _ (c7Q 0 i a b hi hb hk fun p q=>?_)
   have:=h ⟨by omega,by omega⟩
   rwa [e1 (by omega),e2 (by omega)] at this
def c2z:a0s:=a0s.f2 (kL eI) (kL eI) (fun a b=>a.length<1000000000/\b.length<1000000000) (fun a b=>tu2 (kI.enc (ahd a b)) (kI.enc (bhd (a.drop (ahd a b)) (b.drop (ahd a b)))))
theorem c9T:a0d Tryz.prog 187 c2z:=by
 refine a0d.f2 Tryz.func187 rfl (by decide) Tryz.results187 Tryz.ntmps187 (by decide) fun a b hd=>?_
 have hΓ:GOK Tryz.prog (gam [(218,b5Z),(219,b2n)]):=.cons c4f (.cons c2Q .nil)
 refine AW.of hΓ mixed [] _ _ _ rfl ?_
 have h1:=a65 a b
 have p1:(List.range (a.length-ahd a b)).map (fun i=>a.getD (ahd a b+i) 0)=a.drop (ahd a b):=by rw [a8C a 0 (by omega),List.take_of_length_le (by simp)]
 have p2:(List.range (b.length-ahd a b)).map (fun i=>b.getD (ahd a b+i) 0)=b.drop (ahd a b):=by rw [a8C b 0 (by omega),List.take_of_length_le (by simp)]
 simp only [go_sem,b5Z,b2n,p1,p2,List.length_drop]
 omega
def b0Q:a0s:=a0s.f2 (kL eS) (kL eS) (fun a b=>a.length<1000000000/\b.length<1000000000) (fun a b=>kI.enc (ahd a b))
theorem b8u:c9o Tryz.prog 247:=a4z Tryz.func247 (by decide) rfl rfl
theorem b7B:a0d Tryz.prog 230 b0Q:=by
 refine a0d.f2D b8u Tryz.func230 rfl (by decide) Tryz.results230 Tryz.ntmps230 (by decide) fun a b hd=>?_
 have hΓ:GOK Tryz.prog (gam []):=GOK.nil
 refine AW.of hΓ mixed [] _ _ _ rfl ?_
 simp only [go_sem]
 refine AW.round (α:={ i:Nat // i<=a.length/\i<=b.length/\∀ k,k<i->a.getD k []=b.getD k [] }) (fun i=>⟨[(0,sL eS a),(1,sL eS b),(4,.val (.int .i64 i.1))],[],29,0,0,[⟨.fn (.func 247) #[],#[]⟩]⟩) (fun i=>a.length-i.1) ⟨0,by simp⟩ ?_ ?_
 ·simp only [go_sem]
 ·rintro⟨i,hi,hb,hk⟩
  refine AW.of hΓ mixed [] _ _ _ rfl ?_
  simp only [go_sem]
  repeat' (first|refine And.intro ?_ ?_|intro h)
  all_goals (try omega)
  ·refine⟨⟨i+1,by omega,by omega,fun k hk'=>?_⟩,by simp,by simp;omega⟩
   rcases Nat.lt_or_ge k i with h'|h'
   ·exact hk k h'
   ·obtain rfl:k=i:=by omega
    exact h.2
  ·exact congrArg _ (b6R [] i a b hi hb hk fun p q=>h ⟨by omega,by omega⟩)
def b3t:a0s:=a0s.f2 (kL eS) (kL eS) (fun a b=>a.length<1000000000/\b.length<1000000000) (fun a b=>kI.enc (bhd a b))
theorem b6e:c9o Tryz.prog 256:=a4z Tryz.func256 (by decide) rfl rfl
theorem b9U:a0d Tryz.prog 248 b3t:=by
 refine a0d.f2D b6e Tryz.func248 rfl (by decide) Tryz.results248 Tryz.ntmps248 (by decide) fun a b hd=>?_
 have hΓ:GOK Tryz.prog (gam []):=GOK.nil
 refine AW.of hΓ mixed [] _ _ _ rfl ?_
 simp only [go_sem]
 refine AW.round (α:={ i:Nat // i<=a.length/\i<=b.length/\∀ k,k<i->a.getD (a.length-1-k) []=b.getD (b.length-1-k) [] }) (fun i=>⟨[(0,sL eS a),(1,sL eS b),(4,.val (.int .i64 i.1))],[],37,0,0,[⟨.fn (.func 256) #[],#[]⟩]⟩) (fun i=>a.length-i.1) ⟨0,by simp⟩ ?_ ?_
 ·simp only [go_sem]
 ·rintro⟨i,hi,hb,hk⟩
  refine AW.of hΓ mixed [] _ _ _ rfl ?_
  simp only [go_sem]
  have e1:(↑i:Int)<↑a.length->((a.length:Int)-1-i).toNat=a.length-1-i:=fun h=>by omega
  have e2:(↑i:Int)<↑b.length->((b.length:Int)-1-i).toNat=b.length-1-i:=fun h=>by omega
  repeat' (first|refine And.intro ?_ ?_|intro h)
  all_goals (try omega)
  ·refine⟨⟨i+1,by omega,by omega,fun k hk'=>?_⟩,by simp,by simp;omega⟩
   rcases Nat.lt_or_ge k i with h'|h'
   ·exact hk k h'
   ·obtain rfl:k=i:=by omega
    have:=h.2
    rwa [e1 h.1.1,e2 h.1.2] at this
  ·refine congrArg _ (c7Q [] i a b hi hb hk fun p q=>?_)
   have:=h ⟨by omega,by omega⟩
   rwa [e1 (by omega),e2 (by omega)] at this
def c16:a0s:=a0s.f2 (kL eS) (kL eS) (fun a b=>a.length<1000000000/\b.length<1000000000) (fun a b=>tu2 (kI.enc (ahd a b)) (kI.enc (bhd (a.drop (ahd a b)) (b.drop (ahd a b)))))
theorem d0j:a0d Tryz.prog 231 c16:=by
 refine a0d.f2 Tryz.func231 rfl (by decide) Tryz.results231 Tryz.ntmps231 (by decide) fun a b hd=>?_
 have hΓ:GOK Tryz.prog (gam [(230,b0Q),(248,b3t)]):=.cons b7B (.cons b9U .nil)
 refine AW.of hΓ mixed [] _ _ _ rfl ?_
 have h1:=a65 a b
 have p1:(List.range (a.length-ahd a b)).map (fun i=>a.getD (ahd a b+i) [])=a.drop (ahd a b):=by rw [a8C a [] (by omega),List.take_of_length_le (by simp)]
 have p2:(List.range (b.length-ahd a b)).map (fun i=>b.getD (ahd a b+i) [])=b.drop (ahd a b):=by rw [a8C b [] (by omega),List.take_of_length_le (by simp)]
 simp only [go_sem,b0Q,b3t,p1,p2,List.length_drop]
 omega
def d6Y:a0s:=a0s.f2 (kL eS) (kL eS) (fun a b=>a.length<1000000000/\b.length<1000000000) (fun a b=>kB.enc (decide (a=b)))
theorem d8g:a0d Tryz.prog 200 d6Y:=by
 refine a0d.f2 Tryz.func200 rfl (by decide) Tryz.results200 Tryz.ntmps200 (by decide) fun a b hd=>?_
 have hΓ:GOK Tryz.prog (gam [(230,b0Q)]):=.cons b7B .nil
 refine AW.of hΓ mixed [] _ _ _ rfl ?_
 simp only [go_sem,b0Q]
 refine⟨fun _=>hd,?_⟩
 rw [Bool.eq_iff_iff]
 simp only [Bool.and_eq_true,decide_eq_true_eq]
 refine⟨fun h=>c3q (by omega) (by omega),fun h=>?_⟩
 subst h
 rw [b6O]
 exact⟨rfl,rfl⟩
end Go.Proofs.YthpjjjnbkfnghaaGreatDoor
set_option maxRecDepth 100000
set_option maxHeartbeats 2000000
namespace Go.Proofs.YthpjjjnbkfnghaaGreatDoor
open Go
attribute [local irreducible] AW a0e a1g a0a
abbrev Sp:=Int×Int
abbrev Ck:=Bool×Sp×Sp×Sp
abbrev Pl:=Int×Int×Int
abbrev eSp:El Sp:=eP eI eI
abbrev eCk:El Ck:=eP eB (eP eSp (eP eSp eSp))
abbrev ePl:El Pl:=eP eI (eP eI eI)
theorem d6S {a b d:Int} {c:Nat->AV} (h0:c 0=.val (.int .i64 a)) (h1:c 1=.val (.int .i64 b)) (h2:c 2=.val (.int .i64 d)):a0e (.ag 3 c) (.ag 3 (ePl.enc (a,b,d))):=a0e.ag fun j hj=>a0e.of_eq (match j,hj with
 | 0,_=>h0
 | 1,_=>h1
 | 2,_=>h2)
theorem d6W {s:Bool} {b1 b2 l1 l2 r1 r2:Int} {c:Nat->AV} (h0:c 0=.val (.bool s)) (h1:c 1=.val (.int .i64 b1)) (h2:c 2=.val (.int .i64 b2)) (h3:c 3=.val (.int .i64 l1)) (h4:c 4=.val (.int .i64 l2)) (h5:c 5=.val (.int .i64 r1)) (h6:c 6=.val (.int .i64 r2)) :
  a0e (.ag 7 c) (.ag 7 (eCk.enc (s,(b1,b2),(l1,l2),r1,r2))):=a0e.ag fun j hj=>a0e.of_eq (match j,hj with
 | 0,_=>h0
 | 1,_=>h1
 | 2,_=>h2
 | 3,_=>h3
 | 4,_=>h4
 | 5,_=>h5
 | 6,_=>h6)
def a60 (s:Sp) (l:List (List UInt8)):List (List UInt8):=if s.1<0\/(l.length:Int)<s.2\/s.2<s.1 then [] else a1D l s.1.toNat s.2.toNat
theorem b46 (s:Sp) (l:List (List UInt8)):(a60 s l).length<=l.length:=by
 unfold a60
 by_cases h:s.1<0\/(l.length:Int)<s.2\/s.2<s.1
 ·rw [if_pos h];simp
 ·rw [if_neg h,a2p l (by omega)];omega
def a5Y:a0s:=a0s.f2 (kA eSp) (kL eS) (fun s l=>l.length<100000000) (fun s l=>sL eS (a60 s l))
theorem c2x:a0d Tryz.prog 199 a5Y:=by
 refine a0d.f2 Tryz.func199 rfl (by decide) Tryz.results199 Tryz.ntmps199 (by decide) fun s l hl=>?_
 have hΓ:GOK Tryz.prog (gam [(103,a1w)]):=(.cons a9F .nil)
 obtain⟨f,t⟩:=s
 unfold a60
 refine AW.of hΓ mixed [] _ _ _ rfl ?_
 simp only [go_sem,a1w]
 refine⟨fun h=>by simp [h],fun h=>by simp [h],fun h=>?_,fun h=>?_⟩
 ·simp only [Bool.or_eq_true,decide_eq_true_eq,or_assoc] at h
  rw [if_pos h]
  exact a0e.em_sn
 ·simp only [Bool.or_eq_false_iff,decide_eq_false_iff_not] at h
  refine⟨by omega,_,a1D l f.toNat t.toNat,rfl,b15 (by omega),by rw [a2p l (by omega)];omega,fun ver nx' _ _=>?_⟩
  rw [if_neg (by omega)]
  exact a0e.refl _
def btw (p q:Pl):Ck:=(false,(p.1,q.1),(p.2.1,q.2.1),(p.2.2,q.2.2))
def a1k:a0s:=a0s.f2 (kA ePl) (kA ePl) (fun _ _=>True) (fun p q=>(kA eCk).enc (btw p q))
theorem b3L:a0d Tryz.prog 154 a1k:=by
 refine a0d.f2 Tryz.func154 rfl (by decide) Tryz.results154 Tryz.ntmps154 (by decide) fun p q _=>?_
 have hΓ:GOK Tryz.prog (gam []):=GOK.nil
 obtain⟨p1,p2,p3⟩:=p
 obtain⟨q1,q2,q3⟩:=q
 unfold btw
 refine AW.of hΓ mixed [] _ _ _ rfl ?_
 simp only [go_sem]
 exact d6W rfl rfl rfl rfl rfl rfl rfl
def b1i (p:Pl):Pl:=(p.1+1,p.2.1+1,p.2.2+1)
def d4m (p:Pl):Prop:=(-9223372036854775808<=p.1/\p.1<9223372036854775807)/\(-9223372036854775808<=p.2.1/\p.2.1<9223372036854775807)/\-9223372036854775808<=p.2.2/\p.2.2<9223372036854775807
def a2n:a0s:=a0s.f1 (kA ePl) d4m (fun p=>(kA ePl).enc (b1i p))
theorem c1W:a0d Tryz.prog 156 a2n:=by
 refine a0d.f1 Tryz.func156 rfl (by decide) Tryz.results156 Tryz.ntmps156 (by decide) fun p hp=>?_
 have hΓ:GOK Tryz.prog (gam []):=GOK.nil
 obtain⟨p1,p2,p3⟩:=p
 obtain⟨h1,h2,h3⟩:=hp
 simp only at h1 h2 h3
 unfold b1i
 refine AW.of hΓ mixed [] _ _ _ rfl ?_
 simp only [go_sem]
 exact⟨by omega,by omega,by omega,d6S rfl rfl rfl⟩
def b1J (c:Ck) (b l r:List (List UInt8)):Int:=if c.1=true then 0 else if a60 c.2.2.1 l=a60 c.2.1 b then 2 else if a60 c.2.2.2 r=a60 c.2.1 b then 1 else if a60 c.2.2.1 l=a60 c.2.2.2 r then 3 else 4
def a14:a0s:=a0s.f4 (kA eCk) (kL eS) (kL eS) (kL eS) (fun c b l r=>b.length<100000000/\l.length<100000000/\r.length<100000000) (fun c b l r=>kI.enc (b1J c b l r))
theorem b7P:a0d Tryz.prog 159 a14:=by
 refine a0d.f4 Tryz.func159 rfl (by decide) Tryz.results159 Tryz.ntmps159 (by decide) fun c b l r ⟨hb,hl,hr⟩=>?_
 have hΓ:GOK Tryz.prog (gam [(199,a5Y),(200,d6Y)]):=(.cons c2x (.cons d8g .nil))
 obtain⟨s,⟨b1,b2⟩,⟨l1,l2⟩,r1,r2⟩:=c
 unfold b1J
 dsimp only
 have g1:=b46 (b1,b2) b
 have g2:=b46 (l1,l2) l
 have g3:=b46 (r1,r2) r
 refine AW.of hΓ mixed [] _ _ _ rfl ?_
 simp only [go_sem,a5Y,d6Y]
 refine⟨fun h=>by rw [if_pos h],fun h=>⟨hb,hl,hr,by omega,fun h1=>by simp [h,h1],fun h1=>⟨by omega,fun h2=>by simp [h,h1,h2],fun h2=>⟨by omega,fun h3=>?_,fun h3=>?_⟩⟩⟩⟩
 ·rw [if_neg (by simp [h]),if_neg h1,if_neg h2,if_pos h3]
 ·rw [if_neg (by simp [h]),if_neg h1,if_neg h2,if_neg h3]
end Go.Proofs.YthpjjjnbkfnghaaGreatDoor
set_option maxRecDepth 100000
set_option maxHeartbeats 2000000
namespace Go.Proofs.YthpjjjnbkfnghaaGreatDoor
open Go
attribute [local irreducible] AW a0e a1g a0a
def a40 (a b:Int):Int->Int->List (Int×Int)->Bool
 | _,_,[]=>true
 | u,v,p::l=>decide (u<p.1/\v<p.2/\p.1<a/\p.2<b)&&a40 a b p.1 p.2 l
def a4m:a0s:=a0s.f3 (kL (eP eI eI)) kI kI (fun l a b=>l.length<100000000) (fun l a b=>kB.enc (a40 a b (-1) (-1) l))
theorem c8P:a0d Tryz.prog 152 a4m:=by
 refine a0d.f3 Tryz.func152 rfl (by decide) Tryz.results152 Tryz.ntmps152 (by decide) fun l a b hl=>?_
 have hΓ:GOK Tryz.prog (gam []):=GOK.nil
 refine AW.of hΓ mixed [] _ _ _ rfl ?_
 simp only [go_sem,a6Z]
 refine AW.round (α:={ x:Nat×Int×Int×Nat // x.1<=l.length/\a40 a b (-1) (-1) l=a40 a b x.2.1 x.2.2.1 (l.drop x.1)/\-1<=x.2.1/\-1<=x.2.2.1 })
  (fun x=>⟨[(1,.val (.int .i64 a)),(2,.val (.int .i64 b)),(7,.pt 0 0 0),(11,sL (eP eI eI) l),(12,.val (.int .i64 l.length)),(13,.val (.int .i64 x.1.1))],[(0,.box 0 129 2 fun j=>if j=0 then .val (.int .i64 x.1.2.1) else .val (.int .i64 x.1.2.2.1))],43,1,x.1.2.2.2,[]⟩) (fun x=>l.length-x.1.1) ⟨(0,-1,-1,1),Nat.zero_le _,rfl,Int.le_refl _,Int.le_refl _⟩ ?_ ?_
 ·simp only [go_sem]
  refine a0a.box fun j hj=>a0e.of_eq ?_
  match j,hj with
  | 0,_=>rfl
  | 1,_=>rfl
 ·rintro⟨⟨i,u,v,nx⟩,hi,hr,hu,hv⟩
  simp only at hi hr hu hv
  refine AW.of hΓ mixed [4,99999] _ _ _ rfl ?_
  simp only [go_sem,a6Z]
  refine⟨fun hlt=>?_,fun hge=>?_⟩
  ·obtain⟨x,y,hxy⟩:∃ x y,l.getD i (0,0)=(x,y):=⟨_,_,rfl⟩
   have hd:l.drop i=(x,y)::l.drop (i+1):=by
    rw [List.drop_eq_getElem_cons (by omega),<-a1e l (0,0) (by omega),hxy]
   rw [hd,a40] at hr
   dsimp only at hr
   refine⟨by omega,?_⟩
   refine AW.cut ⟨[(1,.val (.int .i64 a)),(2,.val (.int .i64 b)),(7,.pt 0 0 0),(9,.pt 1 nx 0),(11,sL (eP eI eI) l),(12,.val (.int .i64 l.length)),(13,.val (.int .i64 i))],[(0,.box 0 129 2 fun j=>if j=0 then .val (.int .i64 u) else .val (.int .i64 v)),(1,.box nx 129 2 fun j=>if j=0 then .val (.int .i64 x) else .val (.int .i64 y))],43,2,nx+1,[]⟩ ?_ ?_
   ·simp only [go_sem]
    refine⟨a0a.refl _,a0a.box fun j hj=>a0e.of_eq ?_⟩
    match j,hj with
    | 0,_=>show (eP eI eI).enc (l.getD i (0,0)) 0=_;rw [hxy];rfl
    | 1,_=>show (eP eI eI).enc (l.getD i (0,0)) 1=_;rw [hxy];rfl
   ·refine AW.of hΓ mixed [99999] _ _ _ rfl ?_
    simp only [go_sem]
    refine⟨fun h=>by simp [h],fun h=>by rw [h];rfl,fun h=>by rw [h];rfl,fun h=>?_,fun h=>?_⟩
    ·simp only [Bool.or_eq_true,decide_eq_true_eq] at h
     rw [hr,decide_eq_false (by omega),Bool.false_and]
    ·simp only [Bool.or_eq_false_iff,decide_eq_false_iff_not] at h
     rw [decide_eq_true (by omega),Bool.true_and] at hr
     exact⟨by omega,⟨(i+1,x,y,nx+1),by dsimp only;omega,hr,by dsimp only;omega,by dsimp only;omega⟩,⟨Nat.le_refl _,by dsimp only;omega,b1K⟩,by dsimp only;omega⟩
  ·obtain rfl:i=l.length:=by omega
   rw [List.drop_length] at hr
   exact hr.symm
end Go.Proofs.YthpjjjnbkfnghaaGreatDoor
set_option maxRecDepth 100000
set_option maxHeartbeats 2000000
namespace Go.Proofs.YthpjjjnbkfnghaaGreatDoor
open Go
attribute [local irreducible] AW a0e a1g a0a
def a3D:List (Int×Int)->List (Int×Int)->List Pl
 | [],_=>[]
 | _::_,[]=>[]
 | p::l,q::r=>if p.1<q.1 then a3D l (q::r) else if q.1<p.1 then a3D (p::l) r else (p.1,p.2,q.2)::a3D l r
 termination_by l r=>l.length+r.length
theorem a7K (l:List (Int×Int)):a3D l []=[]:=by cases l<;>simp [a3D]
theorem a8p (r:List (Int×Int)):a3D [] r=[]:=by simp [a3D]
def a7f:a0s:=a0s.f2 (kL (eP eI eI)) (kL (eP eI eI)) (fun l r=>l.length<100000000/\r.length<100000000) (fun l r=>sL ePl (a3D l r))
theorem d2r:a0d Tryz.prog 153 a7f:=by
 refine a0d.f2 Tryz.func153 rfl (by decide) Tryz.results153 Tryz.ntmps153 (by decide) fun l r ⟨hl,hr⟩=>?_
 have hΓ:GOK Tryz.prog (gam []):=GOK.nil
 refine AW.of hΓ mixed [200004] _ _ _ rfl ?_
 simp only [go_sem,a6Z]
 refine AW.adopt 5 210 3 (fun i=>ePl.enc (([]:List Pl).getD i (0,0,0))) rfl ?_
 refine AW.round (α:={ x:Nat×Nat×List Pl×Nat×Nat // x.1<=l.length/\x.2.1<=r.length/\x.2.2.1.length<=x.1/\a3D l r=x.2.2.1++a3D (l.drop x.1) (r.drop x.2.1) })
  (fun x=>⟨[(0,sL (eP eI eI) l),(1,sL (eP eI eI) r),(5,.ow 0 x.1.2.2.2.1 x.1.2.2.1.length),(6,.val (.int .i64 x.1.1)),(7,.val (.int .i64 x.1.2.1))],[(0,a05 x.1.2.2.2.1 210 ePl x.1.2.2.1)],70,1,x.1.2.2.2.2,[]⟩) (fun x=>l.length+r.length-x.1.1-x.1.2.1) ⟨(0,0,[],0,1),Nat.zero_le _,Nat.zero_le _,Nat.le_refl _,rfl⟩ ?_ ?_
 ·simp only [go_sem,a6Z]
  exact a0a.refl _
 ·rintro⟨⟨i,j,out,v,nx⟩,hi,hj,ho,hb⟩
  simp only at hi hj ho hb
  refine AW.of hΓ mixed [200004,99999] _ _ _ rfl ?_
  simp only [go_sem,a6Z,d6s,pp0,pp1]
  refine⟨fun⟨h1,h2⟩=>?_,fun h=>?_⟩
  ·have hdl:l.drop i=l.getD i (0,0)::l.drop (i+1):=by
    rw [List.drop_eq_getElem_cons (by omega),<-a1e l (0,0) (by omega)]
   have hdr:r.drop j=r.getD j (0,0)::r.drop (j+1):=by
    rw [List.drop_eq_getElem_cons (by omega),<-a1e r (0,0) (by omega)]
   refine⟨by omega,by omega,fun c=>?_,fun c=>⟨by omega,by omega,fun c2=>?_,fun c2=>?_⟩⟩
   ·rw [hdl,hdr,a3D,if_pos c,<-hdr] at hb
    exact⟨by omega,⟨(i+1,j,out,v,nx),by dsimp only;omega,by dsimp only;omega,by dsimp only;omega,hb⟩,⟨Nat.le_refl _,⟨⟨rfl,rfl⟩,by dsimp only;omega,rfl⟩,a0a.refl _⟩,by dsimp only;omega⟩
   ·rw [hdl,hdr,a3D,if_neg c,if_pos c2,<-hdl] at hb
    exact⟨by omega,⟨(i,j+1,out,v,nx),by dsimp only;omega,by dsimp only;omega,by dsimp only;omega,hb⟩,⟨Nat.le_refl _,⟨⟨rfl,rfl⟩,rfl,by dsimp only;omega⟩,a0a.refl _⟩,by dsimp only;omega⟩
   ·rw [hdl,hdr,a3D,if_neg c,if_neg c2] at hb
    refine AW.drawT hΓ mixed 18 [] (by decide +kernel) ?_
    simp only [go_sem,a6Z,d6s,pp0,pp1]
    refine⟨by omega,by omega,by omega,by omega,by omega,by omega,⟨(i+1,j+1,out++[((l.getD i (0,0)).1,(l.getD i (0,0)).2,(r.getD j (0,0)).2)],nx,nx+1),by dsimp only;omega,by dsimp only;omega,by simp;omega,by dsimp only;rw [hb,List.append_assoc];rfl⟩,⟨Nat.le_refl _,⟨⟨rfl,by simp⟩,by dsimp only;omega,by dsimp only;omega⟩,?_⟩,by dsimp only;omega⟩
    refine a1B (E:=ePl) rfl rfl rfl rfl (by simp) fun k hk=>?_
    match k,hk with
    | 0,_=>exact a0e.refl _
    | 1,_=>exact a0e.refl _
    | 2,_=>exact a0e.refl _
  ·have e:a3D (l.drop i) (r.drop j)=[]:=by
    rcases Nat.lt_or_ge i l.length with c|c
    ·rw [show r.drop j=[] from List.drop_eq_nil_of_le (by omega)]
     exact a7K _
    ·rw [show l.drop i=[] from List.drop_eq_nil_of_le (by omega)]
     exact a8p _
   rw [e,List.append_nil] at hb
   rw [hb]
   exact a4H (E:=ePl) rfl rfl rfl
end Go.Proofs.YthpjjjnbkfnghaaGreatDoor
set_option maxRecDepth 100000
set_option maxHeartbeats 2000000
namespace Go.Proofs.YthpjjjnbkfnghaaGreatDoor
open Go
attribute [local irreducible] AW a0e a1g a0a
def a1G (l:List Ck) (p:Pl):List Ck:=
 match l.getLast? with
 | some c=>if c.1=true then l.dropLast++[(true,(c.2.1.1,p.1+1),(c.2.2.1.1,p.2.1+1),(c.2.2.2.1,p.2.2+1))] else l++[(true,(p.1,p.1+1),(p.2.1,p.2.1+1),(p.2.2,p.2.2+1))]
 | none=>l++[(true,(p.1,p.1+1),(p.2.1,p.2.1+1),(p.2.2,p.2.2+1))]
theorem a2P (m:List Ck) (c:Ck) (p:Pl):a1G (m++[c]) p=if c.1=true then m++[(true,(c.2.1.1,p.1+1),(c.2.2.1.1,p.2.1+1),(c.2.2.2.1,p.2.2+1))] else m++[c]++[(true,(p.1,p.1+1),(p.2.1,p.2.1+1),(p.2.2,p.2.2+1))]:=by
 simp [a1G]
theorem a7p (p:Pl):a1G [] p=[(true,(p.1,p.1+1),(p.2.1,p.2.1+1),(p.2.2,p.2.2+1))]:=rfl
theorem c04 {α:Type} (m:List α) (c d:α):(m++[c]).getD m.length d=c:=by simp [List.getD]
def b3T:a0L:=fun args hp top nx K=>∃ (l:List Ck) (v:Nat) (p:Pl),args=[.ow 0 v l.length,(kA ePl).enc p]/\hp=rws [(0,a05 v 216 eCk l)]/\top=1/\l.length<100000000/\d4m p/\
 ∀ v' nx',(v'=v\/nx<=v')->nx<=nx'->K (.ow 0 v' (a1G l p).length) (rws [(0,a05 v' 216 eCk (a1G l p))]) 1 nx'
theorem b9o:a0i Tryz.prog 155 b3T:=by
 refine a0i.mk Tryz.func155 rfl (by decide) Tryz.results155 Tryz.ntmps155 ?_
 rintro args hp top nx K ⟨l,v,p,rfl,rfl,rfl,hl,hp,hK⟩
 have hΓ:GOK Tryz.prog (gam [(156,a2n),(154,a1k)]):=(.cons c1W (.cons b3L .nil))
 refine⟨Nat.le_of_ble_eq_true rfl,AW.late ?_⟩
 have hp':=hp
 obtain⟨p1,p2,p3⟩:=p
 obtain⟨q1,q2,q3⟩:=hp'
 simp only at q1 q2 q3
 have hn:b1i (p1,p2,p3)=(p1+1,p2+1,p3+1):=rfl
 have hb:btw (p1,p2,p3) (p1+1,p2+1,p3+1)=(false,(p1,p1+1),(p2,p2+1),(p3,p3+1)):=rfl
 rcases l.eq_nil_or_concat with rfl|⟨m,c,hms⟩
 ·refine AW.of hΓ mixed [200005,99999] _ _ _ rfl ?_
  simp only [go_sem,a2n,a1k,hn,hb]
  refine⟨hp,_,a0g (fun p=>p) (l:=[(4,.ow 0 (nx+1+1+1) 1)]) (r:=[(0,a05 (nx+1+1+1) 216 eCk (a1G [] (p1,p2,p3)))]) (sz:=53) (top:=1) (nx:=nx+1+1+1+1) (df:=[]) ?_,?_⟩
  ·simp only [go_sem,a2n,a1k]
   rw [a7p]
   refine a1B (E:=eCk) (l:=[]) rfl rfl rfl rfl rfl fun j hj=>?_
   match j,hj with
   | 0,_=>exact a0e.refl _
   | 1,_=>exact a0e.refl _
   | 2,_=>exact a0e.refl _
   | 3,_=>exact a0e.refl _
   | 4,_=>exact a0e.refl _
   | 5,_=>exact a0e.refl _
   | 6,_=>exact a0e.refl _
  ·simp only [go_sem,a2n,a1k]
   exact hK (nx+1+1+1) (nx+1+1+1+1) (.inr (by omega)) (by omega)
 ·rw [List.concat_eq_append] at hms
  subst hms
  have e1:(((m.length+1:Nat):Int)-1)=(m.length:Int):=by omega
  have e2:(0<=(m.length:Int))=True:=eq_true (by omega)
  have hlm:m.length+1<100000000:=by simpa using hl
  obtain⟨s,⟨b1,b2⟩,⟨l1,l2⟩,r1,r2⟩:=c
  cases s with
  | true=>
    refine AW.of hΓ mixed [200005,99999] _ _ _ rfl ?_
    simp only [go_sem,a2n,a1k,hn,hb,c04,e1,e2]
    refine⟨hp,by omega,by omega,by omega,by omega,?_⟩
    refine AW.still 5 2 (nx+1) 210 3 _ rfl rfl (fun j hj=>match j,hj with|0,_=>rfl|1,_=>rfl|2,_=>rfl) ?_
    refine AW.drawZ hΓ mixed 12 [13,14,15,17,18,19] [3,4,5,6,7,8,13,14,15,17,18,19] [] (by decide +kernel) ?_
    simp only [go_sem,a2n,a1k,hn,hb,c04,e1,e2]
    refine⟨by omega,by omega,by omega,_,a0g (fun p=>p) (l:=[(4,.ow 0 v (m.length+1))]) (r:=[(0,a05 v 216 eCk (a1G (m++[(true,(b1,b2),(l1,l2),r1,r2)]) (p1,p2,p3)))]) (sz:=53) (top:=1) (nx:=nx+1+1) (df:=[]) ?_,?_⟩
    ·simp only [go_sem,a2n,a1k]
     rw [a2P,if_pos rfl]
     refine a0a.sl (by simp) fun i hi j hj=>?_
     simp only [stE]
     by_cases e:i=m.length
     ·subst e
      rw [c04,c04]
      match j,hj with
      | 0,_=>simp;exact a0e.refl _
      | 1,_=>simp;exact a0e.refl _
      | 2,_=>simp;exact a0e.refl _
      | 3,_=>simp;exact a0e.refl _
      | 4,_=>simp;exact a0e.refl _
      | 5,_=>simp;exact a0e.refl _
      | 6,_=>simp;exact a0e.refl _
     ·rw [if_neg (fun h=>e h.1),if_neg (fun h=>e h.1),if_neg (fun h=>e h.1)]
      have e3:∀ c:Ck,(m++[c]).getD i eCk.dflt=m.getD i eCk.dflt:=fun c=>by simp [List.getD,List.getElem?_append_left (show i<m.length by omega)]
      rw [e3,e3]
      exact a0e.refl _
    ·simp only [go_sem,a2n,a1k]
     have:=hK v (nx+1+1) (.inl rfl) (by omega)
     rwa [show (a1G (m++[(true,(b1,b2),(l1,l2),r1,r2)]) (p1,p2,p3)).length=m.length+1 by rw [a2P,if_pos rfl];simp] at this
  | false=>
    refine AW.of hΓ mixed [200005,99999] _ _ _ rfl ?_
    simp only [go_sem,a2n,a1k,hn,hb,c04,e1,e2]
    refine⟨hp,by omega,by omega,by omega,by omega,_,a0g (fun p=>p) (l:=[(4,.ow 0 (nx+1+1+1) (m.length+1+1))]) (r:=[(0,a05 (nx+1+1+1) 216 eCk (a1G (m++[(false,(b1,b2),(l1,l2),r1,r2)]) (p1,p2,p3)))]) (sz:=53) (top:=1) (nx:=nx+1+1+1+1) (df:=[]) ?_,?_⟩
    ·simp only [go_sem,a2n,a1k]
     rw [a2P,if_neg (fun h=>by cases h)]
     refine a1B (E:=eCk) rfl rfl (by simp) rfl (by simp) fun j hj=>?_
     match j,hj with
     | 0,_=>exact a0e.refl _
     | 1,_=>exact a0e.refl _
     | 2,_=>exact a0e.refl _
     | 3,_=>exact a0e.refl _
     | 4,_=>exact a0e.refl _
     | 5,_=>exact a0e.refl _
     | 6,_=>exact a0e.refl _
    ·simp only [go_sem,a2n,a1k]
     have:=hK (nx+1+1+1) (nx+1+1+1+1) (.inr (by omega)) (by omega)
     rwa [show (a1G (m++[(false,(b1,b2),(l1,l2),r1,r2)]) (p1,p2,p3)).length=m.length+1+1 by rw [a2P,if_neg (fun h=>by cases h)];simp] at this
end Go.Proofs.YthpjjjnbkfnghaaGreatDoor
set_option maxRecDepth 100000
set_option maxHeartbeats 2000000
namespace Go.Proofs.YthpjjjnbkfnghaaGreatDoor
open Go
attribute [local irreducible] AW a0e a1g a0a
def a2a:a0L:=a1F b3T
theorem c3F:a0i Tryz.prog 155 a2a:=b9o.frame
theorem b83 {l:List Ck} {v q n:Nat} {p:Pl} {x:AV} {hp:Nat->Row} {top nx:Nat} {K:AV->(Nat->Row)->Nat->Nat->Prop} (hn:n=l.length) (hx:a0e x ((kA ePl).enc p)) (hr:a0a (hp q) (a05 v 216 eCk l)) (ht:q<top) (hl:l.length<100000000) (hp0:d4m p)
  (hK:∀ v' nx',nx<=nx'->K (.ow q v' (a1G l p).length) (a0S hp q (a05 v' 216 eCk (a1G l p))) top nx'):a2a [.ow q v n,x] hp top nx K:=by
 subst hn
 have hver:(hp q).ver=some v:=hr.vers.symm
 refine⟨[q],[.ow 0 v l.length,(kA ePl).enc p],rws [(0,a05 v 216 eCk l)],by simp,by simpa using ht,.cons a0e.ow (.cons hx .nil),a8U hr,fun i hi=>a1Y (top:=1) (by simp) i (by simpa using hi),l,v,p,rfl,rfl,rfl,hl,hp0,fun v' nx' h1 h3=>?_⟩
 refine⟨.ow q v' (a1G l p).length,_,a0e.ow,fun i r hr=>?_,fun r hr=>?_,fun r hr w hw=>?_,hK v' nx' h3⟩
 ·cases i with
  | zero=>
    simp only [List.getElem?_cons_zero,Option.some.injEq] at hr
    subst hr
    rw [a0k]
    exact a0a.refl _
  | succ i=>simp at hr
 ·rw [a0f _ _ (by simpa using hr)]
 ·simp only [List.mem_singleton] at hr
  subst hr
  rw [a0k] at hw
  have:some v'=some w:=hw
  obtain rfl:=Option.some.inj this
  rcases h1 with rfl|h1
  ·exact .inl hver
  ·exact .inr h1
theorem d89 (p1 p2 p3 t1 t2 t3:Int):(decide (p1=t1)&&(decide (p2=t2)&&decide (p3=t3)))=decide (((p1,p2,p3):Pl)=(t1,t2,t3)):=by
 rw [Bool.eq_iff_iff]
 simp only [Bool.and_eq_true,decide_eq_true_eq,Prod.mk.injEq]
def ofK (a61:Pl):List Pl->List Ck->Pl->List Ck
 | [],s,t=>if t=a61 then s else s++[btw t a61]
 | p::M,s,t=>ofK a61 M (a1G (if p=t then s else s++[btw t p]) p) (b1i p)
theorem b2S {a b:Int}:∀ {l:List (Int×Int)} {u v:Int},a40 a b u v l=true->∀ p∈l,u<p.1/\v<p.2/\p.1<a/\p.2<b
 | q::l,u,v,h,p,hp=>by
   rw [a40,Bool.and_eq_true,decide_eq_true_eq] at h
   rcases List.mem_cons.1 hp with rfl|hp
   ·exact h.1
   ·have:=b2S h.2 p hp
    omega
theorem a7B:∀ (n:Nat) (l r:List (Int×Int)),l.length+r.length<=n->∀ x∈a3D l r,∃ p∈l,∃ q∈r,p.1=q.1/\x=(p.1,p.2,q.2)
 | _,[],r,_,x,hx=>by rw [a8p] at hx;cases hx
 | _,p::l,[],_,x,hx=>by rw [a7K] at hx;cases hx
 | 0,_::_,_::_,h,_,_=>by simp at h
 | n+1,p::l,q::r,h,x,hx=>by
   simp only [List.length_cons] at h
   rw [a3D] at hx
   by_cases c:p.1<q.1
   ·rw [if_pos c] at hx
    obtain⟨p',hp,q',hq,e⟩:=a7B n l (q::r) (by simp only [List.length_cons];omega) x hx
    exact⟨p',List.mem_cons_of_mem _ hp,q',hq,e⟩
   ·rw [if_neg c] at hx
    by_cases c2:q.1<p.1
    ·rw [if_pos c2] at hx
     obtain⟨p',hp,q',hq,e⟩:=a7B n (p::l) r (by simp only [List.length_cons];omega) x hx
     exact⟨p',hp,q',List.mem_cons_of_mem _ hq,e⟩
    ·rw [if_neg c2] at hx
     rcases List.mem_cons.1 hx with rfl|hx
     ·exact⟨p,List.mem_cons_self ..,q,List.mem_cons_self ..,by omega,rfl⟩
     ·obtain⟨p',hp,q',hq,e⟩:=a7B n l r (by omega) x hx
      exact⟨p',List.mem_cons_of_mem _ hp,q',List.mem_cons_of_mem _ hq,e⟩
theorem a8q:∀ (n:Nat) (l r:List (Int×Int)),l.length+r.length<=n->(a3D l r).length<=l.length
 | _,[],r,_=>by rw [a8p];simp
 | _,p::l,[],_=>by rw [a7K];simp
 | 0,_::_,_::_,h=>by simp at h
 | n+1,p::l,q::r,h=>by
   simp only [List.length_cons] at h
   rw [a3D]
   by_cases c:p.1<q.1
   ·rw [if_pos c]
    have:=a8q n l (q::r) (by simp only [List.length_cons];omega)
    simp only [List.length_cons];omega
   ·rw [if_neg c]
    by_cases c2:q.1<p.1
    ·rw [if_pos c2]
     exact a8q n (p::l) r (by simp only [List.length_cons];omega)
    ·rw [if_neg c2]
     have:=a8q n l r (by omega)
     simp only [List.length_cons];omega
theorem b0X (l:List Ck) (p:Pl):(a1G l p).length<=l.length+1:=by
 rcases l.eq_nil_or_concat with rfl|⟨m,c,rfl⟩
 ·simp [a7p]
 ·rw [List.concat_eq_append,a2P]
  by_cases h:c.1=true
  ·rw [if_pos h];simp
  ·rw [if_neg h];simp
def c1h (a b c:Int) (l r:List (Int×Int)):Bool:=decide (0<=a/\0<=b/\0<=c)&&(a40 a b (-1) (-1) l&&a40 a c (-1) (-1) r)
def c5q:a0s:=a0s.f5 kI kI kI (kL (eP eI eI)) (kL (eP eI eI)) (fun a b c l r=>a<100000000/\b<100000000/\c<100000000/\l.length<10000000/\r.length<10000000)
 (fun a b c l r=>if c1h a b c l r then tu2 (sL eCk (ofK (a,b,c) (a3D l r) [] (0,0,0))) (kI.enc 0) else tu2 .em (kI.enc 12))
theorem d7G:a0d Tryz.prog 99 c5q:=by
 refine a0d.f5 Tryz.func99 rfl (by decide) Tryz.results99 Tryz.ntmps99 (by decide) fun a b c l r ⟨ha,hb,hc,hl,hr⟩=>?_
 have hΓ:GOK Tryz.prog (gam [(152,a4m),(153,a7f),(154,a1k),(155,a2a),(156,a2n)]):=(.cons c8P (.cons d2r (.cons b3L (.cons c3F (.cons c1W .nil)))))
 rcases hf:c1h a b c l r with _|_
 ·have hbad:(decide (a<0)||decide (b<0)||decide (c<0)||!a40 a b (-1) (-1) l||!a40 a c (-1) (-1) r)=true:=by
   cases h:(decide (a<0)||decide (b<0)||decide (c<0)||!a40 a b (-1) (-1) l||!a40 a c (-1) (-1) r) with
   | true=>rfl
   | false=>
     simp only [Bool.or_eq_false_iff,decide_eq_false_iff_not,Bool.not_eq_false'] at h
     obtain⟨⟨⟨⟨h1,h2⟩,h3⟩,h4⟩,h5⟩:=h
     have:c1h a b c l r=true:=by
      unfold c1h
      rw [h4,h5,decide_eq_true (by omega)]
      rfl
     rw [this] at hf
     cases hf
  refine AW.of hΓ mixed [5] _ _ _ rfl ?_
  simp only [go_sem,a4m,a7f,a1k,a2a,a2n,a6Z,hf]
  refine⟨fun h=>by simp [h],fun h=>by rw [h];rfl,fun _=>by omega,fun h=>by rw [h];rfl,fun _=>by omega,fun h=>by rw [h];rfl,fun h=>by rw [hbad] at h;cases h⟩
 ·have hf':=hf
  unfold c1h at hf'
  simp only [Bool.and_eq_true,decide_eq_true_eq] at hf'
  obtain⟨⟨a0,b0,c0⟩,g1,g2⟩:=hf'
  have d1:(a<0)=False:=eq_false (by omega)
  have d2:(b<0)=False:=eq_false (by omega)
  have d3:(c<0)=False:=eq_false (by omega)
  refine AW.of hΓ mixed [5] _ _ _ rfl ?_
  simp only [go_sem,a4m,a7f,a1k,a2a,a2n,a6Z,hf,d1,d2,d3,g1,g2]
  refine⟨by omega,by omega,by omega,?_⟩
  refine AW.adopt 12 216 7 (fun i=>eCk.enc (([]:List Ck).getD i eCk.dflt)) rfl ?_
  have hM:∀ p∈a3D l r,(0<=p.1/\p.1<a)/\(0<=p.2.1/\p.2.1<b)/\0<=p.2.2/\p.2.2<c:=fun p hp=>by
   obtain⟨x,hx,y,hy,_,rfl⟩:=a7B _ l r (Nat.le_refl _) p hp
   have h1:=b2S g1 x hx
   have h2:=b2S g2 y hy
   exact⟨by dsimp only;omega,by dsimp only;omega,by dsimp only;omega⟩
  have hMl:=a8q _ l r (Nat.le_refl _)
  generalize hMe:a3D l r=M at *
  refine AW.block (AW.round (α:={ x:Nat×List Ck×Pl×Nat×Nat×Nat×Nat // x.1<=M.length/\x.2.1.length<=2*x.1/\ofK (a,b,c) M [] (0,0,0)=ofK (a,b,c) (M.drop x.1) x.2.1 x.2.2.1 })
   (fun x=>⟨[(12,.ow 2 x.1.2.2.2.2.2.1 x.1.2.1.length),(13,.pt 0 x.1.2.2.2.1 0),(14,.pt 1 x.1.2.2.2.2.1 0),(48,sL ePl M),(49,.val (.int .i64 M.length)),(50,.val (.int .i64 x.1.1))],
    [(0,.box x.1.2.2.2.1 210 3 (ePl.enc x.1.2.2.1)),(1,.box x.1.2.2.2.2.1 210 3 (ePl.enc (a,b,c))),(2,a05 x.1.2.2.2.2.2.1 216 eCk x.1.2.1)],80,3,x.1.2.2.2.2.2.2,[]⟩) (fun x=>M.length-x.1.1) ⟨(0,[],(0,0,0),0,1,2,3),Nat.zero_le _,Nat.le_refl _,rfl⟩ ?_ ?_)
  ·simp only [go_sem,a4m,a7f,a1k,a2a,a2n]
   refine⟨a0a.box fun j hj=>?_,a0a.box fun j hj=>?_,a0a.refl _⟩
   ·match j,hj with
    | 0,_=>exact a0e.refl _
    | 1,_=>exact a0e.refl _
    | 2,_=>exact a0e.refl _
   ·match j,hj with
    | 0,_=>exact a0e.refl _
    | 1,_=>exact a0e.refl _
    | 2,_=>exact a0e.refl _
  ·rintro⟨⟨i,s,⟨t1,t2,t3⟩,va,vb,v,nx⟩,hi,hs,he⟩
   simp only at hi hs he
   refine AW.of hΓ mixed [8,99999] _ _ _ rfl ?_
   simp only [go_sem,a4m,a7f,a1k,a2a,a2n]
   refine⟨fun hil=>?_,fun hil=>?_⟩
   ·have hlt:i<M.length:=by omega
    obtain⟨p1,p2,p3,hp⟩:∃ p1 p2 p3,M.getD i ePl.dflt=(p1,p2,p3):=⟨_,_,_,rfl⟩
    have hd:M.drop i=(p1,p2,p3)::M.drop (i+1):=by
     rw [List.drop_eq_getElem_cons hlt,<-a1e M ePl.dflt hlt,hp]
    have hpb:=hM (p1,p2,p3) (by rw [<-hp,a1e M _ hlt];exact List.getElem_mem _)
    simp only at hpb
    rw [hd,ofK] at he
    refine⟨by omega,?_⟩
    obtain⟨s',hs'⟩:∃ s',(if (p1,p2,p3)=(t1,t2,t3) then s else s++[btw (t1,t2,t3) (p1,p2,p3)])=s':=⟨_,rfl⟩
    have hsl:s'.length<=s.length+1:=by
     rw [<-hs']
     split
     ·omega
     ·simp
    rw [hs'] at he
    refine AW.to (fun x:Nat×Nat=>Sh.st ⟨[(12,.ow 2 x.1 s'.length),(13,.pt 0 va 0),(14,.pt 1 vb 0),(16,.pt 3 nx 0),(48,sL ePl M),(49,.val (.int .i64 M.length)),(50,.val (.int .i64 i))],
     [(0,.box va 210 3 (ePl.enc (p1,p2,p3))),(1,.box vb 210 3 (ePl.enc (a,b,c))),(2,a05 x.1 216 eCk s'),(3,.box nx 210 3 (ePl.enc (p1,p2,p3)))],80,4,x.2,[]⟩) ?_ ?_
    ·refine AW.of hΓ mixed [99999] _ _ _ rfl ?_
     simp only [go_sem,a4m,a7f,a1k,a2a,a2n,hp]
     rw [d89]
     refine⟨fun h=>⟨by omega,⟨(nx+1,nx+1+1),a2D ?_⟩⟩,fun h=>⟨(v,nx+1),a2D ?_⟩⟩
     ·have hne:¬((p1,p2,p3):Pl)=(t1,t2,t3):=fun e=>by rw [decide_eq_true e] at h;cases h
      rw [if_neg hne] at hs'
      subst hs'
      simp only [go_sem,a4m,a7f,a1k,a2a,a2n]
      refine⟨a0a.box fun j hj=>?_,a0a.refl _,a1B (E:=eCk) rfl rfl rfl rfl (by simp) fun j hj=>a0e.refl _,a0a.box fun j hj=>?_⟩
      ·match j,hj with
       | 0,_=>exact a0e.refl _
       | 1,_=>exact a0e.refl _
       | 2,_=>exact a0e.refl _
      ·match j,hj with
       | 0,_=>exact a0e.refl _
       | 1,_=>exact a0e.refl _
       | 2,_=>exact a0e.refl _
     ·have heq:((p1,p2,p3):Pl)=(t1,t2,t3):=of_decide_eq_true (by simpa only [Bool.not_eq_false'] using h)
      rw [if_pos heq] at hs'
      subst hs'
      obtain⟨rfl,rfl,rfl⟩:p1=t1/\p2=t2/\p3=t3:=by simpa using heq
      simp only [go_sem,a4m,a7f,a1k,a2a,a2n]
      refine⟨a0a.refl _,a0a.refl _,a0a.refl _,a0a.box fun j hj=>?_⟩
      match j,hj with
      | 0,_=>exact a0e.refl _
      | 1,_=>exact a0e.refl _
      | 2,_=>exact a0e.refl _
    ·rintro⟨v',nx'⟩
     simp only [go_sem,a4m,a7f,a1k,a2a,a2n]
     have hok:d4m (p1,p2,p3):=⟨by dsimp only;omega,by dsimp only;omega,by dsimp only;omega⟩
     have hsl2:=b0X s' (p1,p2,p3)
     refine b83 (q:=2) (l:=s') (p:=(p1,p2,p3)) rfl (a0e.refl _) (a0a.refl _) (by decide) (by omega) hok fun v2 n2 h2=>?_
     generalize a1G s' (p1,p2,p3)=s2 at *
     simp only [go_sem,a4m,a7f,a1k,a2a,a2n]
     refine⟨hok,by omega,⟨(i+1,s2,b1i (p1,p2,p3),va,vb,v2,n2),by dsimp only;omega,by dsimp only;omega,he⟩,⟨Nat.le_refl _,⟨⟨rfl,rfl⟩,rfl,rfl,by dsimp only;omega⟩,a0a.box fun j hj=>?_,a0a.refl _,a0a.refl _⟩,by dsimp only;omega⟩
     match j,hj with
     | 0,_=>exact a0e.refl _
     | 1,_=>exact a0e.refl _
     | 2,_=>exact a0e.refl _
   ·obtain rfl:i=M.length:=by omega
    rw [List.drop_length,ofK] at he
    refine AW.seqTo (fun x:Nat×Nat=>Sh.st ⟨[(12,.ow 2 x.1 (ofK (a,b,c) M [] (0,0,0)).length)],[(2,a05 x.1 216 eCk (ofK (a,b,c) M [] (0,0,0)))],80,3,x.2,[]⟩) ?_ ?_
    ·refine AW.of hΓ mixed [] _ _ _ rfl ?_
     simp only [go_sem,a4m,a7f,a1k,a2a,a2n]
     rw [d89]
     refine⟨fun h=>⟨by omega,⟨(nx,nx+1),a2D ?_⟩⟩,fun h=>⟨(v,nx),a2D ?_⟩⟩
     ·have hne:¬((t1,t2,t3):Pl)=(a,b,c):=fun e=>by rw [decide_eq_true e] at h;cases h
      rw [if_neg hne] at he
      rw [he]
      simp only [go_sem,a4m,a7f,a1k,a2a,a2n]
      exact a1B (E:=eCk) rfl rfl rfl rfl (by simp) fun j hj=>a0e.refl _
     ·have heq:((t1,t2,t3):Pl)=(a,b,c):=of_decide_eq_true (by simpa only [Bool.not_eq_false'] using h)
      rw [if_pos heq] at he
      rw [he]
      simp only [go_sem,a4m,a7f,a1k,a2a,a2n]
      exact a0a.refl _
    ·rintro⟨v',nx'⟩
     refine AW.of hΓ mixed [] _ _ _ rfl ?_
     simp only [go_sem,a4m,a7f,a1k,a2a,a2n]
     exact a4H (E:=eCk) rfl rfl rfl
end Go.Proofs.YthpjjjnbkfnghaaGreatDoor
namespace Go.Proofs.YthpjjjnbkfnghaaGreatDoor
theorem b3Q {a b u v:Int} {p:Int×Int} {l:List (Int×Int)} (h:a40 a b u v (p::l)=true):(u<p.1/\v<p.2/\p.1<a/\p.2<b)/\a40 a b p.1 p.2 l=true:=by
 rw [a40,Bool.and_eq_true,decide_eq_true_eq] at h
 exact h
end Go.Proofs.YthpjjjnbkfnghaaGreatDoor
namespace Go.Proofs.YthpjjjnbkfnghaaGreatDoor
def a3O (c:Ck):Pl:=(c.2.1.1,c.2.2.1.1,c.2.2.2.1)
def toP (c:Ck):Pl:=(c.2.1.2,c.2.2.1.2,c.2.2.2.2)
def leP (p q:Pl):Prop:=p.1<=q.1/\p.2.1<=q.2.1/\p.2.2<=q.2.2
def chF:Pl->Option Bool->List Ck->Pl->Prop
 | t,_,[],e=>t=e
 | t,o,c::l,e=>a3O c=t/\leP t (toP c)/\t≠toP c/\o≠some c.1/\chF (toP c) (some c.1) l e
def b2a:Option Bool->List Ck->Option Bool
 | o,[]=>o
 | _,c::l=>b2a (some c.1) l
theorem a6C (c:Ck):∀ (o:Option Bool) (s:List Ck),b2a o (s++[c])=some c.1
 | _,[]=>rfl
 | _,d::s=>a6C c (some d.1) s
theorem a6b {e:Pl} {c:Ck}:∀ {t:Pl} {o:Option Bool} {s:List Ck},chF t o (s++[c]) e↔chF t o s (a3O c)/\leP (a3O c) (toP c)/\a3O c≠toP c/\b2a o s≠some c.1/\toP c=e
 | t,o,[]=>by
   show (a3O c=t/\leP t (toP c)/\t≠toP c/\o≠some c.1/\toP c=e)↔(t=a3O c/\leP (a3O c) (toP c)/\a3O c≠toP c/\o≠some c.1/\toP c=e)
   constructor
   ·rintro⟨rfl,h⟩;exact⟨rfl,h⟩
   ·rintro⟨rfl,h⟩;exact⟨rfl,h⟩
 | t,o,d::s=>by
   have ih:=a6b (e:=e) (c:=c) (t:=toP d) (o:=some d.1) (s:=s)
   show (a3O d=t/\leP t (toP d)/\t≠toP d/\o≠some d.1/\chF (toP d) (some d.1) (s++[c]) e)↔((a3O d=t/\leP t (toP d)/\t≠toP d/\o≠some d.1/\chF (toP d) (some d.1) s (a3O c))/\leP (a3O c) (toP c)/\a3O c≠toP c/\b2a (some d.1) s≠some c.1/\toP c=e)
   rw [ih]
   constructor
   ·rintro⟨h1,h2,h3,h4,h5,h6⟩;exact⟨⟨h1,h2,h3,h4,h5⟩,h6⟩
   ·rintro⟨⟨h1,h2,h3,h4,h5⟩,h6⟩;exact⟨h1,h2,h3,h4,h5,h6⟩
theorem a8k {p q r:Pl} (h:leP p q) (k:leP q r):leP p r:=⟨Int.le_trans h.1 k.1,Int.le_trans h.2.1 k.2.1,Int.le_trans h.2.2 k.2.2⟩
theorem a6N (p:Pl):leP p p:=⟨Int.le_refl _,Int.le_refl _,Int.le_refl _⟩
theorem b9W:∀ {t:Pl} {o:Option Bool} {s:List Ck} {e:Pl},chF t o s e->leP t e
 | t,_,[],_,h=>by rw [show t=_ from h];exact a6N _
 | _,_,_::_,_,⟨_,h2,_,_,h5⟩=>a8k h2 (b9W h5)
def upM (a61:Pl):Pl->List Pl->Prop
 | t,[]=>leP t a61
 | t,p::M=>leP t p/\upM a61 (b1i p) M
theorem b0v {a b c:Int}:∀ (n:Nat) (l r:List (Int×Int)) (u v u' w:Int) (t:Pl),l.length+r.length<=n->a40 a b u v l=true->a40 a c u' w r=true->(t.1<=u+1\/t.1<=u'+1)->t.2.1<=v+1->t.2.2<=w+1->leP t (a,b,c)->upM (a,b,c) t (a3D l r)
 | _,[],r,_,_,_,_,t,_,_,_,_,_,_,h=>by rw [a8p];exact h
 | _,p::l,[],_,_,_,_,t,_,_,_,_,_,_,h=>by rw [a7K];exact h
 | 0,_::_,_::_,_,_,_,_,_,h,_,_,_,_,_,_=>by simp at h
 | n+1,p::l,q::r,u,v,u',w,t,h,hl,hr,h1,h2,h3,h4=>by
   simp only [List.length_cons] at h
   obtain⟨l1,l2⟩:=b3Q hl
   obtain⟨r1,r2⟩:=b3Q hr
   rw [a3D]
   by_cases e1:p.1<q.1
   ·rw [if_pos e1]
    exact b0v n l (q::r) p.1 p.2 u' w t (by simp only [List.length_cons];omega) l2 hr (by omega) (by omega) h3 h4
   ·by_cases e2:q.1<p.1
    ·rw [if_neg e1,if_pos e2]
     exact b0v n (p::l) r u v q.1 q.2 t (by simp only [List.length_cons];omega) hl r2 (by omega) h2 (by omega) h4
    ·rw [if_neg e1,if_neg e2]
     refine⟨⟨?_,?_,?_⟩,b0v n l r p.1 p.2 q.1 q.2 _ (by omega) l2 r2 (.inl (Int.le_refl _)) (Int.le_refl _) (Int.le_refl _) ⟨?_,?_,?_⟩⟩
     ·show t.1<=p.1
      omega
     ·show t.2.1<=p.2
      omega
     ·show t.2.2<=q.2
      omega
     ·show p.1+1<=a
      omega
     ·show p.2+1<=b
      omega
     ·show q.2+1<=c
      omega
theorem b21 (p q:Pl) (h:leP p q):p≠b1i q:=fun e=>by
 have h1:p.1=q.1+1:=congrArg Prod.fst e
 have:=h.1
 omega
theorem b2W (p:Pl):leP p (b1i p):=⟨Int.le_of_lt (Int.lt_succ _),Int.le_of_lt (Int.lt_succ _),Int.le_of_lt (Int.lt_succ _)⟩
theorem a6D {s:List Ck} {t:Pl} (h:chF (0,0,0) none s t):chF (0,0,0) none (a1G s t) (b1i t)/\b2a none (a1G s t)=some true:=by
 rcases s.eq_nil_or_concat with rfl|⟨m,c,rfl⟩
 ·have h:(0,0,0)=t:=h
  subst h
  exact⟨⟨rfl,b2W _,b21 _ _ (a6N _),by simp,rfl⟩,rfl⟩
 ·rw [List.concat_eq_append] at h ⊢
  rw [a2P]
  by_cases hc:c.1=true
  ·rw [if_pos hc]
   obtain⟨h1,h2,h3,h4,h5⟩:=a6b.1 h
   refine⟨a6b.2 ⟨h1,?_,?_,?_,rfl⟩,a6C _ _ _⟩
   ·exact a8k (h5▸h2) (b2W t)
   ·exact b21 _ t (h5▸h2)
   ·rw [hc] at h4;exact h4
  ·rw [if_neg hc]
   refine⟨a6b.2 ⟨h,b2W t,b21 _ t (a6N _),?_,rfl⟩,a6C _ _ _⟩
   rw [a6C]
   intro e
   exact hc (Option.some.inj e)
theorem c8K (a61:Pl):∀ (M:List Pl) (s:List Ck) (t:Pl),chF (0,0,0) none s t->b2a none s≠some false->upM a61 t M->chF (0,0,0) none (ofK a61 M s t) a61
 | [],s,t,h,hl,hu=>by
   rw [ofK]
   by_cases e:t=a61
   ·rw [if_pos e,<-e];exact h
   ·rw [if_neg e]
    exact a6b.2 ⟨h,hu,e,hl,rfl⟩
 | p::M,s,t,h,hl,hu=>by
   rw [ofK]
   by_cases e:p=t
   ·rw [if_pos e,e]
    obtain⟨h1,h2⟩:=a6D h
    exact c8K a61 M _ _ h1 (by rw [h2];simp) (e▸hu.2)
   ·rw [if_neg e]
    obtain⟨h1,h2⟩:=a6D (s:=s++[btw t p]) (t:=p) (a6b.2 ⟨h,hu.1,fun e2=>e e2.symm,hl,rfl⟩)
    exact c8K a61 M _ _ h1 (by rw [h2];simp) hu.2
theorem d2B {a b c:Int} {l r:List (Int×Int)} (h:c1h a b c l r=true):chF (0,0,0) none (ofK (a,b,c) (a3D l r) [] (0,0,0)) (a,b,c):=by
 unfold c1h at h
 simp only [Bool.and_eq_true,decide_eq_true_eq] at h
 obtain⟨⟨h1,h2,h3⟩,h4,h5⟩:=h
 exact c8K (a,b,c) _ _ _ rfl (by simp [b2a]) (b0v _ l r (-1) (-1) (-1) (-1) (0,0,0) (Nat.le_refl _) h4 h5 (.inl (Int.le_refl _)) (Int.le_refl _) (Int.le_refl _) ⟨h1,h2,h3⟩)
end Go.Proofs.YthpjjjnbkfnghaaGreatDoor
namespace Go.Proofs.YthpjjjnbkfnghaaGreatDoor
open Go
abbrev BS:=List UInt8
instance:DecidableEq (BS×BS×BS×BS×Bool):=inferInstance
instance:DecidableEq (Bool×BS×BS×BS×BS×Bool):=inferInstance
abbrev Pt:=BS×BS×BS×Bool×BS×BS×BS×BS×Bool
instance:DecidableEq Pt:=inferInstance
abbrev ePt:El Pt:=eP eS (eP eS (eP eS (eP eB (eP eS (eP eS (eP eS (eP eS eB)))))))
abbrev eLb:El (BS×BS×BS):=eP eS (eP eS eS)
@[reducible] def hkP (p:Pt):Bool:=p.2.2.2.1
@[reducible] def txP (p:Pt):BS:=p.2.2.2.2.1
def a1n (t:BS):Pt:=([],[],[],false,t,[],[],[],false)
def a0C (p:Pt):Bool:=decide (p=a1n (txP p))
def a3p (s:BS):Bool:=decide ((10:UInt8)∉s)
def c3t (p:Pt):Bool:=a3p p.1&&(a3p p.2.1&&a3p p.2.2.1)
theorem b9S (a b:BS):a3p (a++b)=(a3p a&&a3p b):=by
 unfold a3p
 rw [Bool.eq_iff_iff]
 simp [not_or]
theorem c5w (s:BS):decide (0<=Lib.indexByte s 10)=!a3p s:=by
 unfold a3p
 rcases a6i s with⟨h1,h2⟩|⟨p,r,rfl,h2,h1⟩
 ·rw [h1]
  simp [h2]
 ·rw [h1]
  simp
def a4e (p:Pt):Bool:=p.2.2.2.1&&(decide (p.2.2.2.2.1=[])&&((p.2.2.2.2.2.2.2.2||(decide (p.2.2.2.2.2.2.1=[])&&decide (p.2.1=[])))&&c3t p))
def a45 (p:Pt) (another:Bool):Bool:=a0C p&&(decide (txP p≠[])&&(!another||a1d (txP p)))
def b9V (d:List Pt) (i:Nat):Bool:=(hkP (d.getD i ePt.dflt)||(decide (i=0)||hkP (d.getD (i-1) ePt.dflt)))&&(a4e (d.getD i ePt.dflt)||a45 (d.getD i ePt.dflt) (decide (i+1<d.length)))
def a3n (d:List Pt):Bool:=decide (∀ i,i<d.length->b9V d i=true)
def a0w (d:List Pt):Nat:=(d.filter hkP).length
def a52 (l:List BS):Nat:=l.foldl (fun n s=>max n (a4w (a0b s))) 0
theorem b9b (l:List BS) (x:BS):a52 (l++[x])=max (a52 l) (a4w (a0b x)):=by
 unfold a52
 rw [List.foldl_append]
 rfl
def b3F (p:Pt):List BS:=[p.2.2.2.2.1,p.2.2.2.2.2.1,p.2.2.2.2.2.2.1,p.2.2.2.2.2.2.2.1]
def a7G (d:List Pt) (w:Int):Bool:=decide (1<=w)&&decide (∀ p∈d,(a52 (b3F p):Int)<w)
def a4O (d:List Pt) (ts:List BS):List Pt:=if ts.flatten=[] then d else d++[a1n ts.flatten]
def c7L:List Pt->List Pt->List BS->List Pt
 | [],d,ts=>a4O d ts
 | p::l,d,ts=>if a0C p=true then c7L l d (ts++[txP p]) else c7L l (a4O d ts++[p]) []
def ofD (l:List Pt):List Pt:=c7L l [] []
theorem a1N (t:BS):a0C (a1n t)=true:=decide_eq_true rfl
theorem a41 {p:Pt} (h:a0C p=true):p=a1n (txP p):=of_decide_eq_true h
def a3h (out:List Pt) (p:Pt):List Pt:=
 if a0C p=true then
  if txP p=[] then out else
   match out.getLast? with
   | some q=>if a0C q=true then out.dropLast++[a1n (txP q++txP p)] else out++[p]
   | none=>out++[p]
 else out++[p]
theorem a8L {out:List Pt} {p:Pt} (h:a0C p=false):a3h out p=out++[p]:=by unfold a3h;rw [if_neg (by simp [h])]
theorem b55 {out:List Pt} {p:Pt} (h:a0C p=true) (h2:txP p=[]):a3h out p=out:=by unfold a3h;rw [if_pos h,if_pos h2]
theorem b0p {p:Pt} (h2:¬(a0C p=true/\txP p=[])):a3h [] p=[p]:=by
 unfold a3h
 by_cases h:a0C p=true
 ·rw [if_pos h,if_neg fun e=>h2 ⟨h,e⟩]
  rfl
 ·rw [if_neg h]
  rfl
theorem b2o {m:List Pt} {q p:Pt} (h:a0C p=true) (h2:txP p≠[]) (hq:a0C q=true):a3h (m++[q]) p=m++[a1n (txP q++txP p)]:=by
 unfold a3h
 rw [if_pos h,if_neg h2]
 simp [hq]
theorem b2f {m:List Pt} {q p:Pt} (h2:¬(a0C p=true/\txP p=[])) (hq:a0C q=false):a3h (m++[q]) p=m++[q]++[p]:=by
 unfold a3h
 by_cases h:a0C p=true
 ·rw [if_pos h,if_neg fun e=>h2 ⟨h,e⟩]
  simp [hq]
 ·rw [if_neg h]
theorem c3U (d:List Pt):a4O d []=d:=rfl
theorem b98 {d:List Pt} {ts:List BS} {p:Pt} (hd:∀ q,d.getLast?=some q->a0C q=false) (hp:a0C p=true):a4O d (ts++[txP p])=a3h (a4O d ts) p:=by
 have e:=a41 hp
 by_cases h0:txP p=[]
 ·rw [b55 hp h0]
  unfold a4O
  rw [h0]
  simp
 ·unfold a4O
  have hf:¬(ts++[txP p]).flatten=[]:=by simp [h0]
  rw [if_neg hf]
  by_cases h1:ts.flatten=[]
  ·rw [if_pos h1]
   have ef:(ts++[txP p]).flatten=txP p:=by simp [h1]
   rw [ef,<-e]
   rcases d.eq_nil_or_concat with rfl|⟨m,q,rfl⟩
   ·rw [b0p fun h=>h0 h.2]
    rfl
   ·rw [List.concat_eq_append] at hd ⊢
    rw [b2f (fun h=>h0 h.2) (hd q (by simp))]
  ·rw [if_neg h1,b2o hp h0 (a1N _)]
   simp [a1n,txP]
theorem c9M:∀ (l d:List Pt) (ts:List BS),(∀ q,d.getLast?=some q->a0C q=false)->c7L l d ts=l.foldl a3h (a4O d ts)
 | [],d,ts,_=>rfl
 | p::l,d,ts,hd=>by
   rw [c7L,List.foldl_cons]
   cases h:a0C p with
   | true=>rw [if_pos rfl,c9M l d _ hd,b98 hd h]
   | false=>
     rw [if_neg (by simp),c9M l _ [] (fun q hq=>by
      rw [List.getLast?_append] at hq
      simp at hq
      rw [<-hq];exact h),c3U,a8L h]
theorem b4l (l:List Pt):ofD l=l.foldl a3h []:=c9M l [] [] (fun q h=>by cases h)
def a3X (l:List Pt):Nat:=(l.map fun p=>(txP p).length).sum
theorem a2X (l m:List Pt):a3X (l++m)=a3X l+a3X m:=by simp [a3X]
theorem a2W (p:Pt):a3X [p]=(txP p).length:=by simp [a3X]
theorem b3G (l:List Pt) (i:Nat):a3X (l.take i)<=a3X l:=by
 have:=a2X (l.take i) (l.drop i)
 rw [List.take_append_drop] at this
 omega
theorem c6m (out:List Pt) (p:Pt):a3X (a3h out p)<=a3X out+(txP p).length/\(a3h out p).length<=out.length+1:=by
 have hn:a3X (out++[p])<=a3X out+(txP p).length/\(out++[p]).length<=out.length+1:=by rw [a2X,a2W];simp
 cases hp:a0C p with
 | false=>rw [a8L hp];exact hn
 | true=>
   by_cases h0:txP p=[]
   ·rw [b55 hp h0];omega
   ·rcases out.eq_nil_or_concat with rfl|⟨m,q,rfl⟩
    ·rw [b0p fun e=>h0 e.2];exact hn
    ·rw [List.concat_eq_append] at *
     cases hqt:a0C q with
     | false=>rw [b2f (fun e=>h0 e.2) hqt];exact hn
     | true=>
       rw [b2o hp h0 hqt,a2X,a2X,a2W,a2W]
       simp [a1n,txP]
       omega
theorem b7d:∀ (l out:List Pt),a3X (l.foldl a3h out)<=a3X out+a3X l/\(l.foldl a3h out).length<=out.length+l.length
 | [],out=>by simp [a3X]
 | p::l,out=>by
   have h1:=b7d l (a3h out p)
   have h2:=c6m out p
   have e:a3X (p::l)=(txP p).length+a3X l:=by simp [a3X]
   rw [List.foldl_cons,e,List.length_cons]
   omega
theorem b5V (l:List Pt):a3X (ofD l)<=a3X l/\(ofD l).length<=l.length:=by
 have:=b7d l []
 rw [<-b4l] at this
 simpa [a3X] using this
end Go.Proofs.YthpjjjnbkfnghaaGreatDoor
set_option maxRecDepth 100000
namespace Go.Proofs.YthpjjjnbkfnghaaGreatDoor
open Go
def okS (l:List Pt) (i:Nat):Bool:=(hkP (l.getD i ePt.dflt)||(decide (i=0)||hkP (l.getD (i-1) ePt.dflt)))&&(a4e (l.getD i ePt.dflt)||a45 (l.getD i ePt.dflt) true)
def SrP (l:List Pt):Prop:=∀ i,i<l.length->okS l i=true
theorem c07 {p:Pt} (b:Bool) (h:a45 p true=true):a45 p b=true:=by
 unfold a45 at *
 simp only [Bool.and_eq_true,Bool.not_true,Bool.false_or] at h
 rw [h.1,h.2.1,h.2.2]
 simp
theorem d2G {l:List Pt} {i:Nat} (h:okS l i=true):b9V l i=true:=by
 unfold okS at h
 unfold b9V
 simp only [Bool.and_eq_true] at h ⊢
 refine⟨h.1,?_⟩
 have h3:=h.2
 rw [Bool.or_eq_true] at h3 ⊢
 rcases h3 with h2|h2
 ·exact .inl h2
 ·exact .inr (c07 _ h2)
theorem SrP.right {l:List Pt} (h:SrP l):a3n l=true:=decide_eq_true fun i hi=>d2G (h i hi)
theorem b56 {l:List Pt} {p:Pt} {i:Nat} (h:i<l.length):okS (l++[p]) i=okS l i:=by
 have e:∀ k,k<l.length->(l++[p]).getD k ePt.dflt=l.getD k ePt.dflt:=fun k hk=>by simp [List.getD,List.getElem?_append_left hk]
 unfold okS
 rw [e i h]
 rcases Nat.eq_zero_or_pos i with rfl|h0
 ·simp
 ·rw [e (i-1) (by omega)]
theorem b1A (l:List Pt) (p:Pt):(l++[p]).getD l.length ePt.dflt=p:=by simp [List.getD]
theorem c8A (l:List Pt) (p:Pt) (h:0<l.length):(l++[p]).getD (l.length-1) ePt.dflt=l.getD (l.length-1) ePt.dflt:=by
 simp [List.getD,List.getElem?_append_left (show l.length-1<l.length by omega)]
theorem SrP.left {l:List Pt} {p:Pt} (h:SrP (l++[p])):SrP l:=fun i hi=>by
 have:=h i (by simp;omega)
 rwa [b56 hi] at this
theorem SrP.snoc {l:List Pt} {p:Pt} (h:SrP l) (hp:okS (l++[p]) l.length=true):SrP (l++[p]):=fun i hi=>by
 rcases Nat.lt_or_ge i l.length with g|g
 ·rw [b56 g];exact h i g
 ·obtain rfl:i=l.length:=by simp at hi;omega
  exact hp
theorem b1L {l:List Pt} {p:Pt} (h:SrP l) (hp:b9V (l++[p]) l.length=true):a3n (l++[p])=true:=decide_eq_true fun i hi=>by
 rcases Nat.lt_or_ge i l.length with g|g
 ·exact d2G (by rw [b56 g];exact h i g)
 ·obtain rfl:i=l.length:=by simp at hi;omega
  exact hp
theorem b5c {p:Pt} (h:a4e p=true):hkP p=true:=by
 unfold a4e at h
 simp only [Bool.and_eq_true] at h
 exact h.1
theorem b0l {p:Pt} (h:a0C p=true):hkP p=false:=by
 rw [a41 h]
 rfl
theorem b0E {p:Pt} (h:a4e p=true):a0C p=false:=by
 cases c:a0C p with
 | false=>rfl
 | true=>have:=b0l c;rw [b5c h] at this;cases this
theorem SrP.last {l:List Pt} {q:Pt} (h:SrP (l++[q])) (hq:a0C q=false):hkP q=true:=by
 have:=h l.length (by simp)
 unfold okS at this
 rw [b1A] at this
 simp only [Bool.and_eq_true,Bool.or_eq_true] at this
 rcases this.2 with h2|h2
 ·exact b5c h2
 ·unfold a45 at h2
  rw [hq] at h2
  cases h2
theorem b7S {l:List Pt} {t:BS} (h:SrP l) (h0:t≠[]) (he:a1d t=true) (hl:∀ q,l.getLast?=some q->a0C q=false):okS (l++[a1n t]) l.length=true:=by
 unfold okS
 rw [b1A]
 have hk:(decide (l.length=0)||hkP ((l++[a1n t]).getD (l.length-1) ePt.dflt))=true:=by
  rcases l.eq_nil_or_concat with rfl|⟨m,q,rfl⟩
  ·rfl
  ·rw [List.concat_eq_append] at *
   rw [c8A _ _ (by simp)]
   have:(m++[q]).getD ((m++[q]).length-1) ePt.dflt=q:=by simp [List.getD]
   rw [this,h.last (hl q (by simp)),Bool.or_true]
 rw [hk,Bool.or_true,Bool.true_and]
 unfold a45
 rw [a1N]
 have e:txP (a1n t)=t:=rfl
 rw [e,he,decide_eq_true h0]
 simp
theorem b4I {l:List Pt} {t:BS} (h:SrP l) (h0:t≠[]) (hl:∀ q,l.getLast?=some q->a0C q=false):b9V (l++[a1n t]) l.length=true:=by
 unfold b9V
 rw [b1A]
 have hk:(decide (l.length=0)||hkP ((l++[a1n t]).getD (l.length-1) ePt.dflt))=true:=by
  rcases l.eq_nil_or_concat with rfl|⟨m,q,rfl⟩
  ·rfl
  ·rw [List.concat_eq_append] at *
   rw [c8A _ _ (by simp)]
   have:(m++[q]).getD ((m++[q]).length-1) ePt.dflt=q:=by simp [List.getD]
   rw [this,h.last (hl q (by simp)),Bool.or_true]
 rw [hk,Bool.or_true,Bool.true_and]
 unfold a45
 rw [a1N,decide_eq_false (show ¬l.length+1<(l++[a1n t]).length by simp)]
 have e:txP (a1n t)=t:=rfl
 rw [e,decide_eq_true h0]
 simp
theorem c5R {l:List Pt} {p:Pt} (h:a4e p=true):okS (l++[p]) l.length=true:=by
 unfold okS
 rw [b1A,b5c h,h]
 rfl
theorem a44 (out:List Pt) (p:Pt) (hp:a0C p=true):(txP p=[]/\a3h out p=out)\/
  (txP p≠[]/\((∃ m q,out=m++[q]/\a0C q=true/\a3h out p=m++[a1n (txP q++txP p)])\/((∀ q,out.getLast?=some q->a0C q=false)/\a3h out p=out++[p]))):=by
 by_cases h0:txP p=[]
 ·exact .inl ⟨h0,b55 hp h0⟩
 ·refine .inr ⟨h0,?_⟩
  rcases out.eq_nil_or_concat with rfl|⟨m,q,rfl⟩
  ·exact .inr ⟨(fun q h=>by cases h),b0p fun e=>h0 e.2⟩
  ·rw [List.concat_eq_append]
   cases hq:a0C q with
   | true=>exact .inl ⟨m,q,rfl,hq,b2o hp h0 hq⟩
   | false=>
     refine .inr ⟨fun q' h=>?_,b2f (fun e=>h0 e.2) hq⟩
     simp at h
     rw [<-h];exact hq
theorem SrP.text {m:List Pt} {q:Pt} (h:SrP (m++[q])) (hq:a0C q=true):∀ q',m.getLast?=some q'->a0C q'=false:=fun q' hq'=>by
 have:=h m.length (by simp)
 unfold okS at this
 rw [b1A,b0l hq] at this
 simp only [Bool.and_eq_true,Bool.or_eq_true,Bool.false_eq_true,false_or,decide_eq_true_eq] at this
 rcases m.eq_nil_or_concat with rfl|⟨m',q2,rfl⟩
 ·cases hq'
 ·rw [List.concat_eq_append] at *
  simp at hq'
  subst hq'
  rcases this.1 with h1|h1
  ·simp at h1
  ·rw [c8A _ _ (by simp)] at h1
   have e:(m'++[q2]).getD ((m'++[q2]).length-1) ePt.dflt=q2:=by simp [List.getD]
   rw [e] at h1
   cases c:a0C q2 with
   | false=>rfl
   | true=>rw [b0l c] at h1;cases h1
theorem b7A {a b:BS} (h0:b≠[]):a1d (a++b)=a1d b:=by
 unfold a1d
 rcases b.eq_nil_or_concat with rfl|⟨m,c,rfl⟩
 ·exact absurd rfl h0
 ·rw [List.concat_eq_append,<-List.append_assoc,List.getLast?_concat,List.getLast?_concat]
theorem b4R {out:List Pt} {p:Pt} (h:SrP out) (hp:a4e p=true\/(a0C p=true/\(txP p=[]\/a1d (txP p)=true))):SrP (a3h out p):=by
 rcases hp with hp|⟨hp,he⟩
 ·rw [a8L (b0E hp)]
  exact h.snoc (c5R hp)
 ·rcases a44 out p hp with⟨_,e⟩|⟨h0,⟨m,q,rfl,hq,e⟩|⟨hl,e⟩⟩
  ·rw [e];exact h
  ·rw [e]
   have he:=he.resolve_left h0
   exact h.left.snoc (b7S h.left (by simp [h0]) (by rw [b7A h0];exact he) (h.text hq))
  ·rw [e]
   have he:=he.resolve_left h0
   rw [a41 hp]
   exact h.snoc (b7S h h0 he hl)
theorem b9m {out:List Pt} {p:Pt} (h:SrP out) (hp:a4e p=true\/a0C p=true):a3n (a3h out p)=true:=by
 rcases hp with hp|hp
 ·exact (b4R h (.inl hp)).right
 ·rcases a44 out p hp with⟨_,e⟩|⟨h0,⟨m,q,rfl,hq,e⟩|⟨hl,e⟩⟩
  ·rw [e];exact h.right
  ·rw [e]
   exact b1L h.left (b4I h.left (by simp [h0]) (h.text hq))
  ·rw [e,a41 hp]
   exact b1L h (b4I h h0 hl)
theorem b5T:∀ (l out:List Pt),SrP out->(∀ p∈l,a4e p=true\/(a0C p=true/\(txP p=[]\/a1d (txP p)=true)))->SrP (l.foldl a3h out)
 | [],_,h,_=>h
 | p::l,out,h,hl=>b5T l _ (b4R h (hl p (List.mem_cons_self ..))) fun q hq=>hl q (List.mem_cons_of_mem p hq)
theorem c6N {l:List Pt} (h1:∀ p∈l,a4e p=true\/a0C p=true) (h2:∀ p∈l.dropLast,a4e p=true\/(a0C p=true/\(txP p=[]\/a1d (txP p)=true))):a3n (ofD l)=true:=by
 rw [b4l]
 rcases l.eq_nil_or_concat with rfl|⟨m,p,rfl⟩
 ·rfl
 ·rw [List.concat_eq_append] at *
  rw [List.dropLast_concat] at h2
  rw [List.foldl_append]
  exact b9m (b5T m [] (fun i hi=>by simp at hi) h2) (h1 p (by simp))
theorem b4j:∀ (l out:List Pt),a0w (l.foldl a3h out)=a0w out+a0w l
 | [],out=>by simp [a0w]
 | p::l,out=>by
   have key:a0w (a3h out p)=a0w out+a0w [p]:=by
    have hap:∀ a b:List Pt,a0w (a++b)=a0w a+a0w b:=fun a b=>by simp [a0w]
    cases hp:a0C p with
    | false=>rw [a8L hp,hap]
    | true=>
      have h1:∀ t:BS,a0w [a1n t]=0:=fun t=>rfl
      have h2:a0w [p]=0:=by rw [a41 hp];rfl
      rcases a44 out p hp with⟨_,e⟩|⟨h0,⟨m,q,rfl,hq,e⟩|⟨hl,e⟩⟩
      ·rw [e,h2];rfl
      ·have h3:a0w [q]=0:=by rw [a41 hq];rfl
       rw [e,hap,hap,h1,h2,h3]
      ·rw [e,hap]
   have hap:a0w (p::l)=a0w [p]+a0w l:=by
    rw [show p::l=[p]++l from rfl]
    unfold a0w
    rw [List.filter_append,List.length_append]
   rw [List.foldl_cons,b4j l,key,hap]
   omega
theorem b3b (l:List Pt):a0w (ofD l)=a0w l:=by
 rw [b4l,b4j]
 simp [a0w]
end Go.Proofs.YthpjjjnbkfnghaaGreatDoor
namespace Go.Proofs.YthpjjjnbkfnghaaGreatDoor
theorem b6P {l m:List BS} {x:BS} (h:x∈l):(l++m).idxOf x=l.idxOf x:=by rw [List.idxOf_append,if_pos h]
theorem c8E {l m:List BS} {x:BS} (h:¬x∈l):(l++m).idxOf x=m.idxOf x+l.length:=by rw [List.idxOf_append,if_neg h]
theorem a9H:∀ (l ks:List BS),ks.Nodup->(a2q ks l).1.Nodup/\(∃ m,(a2q ks l).1=ks++m)/\(∀ x∈l,x∈(a2q ks l).1)/\(a2q ks l).2=l.map fun x=>(((a2q ks l).1.idxOf x:Nat):Int)
 | [],ks,h=>⟨h,⟨[],by simp [a2q]⟩,fun _ h=>by simp at h,rfl⟩
 | x::l,ks,h=>by
   have hk:(if x∈ks then ks else ks++[x]).Nodup:=by
    split
    ·exact h
    ·rename_i hx
     rw [List.nodup_append]
     refine⟨h,by simp,fun a ha b hb e=>?_⟩
     simp at hb
     exact hx (by rw [<-hb,<-e];exact ha)
   have hx:x∈(if x∈ks then ks else ks++[x]):=by
    split
    ·assumption
    ·simp
   have hi:(if x∈ks then ks else ks++[x]).idxOf x=ks.idxOf x:=by
    split
    ·rfl
    ·rename_i hx
     rw [c8E hx,List.idxOf_cons_self,List.idxOf_eq_length hx,Nat.zero_add]
   have hm:∃ m,(if x∈ks then ks else ks++[x])=ks++m:=by
    split
    ·exact⟨[],by simp⟩
    ·exact⟨[x],rfl⟩
   obtain⟨i1,⟨m,i2⟩,i3,i4⟩:=a9H l (if x∈ks then ks else ks++[x]) hk
   obtain⟨m',hm⟩:=hm
   simp only [a2q]
   refine⟨i1,⟨m'++m,by rw [i2,hm,List.append_assoc]⟩,fun y hy=>?_,?_⟩
   ·rcases List.mem_cons.1 hy with rfl|hy
    ·rw [i2];exact List.mem_append_left _ hx
    ·exact i3 y hy
   ·rw [List.map_cons,i4]
    congr 1
    rw [i2,b6P hx,hi]
theorem c9H {K:List BS} {x y:BS} (hx:x∈K) (hy:y∈K) (h:K.idxOf x=K.idxOf y):x=y:=by
 have h1:=List.idxOf_lt_length_of_mem hx
 have h2:=List.idxOf_lt_length_of_mem hy
 have e1:K[K.idxOf x]=x:=List.getElem_idxOf h1
 have e2:K[K.idxOf y]=y:=List.getElem_idxOf h2
 rw [<-e1,<-e2]
 congr 1
theorem a8t (a b c:List BS):∃ φ:BS->Int,a2x [] [a,b,c]=[a.map φ,b.map φ,c.map φ]/\∀ x y,(x∈a\/x∈b\/x∈c)->(y∈a\/y∈b\/y∈c)->φ x=φ y->x=y:=by
 obtain⟨a1,⟨ma,a2⟩,a3,a4⟩:=a9H a [] List.nodup_nil
 obtain⟨b1,⟨mb,b2⟩,b3,b4⟩:=a9H b (a2q [] a).1 a1
 obtain⟨c1,⟨mc,c2⟩,c3,c4⟩:=a9H c (a2q (a2q [] a).1 b).1 b1
 generalize hKa:(a2q [] a).1=Ka at *
 generalize hKb:(a2q Ka b).1=Kb at *
 generalize hKc:(a2q Kb c).1=Kc at *
 have ea:∀ x∈a,Kc.idxOf x=Ka.idxOf x:=fun x hx=>by
  rw [c2,b6P (by rw [b2];exact List.mem_append_left _ (a3 x hx)),b2,b6P (a3 x hx)]
 have eb:∀ x∈b,Kc.idxOf x=Kb.idxOf x:=fun x hx=>by
  rw [c2,b6P (b3 x hx)]
 have hin:∀ x,(x∈a\/x∈b\/x∈c)->x∈Kc:=fun x hx=>by
  rcases hx with h|h|h
  ·rw [c2,b2];exact List.mem_append_left _ (List.mem_append_left _ (a3 x h))
  ·rw [c2];exact List.mem_append_left _ (b3 x h)
  ·exact c3 x h
 refine⟨fun x=>((Kc.idxOf x:Nat):Int),?_,fun x y hx hy e=>c9H (hin x hx) (hin y hy) (Int.ofNat.inj e)⟩
 simp only [a2x]
 rw [hKa,hKb,a4,b4,c4]
 congr 1
 ·exact List.map_congr_left fun x hx=>by rw [ea x hx]
 ·congr 1
  exact List.map_congr_left fun x hx=>by rw [eb x hx]
theorem b2R {a b:List Int}:∀ {l:List (Int×Int)} {u v:Int},rgt a b u v l=true->a40 a.length b.length u v l=true
 | [],_,_,_=>rfl
 | p::l,u,v,h=>by
   rw [rgt,Bool.and_eq_true,decide_eq_true_eq] at h
   rw [a40,b2R h.2,Bool.and_true,decide_eq_true_eq]
   exact⟨h.1.1,h.1.2.1,h.1.2.2.1,h.1.2.2.2.1⟩
theorem b4S {a b:List Int}:∀ {l:List (Int×Int)} {u v:Int},rgt a b u v l=true->∀ p∈l,u<p.1/\v<p.2/\p.1<a.length/\p.2<b.length/\a.getD p.1.toNat 0=b.getD p.2.toNat 0
 | q::l,u,v,h,p,hp=>by
   rw [rgt,Bool.and_eq_true,decide_eq_true_eq] at h
   rcases List.mem_cons.1 hp with rfl|hp
   ·exact h.1
   ·obtain⟨g1,g2,g3⟩:=b4S h.2 p hp
    exact⟨by omega,by omega,g3⟩
theorem a3e {α:Type} (φ:BS->α) (d:α) {l:List BS} {k:Nat} (h:k<l.length):(l.map φ).getD k d=φ (l.getD k []):=by
 rw [a1e _ _ (by simpa using h),a1e _ _ h,List.getElem_map]
theorem a4J {l:List BS} {k:Nat} (h:k<l.length):l.getD k []∈l:=by
 rw [a1e _ _ h]
 exact List.getElem_mem h
abbrev Fl:=List BS×List BS×List BS
def atP (f:Fl) (p:Pl):Prop:=(0<=p.1/\p.1<f.1.length)/\(0<=p.2.1/\p.2.1<f.2.1.length)/\(0<=p.2.2/\p.2.2<f.2.2.length)/\f.2.1.getD p.2.1.toNat []=f.1.getD p.1.toNat []/\f.2.2.getD p.2.2.toNat []=f.1.getD p.1.toNat []
def c7I (f:Fl) (l r:List (Int×Int)):Prop:=rgt ((a2x [] [f.1,f.2.1,f.2.2]).getD 0 []) ((a2x [] [f.1,f.2.1,f.2.2]).getD 1 []) (-1) (-1) l=true/\rgt ((a2x [] [f.1,f.2.1,f.2.2]).getD 0 []) ((a2x [] [f.1,f.2.1,f.2.2]).getD 2 []) (-1) (-1) r=true
theorem b3r {f:Fl} {l r:List (Int×Int)} (h:c7I f l r):c1h f.1.length f.2.1.length f.2.2.length l r=true:=by
 obtain⟨φ,e,_⟩:=a8t f.1 f.2.1 f.2.2
 unfold c7I at h
 rw [e] at h
 have h1:=b2R h.1
 have h2:=b2R h.2
 simp only [List.getD_cons_zero,List.getD_cons_succ,List.length_map] at h1 h2
 unfold c1h
 rw [h1,h2]
 simp
theorem d0w {f:Fl} {l r:List (Int×Int)} (h:c7I f l r):∀ p∈a3D l r,atP f p:=fun x hx=>by
 obtain⟨p,hp,q,hq,e1,rfl⟩:=a7B _ l r (Nat.le_refl _) x hx
 obtain⟨φ,e,inj⟩:=a8t f.1 f.2.1 f.2.2
 unfold c7I at h
 rw [e] at h
 obtain⟨a1,a2,a3,a4,a5⟩:=b4S h.1 p hp
 obtain⟨b1,b2,b3,b4,b5⟩:=b4S h.2 q hq
 simp only [List.getD_cons_zero,List.getD_cons_succ,List.length_map] at a3 a4 a5 b3 b4 b5
 have k1:p.1.toNat<f.1.length:=by omega
 have k2:p.2.toNat<f.2.1.length:=by omega
 have k3:q.2.toNat<f.2.2.length:=by omega
 rw [a3e φ 0 k1,a3e φ 0 k2] at a5
 rw [<-e1,a3e φ 0 k1,a3e φ 0 k3] at b5
 refine⟨⟨show (0:Int)<=p.1 by omega,a3⟩,⟨show (0:Int)<=p.2 by omega,a4⟩,⟨show (0:Int)<=q.2 by omega,b4⟩,?_,?_⟩
 ·exact (inj _ _ (.inl (a4J k1)) (.inr (.inl (a4J k2))) a5).symm
 ·exact (inj _ _ (.inl (a4J k1)) (.inr (.inr (a4J k3))) b5).symm
def b9r (p:Pl) (n:Nat):Pl:=(p.1+n,p.2.1+n,p.2.2+n)
def a92 (f:Fl) (c:Ck):Prop:=c.1=true->∃ n:Nat,toP c=b9r (a3O c) n/\∀ k,k<n->atP f (b9r (a3O c) k)
theorem a9a {f:Fl} {s:List Ck} {p:Pl} (h:∀ c∈s,a92 f c) (hc:chF (0,0,0) none s p) (hp:atP f p):∀ c∈a1G s p,a92 f c:=by
 have one:a92 f (true,(p.1,p.1+1),(p.2.1,p.2.1+1),(p.2.2,p.2.2+1)):=fun _=>⟨1,rfl,fun k hk=>by
  obtain rfl:k=0:=by omega
  have:b9r p 0=p:=by simp [b9r]
  show atP f (b9r p 0)
  rw [this]
  exact hp⟩
 rcases s.eq_nil_or_concat with rfl|⟨m,d,rfl⟩
 ·rw [a7p]
  intro c hc
  simp only [List.mem_singleton] at hc
  subst hc
  exact one
 ·rw [List.concat_eq_append] at h hc ⊢
  rw [a2P]
  by_cases hd:d.1=true
  ·rw [if_pos hd]
   obtain⟨_,_,_,_,e⟩:=a6b.1 hc
   obtain⟨n,e2,g⟩:=h d (by simp) hd
   intro c hc
   rcases List.mem_append.1 hc with hc|hc
   ·exact h c (by simp [hc])
   ·simp only [List.mem_singleton] at hc
    subst hc
    rw [e] at e2
    refine fun _=>⟨n+1,?_,fun k hk=>?_⟩
    ·rw [e2]
     show (_,_,_)=(_,_,_)
     simp only [b9r,a3O,Int.natCast_add,Int.add_assoc]
     rfl
    ·show atP f (b9r (a3O d) k)
     rcases Nat.lt_or_ge k n with g1|g1
     ·exact g k g1
     ·obtain rfl:k=n:=by omega
      rw [<-e2]
      exact hp
  ·rw [if_neg hd]
   intro c hc
   rcases List.mem_append.1 hc with hc|hc
   ·exact h c hc
   ·simp only [List.mem_singleton] at hc
    subst hc
    exact one
theorem b5t {f:Fl} (a61:Pl):∀ (M:List Pl) (s:List Ck) (t:Pl),chF (0,0,0) none s t->b2a none s≠some false->upM a61 t M->(∀ p∈M,atP f p)->(∀ c∈s,a92 f c)->∀ c∈ofK a61 M s t,a92 f c
 | [],s,t,h,hl,hu,hM,hs=>by
   rw [ofK]
   by_cases e:t=a61
   ·rw [if_pos e];exact hs
   ·rw [if_neg e]
    intro c hc
    rcases List.mem_append.1 hc with hc|hc
    ·exact hs c hc
    ·simp only [List.mem_singleton] at hc
     subst hc
     exact fun h=>by cases h
 | p::M,s,t,h,hl,hu,hM,hs=>by
   rw [ofK]
   by_cases e:p=t
   ·rw [if_pos e,e]
    obtain⟨h1,h2⟩:=a6D h
    exact b5t a61 M _ _ h1 (by rw [h2];simp) (e▸hu.2) (fun q hq=>hM q (List.mem_cons_of_mem _ hq)) (a9a hs h (e▸hM p (List.mem_cons_self ..)))
   ·rw [if_neg e]
    have hc:=a6b (e:=p) (c:=btw t p) (t:=(0,0,0)) (o:=none) (s:=s) |>.2 ⟨h,hu.1,fun e2=>e e2.symm,hl,rfl⟩
    obtain⟨h1,h2⟩:=a6D (s:=s++[btw t p]) (t:=p) hc
    refine b5t a61 M _ _ h1 (by rw [h2];simp) hu.2 (fun q hq=>hM q (List.mem_cons_of_mem _ hq)) (a9a (fun c hc=>?_) hc (hM p (List.mem_cons_self ..)))
    rcases List.mem_append.1 hc with hc|hc
    ·exact hs c hc
    ·simp only [List.mem_singleton] at hc
     subst hc
     exact fun h=>by cases h
def d2O (f:Fl) (l r:List (Int×Int)):List Ck:=ofK (f.1.length,f.2.1.length,f.2.2.length) (a3D l r) [] (0,0,0)
def c7J (f:Fl):Pl:=(f.1.length,f.2.1.length,f.2.2.length)
theorem d1M {f:Fl} {l r:List (Int×Int)} (h:c7I f l r):chF (0,0,0) none (d2O f l r) (c7J f):=d2B (b3r h)
theorem c5P {f:Fl} {l r:List (Int×Int)} (h:c7I f l r):∀ c∈d2O f l r,a92 f c:=by
 have hf:=b3r h
 unfold c1h at hf
 simp only [Bool.and_eq_true,decide_eq_true_eq] at hf
 obtain⟨⟨h1,h2,h3⟩,h4,h5⟩:=hf
 exact b5t (c7J f) _ _ _ rfl (by simp [b2a]) (b0v _ l r (-1) (-1) (-1) (-1) (0,0,0) (Nat.le_refl _) h4 h5 (.inl (Int.le_refl _)) (Int.le_refl _) (Int.le_refl _) ⟨h1,h2,h3⟩) (d0w h) (fun c hc=>by simp at hc)
def b00 (f:Fl) (c:Ck):List BS:=a60 c.2.1 f.1
def a27 (f:Fl) (c:Ck):List BS:=a60 c.2.2.1 f.2.1
def a3P (f:Fl) (c:Ck):List BS:=a60 c.2.2.2 f.2.2
theorem b3m {s:Sp} {l:List BS} (h1:0<=s.1) (h2:s.1<=s.2) (h3:s.2<=l.length):a60 s l=a1D l s.1.toNat s.2.toNat:=by
 unfold a60
 rw [if_neg (by omega)]
theorem a4i {α:Type} (a:List α) {i j:Nat} (h:j<=a.length):(a1D a i j).length=j-i:=by simp [a1D];omega
theorem a6s {a:List BS} {i j k:Nat} (h:k<j-i) (hj:j<=a.length):(a1D a i j).getD k []=a.getD (i+k) []:=by
 simp [a1D,List.getD,List.getElem?_take,show i+k<j by omega]
theorem c4L {a:List BS} {i j:Nat} {x:BS} (hj:j<=a.length) (h:x∈a1D a i j):∃ k,i<=k/\k<j/\x=a.getD k []:=by
 obtain⟨k,hk,e⟩:=List.getElem_of_mem h
 have hk':k<j-i:=by rw [a4i a hj] at hk;exact hk
 refine⟨i+k,by omega,by omega,?_⟩
 rw [<-a6s hk' hj,a1e _ _ hk,e]
structure Cmp (g:Ck->Sp) (h:Pl->Int):Prop where
 fro:∀ c,(g c).1=h (a3O c)
 too:∀ c,(g c).2=h (toP c)
 mono:∀ p q,leP p q->h p<=h q
 add:∀ p (n:Nat),h (b9r p n)=h p+n
 zero:h (0,0,0)=0
theorem e1k:Cmp (fun c=>c.2.1) (fun p=>p.1):=⟨fun _=>rfl,fun _=>rfl,fun _ _ h=>h.1,fun _ _=>rfl,rfl⟩
theorem e0Q:Cmp (fun c=>c.2.2.1) (fun p=>p.2.1):=⟨fun _=>rfl,fun _=>rfl,fun _ _ h=>h.2.1,fun _ _=>rfl,rfl⟩
theorem e1A:Cmp (fun c=>c.2.2.2) (fun p=>p.2.2):=⟨fun _=>rfl,fun _=>rfl,fun _ _ h=>h.2.2,fun _ _=>rfl,rfl⟩
theorem b4E {α:Type} (a:List α) {i j k:Nat} (h1:i<=j) (h2:j<=k):a1D a i j++a1D a j k=a1D a i k:=by
 unfold a1D
 have e:a.take j=(a.take k).take j:=by rw [List.take_take];congr 1;omega
 rw [e]
 generalize a.take k=b
 rw [List.drop_take]
 have:b.drop j=(b.drop i).drop (j-i):=by rw [List.drop_drop];congr 1;omega
 rw [this,List.take_append_drop]
theorem b4g {g:Ck->Sp} {h:Pl->Int} (hg:Cmp g h) {l:List BS}:∀ {L:List Ck} {t:Pl} {o:Option Bool} {e:Pl},chF t o L e->0<=h t->h e<=l.length->(L.map fun c=>a60 (g c) l).flatten=a1D l (h t).toNat (h e).toNat
 | [],t,_,e,hc,_,_=>by
   have:t=e:=hc
   subst this
   simp [a1D]
 | c::L,t,o,e,⟨h1,h2,h3,h4,h5⟩,h6,h7=>by
   have m1:=hg.mono _ _ h2
   have m2:=hg.mono _ _ (b9W h5)
   rw [List.map_cons,List.flatten_cons,b4g hg h5 (by omega) h7,b3m (by rw [hg.fro,h1];exact h6) (by rw [hg.fro,hg.too,h1];exact m1) (by rw [hg.too];omega),hg.fro,hg.too,h1]
   exact b4E l (by omega) (by omega)
theorem b2m {g:Ck->Sp} {h:Pl->Int} (hg:Cmp g h) {l:List BS} {L:List Ck} {e:Pl} (hc:chF (0,0,0) none L e) (he:h e=l.length):(L.map fun c=>a60 (g c) l).flatten=l:=by
 rw [b4g hg hc (by rw [hg.zero];exact Int.le_refl _) (by omega),hg.zero,he]
 simp [a1D]
theorem c4n:∀ {L:List Ck} {t:Pl} {o:Option Bool} {e:Pl},chF t o L e->∀ c∈L,leP t (a3O c)/\leP (a3O c) (toP c)/\leP (toP c) e
 | c::L,t,o,e,⟨h1,h2,h3,h4,h5⟩,d,hd=>by
   rcases List.mem_cons.1 hd with rfl|hd
   ·exact⟨by rw [h1];exact a6N _,by rw [h1];exact h2,b9W h5⟩
   ·obtain⟨g1,g2,g3⟩:=c4n h5 d hd
    exact⟨a8k h2 g1,g2,g3⟩
def inF (f:Fl) (c:Ck):Prop:=leP (0,0,0) (a3O c)/\leP (a3O c) (toP c)/\leP (toP c) (c7J f)
theorem b5M {f:Fl} {c:Ck} (h:inF f c):b00 f c=a1D f.1 c.2.1.1.toNat c.2.1.2.toNat:=b3m h.1.1 h.2.1.1 h.2.2.1
theorem b0H {f:Fl} {c:Ck} (h:inF f c):a27 f c=a1D f.2.1 c.2.2.1.1.toNat c.2.2.1.2.toNat:=b3m h.1.2.1 h.2.1.2.1 h.2.2.2.1
theorem b0T {f:Fl} {c:Ck} (h:inF f c):a3P f c=a1D f.2.2 c.2.2.2.1.toNat c.2.2.2.2.toNat:=b3m h.1.2.2 h.2.1.2.2 h.2.2.2.2
theorem c17 {f:Fl} {c:Ck} (h:inF f c) (hg:a92 f c) (hs:c.1=true):a27 f c=b00 f c/\a3P f c=b00 f c:=by
 obtain⟨n,e,g⟩:=hg hs
 have e1:c.2.1.2=c.2.1.1+n:=congrArg (fun p:Pl=>p.1) e
 have e2:c.2.2.1.2=c.2.2.1.1+n:=congrArg (fun p:Pl=>p.2.1) e
 have e3:c.2.2.2.2=c.2.2.2.1+n:=congrArg (fun p:Pl=>p.2.2) e
 have a1:(0:Int)<=c.2.1.1:=h.1.1
 have a2:(0:Int)<=c.2.2.1.1:=h.1.2.1
 have a3:(0:Int)<=c.2.2.2.1:=h.1.2.2
 have b1:c.2.1.2<=f.1.length:=h.2.2.1
 have b2:c.2.2.1.2<=f.2.1.length:=h.2.2.2.1
 have b3:c.2.2.2.2<=f.2.2.length:=h.2.2.2.2
 rw [b5M h,b0H h,b0T h]
 have l1:=a4i f.1 (i:=c.2.1.1.toNat) (j:=c.2.1.2.toNat) (by omega)
 have l2:=a4i f.2.1 (i:=c.2.2.1.1.toNat) (j:=c.2.2.1.2.toNat) (by omega)
 have l3:=a4i f.2.2 (i:=c.2.2.2.1.toNat) (j:=c.2.2.2.2.toNat) (by omega)
 have key:∀ k,k<n->f.2.1.getD (c.2.2.1.1.toNat+k) []=f.1.getD (c.2.1.1.toNat+k) []/\f.2.2.getD (c.2.2.2.1.toNat+k) []=f.1.getD (c.2.1.1.toNat+k) []:=fun k hk=>by
  obtain⟨_,_,_,g4,g5⟩:=g k hk
  have q1:(b9r (a3O c) k).1.toNat=c.2.1.1.toNat+k:=by show (c.2.1.1+(k:Int)).toNat=_;omega
  have q2:(b9r (a3O c) k).2.1.toNat=c.2.2.1.1.toNat+k:=by show (c.2.2.1.1+(k:Int)).toNat=_;omega
  have q3:(b9r (a3O c) k).2.2.toNat=c.2.2.2.1.toNat+k:=by show (c.2.2.2.1+(k:Int)).toNat=_;omega
  rw [q1,q2] at g4
  rw [q1,q3] at g5
  exact⟨g4,g5⟩
 constructor
 ·refine a1C [] (by omega) fun k hk=>?_
  rw [a6s (by omega) (by omega),a6s (by omega) (by omega)]
  exact (key k (by omega)).1
 ·refine a1C [] (by omega) fun k hk=>?_
  rw [a6s (by omega) (by omega),a6s (by omega) (by omega)]
  exact (key k (by omega)).2
def b0r (f:Fl):Prop:=a09 f.1=true/\a09 f.2.1=true/\a09 f.2.2=true
theorem a8Y {l:List BS} (h:a09 l=true) {k:Nat} (hk:k+1<l.length):a1d (l.getD k [])=true:=((a3i l).1 h k (by omega)).2 hk
def c1m (f:Fl) (c:Ck):Prop:=∀ x,x∈b00 f c\/x∈a27 f c\/x∈a3P f c->a1d x=true
theorem a6S {l:List BS} (hw:a09 l=true) {i j:Nat} (h:j<l.length):∀ x∈a1D l i j,a1d x=true:=fun x hx=>by
 obtain⟨k,h1,h2,rfl⟩:=c4L (by omega) hx
 exact a8Y hw (by omega)
theorem b5a {f:Fl} (hw:b0r f):∀ (L:List Ck) (t:Pl) (o:Option Bool),chF t o L (c7J f)->leP (0,0,0) t->(∀ c∈L,a92 f c)->∀ c∈L.dropLast,c1m f c
 | [],_,_,_,_,_,_,h=>by simp at h
 | [c],_,_,_,_,_,_,h=>by simp at h
 | c::d::L,t,o,hc,h0,hg,x,hx=>by
   have hx:x=c\/x∈(d::L).dropLast:=by simpa using hx
   obtain⟨h1,h2,h3,h4,h5⟩:=hc
   have h5':=h5
   obtain⟨k1,k2,k3,k4,k5⟩:=h5
   rcases hx with rfl|hx
   ·have hin:inF f x:=⟨by rw [h1];exact h0,by rw [h1];exact h2,b9W h5'⟩
    have hle:=b9W k5
    have z1:(0:Int)<=(toP x).1:=Int.le_trans h0.1 h2.1
    have z2:(0:Int)<=(toP x).2.1:=Int.le_trans h0.2.1 h2.2.1
    have z3:(0:Int)<=(toP x).2.2:=Int.le_trans h0.2.2 h2.2.2
    have w1:(toP x).1<=(toP d).1:=k2.1
    have w2:(toP x).2.1<=(toP d).2.1:=k2.2.1
    have w3:(toP x).2.2<=(toP d).2.2:=k2.2.2
    have v1:(toP d).1<=f.1.length:=hle.1
    have v2:(toP d).2.1<=f.2.1.length:=hle.2.1
    have v3:(toP d).2.2<=f.2.2.length:=hle.2.2
    cases hs:x.1 with
    | true=>
      obtain⟨e1,e2⟩:=c17 hin (hg x (by simp)) hs
      have hall:∀ y∈b00 f x,a1d y=true:=by
       by_cases c1:(toP x).1<(toP d).1
       ·rw [b5M hin]
        exact a6S hw.1 (by show (toP x).1.toNat<_;omega)
       ·by_cases c2:(toP x).2.1<(toP d).2.1
        ·rw [<-e1,b0H hin]
         exact a6S hw.2.1 (by show (toP x).2.1.toNat<_;omega)
        ·by_cases c3:(toP x).2.2<(toP d).2.2
         ·rw [<-e2,b0T hin]
          exact a6S hw.2.2 (by show (toP x).2.2.toNat<_;omega)
         ·exact absurd (show toP x=toP d from Prod.ext (by omega) (Prod.ext (by omega) (by omega))) k3
      intro y hy
      rw [e1,e2] at hy
      rcases hy with hy|hy|hy
      ·exact hall y hy
      ·exact hall y hy
      ·exact hall y hy
    | false=>
      have hd:d.1=true:=by
       cases hd:d.1 with
       | true=>rfl
       | false=>rw [hs,hd] at k4;exact absurd rfl k4
      obtain⟨n,e,_⟩:=hg d (by simp) hd
      rw [k1] at e
      have hn:0<n:=by
       rcases Nat.eq_zero_or_pos n with rfl|h
       ·exact absurd (show toP x=toP d by rw [e];simp [b9r]) k3
       ·exact h
      have u1:(toP d).1=(toP x).1+n:=congrArg (fun p:Pl=>p.1) e
      have u2:(toP d).2.1=(toP x).2.1+n:=congrArg (fun p:Pl=>p.2.1) e
      have u3:(toP d).2.2=(toP x).2.2+n:=congrArg (fun p:Pl=>p.2.2) e
      intro y hy
      rcases hy with hy|hy|hy
      ·rw [b5M hin] at hy
       exact a6S hw.1 (by show (toP x).1.toNat<_;omega) y hy
      ·rw [b0H hin] at hy
       exact a6S hw.2.1 (by show (toP x).2.1.toNat<_;omega) y hy
      ·rw [b0T hin] at hy
       exact a6S hw.2.2 (by show (toP x).2.2.toNat<_;omega) y hy
   ·exact b5a hw (d::L) (toP c) (some c.1) h5' (a8k h0 h2) (fun e he=>hg e (List.mem_cons_of_mem _ he)) x hx
end Go.Proofs.YthpjjjnbkfnghaaGreatDoor
namespace Go.Proofs.YthpjjjnbkfnghaaGreatDoor
def a9P (f:Fl) (c:Ck):Int:=b1J c f.1 f.2.1 f.2.2
def a15 (st:Int) (l r:List BS):Nat×Nat:=if st=2 then (ahd l r,bhd (l.drop (ahd l r)) (r.drop (ahd l r))) else (0,0)
theorem a9C (st:Int) (l r:List BS):(a15 st l r).1+(a15 st l r).2<=l.length/\(a15 st l r).1+(a15 st l r).2<=r.length:=by
 unfold a15
 split
 ·have h1:=a65 l r
  have h2:=c2w (l.drop (ahd l r)) (r.drop (ahd l r))
  simp only [List.length_drop] at h2
  simp only
  omega
 ·simp
def b3d (f:Fl) (c:Ck) (st:Int) (lb:BS×BS×BS):Pt:=
 (lb.1,(if st=0 then [] else lb.2.1),lb.2.2,true,[],(a1D (a27 f c) (a15 st (a27 f c) (a3P f c)).1 ((a27 f c).length-(a15 st (a27 f c) (a3P f c)).2)).flatten,
  (if st=0 then [] else (b00 f c).flatten),(a1D (a3P f c) (a15 st (a27 f c) (a3P f c)).1 ((a3P f c).length-(a15 st (a27 f c) (a3P f c)).2)).flatten,decide (st≠0))
def a8f (f:Fl) (c:Ck) (st:Int) (lb:BS×BS×BS):List Pt:=
 [a1n ((a27 f c).take (a15 st (a27 f c) (a3P f c)).1).flatten,b3d f c st lb,a1n ((a27 f c).drop ((a27 f c).length-(a15 st (a27 f c) (a3P f c)).2)).flatten]
def a74 (f:Fl) (c:Ck) (k fav:Int):List BS:=if k=0 then b00 f c else if k=2 then a3P f c else if k=4/\fav=3 then a3P f c else a27 f c
def a4u (f:Fl) (st:Int) (lb:BS×BS×BS) (fav:Int) (c:Ck):List Pt:=if a9P f c=4/\fav=0 then a8f f c st lb else [a1n (a74 f c (a9P f c) fav).flatten]
def a8v (n:Int):Bool:=decide (n=0)||(decide (n=1)||decide (n=2))
def a8N (n:Int):Bool:=decide (n=0)||(decide (n=1)||decide (n=3))
def a2l (lb:BS×BS×BS):Bool:=a3p lb.1&&(a3p lb.2.1&&a3p lb.2.2)
def b9k (f:Fl) (L:List Ck) (st:Int) (lb:BS×BS×BS) (fav:Int):List Pt×Int:=
 if (a8v st&&a8N fav)=false then ([],5) else if a2l lb=false then ([],3) else (ofD (L.flatMap (a4u f st lb fav)),0)
def b4K (f:Fl) (L:List Ck):Nat:=(L.filter fun c=>decide (a9P f c=4)).length
theorem a7A {l:List BS} (h:∀ x∈l,a1d x=true):l.flatten=[]\/a1d l.flatten=true:=by
 rcases l.eq_nil_or_concat with rfl|⟨m,x,rfl⟩
 ·exact .inl rfl
 ·right
  rw [List.concat_eq_append,List.flatten_append]
  have hx:=h x (by simp)
  have:[x].flatten=x:=by simp
  rw [this,b7A (fun e=>by rw [e] at hx;simp [a1d] at hx)]
  exact hx
theorem b2l {f:Fl} {c:Ck} {st:Int} {lb:BS×BS×BS} (h:a2l lb=true):a4e (b3d f c st lb)=true:=by
 unfold a2l at h
 simp only [Bool.and_eq_true] at h
 unfold a4e b3d c3t
 simp only [Bool.and_eq_true,Bool.or_eq_true,decide_eq_true_eq]
 refine⟨trivial,trivial,?_,h.1,?_,h.2.2⟩
 ·by_cases e:st=0
  ·rw [if_pos e,if_pos e]
   exact .inr ⟨rfl,rfl⟩
  ·exact .inl e
 ·split
  ·rfl
  ·exact h.2.1
theorem c9f {f:Fl} {st:Int} {lb:BS×BS×BS} {fav:Int} (h:a2l lb=true) (c:Ck):∀ p∈a4u f st lb fav c,a4e p=true\/a0C p=true:=by
 unfold a4u
 split
 ·intro p hp
  unfold a8f at hp
  simp only [List.mem_cons,List.not_mem_nil,or_false] at hp
  rcases hp with rfl|rfl|rfl
  ·exact .inr (a1N _)
  ·exact .inl (b2l h)
  ·exact .inr (a1N _)
 ·intro p hp
  simp only [List.mem_singleton] at hp
  subst hp
  exact .inr (a1N _)
theorem c5J {f:Fl} {c:Ck} (h:c1m f c) (k fav:Int):∀ x∈a74 f c k fav,a1d x=true:=by
 intro x hx
 unfold a74 at hx
 split at hx
 ·exact h x (.inl hx)
 ·split at hx
  ·exact h x (.inr (.inr hx))
  ·split at hx
   ·exact h x (.inr (.inr hx))
   ·exact h x (.inr (.inl hx))
theorem b6D {f:Fl} {st:Int} {lb:BS×BS×BS} {fav:Int} {c:Ck} (hp:a2l lb=true) (h:c1m f c):∀ p∈a4u f st lb fav c,a4e p=true\/(a0C p=true/\(txP p=[]\/a1d (txP p)=true)):=by
 unfold a4u
 split
 ·intro p hpm
  unfold a8f at hpm
  simp only [List.mem_cons,List.not_mem_nil,or_false] at hpm
  rcases hpm with rfl|rfl|rfl
  ·exact .inr ⟨a1N _,a7A fun x hx=>h x (.inr (.inl (List.mem_of_mem_take hx)))⟩
  ·exact .inl (b2l hp)
  ·exact .inr ⟨a1N _,a7A fun x hx=>h x (.inr (.inl (List.mem_of_mem_drop hx)))⟩
 ·intro p hpm
  simp only [List.mem_singleton] at hpm
  subst hpm
  exact .inr ⟨a1N _,a7A (c5J h _ _)⟩
theorem c1Z (f:Fl) (c:Ck):(a9P f c=0/\c.1=true)\/(c.1=false/\(a9P f c=2/\a27 f c=b00 f c\/a9P f c=1/\a3P f c=b00 f c\/a9P f c=3/\a27 f c=a3P f c\/a9P f c=4/\a27 f c≠b00 f c/\a3P f c≠b00 f c/\a27 f c≠a3P f c)):=by
 unfold a9P b1J
 cases h:c.1 with
 | true=>exact .inl ⟨rfl,rfl⟩
 | false=>
   refine .inr ⟨rfl,?_⟩
   rw [if_neg (by simp)]
   by_cases h1:a60 c.2.2.1 f.2.1=a60 c.2.1 f.1
   ·rw [if_pos h1];exact .inl ⟨rfl,h1⟩
   ·rw [if_neg h1]
    by_cases h2:a60 c.2.2.2 f.2.2=a60 c.2.1 f.1
    ·rw [if_pos h2];exact .inr (.inl ⟨rfl,h2⟩)
    ·rw [if_neg h2]
     by_cases h3:a60 c.2.2.1 f.2.1=a60 c.2.2.2 f.2.2
     ·rw [if_pos h3];exact .inr (.inr (.inl ⟨rfl,h3⟩))
     ·rw [if_neg h3];exact .inr (.inr (.inr ⟨rfl,h1,h2,h3⟩))
theorem c6n {f:Fl} {c:Ck} (h:a9P f c=4):a27 f c≠a3P f c:=by
 rcases c1Z f c with⟨h1,_⟩|⟨_,⟨h1,_⟩|⟨h1,_⟩|⟨h1,_⟩|⟨_,_,_,h2⟩⟩
 ·omega
 ·omega
 ·omega
 ·omega
 ·exact h2
theorem c1w {f:Fl} (hw:b0r f) {c:Ck} (hin:inF f c) (hne:a27 f c≠a3P f c):∀ x∈(a27 f c).take (ahd (a27 f c) (a3P f c)),a1d x=true:=by
 intro x hx
 have hle:=a65 (a27 f c) (a3P f c)
 have hsp:=(a3Z [] (a27 f c) (a3P f c)).1
 have b2:c.2.2.1.2<=f.2.1.length:=hin.2.2.2.1
 have b3:c.2.2.2.2<=f.2.2.length:=hin.2.2.2.2
 have a2:(0:Int)<=c.2.2.1.1:=hin.1.2.1
 have a3:(0:Int)<=c.2.2.2.1:=hin.1.2.2
 obtain⟨k,hk,e⟩:=List.getElem_of_mem hx
 rw [List.length_take] at hk
 rw [List.getElem_take] at e
 have e':(a27 f c).getD k []=x:=by rw [a1e _ _ (by omega)];exact e
 have lO:(a27 f c).length=c.2.2.1.2.toNat-c.2.2.1.1.toNat:=by rw [b0H hin];exact a4i _ (by omega)
 have lT:(a3P f c).length=c.2.2.2.2.toNat-c.2.2.2.1.toNat:=by rw [b0T hin];exact a4i _ (by omega)
 rcases Nat.lt_or_ge (ahd (a27 f c) (a3P f c)) (a27 f c).length with g|g
 ·rw [<-e',b0H hin,a6s (by omega) (by omega)]
  exact a8Y hw.2.1 (by omega)
 ·rcases Nat.lt_or_ge (ahd (a27 f c) (a3P f c)) (a3P f c).length with g2|g2
  ·rw [<-e',hsp k (by omega),b0T hin,a6s (by omega) (by omega)]
   exact a8Y hw.2.2 (by omega)
  ·exact absurd (c3q (by omega) (by omega)) hne
theorem b91 (f:Fl) (st:Int) (lb:BS×BS×BS) (fav:Int) (c:Ck):a4u f st lb fav c≠[]:=by
 unfold a4u
 split
 ·simp [a8f]
 ·simp
theorem b3D {f:Fl} (hw:b0r f) {st:Int} {lb:BS×BS×BS} {fav:Int} {c:Ck} (hp:a2l lb=true) (hin:inF f c):∀ p∈(a4u f st lb fav c).dropLast,a4e p=true\/(a0C p=true/\(txP p=[]\/a1d (txP p)=true)):=by
 unfold a4u
 split
 ·rename_i hc
  intro p hpm
  unfold a8f at hpm
  have hpm:p=a1n ((a27 f c).take (a15 st (a27 f c) (a3P f c)).1).flatten\/p=b3d f c st lb:=by simpa using hpm
  rcases hpm with rfl|rfl
  ·refine .inr ⟨a1N _,a7A fun x hx=>?_⟩
   unfold a15 at hx
   split at hx
   ·exact c1w hw hin (c6n hc.1) x hx
   ·simp at hx
  ·exact .inl (b2l hp)
 ·intro p hpm
  simp at hpm
theorem a9f {α:Type} (a b:List α) (h:b≠[]):(a++b).dropLast=a++b.dropLast:=by
 rw [List.dropLast_append_of_ne_nil h]
theorem c0r {f:Fl} (hw:b0r f) {L:List Ck} (hc:chF (0,0,0) none L (c7J f)) (hg:∀ c∈L,a92 f c) {st:Int} {lb:BS×BS×BS} {fav:Int} (hp:a2l lb=true):a3n (ofD (L.flatMap (a4u f st lb fav)))=true:=by
 refine c6N (fun p h=>?_) (fun p h=>?_)
 ·obtain⟨c,_,hc2⟩:=List.mem_flatMap.1 h
  exact c9f hp c p hc2
 ·have hends:=b5a hw L (0,0,0) none hc (a6N _) hg
  have hin:=c4n hc
  rcases L.eq_nil_or_concat with rfl|⟨m,c,rfl⟩
  ·simp at h
  ·rw [List.concat_eq_append] at h hends hin
   rw [List.flatMap_append,a9f _ _ (by simpa using b91 f st lb fav c)] at h
   rcases List.mem_append.1 h with h|h
   ·obtain⟨d,hd,hd2⟩:=List.mem_flatMap.1 h
    exact b6D hp (hends d (by simpa using hd)) p hd2
   ·have h:p∈(a4u f st lb fav c).dropLast:=by simpa using h
    exact b3D hw hp (hin c (by simp)) p h
theorem c3p (a b:List Pt):a0w (a++b)=a0w a+a0w b:=by simp [a0w]
theorem b8k (f:Fl) (st:Int) (lb:BS×BS×BS) (c:Ck):a0w (a4u f st lb 0 c)=if a9P f c=4 then 1 else 0:=by
 unfold a4u
 by_cases h:a9P f c=4
 ·rw [if_pos ⟨h,rfl⟩,if_pos h]
  rfl
 ·rw [if_neg (fun e=>h e.1),if_neg h]
  rfl
theorem c58 (f:Fl) (c:Ck) (L:List Ck):b4K f (c::L)=(if a9P f c=4 then 1 else 0)+b4K f L:=by
 unfold b4K
 rw [List.filter_cons]
 by_cases h:a9P f c=4
 ·rw [if_pos (by simpa using h),if_pos h,List.length_cons];omega
 ·rw [if_neg (by simpa using h),if_neg h];omega
theorem c4o (f:Fl) (c:Ck) (L:List Ck):b4K f (L++[c])=b4K f L+(if a9P f c=4 then 1 else 0):=by
 unfold b4K
 rw [List.filter_append,List.length_append]
 congr 1
 rw [List.filter_cons]
 by_cases h:a9P f c=4
 ·rw [if_pos (by simpa using h),if_pos h];rfl
 ·rw [if_neg (by simpa using h),if_neg h];rfl
theorem b4u (f:Fl) (st:Int) (lb:BS×BS×BS):∀ L:List Ck,a0w (L.flatMap (a4u f st lb 0))=b4K f L
 | []=>rfl
 | c::L=>by
   rw [List.flatMap_cons,c3p,b8k,b4u f st lb L,c58]
end Go.Proofs.YthpjjjnbkfnghaaGreatDoor
set_option maxRecDepth 100000
set_option maxHeartbeats 2000000
namespace Go.Proofs.YthpjjjnbkfnghaaGreatDoor
open Go
attribute [local irreducible] AW a0e a1g a0a
@[go_sem] theorem d1W (l:Array UInt8):a7i (.string ⟨l⟩)=.st l.toList:=rfl
theorem c1X (a:List UInt8):(decide (1<=(a.length:Int))&&decide (List.drop ((a.length:Int)-1).toNat a=[10]))=a1d a:=by
 unfold a1d
 have e:((a.length:Int)-1).toNat=a.length-1:=by omega
 rw [e,Bool.eq_iff_iff]
 simp only [Bool.and_eq_true,decide_eq_true_eq]
 rcases a.eq_nil_or_concat with rfl|⟨m,c,rfl⟩
 ·simp
 ·rw [List.concat_eq_append]
  have e2:(m++[c]).length-1=m.length:=by simp
  rw [e2,List.drop_left]
  simp
  omega
def a5B:a0s:=a0s.f2 kS kS (fun a b=>a.length<=100000000000/\b=[10]) (fun a _=>kB.enc (a1d a))
theorem b0o:a0d Tryz.prog 149 a5B:=by
 refine a0d.f2 Tryz.func149 rfl (by decide) Tryz.results149 Tryz.ntmps149 (by decide) fun a b ⟨ha,h⟩=>?_
 have hΓ:GOK Tryz.prog (gam []):=GOK.nil
 subst h
 refine AW.of hΓ mixed [] _ _ _ rfl ?_
 simp only [go_sem]
 exact⟨by omega,by omega,c1X a⟩
def a0F:a0s:=a0s.f2 kS kS (fun a b=>a.length<=100000000000/\b=[10]) (fun a _=>kB.enc (a1d a))
theorem a9s:a0d Tryz.prog 91 a0F:=by
 refine a0d.f2 Tryz.func91 rfl (by decide) Tryz.results91 Tryz.ntmps91 (by decide) fun a b ⟨ha,h⟩=>?_
 have hΓ:GOK Tryz.prog (gam [(149,a5B)]):=(.cons b0o .nil)
 subst h
 refine AW.of hΓ mixed [] _ _ _ rfl ?_
 simp only [go_sem,a5B]
 exact ha
theorem b8y (ll bl rl:BS) (h:Bool) (t l b r:BS) (hb:Bool):a0C (ll,bl,rl,h,t,l,b,r,hb)=true↔ll=[]/\bl=[]/\rl=[]/\h=false/\l=[]/\b=[]/\r=[]/\hb=false:=by
 simp [a0C,a1n,txP]
def a3f:a0s:=a0s.f1 (kA ePt) (fun _=>True) (fun p=>kB.enc (a0C p))
theorem b6u:a0d Tryz.prog 178 a3f:=by
 refine a0d.f1 Tryz.func178 rfl (by decide) Tryz.results178 Tryz.ntmps178 (by decide) fun p _=>?_
 have hΓ:GOK Tryz.prog (gam []):=GOK.nil
 obtain⟨ll,bl,rl,h,t,l,b,r,hb⟩:=p
 refine AW.of hΓ mixed [] _ _ _ rfl ?_
 simp only [go_sem]
 rw [Bool.eq_iff_iff,b8y]
 simp only [Bool.and_eq_true,decide_eq_true_eq,and_assoc]
theorem d8v {ll bl rl:BS} {h:Bool} {t l b r:BS} {hb:Bool} {c:Nat->AV} (h0:c 0=.st ll) (h1:c 1=.st bl) (h2:c 2=.st rl) (h3:c 3=.val (.bool h)) (h4:c 4=.st t) (h5:c 5=.st l) (h6:c 6=.st b) (h7:c 7=.st r) (h8:c 8=.val (.bool hb)) :
  a0e (.ag 9 c) (.ag 9 (ePt.enc (ll,bl,rl,h,t,l,b,r,hb))):=a0e.ag fun j hj=>a0e.of_eq (match j,hj with
 | 0,_=>h0
 | 1,_=>h1
 | 2,_=>h2
 | 3,_=>h3
 | 4,_=>h4
 | 5,_=>h5
 | 6,_=>h6
 | 7,_=>h7
 | 8,_=>h8)
theorem c3s (p:Pt):(p.1,p.2.1,p.2.2.1,p.2.2.2.1,p.2.2.2.2.1,p.2.2.2.2.2.1,p.2.2.2.2.2.2.1,p.2.2.2.2.2.2.2.1,p.2.2.2.2.2.2.2.2)=p:=rfl
end Go.Proofs.YthpjjjnbkfnghaaGreatDoor
set_option maxRecDepth 100000
set_option maxHeartbeats 2000000
namespace Go.Proofs.YthpjjjnbkfnghaaGreatDoor
open Go
attribute [local irreducible] AW a0e a1g a0a
def a54:a0s:=a0s.f2 kS kS (fun _ b=>b=[10]) (fun a _=>kB.enc (!a3p a))
theorem b1M:a0d Tryz.prog 197 a54:=by
 refine a0d.f2 Tryz.func197 rfl (by decide) Tryz.results197 Tryz.ntmps197 (by decide) fun a b h=>?_
 have hΓ:GOK Tryz.prog (gam [(109,a4p)]):=(.cons b2C .nil)
 subst h
 refine AW.of hΓ mixed [] _ _ _ rfl ?_
 simp only [go_sem,a4p]
 exact c5w a
def a2h:a0s:=a0s.f1 (kA eLb) (fun l=>l.1.length<=1000000000/\l.2.1.length<=1000000000/\l.2.2.length<=1000000000) (fun l=>kB.enc (a3p l.1&&(a3p l.2.1&&a3p l.2.2)))
theorem b3q:a0d Tryz.prog 150 a2h:=by
 refine a0d.f1 Tryz.func150 rfl (by decide) Tryz.results150 Tryz.ntmps150 (by decide) fun l ⟨h1,h2,h3⟩=>?_
 have hΓ:GOK Tryz.prog (gam [(197,a54)]):=(.cons b1M .nil)
 obtain⟨a,b,c⟩:=l
 simp only at h1 h2 h3
 refine AW.of hΓ mixed [] _ _ _ rfl ?_
 simp only [go_sem,a54,b9S]
 refine⟨by omega,by omega,?_⟩
 rw [Bool.not_not,Bool.and_assoc]
def b7a (p:Pt):Prop:=(p.1.length<=1000000000/\p.2.1.length<=1000000000/\p.2.2.1.length<=1000000000)/\(txP p).length<=100000000/\p.2.2.2.2.2.1.length<=100000000/\p.2.2.2.2.2.2.1.length<=100000000/\p.2.2.2.2.2.2.2.1.length<=100000000
def a8G:a0s:=a0s.f1 (kA ePt) b7a (fun p=>kB.enc (a4e p))
theorem c6z:a0d Tryz.prog 173 a8G:=by
 refine a0d.f1 Tryz.func173 rfl (by decide) Tryz.results173 Tryz.ntmps173 (by decide) fun p ⟨⟨h1,h2,h3⟩,_⟩=>?_
 have hΓ:GOK Tryz.prog (gam [(150,a2h)]):=(.cons b3q .nil)
 obtain⟨ll,bl,rl,h,t,l,b,r,hb⟩:=p
 simp only at h1 h2 h3
 refine AW.of hΓ mixed [] _ _ _ rfl ?_
 simp only [go_sem,a2h]
 refine⟨fun h h'=>?_,fun _=>⟨h1,h2,h3⟩,?_⟩
 ·rw [h.1,h.2,h']
  rfl
 ·unfold a4e c3t
  simp only [Bool.and_assoc]
def b1N:a0s:=a0s.f2 (kA ePt) kB (fun p _=>b7a p) (fun p b=>kB.enc (a45 p b))
theorem d0O:a0d Tryz.prog 174 b1N:=by
 refine a0d.f2 Tryz.func174 rfl (by decide) Tryz.results174 Tryz.ntmps174 (by decide) fun p an ⟨_,h1,_⟩=>?_
 have hΓ:GOK Tryz.prog (gam [(178,a3f),(91,a0F)]):=(.cons b6u (.cons a9s .nil))
 obtain⟨ll,bl,rl,h,t,l,b,r,hb⟩:=p
 simp only [txP] at h1
 refine AW.of hΓ mixed [] _ _ _ rfl ?_
 simp only [go_sem,a3f,a0F]
 refine⟨fun _=>by omega,fun h h'=>?_,?_⟩
 ·rw [h.1,decide_eq_true h.2]
  simpa using h'
 ·unfold a45
  simp only [Bool.and_assoc]
theorem b7V {l:List Pt} {i:Nat} (h:i<l.length) (h2:b9V l i=false):a3n l=false:=decide_eq_false fun hh=>by
 rw [hh i h] at h2
 cases h2
theorem c1K {l:List Pt} (h:∀ i,i<l.length->b9V l i=true):a3n l=true:=decide_eq_true h
def a0X:a0s:=a0s.f1 (kL ePt) (fun l=>l.length<100000000/\∀ p∈l,b7a p) (fun l=>kB.enc (a3n l))
theorem b2T:a0d Tryz.prog 125 a0X:=by
 refine a0d.f1 Tryz.func125 rfl (by decide) Tryz.results125 Tryz.ntmps125 (by decide) fun l ⟨hl,hp⟩=>?_
 have hΓ:GOK Tryz.prog (gam [(173,a8G),(174,b1N)]):=(.cons c6z (.cons d0O .nil))
 refine AW.of hΓ mixed [] _ _ _ rfl ?_
 simp only [go_sem,a8G,b1N]
 refine AW.round (α:={ x:Nat×Nat×Nat // x.1<=l.length/\∀ k,k<x.1->b9V l k=true })
  (fun x=>⟨[(0,sL ePt l),(5,sL ePt l),(6,.val (.int .i64 l.length)),(7,.val (.int .i64 x.1.1))],[],42,x.1.2.2,x.1.2.1,[]⟩) (fun x=>l.length-x.1.1) ⟨(0,0,0),Nat.zero_le _,fun k hk=>absurd hk (Nat.not_lt_zero _)⟩ ?_ ?_
 ·simp only [go_sem,a8G,b1N]
 ·rintro⟨⟨i,nx,tp⟩,hi,hk⟩
  simp only at hi hk
  rcases Nat.lt_or_ge i l.length with hlt|hge
  ·have hlI:((i:Int)<(l.length:Nat))=True:=eq_true (by omega)
   have e1:((i:Int)-1).toNat=i-1:=by omega
   have e2:((i:Int)<(l.length:Nat)-1)=(i+1<l.length):=propext (by omega)
   have e3:(0<(i:Int))=(0<i):=propext (by omega)
   have hok:b9V l i=((hkP (l.getD i ePt.dflt)||(decide (i=0)||hkP (l.getD (i-1) ePt.dflt)))&&(a4e (l.getD i ePt.dflt)||a45 (l.getD i ePt.dflt) (decide (i+1<l.length)))):=rfl
   have hpi:b7a (l.getD i ePt.dflt):=by
    rw [a1e l _ hlt]
    exact hp _ (List.getElem_mem _)
   generalize hpe:l.getD i ePt.dflt=p at *
   refine AW.of hΓ mixed [99999] _ _ _ rfl ?_
   simp only [go_sem,a8G,b1N,hlI,e1,e2,e3,hpe,c3s]
   generalize hqe:l.getD (i-1) ePt.dflt=q at *
   refine⟨by omega,fun _=>by omega,fun _=>by omega,fun h=>?_,fun h=>⟨hpi,fun _=>by omega,fun _=>hpi,fun h2=>?_,fun h2=>⟨by omega,⟨(i+1,nx+1,0),by dsimp only;omega,fun k hk'=>?_⟩,⟨Nat.le_refl _,by dsimp only;omega⟩,by dsimp only;omega⟩⟩⟩
   ·refine (b7V hlt ?_).symm
    obtain⟨⟨h1,h2⟩,h3⟩:=h
    simp only [Bool.not_eq_true'] at h1 h3
    rw [hok]
    simp only [hkP,h1,h3,decide_eq_false (show ¬i=0 by omega)]
    rfl
   ·refine (b7V hlt ?_).symm
    simp only [Bool.not_eq_true'] at h2
    rw [hok,h2.1,h2.2,Bool.or_self,Bool.and_false]
   ·dsimp only at hk'
    rcases Nat.lt_or_ge k i with h'|h'
    ·exact hk k h'
    ·obtain rfl:k=i:=by omega
     rw [hok,Bool.and_eq_true]
     refine⟨?_,?_⟩
     ·simp only [hkP,Bool.or_eq_true,decide_eq_true_eq]
      by_cases c:p.2.2.2.1=true
      ·exact .inl c
      ·by_cases c2:k=0
       ·exact .inr (.inl c2)
       ·have:=h ⟨by simpa using c,by omega⟩
        exact .inr (.inr (by simpa using this))
     ·cases c:a4e p with
      | true=>rfl
      | false=>
        have:=h2 (by rw [c];rfl)
        simpa using this
  ·have hlI:((i:Int)<(l.length:Nat))=False:=eq_false (by omega)
   refine AW.of hΓ mixed [99999] _ _ _ rfl ?_
   simp only [go_sem,a8G,b1N,hlI]
   exact (c1K fun k hk'=>hk k (by omega)).symm
theorem a6P (l:List Pt) (p:Pt):a0w (l++[p])=a0w l+if p.2.2.2.1=true then 1 else 0:=by
 unfold a0w
 rw [List.filter_append,List.length_append]
 cases h:p.2.2.2.1 with
 | true=>simp [hkP,h]
 | false=>simp [hkP,h]
theorem a5z (l:List Pt):a0w l<=l.length:=List.length_filter_le _ _
def a03:a0s:=a0s.f1 (kL ePt) (fun l=>l.length<100000000) (fun l=>kI.enc (a0w l))
theorem b2A:a0d Tryz.prog 78 a03:=by
 refine a0d.f1 Tryz.func78 rfl (by decide) Tryz.results78 Tryz.ntmps78 (by decide) fun l hl=>?_
 have hΓ:GOK Tryz.prog (gam []):=GOK.nil
 refine AW.of hΓ mixed [] _ _ _ rfl ?_
 simp only [go_sem]
 refine AW.round (α:={ x:Nat×Nat×Nat // x.1<=l.length })
  (fun x=>⟨[(3,.val (.int .i64 (a0w (l.take x.1.1)))),(6,sL ePt l),(7,.val (.int .i64 l.length)),(8,.val (.int .i64 x.1.1))],[],18,x.1.2.2,x.1.2.1,[]⟩) (fun x=>l.length-x.1.1) ⟨(0,0,0),Nat.zero_le _⟩ ?_ ?_
 ·simp only [go_sem]
  rfl
 ·rintro⟨⟨i,nx,tp⟩,hi⟩
  simp only at hi
  refine AW.of hΓ mixed [99999] _ _ _ rfl ?_
  simp only [go_sem]
  have hc:=a5z (l.take i)
  rw [List.length_take] at hc
  refine⟨fun hlt=>?_,fun hge=>?_⟩
  ·have e:=a6P (l.take i) (l.getD i ePt.dflt)
   rw [<-a2Q l ePt.dflt (by omega)] at e
   refine⟨by omega,fun h=>⟨by omega,by omega,⟨(i+1,nx+1,0),by dsimp only;omega⟩,⟨Nat.le_refl _,?_,by dsimp only;omega⟩,by dsimp only;omega⟩,fun h=>⟨by omega,⟨(i+1,nx+1,0),by dsimp only;omega⟩,⟨Nat.le_refl _,?_,by dsimp only;omega⟩,by dsimp only;omega⟩⟩
   ·dsimp only
    rw [e,if_pos h]
    omega
   ·dsimp only
    rw [e,if_neg (by rw [h];exact Bool.false_ne_true)]
    omega
  ·obtain rfl:i=l.length:=by omega
   rw [List.take_length]
theorem a8H {α:Type} {m:Nat} (f:α->Nat):∀ (l:List α) (n:Nat),n<=m->(∀ x∈l,f x<=m)->l.foldl (fun n x=>max n (f x)) n<=m
 | [],n,h,_=>h
 | x::l,n,h,h2=>a8H f l (max n (f x)) (Nat.max_le.2 ⟨h,h2 x (List.mem_cons_self ..)⟩) fun y hy=>h2 y (List.mem_cons_of_mem _ hy)
theorem c6q {l:List BS} {m:Nat} (h:∀ x∈l,x.length<=m):a4w l<=m:=a8H a6r l 0 (Nat.zero_le _) fun x hx=>Nat.le_trans (b2E x) (h x hx)
theorem b4y {s x:BS} (h:x∈a0b s):x.length<=s.length:=by
 have:=(List.sublist_flatten_of_mem h).length_le
 rwa [a1j] at this
theorem c6k {l:List BS} {m:Nat} (h:∀ x∈l,x.length<=m):a52 l<=m:=a8H (fun s=>a4w (a0b s)) l 0 (Nat.zero_le _) fun x hx=>Nat.le_trans (c6q fun y hy=>b4y hy) (h x hx)
theorem b1w {s:BS} (h:s.length<=100000000):b6H (a0b s):=by
 refine⟨?_,?_⟩
 ·have:=a0M s
  omega
 ·rw [a1j]
  omega
def a4k:a0s:=a0s.f1 (kL eS) (fun l=>l.length<100000000/\∀ s∈l,s.length<=100000000) (fun l=>kI.enc (a52 l))
theorem b1F:a0d Tryz.prog 151 a4k:=by
 refine a0d.f1 Tryz.func151 rfl (by decide) Tryz.results151 Tryz.ntmps151 (by decide) fun l ⟨hl,hs⟩=>?_
 have hΓ:GOK Tryz.prog (gam [(26,a0v),(198,a7O)]):=(.cons b23 (.cons b93 .nil))
 refine AW.of hΓ mixed [] _ _ _ rfl ?_
 simp only [go_sem,a0v,a7O]
 refine AW.round (α:={ x:Nat×Nat×Nat // x.1<=l.length })
  (fun x=>⟨[(3,.val (.int .i64 (a52 (l.take x.1.1)))),(6,sL eS l),(7,.val (.int .i64 l.length)),(8,.val (.int .i64 x.1.1))],[],20,x.1.2.2,x.1.2.1,[]⟩) (fun x=>l.length-x.1.1) ⟨(0,0,0),Nat.zero_le _⟩ ?_ ?_
 ·simp only [go_sem,a0v,a7O]
  rfl
 ·rintro⟨⟨i,nx,tp⟩,hi⟩
  simp only at hi
  refine AW.of hΓ mixed [99999] _ _ _ rfl ?_
  simp only [go_sem,a0v,a7O]
  refine⟨fun hlt=>?_,fun hge=>?_⟩
  ·have hlt':i<l.length:=by omega
   have h1:(l.getD i []).length<=100000000:=by
    rw [a1e l _ hlt']
    exact hs _ (List.getElem_mem _)
   have e:=b9b (l.take i) (l.getD i [])
   rw [<-a2Q l [] hlt'] at e
   refine⟨by omega,h1,b1w h1,by omega,⟨(i+1,nx,0),by dsimp only;omega⟩,⟨Nat.le_refl _,?_,by dsimp only;omega⟩,by dsimp only;omega⟩
   dsimp only
   rw [e,show ([a0b (l.getD i [])]:List (List BS)).flatten=a0b (l.getD i []) by simp]
   omega
  ·obtain rfl:i=l.length:=by omega
   rw [List.take_length]
def a5i:a0s:=a0s.f2 kI (kL eS) (fun _ l=>l.length<100000000/\∀ s∈l,s.length<=100000000) (fun n l=>kI.enc (max n ((a52 l:Nat)+1)))
theorem c39:a0d Tryz.prog 98 a5i:=by
 refine a0d.f2 Tryz.func98 rfl (by decide) Tryz.results98 Tryz.ntmps98 (by decide) fun n l ⟨hl,hs⟩=>?_
 have hΓ:GOK Tryz.prog (gam [(151,a4k)]):=(.cons b1F .nil)
 refine AW.of hΓ mixed [] _ _ _ rfl ?_
 simp only [go_sem,a4k]
 have:=c6k hs
 exact⟨⟨hl,hs⟩,by omega,by omega⟩
def a2G:a0s:=a0s.f2 (kL ePt) kI (fun l _=>l.length<100000000/\∀ p∈l,b7a p) (fun l w=>kB.enc (a7G l w))
theorem d0I:a0d Tryz.prog 126 a2G:=by
 refine a0d.f2 Tryz.func126 rfl (by decide) Tryz.results126 Tryz.ntmps126 (by decide) fun l w ⟨hl,hp⟩=>?_
 have hΓ:GOK Tryz.prog (gam [(151,a4k)]):=(.cons b1F .nil)
 refine AW.of hΓ mixed [] _ _ _ rfl ?_
 simp only [go_sem,a4k]
 refine⟨fun h=>(by unfold a7G;rw [decide_eq_false (by omega)];rfl),fun h=>?_⟩
 refine AW.round (α:={ x:Nat×Nat×Nat // x.1<=l.length/\∀ k,k<x.1->(a52 (b3F (l.getD k ePt.dflt)):Int)<w })
  (fun x=>⟨[(1,.val (.int .i64 w)),(9,sL ePt l),(10,.val (.int .i64 l.length)),(11,.val (.int .i64 x.1.1))],[],28,x.1.2.2,x.1.2.1,[]⟩) (fun x=>l.length-x.1.1) ⟨(0,0,0),Nat.zero_le _,fun k hk=>absurd hk (Nat.not_lt_zero _)⟩ ?_ ?_
 ·simp only [go_sem,a4k]
 ·rintro⟨⟨i,nx,tp⟩,hi,hk⟩
  simp only at hi hk
  refine AW.of hΓ mixed [99999] _ _ _ rfl ?_
  simp only [go_sem,a4k]
  have e4:∀ p:Pt,[p.2.2.2.2.1,p.2.2.2.2.2.1,p.2.2.2.2.2.2.1,p.2.2.2.2.2.2.2.1]=b3F p:=fun _=>rfl
  simp only [e4]
  refine⟨fun hlt=>?_,fun hge=>?_⟩
  ·have hlt':i<l.length:=by omega
   have hm:l.getD i ePt.dflt∈l:=by
    rw [a1e l _ hlt']
    exact List.getElem_mem _
   have h4:=(hp _ hm).2
   refine⟨by omega,⟨h4.1,h4.2.1,h4.2.2.1,h4.2.2.2⟩,fun hw=>?_,fun hw=>⟨by omega,⟨(i+1,nx+1,0),by dsimp only;omega,fun k hk'=>?_⟩,⟨Nat.le_refl _,by dsimp only;omega⟩,by dsimp only;omega⟩⟩
   ·unfold a7G
    rw [decide_eq_false (p:=∀ p∈l,_) (fun hh=>by have:=hh _ hm;omega),Bool.and_false]
   ·dsimp only at hk'
    rcases Nat.lt_or_ge k i with h'|h'
    ·exact hk k h'
    ·obtain rfl:k=i:=by omega
     omega
  ·unfold a7G
   rw [decide_eq_true (by omega),decide_eq_true (p:=∀ p∈l,_) fun p hp'=>?_]
   ·rfl
   ·obtain⟨k,hk',rfl⟩:=List.getElem_of_mem hp'
    have:=hk k (by omega)
    rwa [a1e l _ hk'] at this
end Go.Proofs.YthpjjjnbkfnghaaGreatDoor
set_option maxRecDepth 100000
namespace Go.Proofs.YthpjjjnbkfnghaaGreatDoor
open Go
abbrev Mk:=Int×Bool×BS
instance:DecidableEq Mk:=inferInstance
abbrev eMk:El Mk:=eP eU (eP eB eS)
def mk0:Mk:=(0,false,[])
def a5q (w:Int):Bool:=decide (1<=w)&&decide (w<=1073741824)
def b8W (k:Int):Prop:=k=60\/k=124\/k=61\/k=62
def c5n (m:Mk):Bool:=
 if m.1=60 then !m.2.1&&a3p m.2.2 else if m.1=124\/m.1=62 then a3p m.2.2 else if m.1=61 then decide (m.2.2=[]) else false
theorem c5v {m:Mk} (h:c5n m=true):b8W m.1:=by
 unfold c5n at h
 unfold b8W
 split at h
 ·omega
 ·split at h
  ·omega
  ·split at h
   ·omega
   ·cases h
def a4M (f:Bool) (l:BS):BS:=(if f=true then [33] else [])++((if l=[] then [] else 32::l)++[10])
def a4N (m:Mk) (w:Int):BS:=List.replicate w.toNat (UInt8.ofNat m.1.toNat)++a4M m.2.1 m.2.2
theorem c0w (f:Bool) (l:BS):(a4M f l).length<=l.length+3:=by
 unfold a4M
 cases f<;>by_cases h:l=[]<;>simp [h]
theorem a6a (m:Mk) (w:Int):(a4N m w).length<=w.toNat+(m.2.2.length+3):=by
 unfold a4N
 have:=c0w m.2.1 m.2.2
 simp only [List.length_append,List.length_replicate]
 omega
def rdT (r:BS):Option (Bool×BS):=
 let f:=decide (r.getD 0 0=33)
 let r1:=if f=true then r.drop 1 else r
 let l:=if 1<r1.length/\r1.getD 0 0=32 then (r1.take (r1.length-1)).drop 1 else []
 if a4M f l=r then some (f,l) else none
theorem c6b (f:Bool) (l:BS):rdT (a4M f l)=some (f,l):=by
 have hf:decide ((a4M f l).getD 0 0=33)=f:=by
  unfold a4M
  cases f with
  | true=>rfl
  | false=>
    by_cases h:l=[]
    ·subst h;rfl
    ·rw [if_neg h];rfl
 have hr:(if f=true then (a4M f l).drop 1 else a4M f l)=(if l=[] then [] else 32::l)++[10]:=by
  unfold a4M
  cases f with
  | true=>rfl
  | false=>rfl
 have hl:(if 1<((if l=[] then ([]:BS) else 32::l)++[10]).length/\((if l=[] then ([]:BS) else 32::l)++[10]).getD 0 0=32 then (((if l=[] then ([]:BS) else 32::l)++[10]).take (((if l=[] then ([]:BS) else 32::l)++[10]).length-1)).drop 1 else [])=l:=by
  by_cases h:l=[]
  ·subst h;rfl
  ·rw [if_neg h,if_pos ⟨by simp,rfl⟩]
   simp
 unfold rdT
 simp only [hf,hr,hl,if_pos]
theorem b5N {r:BS} {f:Bool} {l:BS}:rdT r=some (f,l)↔a4M f l=r:=by
 constructor
 ·intro h
  unfold rdT at h
  generalize decide (r.getD 0 0=33)=f' at h
  dsimp only at h
  generalize (if f'=true then r.drop 1 else r)=r1 at h
  generalize (if 1<r1.length/\r1.getD 0 0=32 then (r1.take (r1.length-1)).drop 1 else [])=l' at h
  by_cases e:a4M f' l'=r
  ·rw [if_pos e] at h
   simp only [Option.some.injEq,Prod.mk.injEq] at h
   obtain⟨h1,h2⟩:=h
   rw [h2,h1] at e
   exact e
  ·rw [if_neg e] at h
   cases h
 ·rintro rfl
  exact c6b f l
def a5V (s:BS):BS:=if a1d s=true then s.take (s.length-1) else s
def prB (a b:BS):Bool:=decide (a.take 1=b)
theorem c9Y (a b:BS):prB a b=true↔a.take 1=b:=decide_eq_true_iff
theorem d3u {a b:BS}:prB a b=false↔¬a.take 1=b:=decide_eq_false_iff_not
def a9j (s:BS) (c:UInt8):BS:=if s.take 1=[c] then s.drop 1 else s
def rdI (r:BS):Option (Bool×BS):=
 if a1d r=true/\prB (a9j (a5V r) 33) [32]=decide (a9j (a9j (a5V r) 33) 32≠[]) then some (prB (a5V r) [33],a9j (a9j (a5V r) 33) 32) else none
theorem b8I {r:BS} (h:a1d r=true):r=r.take (r.length-1)++[10]:=by
 have h:r.getLast?=some 10:=of_decide_eq_true h
 rcases r.eq_nil_or_concat with rfl|⟨m,c,rfl⟩
 ·cases h
 ·rw [List.concat_eq_append] at *
  simp at h
  subst h
  simp
theorem d2V {s:BS} {c:UInt8} (h:s.take 1=[c]):s=c::s.drop 1:=by
 cases s with
 | nil=>cases h
 | cons x s=>simp at h;subst h;rfl
theorem c1R {r:BS} {f:Bool} {l:BS}:rdI r=some (f,l)↔a4M f l=r:=by
 unfold rdI prB
 constructor
 ·intro h
  split at h
  ·rename_i hh
   obtain⟨h1,h2⟩:=hh
   simp only [Option.some.injEq,Prod.mk.injEq] at h
   obtain⟨h3,h4⟩:=h
   have e1:a5V r=r.take (r.length-1):=if_pos h1
   have e0:=b8I h1
   rw [e1] at h2 h3 h4
   generalize r.take (r.length-1)=b at *
   rw [h4] at h2
   rw [e0]
   have eb:a9j b 33=(if l=[] then [] else 32::l):=by
    by_cases g:(a9j b 33).take 1=[32]
    ·rw [decide_eq_true g] at h2
     have:l≠[]:=of_decide_eq_true h2.symm
     have h5:a9j (a9j b 33) 32=(a9j b 33).drop 1:=if_pos g
     rw [if_neg this,d2V g,<-h5,h4]
    ·rw [decide_eq_false g] at h2
     have hl:l=[]:=by simpa using h2
     have:a9j (a9j b 33) 32=a9j b 33:=if_neg g
     rw [if_pos hl,<-this,h4,hl]
   unfold a4M
   rw [<-eb,<-List.append_assoc]
   congr 1
   by_cases g:b.take 1=[33]
   ·rw [<-h3,decide_eq_true g,if_pos rfl]
    have:a9j b 33=b.drop 1:=if_pos g
    rw [this]
    exact (d2V g).symm
   ·rw [<-h3,decide_eq_false g,if_neg (by simp)]
    exact if_neg g
  ·cases h
 ·rintro rfl
  have h1:a1d (a4M f l)=true:=by
   unfold a1d a4M
   rw [<-List.append_assoc,List.getLast?_append]
   rfl
  have e1:a5V (a4M f l)=(if f=true then [33] else [])++(if l=[] then [] else 32::l):=by
   unfold a5V
   rw [if_pos h1]
   unfold a4M
   rw [<-List.append_assoc]
   generalize (if f=true then ([33]:BS) else [])++(if l=[] then [] else 32::l)=x
   simp
  have e2:(a5V (a4M f l)).take 1=[33]↔f=true:=by
   rw [e1]
   cases f with
   | true=>simp
   | false=>
     by_cases h:l=[]
     ·simp [h]
     ·simp [h]
  have e3:a9j (a5V (a4M f l)) 33=(if l=[] then [] else 32::l):=by
   unfold a9j
   cases f with
   | true=>rw [if_pos (e2.2 rfl),e1];rfl
   | false=>rw [if_neg (fun h=>by have:=e2.1 h;cases this),e1];rfl
  have e4:a9j (if l=[] then ([]:BS) else 32::l) 32=l:=by
   by_cases h:l=[]
   ·subst h;rfl
   ·rw [if_neg h];rfl
  have e5:(if l=[] then ([]:BS) else 32::l).take 1=[32]↔l≠[]:=by
   by_cases h:l=[]
   ·simp [h]
   ·simp [h]
  rw [e3,e4,if_pos ⟨h1,by rw [decide_eq_decide];exact e5⟩]
  congr 2
  cases f with
  | true=>exact decide_eq_true (e2.2 rfl)
  | false=>exact decide_eq_false fun h=>by have:=e2.1 h;cases this
theorem d2j (r:BS):rdI r=rdT r:=by
 cases h:rdT r with
 | some p=>obtain⟨f,l⟩:=p;exact c1R.2 (b5N.1 h)
 | none=>
   cases g:rdI r with
   | none=>rfl
   | some p=>obtain⟨f,l⟩:=p;rw [b5N.2 (c1R.1 g)] at h;cases h
def d6R (c:UInt8):Prop:=c=60\/c=124\/c=61\/c=62
theorem c2Z {s:BS} {n:Nat} (h1:1<=n) (h:n<=a6r s):d6R (s.getD 0 0)/\s=List.replicate n (s.getD 0 0)++s.drop n:=by
 cases s with
 | nil=>simp [a6r] at h;omega
 | cons c r=>
   rw [a6r] at h
   split at h
   ·rename_i hs
    refine⟨hs,?_⟩
    have e:∀ (m:Nat) (r:BS),m<=(r.takeWhile (·==c)).length->r=List.replicate m c++r.drop m:=by
     intro m
     induction m with
     | zero=>intro r _;rfl
     | succ m ih=>
       intro r hr
       cases r with
       | nil=>simp at hr
       | cons d r=>
         rw [List.takeWhile_cons] at hr
         split at hr
         ·rename_i hd
          obtain rfl:d=c:=by simpa using hd
          rw [List.replicate_succ,List.cons_append,List.drop_succ_cons]
          congr 1
          exact ih r (by simpa using hr)
         ·simp at hr
    obtain⟨m,rfl⟩:∃ m,n=m+1:=⟨n-1,by omega⟩
    rw [List.getD_cons_zero,List.replicate_succ,List.cons_append,List.drop_succ_cons]
    congr 1
    exact e m r (by omega)
   ·omega
def a1c (s:BS) (w:Int):Mk×Bool×Int:=
 if a5q w=false then (mk0,false,4) else if (a6r s:Int)<w then (mk0,false,0) else
  match rdT (s.drop w.toNat) with
  | some (f,l)=>if c5n ((s.getD 0 0).toNat,f,l)=true then (((s.getD 0 0).toNat,f,l),true,0) else (mk0,false,6)
  | none=>(mk0,false,6)
theorem a6H {w:Int}:a5q w=true↔1<=w/\w<=1073741824:=by simp [a5q]
theorem c2h {s:BS} {w:Int} {m:Mk} {e:Int} (h:a1c s w=(m,true,e)):a4N m w=s/\c5n m=true/\a5q w=true/\e=0:=by
 unfold a1c at h
 split at h
 ·simp at h
 ·rename_i hw
  split at h
  ·simp at h
  ·rename_i hr
   have hw:a5q w=true:=by simpa using hw
   obtain⟨h1,h2⟩:=a6H.1 hw
   obtain⟨g1,g2⟩:=c2Z (s:=s) (n:=w.toNat) (by omega) (by omega)
   split at h
   ·rename_i f l hf
    split at h
    ·rename_i hm
     simp only [Prod.mk.injEq] at h
     obtain⟨rfl,_,rfl⟩:=h
     refine⟨?_,hm,hw,rfl⟩
     unfold a4N
     simp only
     rw [b5N.1 hf]
     have:UInt8.ofNat ((s.getD 0 0).toNat:Int).toNat=s.getD 0 0:=by simp
     rw [this]
     exact g2.symm
    ·simp at h
   ·simp at h
end Go.Proofs.YthpjjjnbkfnghaaGreatDoor
set_option maxRecDepth 100000
set_option maxHeartbeats 2000000
namespace Go.Proofs.YthpjjjnbkfnghaaGreatDoor
open Go
attribute [local irreducible] AW a0e a1g a0a
def b2i:a0s:=a0s.f2 kS kS (fun a b=>a.length<=100000000000/\b.length=1) (fun a b=>kB.enc (prB a b))
theorem c2A:a0d Tryz.prog 140 b2i:=by
 refine a0d.f2 Tryz.func140 rfl (by decide) Tryz.results140 Tryz.ntmps140 (by decide) fun a b ⟨ha,h⟩=>?_
 have hΓ:GOK Tryz.prog (gam []):=GOK.nil
 unfold prB
 refine AW.of hΓ mixed [] _ _ _ rfl ?_
 simp only [go_sem]
 refine⟨fun _=>by omega,?_⟩
 rw [h]
 by_cases g:a=[]
 ·subst g
  have:b≠[]:=fun e=>by subst e;cases h
  simp [Ne.symm this]
 ·have:0<a.length:=List.length_pos_iff.2 g
  rw [decide_eq_true (by omega),Bool.true_and]
def a5j:a0s:=a0s.f2 kS kI (fun a n=>a.length=1/\0<=n/\n<=100000000000) (fun a n=>kS.enc (List.replicate n.toNat (a.getD 0 0)))
theorem c5A:a0d Tryz.prog 212 a5j:=by
 refine a0d.raw Tryz.func212 rfl (by decide) fun args hp w L vs hL ha=>?_
 match args,hp with
 | [x,y],hp=>
   obtain⟨h1,h2,h3,h4,h5⟩:=hp
   cases ha with
   | cons hx hr=>cases hr with
     | cons hy hr=>cases hr with
       | nil=>
         have ex:=b1j h1 hx
         have ey:=b1j h2 hy
         obtain rfl:=ex
         obtain rfl:=ey
         rw [show a5j.res [x,y]=kS.enc (List.replicate (kI.dec y).toNat ((kS.dec x).getD 0 0)) from rfl]
         generalize kS.dec x=a at *
         generalize kI.dec y=n at *
         obtain⟨k,rfl⟩:=Int.eq_ofNat_of_zero_le h4
         have hsz:(⟨a.toArray⟩:ByteArray).size=1:=by simpa [ByteArray.size] using h3
         refine (Tryz.strings_Repeat ⟨a.toArray⟩ k w (by omega) (by rw [hsz];omega)).mono ?_
         rintro e w' ⟨rfl,hb⟩
         refine⟨_,rfl,Fr.of_below hb _,?_⟩
         obtain⟨c,rfl⟩:∃ c,a=[c]:=by
          match a,h3 with
          | [c],_=>exact⟨c,rfl⟩
         show Value.string _=Value.string _
         rw [show ([c]:List UInt8)=List.replicate 1 c from rfl,Lib.repeatL_replicate,Nat.mul_one]
         rfl
def a06:a0s:=a0s.f1 kI (fun _=>True) (fun w=>kB.enc (a5q w))
theorem b4q:a0d Tryz.prog 124 a06:=by
 refine a0d.f1 Tryz.func124 rfl (by decide) Tryz.results124 Tryz.ntmps124 (by decide) fun w _=>?_
 have hΓ:GOK Tryz.prog (gam []):=GOK.nil
 refine AW.of hΓ mixed [] _ _ _ rfl ?_
 simp only [go_sem]
 rfl
def a2r:a0s:=a0s.f1 kS (fun _=>True) (fun l=>kB.enc (a3p l))
theorem c0c:a0d Tryz.prog 217 a2r:=by
 refine a0d.f1 Tryz.func217 rfl (by decide) Tryz.results217 Tryz.ntmps217 (by decide) fun l _=>?_
 have hΓ:GOK Tryz.prog (gam [(197,a54)]):=(.cons b1M .nil)
 refine AW.of hΓ mixed [] _ _ _ rfl ?_
 simp only [go_sem,a54]
 rw [Bool.not_not]
def b1W:a0s:=a0s.f1 (kA eMk) (fun _=>True) (fun m=>kB.enc (c5n m))
theorem c8N:a0d Tryz.prog 182 b1W:=by
 refine a0d.f1 Tryz.func182 rfl (by decide) Tryz.results182 Tryz.ntmps182 (by decide) fun m _=>?_
 have hΓ:GOK Tryz.prog (gam [(217,a2r)]):=(.cons c0c .nil)
 obtain⟨k,f,l⟩:=m
 by_cases h1:k=60
 ·subst h1
  refine AW.of hΓ mixed [] _ _ _ rfl ?_
  simp only [go_sem,a2r]
  rfl
 by_cases h2:k=124
 ·subst h2
  refine AW.of hΓ mixed [] _ _ _ rfl ?_
  simp only [go_sem,a2r]
  refine AW.fork ?_
  refine AW.of hΓ mixed [] _ _ _ rfl ?_
  simp only [go_sem,a2r]
  refine AW.of hΓ mixed [] _ _ _ rfl ?_
  simp only [go_sem,a2r]
  rfl
 by_cases h3:k=62
 ·subst h3
  refine AW.of hΓ mixed [] _ _ _ rfl ?_
  simp only [go_sem,a2r]
  refine AW.fork ?_
  refine AW.of hΓ mixed [] _ _ _ rfl ?_
  simp only [go_sem,a2r]
  refine AW.of hΓ mixed [] _ _ _ rfl ?_
  simp only [go_sem,a2r]
  rfl
 by_cases h4:k=61
 ·subst h4
  refine AW.of hΓ mixed [] _ _ _ rfl ?_
  simp only [go_sem,a2r]
  refine AW.fork ?_
  refine AW.of hΓ mixed [] _ _ _ rfl ?_
  simp only [go_sem,a2r]
  refine AW.of hΓ mixed [] _ _ _ rfl ?_
  simp only [go_sem,a2r]
  rfl
 ·refine AW.of hΓ mixed [] _ _ _ rfl ?_
  simp only [go_sem,a2r,h1,h2,h3,h4]
  refine AW.fork ?_
  refine AW.of hΓ mixed [] _ _ _ rfl ?_
  simp only [go_sem,a2r,h1,h2,h3,h4]
  refine AW.of hΓ mixed [] _ _ _ rfl ?_
  simp only [go_sem,a2r,h1,h2,h3,h4]
  simp [c5n,h1,h2,h3,h4]
def c2f:a0s:=a0s.f2 kS kS (fun a b=>a.length<=100000000000/\b=[10]) (fun a _=>tu2 (kS.enc (a5V a)) (kB.enc (a1d a)))
theorem c81:a0d Tryz.prog 240 c2f:=by
 refine a0d.f2 Tryz.func240 rfl (by decide) Tryz.results240 Tryz.ntmps240 (by decide) fun a b ⟨ha,h⟩=>?_
 have hΓ:GOK Tryz.prog (gam [(149,a5B)]):=(.cons b0o .nil)
 subst h
 unfold a5V
 refine AW.of hΓ mixed [] _ _ _ rfl ?_
 simp only [go_sem,a5B]
 have hp:a1d a=true->0<a.length:=fun h=>by
  cases a with
  | nil=>cases h
  | cons _ _=>simp
 refine⟨ha,fun h=>?_,fun h=>?_⟩
 ·have h:a1d a=false:=by simpa using h
  exact⟨by rw [if_neg (by simp [h])],h.symm⟩
 ·have h:a1d a=true:=by simpa using h
  have:=hp h
  refine⟨by omega,by omega,?_,h.symm⟩
  rw [if_pos h]
  congr 1
  omega
def c8I:a0s:=a0s.f2 kS kS (fun a b=>a.length<=100000000000/\b=[10]) (fun a _=>tu2 (kS.enc (a5V a)) (kB.enc (a1d a)))
theorem d2v:a0d Tryz.prog 215 c8I:=by
 refine a0d.f2 Tryz.func215 rfl (by decide) Tryz.results215 Tryz.ntmps215 (by decide) fun a b ⟨ha,h⟩=>?_
 have hΓ:GOK Tryz.prog (gam [(240,c2f)]):=(.cons c81 .nil)
 subst h
 refine AW.of hΓ mixed [] _ _ _ rfl ?_
 simp only [go_sem,c2f]
 exact ha
def c1n:a0s:=a0s.f2 kS kS (fun a b=>a.length<=100000000000/\b.length=1) (fun a b=>tu2 (kS.enc (a9j a (b.getD 0 0))) (kB.enc (prB a b)))
theorem d0S:a0d Tryz.prog 241 c1n:=by
 refine a0d.f2 Tryz.func241 rfl (by decide) Tryz.results241 Tryz.ntmps241 (by decide) fun a b ⟨ha,h⟩=>?_
 have hΓ:GOK Tryz.prog (gam [(140,b2i)]):=(.cons c2A .nil)
 unfold a9j
 have hb:[b.getD 0 0]=b:=by
  match b,h with
  | [c],_=>rfl
 refine AW.of hΓ mixed [] _ _ _ rfl ?_
 simp only [go_sem,b2i,hb]
 refine⟨⟨ha,h⟩,fun h=>?_,fun h=>?_⟩
 ·have h:prB a b=false:=by simpa using h
  exact⟨by rw [if_neg (d3u.1 h)],h.symm⟩
 ·have h:prB a b=true:=by simpa using h
  have h1:=(c9Y a b).1 h
  have:=congrArg List.length h1
  rw [List.length_take] at this
  refine⟨by omega,?_,h.symm⟩
  rw [if_pos h1,show b.length=1 by assumption]
def d0L:a0s:=a0s.f2 kS kS (fun a b=>a.length<=100000000000/\b.length=1) (fun a b=>tu2 (kS.enc (a9j a (b.getD 0 0))) (kB.enc (prB a b)))
theorem d2d:a0d Tryz.prog 216 d0L:=by
 refine a0d.f2 Tryz.func216 rfl (by decide) Tryz.results216 Tryz.ntmps216 (by decide) fun a b ⟨ha,h⟩=>?_
 have hΓ:GOK Tryz.prog (gam [(241,c1n)]):=(.cons d0S .nil)
 refine AW.of hΓ mixed [] _ _ _ rfl ?_
 simp only [go_sem,c1n]
 exact⟨ha,h⟩
theorem c5g {k:Int} {f:Bool} {l:BS} {c:Nat->AV} (h0:c 0=.val (.int .u8 k)) (h1:c 1=.val (.bool f)) (h2:c 2=.st l):a0e (.ag 3 c) (.ag 3 (eMk.enc (k,f,l))):=a0e.ag fun j hj=>a0e.of_eq (match j,hj with
 | 0,_=>h0
 | 1,_=>h1
 | 2,_=>h2)
def rdO (c:Int) (b:BS):Mk×Bool:=match rdI b with
 | some (f,l)=>((c,f,l),true)
 | none=>(mk0,false)
theorem b4Q (b:BS):(a5V b).length<=b.length:=by
 unfold a5V
 split
 ·rw [List.length_take];omega
 ·exact Nat.le_refl _
theorem d0K (b:BS) (c:UInt8):(a9j b c).length<=b.length:=by
 unfold a9j
 split
 ·rw [List.length_drop];omega
 ·exact Nat.le_refl _
def b1D:a0s:=a0s.f2 kU kS (fun _ b=>b.length<=100000000000) (fun c b=>tu2 ((kA eMk).enc (rdO c b).1) (kB.enc (rdO c b).2))
theorem c9n:a0d Tryz.prog 181 b1D:=by
 refine a0d.f2 Tryz.func181 rfl (by decide) Tryz.results181 Tryz.ntmps181 (by decide) fun c b hb=>?_
 have hΓ:GOK Tryz.prog (gam [(215,c8I),(216,d0L)]):=(.cons d2v (.cons d2d .nil))
 have h1:=b4Q b
 have h2:=d0K (a5V b) 33
 refine AW.of hΓ mixed [] _ _ _ rfl ?_
 simp only [go_sem,c8I,d0L]
 refine⟨hb,by omega,by omega,fun h=>by rw [h];rfl,fun h=>?_,fun h=>?_⟩
 ·have e:rdO c b=(mk0,false):=by
   have:rdI b=none:=if_neg fun⟨g1,g2⟩=>by
    rw [g1,g2] at h
    simp at h
   unfold rdO
   rw [this]
  rw [e]
  exact⟨c5g rfl rfl rfl,rfl⟩
 ·have e:rdO c b=((c,prB (a5V b) [33],a9j (a9j (a5V b) 33) 32),true):=by
   have:rdI b=some (prB (a5V b) [33],a9j (a9j (a5V b) 33) 32):=if_pos (by
    simp only [Bool.or_eq_false_iff,Bool.not_eq_false',decide_eq_false_iff_not,Decidable.not_not] at h
    exact h)
   unfold rdO
   rw [this]
  rw [e]
  exact⟨c5g rfl rfl rfl,rfl⟩
def a3a:a0s:=a0s.f2 (kA eMk) kI (fun m w=>b8W m.1/\0<=w/\w<=10000000000/\m.2.2.length<=10000000000) (fun m w=>kS.enc (a4N m w))
theorem c9e:a0d Tryz.prog 175 a3a:=by
 refine a0d.f2 Tryz.func175 rfl (by decide) Tryz.results175 Tryz.ntmps175 (by decide) fun m w ⟨hk,hw1,hw2,hl⟩=>?_
 have hΓ:GOK Tryz.prog (gam [(212,a5j)]):=(.cons c5A .nil)
 obtain⟨k,f,l⟩:=m
 simp only at hk hl
 have e1:Utf8.encode (IntKind.i32.wrap k)=⟨([UInt8.ofNat k.toNat]:List UInt8).toArray⟩:=by
  rcases hk with rfl|rfl|rfl|rfl<;>rfl
 cases f
 all_goals (
  by_cases h:l=[]
  all_goals (
   refine AW.of hΓ mixed [] _ _ _ rfl ?_
   simp only [go_sem,a5j,h]
   refine AW.fork ?_
   refine AW.of hΓ mixed [] _ _ _ rfl ?_
   simp only [go_sem,a5j,h]
   refine AW.fork ?_
   refine AW.of hΓ mixed [] _ _ _ rfl ?_
   simp only [go_sem,a5j,h]
   try refine⟨by omega,by omega,?_⟩
   refine AW.fork (AW.regionO hΓ [false,false,false,true] ?_)
   simp only [go_sem,a5j,h]
   refine c93 rfl (by rw [Tryz.underlying21];rfl) Tryz.underlying9 rfl e1 (Nat.lt_of_lt_of_le (by decide:19<25) (Nat.le_refl _)) ?_
   simp only [go_sem,a5j,h]
   refine⟨by omega,by omega,by omega,?_⟩
   refine AW.of hΓ mixed [] _ _ _ rfl ?_
   simp only [go_sem,a5j,h]
   simp [a4N,a4M,h]))
def a3u:a0s:=a0s.f2 kS kI (fun l _=>l.length<=100000000000) (fun l w=>tu3 ((kA eMk).enc (a1c l w).1) (kB.enc (a1c l w).2.1) (kI.enc (a1c l w).2.2))
theorem b7n {c:Nat->AV} (h0:c 0=.val (.int .u8 0)) (h1:c 1=.val (.bool false)) (h2:c 2=.st []):a0e (.ag 3 c) (.ag 3 (eMk.enc mk0)):=c5g h0 h1 h2
theorem c9t:a0d Tryz.prog 135 a3u:=by
 refine a0d.f2 Tryz.func135 rfl (by decide) Tryz.results135 Tryz.ntmps135 (by decide) fun l w hl=>?_
 have hΓ:GOK Tryz.prog (gam [(124,a06),(180,b64),(181,b1D),(182,b1W)]):=(.cons b4q (.cons d3J (.cons c9n (.cons c8N .nil))))
 by_cases hw:a5q w=false
 ·refine AW.of hΓ mixed [200005] _ _ _ rfl ?_
  simp only [go_sem,a06,b64,b1D,b1W,hw]
  have e:a1c l w=(mk0,false,4):=if_pos hw
  rw [e]
  exact⟨b7n rfl rfl rfl,rfl,rfl⟩
 have hw':a5q w=true:=by simpa using hw
 have hw2:=a6H.1 hw'
 by_cases hr:(a6r l:Int)<w
 ·have hr':((a6r l:Int)<w)=True:=eq_true hr
  refine AW.of hΓ mixed [200005] _ _ _ rfl ?_
  simp only [go_sem,a06,b64,b1D,b1W,hw',hr']
  have e:a1c l w=(mk0,false,0):=by unfold a1c;rw [if_neg hw,if_pos hr]
  rw [e]
  exact⟨hl,b7n rfl rfl rfl,rfl,rfl⟩
 ·have hr':((a6r l:Int)<w)=False:=eq_false hr
  have hrl:=b2E l
  have e:a1c l w=(match rdT (l.drop w.toNat) with
   | some (f,x)=>if c5n ((l.getD 0 0).toNat,f,x)=true then (((l.getD 0 0).toNat,f,x),true,0) else (mk0,false,6)
   | none=>(mk0,false,6)):=by
   conv=>lhs;unfold a1c
   rw [if_neg hw,if_neg hr]
   all_goals rfl
  refine AW.of hΓ mixed [200005] _ _ _ rfl ?_
  simp only [go_sem,a06,b64,b1D,b1W,hw',hr']
  refine⟨hl,AW.drawZ hΓ mixed 10 [11] [8,11] [] (by decide +kernel) ?_⟩
  simp only [go_sem,a06,b64,b1D,b1W]
  have ro:rdO ((l.getD 0 0).toNat:Int) (l.drop w.toNat)=(match rdT (l.drop w.toNat) with
   | some (f,x)=>(((l.getD 0 0).toNat,f,x),true)
   | none=>(mk0,false)):=by
   unfold rdO
   rw [d2j]
  cases hT:rdT (l.drop w.toNat) with
  | none=>
    rw [hT] at ro e
    dsimp only at ro e
    rw [ro,e]
    refine⟨by omega,⟨by omega,by omega,by omega⟩,by omega,fun h=>by simp at h,fun _=>⟨b7n rfl rfl rfl,rfl,rfl⟩,fun h=>?_⟩
    simp at h
  | some p=>
    obtain⟨f,x⟩:=p
    rw [hT] at ro e
    dsimp only at ro e
    rw [ro]
    refine⟨by omega,⟨by omega,by omega,by omega⟩,by omega,fun _=>rfl,fun h=>?_,fun h=>?_⟩
    ·have hm:¬c5n ((l.getD 0 0).toNat,f,x)=true:=by simpa using h
     rw [e,if_neg hm]
     exact⟨b7n rfl rfl rfl,rfl,rfl⟩
    ·have hm:c5n ((l.getD 0 0).toNat,f,x)=true:=by simpa using h
     rw [e,if_pos hm]
     exact⟨c5g rfl rfl rfl,rfl,rfl⟩
end Go.Proofs.YthpjjjnbkfnghaaGreatDoor
set_option maxRecDepth 100000
set_option maxHeartbeats 2000000
namespace Go.Proofs.YthpjjjnbkfnghaaGreatDoor
open Go
attribute [local irreducible] AW a0e a1g a0a
def a4P (s:BS):Bool:=decide (s≠[])&&!a1d s
def a7S (s:BS):BS:=if a4P s=true then s++[10] else s
theorem a93 (s:BS):(a7S s).length<=s.length+1:=by
 unfold a7S
 split
 ·simp
 ·omega
theorem c4A (s:BS):s.length<=(a7S s).length:=by
 unfold a7S
 split
 ·simp
 ·omega
def b7k:a0L:=d8B fun xs a r=>∃ s:BS,xs=[.st s]/\a=a7S s/\r=kB.enc (a4P s)/\s.length<=1000000000
theorem c0n:a0i Tryz.prog 176 b7k:=by
 refine a0i.mk Tryz.func176 rfl (by decide) Tryz.results176 Tryz.ntmps176 ?_
 rintro args hp top nx K ⟨f,v,u,l,xs,a,r,rfl,⟨s,rfl,rfl,rfl,hs⟩,rfl,rfl,hl,hK⟩
 have hΓ:GOK Tryz.prog (gam [(88,a0B),(91,a0F)]):=(.cons b2c (.cons a9s .nil))
 refine⟨Nat.le_of_ble_eq_true rfl,AW.late ?_⟩
 have hge:=c4A s
 refine AW.of hΓ mixed [99999] _ _ _ rfl ?_
 simp only [go_sem,a0B,a0F]
 refine a3K rfl (by decide) (a0a.refl _) (a0a.refl _) (by decide) (by omega) fun u1 n1 g1 h1=>?_
 simp only [go_sem,a0B,a0F]
 have hlk:(decide ¬s=[]&&!a1d s)=a4P s:=rfl
 refine⟨fun _=>by omega,fun hc=>?_,fun hc=>?_⟩
 ·have hk:a4P s=true:=by
   rw [<-hlk,decide_eq_true hc.1,hc.2]
   rfl
  have ha:a7S s=s++[10]:=if_pos hk
  rw [hk] at hK
  rw [ha] at hl hK
  rw [List.length_append] at hl
  simp only [a79,a9W] at hl
  refine a3K (by simp [Nat.add_assoc]) (by decide) (a0a.refl _) (a0a.refl _) (by decide) (by simp;omega) fun u2 n2 g2 h2=>?_
  simp only [go_sem,a0B,a0F]
  refine⟨_,a0g (fun p=>p) (l:=[(4,.val (.bool true))]) (r:=[(0,.box v 138 2 (a7w true 0 v 1 u2 (l++(s++[10])).length)),(1,a0m u2 (l++(s++[10])))]) (sz:=20) (top:=2) (nx:=n2) (df:=[]) ?_,?_⟩
  ·simp only [go_sem,a0B,a0F,hc.1,hc.2]
   exact⟨a97 (by omega),b0Y (by simp)⟩
  ·simp only [go_sem,a0B,a0F]
   have:=hK u2 n2 (by omega) (by omega)
   simp only [List.length_append,a79,a9W] at this
   exact this
 ·have hk:a4P s=false:=by
   rw [<-hlk]
   by_cases h0:s=[]
   ·rw [decide_eq_false (by simpa using h0),Bool.false_and]
   ·rw [hc h0,Bool.and_false]
  have ha:a7S s=s:=if_neg (by rw [hk];simp)
  rw [hk] at hK
  rw [ha] at hl hK
  rw [hlk,hk]
  refine⟨_,a0g (fun p=>p) (l:=[(4,.val (.bool false))]) (r:=[(0,.box v 138 2 (a7w true 0 v 1 u1 (l++s).length)),(1,a0m u1 (l++s))]) (sz:=20) (top:=2) (nx:=n1) (df:=[]) ?_,?_⟩
  ·simp only [go_sem,a0B,a0F]
   exact⟨a0a.refl _,a0a.refl _⟩
  ·simp only [go_sem,a0B,a0F]
   have:=hK u1 n1 (by omega) (by omega)
   simp only [List.length_append,a79,a9W] at this
   exact this
def a12:a0L:=a1F b7k
theorem c4D:a0i Tryz.prog 176 a12:=c0n.frame
def a42 (w:Int) (p:Pt):BS:=
 if hkP p=true then
  a4N (60,false,p.1) w++(a7S p.2.2.2.2.2.1++(if p.2.2.2.2.2.2.2.2=true then
    a4N (124,a4P p.2.2.2.2.2.1,p.2.1) w++(a7S p.2.2.2.2.2.2.1++(a4N (61,a4P p.2.2.2.2.2.2.1,[]) w++(a7S p.2.2.2.2.2.2.2.1++a4N (62,a4P p.2.2.2.2.2.2.2.1,p.2.2.1) w)))
   else a4N (61,a4P p.2.2.2.2.2.1,[]) w++(a7S p.2.2.2.2.2.2.2.1++a4N (62,a4P p.2.2.2.2.2.2.2.1,p.2.2.1) w)))
 else txP p
def b7w:a0L:=d8B fun xs a r=>∃ (p:Pt) (w:Int),xs=[(kA ePt).enc p,.val (.int .i64 w)]/\a=a42 w p/\r=.val (.tuple #[])/\hkP p=true/\b7a p/\0<=w/\w<=10000000000
theorem c1i:a0i Tryz.prog 127 b7w:=by
 refine a0i.mk Tryz.func127 rfl (by decide) Tryz.results127 Tryz.ntmps127 ?_
 rintro args hp top nx K ⟨f,v,u,l,xs,a,r,rfl,⟨p,w,rfl,rfl,rfl,hh,hp,hw1,hw2⟩,rfl,rfl,hl,hK⟩
 have hΓ:GOK Tryz.prog (gam [(88,a0B),(176,a12),(175,a3a)]):=(.cons b2c (.cons c4D (.cons c9e .nil)))
 refine⟨Nat.le_of_ble_eq_true rfl,AW.late ?_⟩
 obtain⟨ll,bl,rl,h,t,lf,b,r,hb⟩:=p
 obtain⟨⟨p1,p2,p3⟩,p4,p5,p6,p7⟩:=hp
 simp only [txP] at p1 p2 p3 p4 p5 p6 p7
 unfold a42 at hl hK
 rw [if_pos hh] at hl hK
 simp only at hl hK
 generalize ha1:a4N (60,false,ll) w=a1 at *
 generalize ha2:a7S lf=a2 at *
 generalize ha3:a4N (124,a4P lf,bl) w=a3 at *
 generalize ha4:a7S b=a4 at *
 generalize ha6:a7S r=a6 at *
 generalize ha7:a4N (62,a4P r,rl) w=a7 at *
 refine AW.of hΓ mixed [0] _ _ _ rfl ?_
 simp only [go_sem,a0B,a12,a3a]
 refine AW.cut ⟨[(0,.pt 0 v 0),(2,.val (.int .i64 w)),(4,.pt 2 nx 0)],[(0,.box v 138 2 (a7w f 0 v 1 u l.length)),(1,a0m u l),(2,.box nx 179 9 (ePt.enc (ll,bl,rl,h,t,lf,b,r,hb)))],53,3,nx+1,[]⟩ ?_ ?_
 ·simp only [go_sem,a0B,a12,a3a]
  exact⟨a0a.refl _,a0a.refl _,a0a.refl _⟩
 refine AW.still 4 2 nx 179 9 _ rfl rfl (fun j hj=>match j,hj with|0,_=>rfl|1,_=>rfl|2,_=>rfl|3,_=>rfl|4,_=>rfl|5,_=>rfl|6,_=>rfl|7,_=>rfl|8,_=>rfl) ?_
 refine AW.of hΓ mixed [99999] _ _ _ rfl ?_
 simp only [go_sem,a0B,a12,a3a,ha1]
 cases hb with
 | true=>
   simp only [if_true] at hl hK
   generalize ha5:a4N (61,a4P b,[]) w=a5 at *
   rw [show a1++(a2++(a3++(a4++(a5++(a6++a7)))))=a1++a2++a3++a4++a5++a6++a7 by simp only [List.append_assoc]] at hl hK
   have hl:l.length+a1.length+a2.length+a3.length+a4.length+a5.length+a6.length+a7.length<=100000000000:=by
    simp only [List.length_append] at hl
    omega
   refine⟨⟨.inl rfl,hw1,hw2,by omega⟩,a3K rfl (by decide) (a0a.refl _) (a0a.refl _) (by decide) (by omega) fun u1 n1 g1 h1=>?_⟩
   simp only [go_sem,a0B,a12,a3a]
   refine b1x ⟨lf,rfl,ha2.symm,rfl,by omega⟩ (by simp [Nat.add_assoc]) (by decide) (a0a.refl _) (a0a.refl _) (by decide) (by simp;omega) fun u2 n2 g2 h2=>?_
   simp only [go_sem,a0B,a12,a3a]
   rw [ha3]
   refine⟨⟨.inr (.inl rfl),hw1,hw2,by omega⟩,a3K (by simp [Nat.add_assoc]) (by decide) (a0a.refl _) (a0a.refl _) (by decide) (by simp;omega) fun u3 n3 g3 h3=>?_⟩
   simp only [go_sem,a0B,a12,a3a]
   refine b1x ⟨b,rfl,ha4.symm,rfl,by omega⟩ (by simp [Nat.add_assoc]) (by decide) (a0a.refl _) (a0a.refl _) (by decide) (by simp;omega) fun u4 n4 g4 h4=>?_
   simp only [go_sem,a0B,a12,a3a,ha5]
   refine⟨⟨.inr (.inr (.inl rfl)),hw1,hw2⟩,a3K (by simp [Nat.add_assoc]) (by decide) (a0a.refl _) (a0a.refl _) (by decide) (by simp;omega) fun u5 n5 g5 h5=>?_⟩
   simp only [go_sem,a0B,a12,a3a]
   refine b1x ⟨r,rfl,ha6.symm,rfl,by omega⟩ (by simp [Nat.add_assoc]) (by decide) (a0a.refl _) (a0a.refl _) (by decide) (by simp;omega) fun u6 n6 g6 h6=>?_
   simp only [go_sem,a0B,a12,a3a,ha7]
   refine⟨⟨.inr (.inr (.inr rfl)),hw1,hw2,by omega⟩,a3K (by simp [Nat.add_assoc]) (by decide) (a0a.refl _) (a0a.refl _) (by decide) (by simp;omega) fun u7 n7 g7 h7=>?_⟩
   simp only [go_sem,a0B,a12,a3a]
   refine⟨_,a0g (fun p=>p) (l:=[]) (r:=[(0,.box v 138 2 (a7w true 0 v 1 u7 (l++(a1++a2++a3++a4++a5++a6++a7)).length)),(1,a0m u7 (l++(a1++a2++a3++a4++a5++a6++a7)))]) (sz:=53) (top:=2) (nx:=n7) (df:=[]) ?_,?_⟩
   ·simp only [go_sem,a0B,a12,a3a]
    exact⟨a97 (by simp [Nat.add_assoc]),b0Y (by simp)⟩
   ·simp only [go_sem,a0B,a12,a3a]
    have:=hK u7 n7 (by omega) (by omega)
    simp only [List.length_append,a79,a9W] at this
    exact this
 | false=>
   have e0:(if false=true then a3++(a4++(a4N (61,a4P b,[]) w++(a6++a7))) else a4N (61,a4P lf,[]) w++(a6++a7))=a4N (61,a4P lf,[]) w++(a6++a7):=if_neg (by simp)
   rw [e0] at hl hK
   generalize ha5:a4N (61,a4P lf,[]) w=a5 at *
   rw [show a1++(a2++(a5++(a6++a7)))=a1++a2++a5++a6++a7 by simp only [List.append_assoc]] at hl hK
   have hl:l.length+a1.length+a2.length+a5.length+a6.length+a7.length<=100000000000:=by
    simp only [List.length_append] at hl
    omega
   refine⟨⟨.inl rfl,hw1,hw2,by omega⟩,a3K rfl (by decide) (a0a.refl _) (a0a.refl _) (by decide) (by omega) fun u1 n1 g1 h1=>?_⟩
   simp only [go_sem,a0B,a12,a3a]
   refine b1x ⟨lf,rfl,ha2.symm,rfl,by omega⟩ (by simp) (by decide) (a0a.refl _) (a0a.refl _) (by decide) (by simp;omega) fun u2 n2 g2 h2=>?_
   simp only [go_sem,a0B,a12,a3a,ha5]
   refine⟨⟨.inr (.inr (.inl rfl)),hw1,hw2⟩,a3K (by simp [Nat.add_assoc]) (by decide) (a0a.refl _) (a0a.refl _) (by decide) (by simp;omega) fun u5 n5 g5 h5=>?_⟩
   simp only [go_sem,a0B,a12,a3a]
   refine b1x ⟨r,rfl,ha6.symm,rfl,by omega⟩ (by simp [Nat.add_assoc]) (by decide) (a0a.refl _) (a0a.refl _) (by decide) (by simp;omega) fun u6 n6 g6 h6=>?_
   simp only [go_sem,a0B,a12,a3a,ha7]
   refine⟨⟨.inr (.inr (.inr rfl)),hw1,hw2,by omega⟩,a3K (by simp [Nat.add_assoc]) (by decide) (a0a.refl _) (a0a.refl _) (by decide) (by simp;omega) fun u7 n7 g7 h7=>?_⟩
   simp only [go_sem,a0B,a12,a3a]
   refine⟨_,a0g (fun p=>p) (l:=[]) (r:=[(0,.box v 138 2 (a7w true 0 v 1 u7 (l++(a1++a2++a5++a6++a7)).length)),(1,a0m u7 (l++(a1++a2++a5++a6++a7)))]) (sz:=53) (top:=2) (nx:=n7) (df:=[]) ?_,?_⟩
   ·simp only [go_sem,a0B,a12,a3a]
    exact⟨a97 (by simp [Nat.add_assoc]),b0Y (by simp)⟩
   ·simp only [go_sem,a0B,a12,a3a]
    have:=hK u7 n7 (by omega) (by omega)
    simp only [List.length_append,a79,a9W] at this
    exact this
def a1T:a0L:=a1F b7w
theorem c4q:a0i Tryz.prog 127 a1T:=c1i.frame
def a1z (w:Int) (d:List Pt):BS:=(d.map (a42 w)).flatten
theorem b5v (w:Int) (l:List Pt) (p:Pt):a1z w (l++[p])=a1z w l++a42 w p:=by simp [a1z]
theorem b6f (w:Int) (d:List Pt) (i:Nat):(a1z w (d.take i)).length<=(a1z w d).length:=by
 have h:a1z w d=a1z w (d.take i)++a1z w (d.drop i):=by
  unfold a1z
  rw [<-List.flatten_append,<-List.map_append,List.take_append_drop]
 rw [h,List.length_append]
 omega
theorem c3A {d:List Pt} {i:Nat} (h:a3n d=true) (hi:i<d.length) (hh:hkP (d.getD i ePt.dflt)=false):a0C (d.getD i ePt.dflt)=true/\txP (d.getD i ePt.dflt)≠[]:=by
 have h1:=of_decide_eq_true h i hi
 unfold b9V at h1
 simp only [Bool.and_eq_true,Bool.or_eq_true] at h1
 rcases h1.2 with h2|h2
 ·unfold a4e at h2
  simp only [Bool.and_eq_true] at h2
  rw [show hkP (d.getD i ePt.dflt)=(d.getD i ePt.dflt).2.2.2.1 from rfl] at hh
  rw [h2.1] at hh
  cases hh
 ·unfold a45 at h2
  simp only [Bool.and_eq_true,decide_eq_true_eq] at h2
  exact⟨h2.1,h2.2.1⟩
theorem c2o {w:Int} {d:List Pt} (hw:a5q w=true) (h:a3n d=true) (h0:d≠[]):a1z w d≠[]:=by
 have hi:0<d.length:=List.length_pos_iff.2 h0
 have hn:a42 w (d.getD 0 ePt.dflt)≠[]:=by
  unfold a42
  cases hh:hkP (d.getD 0 ePt.dflt) with
  | true=>
    rw [if_pos rfl]
    have hw2:=a6H.1 hw
    obtain⟨n,hn⟩:∃ n,w.toNat=n+1:=⟨w.toNat-1,by omega⟩
    unfold a4N
    rw [hn,List.replicate_succ]
    simp
  | false=>
    rw [if_neg (by simp)]
    exact (c3A h hi hh).2
 cases d with
 | nil=>exact absurd rfl h0
 | cons p d=>
   intro e
   unfold a1z at e
   simp only [List.map_cons,List.flatten_cons,List.append_eq_nil_iff] at e
   exact hn e.1
def printR (d:List Pt) (w:Int):BS×Int:=if a5q w=false then ([],4) else if a3n d=false then ([],11) else if a7G d w=false then ([],4) else (a1z w d,0)
def a1s:a0s:=a0s.f2 (kL ePt) kI (fun d w=>(d.length<100000000/\∀ p∈d,b7a p)/\(a5q w=true->(a1z w d).length<=90000000000)) (fun d w=>tu2 (kS.enc (printR d w).1) (kI.enc (printR d w).2))
theorem b6E:a0d Tryz.prog 75 a1s:=by
 refine a0d.f2 Tryz.func75 rfl (by decide) Tryz.results75 Tryz.ntmps75 (by decide) fun d w ⟨⟨hd1,hd2⟩,hd3⟩=>?_
 have hΓ:GOK Tryz.prog (gam [(124,a06),(125,a0X),(126,a2G),(127,a1T),(88,a0B),(92,b0A)]):=(.cons b4q (.cons b2T (.cons d0I (.cons c4q (.cons b2c (.cons d29 .nil))))))
 unfold printR
 by_cases hw:a5q w=false
 ·refine AW.of hΓ mixed [] _ _ _ rfl ?_
  simp only [go_sem,a06,a0X,a2G,a1T,a0B,b0A,hw]
 have hw':a5q w=true:=by simpa using hw
 have hw2:=a6H.1 hw'
 rw [if_neg hw]
 by_cases hr:a3n d=false
 ·refine AW.of hΓ mixed [] _ _ _ rfl ?_
  simp only [go_sem,a06,a0X,a2G,a1T,a0B,b0A,hw',hr]
  exact⟨hd1,hd2⟩
 have hr':a3n d=true:=by simpa using hr
 rw [if_neg hr]
 by_cases hf:a7G d w=false
 ·refine AW.of hΓ mixed [] _ _ _ rfl ?_
  simp only [go_sem,a06,a0X,a2G,a1T,a0B,b0A,hw',hr',hf]
  exact⟨hd1,hd2⟩
 have hf':a7G d w=true:=by simpa using hf
 rw [if_neg hf]
 refine AW.of hΓ mixed [0] _ _ _ rfl ?_
 simp only [go_sem,a06,a0X,a2G,a1T,a0B,b0A]
 refine AW.seqTo (fun _:Unit=>Sh.st ⟨[(0,sL ePt d),(1,.val (.int .i64 w))],[],38,0,0,[]⟩) ?_ fun _=>?_
 ·refine AW.of hΓ mixed [] _ _ _ rfl ?_
  simp only [go_sem,a06,a0X,a2G,a1T,a0B,b0A,hw',hr',hf']
  refine⟨⟨hd1,hd2⟩,⟨hd1,hd2⟩,(),a2D ?_⟩
  simp only [go_sem,a06,a0X,a2G,a1T,a0B,b0A]
 refine AW.fork (AW.regionO hΓ [true] ?_)
 simp only [go_sem,a06,a0X,a2G,a1T,a0B,b0A]
 refine b3l rfl b5g (Nat.lt_of_lt_of_le (by decide:6<38) (Nat.le_refl _)) ?_
 simp only [go_sem,a06,a0X,a2G,a1T,a0B,b0A]
 by_cases h0:d=[]
 ·subst h0
  refine AW.cut ⟨[(0,sL ePt []),(1,.val (.int .i64 w)),(6,.pt 0 0 0)],[(0,.box 0 138 2 d8x)],38,1,1,[]⟩ ?_ ?_
  ·simp only [go_sem,a06,a0X,a2G,a1T,a0B,b0A]
   refine a0a.box fun j hj=>?_
   match j,hj with
   | 0,_=>exact a0e.refl _
   | 1,_=>exact a0e.refl _
  refine AW.of hΓ mixed [] _ _ _ rfl ?_
  simp only [go_sem,a06,a0X,a2G,a1T,a0B,b0A]
  refine AW.round (α:=Nat) (fun nx=>⟨[(6,.pt 0 0 0),(22,sL ePt []),(23,.val (.int .i64 0)),(24,.val (.int .i64 0))],[(0,.box 0 138 2 d8x)],38,1,nx,[]⟩) (fun _=>0) 1 ?_ ?_
  ·simp only [go_sem,a06,a0X,a2G,a1T,a0B,b0A]
   exact a0a.refl _
  ·intro nx
   refine AW.of hΓ mixed [99999] _ _ _ rfl ?_
   simp only [go_sem,a06,a0X,a2G,a1T,a0B,b0A]
   exact .inr ⟨0,0,rfl,rfl,rfl⟩
 ·refine AW.cut ⟨[(0,sL ePt d),(1,.val (.int .i64 w)),(6,.pt 0 0 0)],[(0,.box 0 138 2 fun j=>if j=0 then .val (.pointer none) else .em)],38,1,1,[]⟩ ?_ ?_
  ·simp only [go_sem,a06,a0X,a2G,a1T,a0B,b0A]
   refine a0a.box fun j hj=>?_
   match j,hj with
   | 0,_=>exact a0e.refl _
   | 1,_=>exact d3U
  refine AW.adoptB (q:=0) 1 5 1 (a2j []) rfl rfl ?_
  refine AW.cut ⟨[(0,sL ePt d),(1,.val (.int .i64 w)),(6,.pt 0 0 0)],[(0,.box 0 138 2 (a7w false 0 0 1 1 0)),(1,a0m 1 [])],38,2,2,[]⟩ ?_ ?_
  ·simp only [go_sem,a06,a0X,a2G,a1T,a0B,b0A]
   refine⟨a0a.box fun j hj=>?_,a0a.refl _⟩
   match j,hj with
   | 0,_=>exact a0e.refl _
   | 1,_=>exact a0e.refl _
  refine AW.of hΓ mixed [] _ _ _ rfl ?_
  simp only [go_sem,a06,a0X,a2G,a1T,a0B,b0A]
  refine AW.round (α:={ x:Nat×Bool×Nat×Nat // x.1<=d.length })
   (fun x=>⟨[(1,.val (.int .i64 w)),(6,.pt 0 0 0),(22,sL ePt d),(23,.val (.int .i64 d.length)),(24,.val (.int .i64 x.1.1))],
    [(0,.box 0 138 2 (a7w x.1.2.1 0 0 1 x.1.2.2.1 (a1z w (d.take x.1.1)).length)),(1,a0m x.1.2.2.1 (a1z w (d.take x.1.1)))],38,2,x.1.2.2.2,[]⟩) (fun x=>d.length-x.1.1) ⟨(0,false,1,2),Nat.zero_le _⟩ ?_ ?_
  ·simp only [go_sem,a06,a0X,a2G,a1T,a0B,b0A]
   exact⟨a0a.refl _,a0a.refl _⟩
  ·rintro⟨⟨i,f,u,nx⟩,hi⟩
   simp only at hi
   refine AW.of hΓ mixed [10,99999] _ _ _ rfl ?_
   simp only [go_sem,a06,a0X,a2G,a1T,a0B,b0A]
   refine⟨fun hlt=>⟨by omega,?_⟩,fun hge=>?_⟩
   ·have hlt':i<d.length:=by omega
    have hpi:b7a (d.getD i ePt.dflt):=by
     rw [a1e d _ hlt']
     exact hd2 _ (List.getElem_mem _)
    have hcf:=c3A (i:=i) hr' hlt'
    have hsn:=b5v w (d.take i) (d.getD i ePt.dflt)
    rw [<-a2Q d ePt.dflt hlt'] at hsn
    have htl:=b6f w d (i+1)
    have hd3:=hd3 hw'
    rw [hsn,List.length_append] at htl
    generalize hpe:d.getD i ePt.dflt=p at *
    refine AW.cut ⟨[(1,.val (.int .i64 w)),(6,.pt 0 0 0),(8,.pt 2 nx 0),(22,sL ePt d),(23,.val (.int .i64 d.length)),(24,.val (.int .i64 i))],
     [(0,.box 0 138 2 (a7w f 0 0 1 u (a1z w (d.take i)).length)),(1,a0m u (a1z w (d.take i))),(2,.box nx 179 9 (ePt.enc p))],38,3,nx+1,[]⟩ ?_ ?_
    ·simp only [go_sem,a06,a0X,a2G,a1T,a0B,b0A]
     exact⟨a0a.refl _,a0a.refl _,a0a.box fun j hj=>a0e.of_eq (a9T (Nat.zero_le _) (by omega))⟩
    refine AW.still 8 2 nx 179 9 _ rfl rfl (fun j hj=>match j,hj with|0,_=>rfl|1,_=>rfl|2,_=>rfl|3,_=>rfl|4,_=>rfl|5,_=>rfl|6,_=>rfl|7,_=>rfl|8,_=>rfl) ?_
    generalize hte:a1z w (d.take i)=t at *
    refine AW.of hΓ mixed [99999] _ _ _ rfl ?_
    simp only [go_sem,a06,a0X,a2G,a1T,a0B,b0A,c3s]
    refine⟨fun hc=>?_,fun hc=>?_⟩
    ·refine b1x ⟨p,w,rfl,rfl,rfl,hc,hpi,by omega,by omega⟩ rfl (by decide) (a0a.refl _) (a0a.refl _) (by decide) (by omega) fun u1 n1 g1 h1=>?_
     simp only [go_sem,a06,a0X,a2G,a1T,a0B,b0A]
     refine⟨by omega,⟨(i+1,true,u1,n1),by dsimp only;omega⟩,⟨Nat.le_refl _,by dsimp only;omega,a97 ?_,b0Y ?_⟩,by dsimp only;omega⟩
     ·dsimp only
      rw [hsn,List.length_append]
     ·dsimp only
      rw [hsn]
    ·have htx:a42 w p=p.2.2.2.2.1:=if_neg (by rw [show hkP p=p.2.2.2.1 from rfl,hc];simp)
     rw [htx] at htl hsn
     refine a3K rfl (by decide) (a0a.refl _) (a0a.refl _) (by decide) (by omega) fun u1 n1 g1 h1=>?_
     simp only [go_sem,a06,a0X,a2G,a1T,a0B,b0A]
     refine⟨by omega,⟨(i+1,true,u1,n1),by dsimp only;omega⟩,⟨Nat.le_refl _,by dsimp only;omega,a97 ?_,b0Y ?_⟩,by dsimp only;omega⟩
     ·dsimp only
      rw [hsn,List.length_append]
     ·dsimp only
      rw [hsn]
   ·obtain rfl:i=d.length:=by omega
    rw [List.take_length]
    refine .inl ⟨f,0,0,1,u,a1z w d,rfl,rfl,rfl,c2o hw' hr' h0,by have:=hd3 hw';omega,rfl⟩
end Go.Proofs.YthpjjjnbkfnghaaGreatDoor
set_option maxRecDepth 100000
set_option maxHeartbeats 2000000
namespace Go.Proofs.YthpjjjnbkfnghaaGreatDoor
open Go
attribute [local irreducible] AW a0e a1g a0a
theorem c6R (l:List BS):(List.range l.length).map (fun i=>l.getD i [])=l:=by
 refine a1C [] (by simp) fun t ht=>?_
 simp at ht
 simp [List.getD,ht]
def c7W:a0L:=fun args hp top nx K=>∃ (d:List Pt) (v:Nat) (ts:List BS) (u:Nat),args=[.ow 0 v d.length,.ow 1 u ts.length]/\hp=rws [(0,a05 v 179 ePt d),(1,a05 u 9 eS ts)]/\top=2/\d.length<100000000/\b6H ts/\
 ∀ v' nx',(v'=v\/nx<=v')->nx<=nx'->K (.ow 0 v' (a4O d ts).length) (rws [(0,a05 v' 179 ePt (a4O d ts)),(1,a05 u 9 eS ts)]) 2 nx'
theorem d0T:a0i Tryz.prog 179 c7W:=by
 refine a0i.mk Tryz.func179 rfl (by decide) Tryz.results179 Tryz.ntmps179 ?_
 rintro args hp top nx K ⟨d,v,ts,u,rfl,rfl,rfl,hl,hts,hK⟩
 have hΓ:GOK Tryz.prog (gam [(53,a4L)]):=(.cons c26 .nil)
 refine⟨Nat.le_of_ble_eq_true rfl,AW.late ?_⟩
 refine AW.of hΓ mixed [99999] _ _ _ rfl ?_
 simp only [go_sem,a4L,c6R]
 refine⟨hts,fun h=>⟨by omega,?_⟩,fun h=>?_⟩
 ·have e:a4O d ts=d++[a1n ts.flatten]:=if_neg h
  refine⟨_,a0g (fun p=>p) (l:=[(4,.ow 0 nx (d.length+1))]) (r:=[(0,a05 nx 179 ePt (a4O d ts)),(1,a05 u 9 eS ts)]) (sz:=16) (top:=2) (nx:=nx+1) (df:=[]) ?_,?_⟩
  ·rw [e]
   simp only [go_sem,a4L]
   refine⟨a1B (E:=ePt) rfl rfl rfl rfl (by simp) fun j hj=>?_,a0a.refl _⟩
   match j,hj with
   | 0,_=>exact a0e.refl _
   | 1,_=>exact a0e.refl _
   | 2,_=>exact a0e.refl _
   | 3,_=>exact a0e.refl _
   | 4,_=>exact a0e.refl _
   | 5,_=>exact a0e.refl _
   | 6,_=>exact a0e.refl _
   | 7,_=>exact a0e.refl _
   | 8,_=>exact a0e.refl _
  ·simp only [go_sem,a4L]
   have:=hK nx (nx+1) (.inr (Nat.le_refl _)) (by omega)
   rwa [show (a4O d ts).length=d.length+1 by rw [e];simp] at this
 ·have e:a4O d ts=d:=if_pos (Decidable.not_not.1 h)
  refine⟨_,a1g.refl _,?_⟩
  simp only [go_sem,a4L]
  have:=hK v nx (.inl rfl) (Nat.le_refl _)
  rwa [e] at this
def a7P:a0L:=a1F c7W
theorem d3S:a0i Tryz.prog 179 a7P:=d0T.frame
theorem c43 {hp:Nat->Row} {p q:Nat} {r s:Row} (h:a0a (hp p) r) (h2:a0a (hp q) s):∀ (i o:Nat),[p,q][i]?=some o->a0a (hp o) (rws [(0,r),(1,s)] i):=by
 intro i o hq
 match i with
 | 0=>
   simp only [List.getElem?_cons_zero,Option.some.injEq] at hq
   subst hq
   exact h
 | 1=>
   simp only [List.getElem?_cons_succ,List.getElem?_cons_zero,Option.some.injEq] at hq
   subst hq
   exact h2
 | i+2=>simp at hq
theorem c2c {d:List Pt} {ts:List BS} {p q v u n m:Nat} {hp:Nat->Row} {top nx:Nat} {K:AV->(Nat->Row)->Nat->Nat->Prop} (hn:n=d.length) (hm:m=ts.length) (hpq:p≠q)
  (hr:a0a (hp p) (a05 v 179 ePt d)) (hr2:a0a (hp q) (a05 u 9 eS ts)) (ht:p<top/\q<top) (hl:d.length<100000000) (hts:b6H ts)
  (hK:∀ v' nx',nx<=nx'->K (.ow p v' (a4O d ts).length) (a0S (a0S hp p (a05 v' 179 ePt (a4O d ts))) q (a05 u 9 eS ts)) top nx') :
  a7P [.ow p v n,.ow q u m] hp top nx K:=by
 subst hn hm
 have e1:(hp p).ver=some v:=hr.vers.symm
 have e2:(hp q).ver=some u:=hr2.vers.symm
 refine⟨[p,q],[.ow 0 v d.length,.ow 1 u ts.length],rws [(0,a05 v 179 ePt d),(1,a05 u 9 eS ts)],by simp [hpq],by simp;omega,.cons a0e.ow (.cons a0e.ow .nil),c43 hr hr2,fun i hi=>a1Y (top:=2) (by simp) i (by simpa using hi),d,v,ts,u,rfl,rfl,rfl,hl,hts,fun v' nx' h1 h3=>?_⟩
 refine⟨.ow p v' (a4O d ts).length,_,a0e.ow,fun i o ho=>?_,fun o ho=>?_,fun o ho w hv=>?_,hK v' nx' h3⟩
 ·match i with
  | 0=>
    simp only [List.getElem?_cons_zero,Option.some.injEq] at ho
    subst ho
    rw [a0f _ _ hpq,a0k]
    exact a0a.refl _
  | 1=>
    simp only [List.getElem?_cons_succ,List.getElem?_cons_zero,Option.some.injEq] at ho
    subst ho
    rw [a0k]
    exact a0a.refl _
  | i+2=>simp at ho
 ·simp only [List.mem_cons,List.not_mem_nil,or_false,not_or] at ho
  rw [a0f _ _ ho.2,a0f _ _ ho.1]
 ·simp only [List.mem_cons,List.not_mem_nil,or_false] at ho
  rcases ho with rfl|rfl
  ·rw [a0f _ _ hpq,a0k] at hv
   have:some v'=some w:=hv
   obtain rfl:=Option.some.inj this
   rcases h1 with rfl|h1
   ·exact .inl e1
   ·exact .inr h1
  ·rw [a0k] at hv
   have:some u=some w:=hv
   obtain rfl:=Option.some.inj this
   exact .inl e2
theorem b7i (d:List Pt) (ts:List BS):(a4O d ts).length<=d.length+ts.length:=by
 unfold a4O
 split
 ·omega
 ·rename_i h
  have:0<ts.length:=List.length_pos_iff.2 fun e=>h (by rw [e];rfl)
  simp only [List.length_append,List.length_cons,List.length_nil]
  omega
def a4Q:a0s:=a0s.f1 (kL ePt) (fun l=>l.length<100000000/\a3X l<=1000000000) (fun l=>sL ePt (ofD l))
theorem d0s:a0d Tryz.prog 134 a4Q:=by
 refine a0d.f1 Tryz.func134 rfl (by decide) Tryz.results134 Tryz.ntmps134 (by decide) fun l ⟨hl,hs⟩=>?_
 have hΓ:GOK Tryz.prog (gam [(178,a3f),(179,a7P)]):=(.cons b6u (.cons d3S .nil))
 refine AW.of hΓ mixed [2,200008] _ _ _ rfl ?_
 simp only [go_sem,a3f,a7P]
 refine AW.adopt 3 179 9 (fun i=>ePt.enc (([]:List Pt).getD i ePt.dflt)) rfl ?_
 refine AW.adopt 4 9 1 (fun i=>eS.enc (([]:List BS).getD i [])) rfl ?_
 refine AW.of hΓ mixed [3,200008] _ _ _ rfl ?_
 simp only [go_sem,a3f,a7P]
 refine AW.block (AW.roundL (α:={ x:Nat×List Pt×List BS×Nat×Nat×Nat // x.1<=l.length/\ofD l=c7L (l.drop x.1) x.2.1 x.2.2.1/\x.2.1.length+x.2.2.1.length<=x.1/\x.2.2.1.length<=x.1/\x.2.2.1.flatten.length<=a3X (l.take x.1) })
  (fun x=>(Sh.mk [(3,.ow 0 x.1.2.2.2.1 x.1.2.1.length),(4,.ow 1 x.1.2.2.2.2.1 x.1.2.2.1.length),(7,sL ePt l),(8,.val (.int .i64 l.length)),(9,.val (.int .i64 x.1.1))]
   [(0,a05 x.1.2.2.2.1 179 ePt x.1.2.1),(1,a05 x.1.2.2.2.2.1 9 eS x.1.2.2.1)] 30 2 x.1.2.2.2.2.2 []).st) (fun x=>l.length-x.1.1) ⟨(0,[],[],0,1,2),Nat.zero_le _,rfl,by simp,by simp,by simp⟩ ?_ ?_)
 ·refine Sh.fitsV.le (σ:=fun p=>p) ?_
  simp only [go_sem,a3f,a7P]
  exact⟨a0a.refl _,a0a.refl _⟩
 ·rintro⟨⟨i,d,ts,v,u,nx⟩,hi,he,hd,ht,hs2⟩
  simp only at hi he hd ht hs2
  refine AW.of hΓ mixed [5,99999,200008] _ _ _ rfl ?_
  simp only [go_sem,a3f,a7P]
  have hst:=b3G l i
  refine⟨fun hil=>⟨by omega,?_⟩,fun hil=>?_⟩
  ·have hlt:i<l.length:=by omega
   have hdr:l.drop i=l.getD i ePt.dflt::l.drop (i+1):=by
    rw [List.drop_eq_getElem_cons hlt,<-a1e l ePt.dflt hlt]
   have hsum:a3X (l.take (i+1))=a3X (l.take i)+(txP (l.getD i ePt.dflt)).length:=by
    rw [a2Q l ePt.dflt hlt,a2X,a2W]
   have hst1:=b3G l (i+1)
   rw [hdr,c7L] at he
   generalize hpe:l.getD i ePt.dflt=p at *
   refine AW.cut ⟨[(3,.ow 0 v d.length),(4,.ow 1 u ts.length),(6,.pt 2 nx 0),(7,sL ePt l),(8,.val (.int .i64 l.length)),(9,.val (.int .i64 i))],
    [(0,a05 v 179 ePt d),(1,a05 u 9 eS ts),(2,.box nx 179 9 (ePt.enc p))],30,3,nx+1,[]⟩ ?_ ?_
   ·simp only [go_sem,a3f,a7P]
    exact⟨a0a.refl _,a0a.refl _,a0a.box fun j hj=>a0e.of_eq (a9T (Nat.zero_le _) (by omega))⟩
   refine AW.still 6 2 nx 179 9 _ rfl rfl (fun j hj=>match j,hj with|0,_=>rfl|1,_=>rfl|2,_=>rfl|3,_=>rfl|4,_=>rfl|5,_=>rfl|6,_=>rfl|7,_=>rfl|8,_=>rfl) ?_
   refine AW.of hΓ mixed [99999,200008] _ _ _ rfl ?_
   simp only [go_sem,a3f,a7P,c3s]
   refine⟨fun hp=>⟨by omega,by omega,⟨(i+1,d,ts++[txP p],v,nx+1,nx+1+1),by dsimp only;omega,?_,by simp;omega,by simp;omega,?_⟩,?_,by dsimp only;omega⟩,fun hp=>?_⟩
   ·dsimp only
    rw [he,if_pos hp]
   ·dsimp only
    rw [hsum,List.flatten_append,List.length_append]
    exact Nat.add_le_add hs2 (by simp)
   ·refine a0g (fun p=>p) ?_
    simp only [go_sem,a3f,a7P]
    refine⟨by omega,a0a.refl _,?_⟩
    exact a1B (E:=eS) rfl rfl rfl rfl (by simp) fun j hj=>a0e.refl _
   ·rw [if_neg (by simp [hp])] at he
    refine AW.drawZ hΓ mixed 2 [3,4] [3,4] [] (by decide +kernel) ?_
    simp only [go_sem,a3f,a7P]
    have hwl:=b7i d ts
    refine c2c rfl rfl (by decide) (a0a.refl _) (a0a.refl _) (by decide) (by omega) ⟨by omega,by omega⟩ fun v1 n1 h1=>?_
    generalize a4O d ts=w at *
    simp only [go_sem,a3f,a7P]
    refine⟨by omega,by omega,⟨(i+1,w++[p],[],n1,n1+1,n1+2),by dsimp only;omega,he,by simp;omega,by simp,by simp⟩,?_,by dsimp only;omega⟩
    refine (a1g.adopt (s:=4) 9 1 (fun i=>eS.enc (([]:List BS).getD i [])) rfl).trans (a0g (fun p=>if p=1 then 3 else p) ?_)
    simp only [go_sem,a3f,a7P]
    exact⟨by omega,a1B (E:=ePt) rfl rfl rfl rfl (by simp) fun j hj=>a0e.refl _,a0a.refl _⟩
  ·obtain rfl:i=l.length:=by omega
   rw [List.drop_length,c7L] at he
   have hwl:=b7i d ts
   refine c2c rfl rfl (by decide) (a0a.refl _) (a0a.refl _) (by decide) (by omega) ⟨by omega,by omega⟩ fun v1 n1 h1=>?_
   generalize a4O d ts=w at *
   simp only [go_sem,a3f,a7P]
   rw [he]
   exact a4H (E:=ePt) rfl rfl rfl
end Go.Proofs.YthpjjjnbkfnghaaGreatDoor
set_option maxRecDepth 100000
set_option maxHeartbeats 2000000
namespace Go.Proofs.YthpjjjnbkfnghaaGreatDoor
open Go
attribute [local irreducible] AW a0e a1g a0a
def a3V (p:Pt):Nat:=p.2.2.2.2.1.length+p.2.2.2.2.2.1.length+p.2.2.2.2.2.2.1.length+p.2.2.2.2.2.2.2.1.length+p.1.length+p.2.1.length+p.2.2.1.length
def a3v (l:List Pt):Nat:=(l.map a3V).sum
theorem b0C (l:List Pt) (p:Pt):a3v (l++[p])=a3v l+a3V p:=by simp [a3v]
theorem c6u {l:List Pt} {p:Pt} (h:p∈l):a3V p<=a3v l:=by
 induction l with
 | nil=>cases h
 | cons t l ih=>
   have e:a3v (t::l)=a3V t+a3v l:=by simp [a3v]
   rcases List.mem_cons.1 h with rfl|h
   ·omega
   ·have:=ih h
    omega
end Go.Proofs.YthpjjjnbkfnghaaGreatDoor
set_option maxRecDepth 100000
set_option maxHeartbeats 2000000
namespace Go.Proofs.YthpjjjnbkfnghaaGreatDoor
open Go
attribute [local irreducible] AW a0e a1g a0a
theorem b1I (w:Int) (p:Pt):(a42 w p).length<=4*w.toNat+a3V p+15:=by
 obtain⟨ll,bl,rl,h,x,lf,b,r,hb⟩:=p
 unfold a42 a3V
 simp only [hkP,txP]
 have h1:=a6a (60,false,ll) w
 have h2:=a6a (124,a4P lf,bl) w
 have h3:=a6a (61,a4P b,[]) w
 have h4:=a6a (62,a4P r,rl) w
 have h5:=a6a (61,a4P lf,[]) w
 have h6:=a93 lf
 have h7:=a93 b
 have h8:=a93 r
 simp only at h1 h2 h3 h4 h5
 simp only [List.length_nil] at h3 h5
 by_cases hh:h=true
 ·rw [if_pos hh]
  by_cases hh2:hb=true
  ·rw [if_pos hh2]
   simp only [List.length_append]
   omega
  ·rw [if_neg hh2]
   simp only [List.length_append]
   omega
 ·rw [if_neg hh]
  omega
theorem a8F (w:Int):∀ (d:List Pt),(a1z w d).length<=d.length*(4*w.toNat+15)+a3v d
 | []=>by simp [a1z]
 | p::d=>by
   have h1:=a8F w d
   have h2:=b1I w p
   have e:a3v (p::d)=a3V p+a3v d:=by simp [a3v]
   have e2:a1z w (p::d)=a42 w p++a1z w d:=by simp [a1z]
   rw [e2,List.length_append,e,List.length_cons,Nat.succ_mul]
   omega
end Go.Proofs.YthpjjjnbkfnghaaGreatDoor
set_option maxRecDepth 100000
namespace Go.Proofs.YthpjjjnbkfnghaaGreatDoor
open Go
def a6O (a k:Int):Bool:=if k=60 then decide (a=0) else if k=124 then decide (a=60) else if k=61 then (decide (a=60)||decide (a=124)) else decide (a=61)
def b9E (c:Pt) (s:BS):Pt:=(c.1,c.2.1,c.2.2.1,c.2.2.2.1,c.2.2.2.2.1,s,c.2.2.2.2.2.2.1,c.2.2.2.2.2.2.2.1,c.2.2.2.2.2.2.2.2)
def c2M (c:Pt) (s:BS):Pt:=(c.1,c.2.1,c.2.2.1,c.2.2.2.1,c.2.2.2.2.1,c.2.2.2.2.2.1,s,c.2.2.2.2.2.2.2.1,c.2.2.2.2.2.2.2.2)
def b7T (c:Pt) (s:BS):Pt:=(c.1,c.2.1,c.2.2.1,c.2.2.2.1,c.2.2.2.2.1,c.2.2.2.2.2.1,c.2.2.2.2.2.2.1,s,c.2.2.2.2.2.2.2.2)
def c2E (c:Pt) (s:BS):Pt:=(c.1,s,c.2.2.1,c.2.2.2.1,c.2.2.2.2.1,c.2.2.2.2.2.1,c.2.2.2.2.2.2.1,c.2.2.2.2.2.2.2.1,true)
def b4z (c:Pt) (s:BS):Pt:=(c.1,c.2.1,s,c.2.2.2.1,c.2.2.2.2.1,c.2.2.2.2.2.1,c.2.2.2.2.2.2.1,c.2.2.2.2.2.2.2.1,c.2.2.2.2.2.2.2.2)
def b4i (a:Int) (sd:BS) (c:Pt):Pt:=if a=60 then b9E c sd else if a=124 then c2M c sd else if a=61 then b7T c sd else c
def b10 (a:Int) (m:Mk) (sd:BS) (c:Pt):Pt:=
 if m.1=60 then (m.2.2,[],[],true,[],[],[],[],false) else if m.1=124 then c2E (b4i a sd c) m.2.2 else if m.1=62 then b4z (b4i a sd c) m.2.2 else b4i a sd c
def a7n (a:Int) (m:Mk) (now sd:BS) (c:Pt) (ps:List Pt):List Pt:=
 if m.1=60 then ps++[a1n now] else if m.1=62 then ps++[b10 a m sd c] else ps
def b3g (m:Mk) (now:BS):Option BS:=if m.2.1=true then (if a5V now=[]\/a1d (a5V now)=true then none else some (a5V now)) else some now
def a1A (a:Int) (now:BS) (c:Pt) (ps:List Pt) (m:Mk):Int×Int×Pt×List Pt:=
 if m.1=60/\a≠0 then (7,a,c,ps) else if a6O a m.1=false then (8,a,c,ps) else match b3g m now with
  | none=>(9,a,c,ps)
  | some sd=>(0,if m.1=62 then 0 else m.1,b10 a m sd c,a7n a m now sd c ps)
def a82 (w:Int):List BS->Int->BS->Pt->List Pt->Nat->List Pt×Int×Int
 | [],a,now,_,ps,i=>if a≠0 then ([],10,(i:Int)+1) else (ofD (ps++[a1n now]),0,0)
 | l::ls,a,now,c,ps,i=>
   if (a1c l w).2.1=true then
    if (a1A a now c ps (a1c l w).1).1≠0 then ([],(a1A a now c ps (a1c l w).1).1,(i:Int)+1)
    else a82 w ls (a1A a now c ps (a1c l w).1).2.1 [] (a1A a now c ps (a1c l w).1).2.2.1 (a1A a now c ps (a1c l w).1).2.2.2 (i+1)
   else if (a1c l w).2.2≠0 then ([],(a1c l w).2.2,(i:Int)+1) else a82 w ls a (now++l) c ps (i+1)
def a2R (s:BS) (w:Int):List Pt×Int×Int:=if a5q w=false then ([],4,0) else a82 w (a0b s) 0 [] ePt.dflt [] 0
theorem b9f {a:BS} (b:BS) (h:a=[]\/a1d a=true):a0b (a++b)=a0b a++a0b b:=by
 induction a with
 | nil=>rfl
 | cons x a ih=>
   by_cases ha:a=[]
   ·subst ha
    have hx:x=10:=by
     rcases h with h|h
     ·cases h
     ·simpa [a1d] using h
    subst hx
    rfl
   ·have h':a1d a=true:=by
     rcases h with h|h
     ·cases h
     ·unfold a1d at h ⊢
      rw [List.getLast?_cons_of_ne_nil ha] at h
      exact h
    have:=ih (.inr h')
    rw [List.cons_append]
    simp only [a0b]
    by_cases hx:x=10
    ·rw [if_pos hx,if_pos hx,this]
     rfl
    ·rw [if_neg hx,if_neg hx,this]
     cases hs:a0b a with
     | nil=>
       have:=a1j a
       rw [hs] at this
       exact absurd this.symm ha
     | cons y ys=>rfl
theorem c1o {l:List BS} {x:BS} (h:x∈l):a6r x<=a4w l:=by
 have key:∀ (l:List BS) (n:Nat),(∀ x∈l,a6r x<=l.foldl (fun n x=>max n (a6r x)) n)/\n<=l.foldl (fun n x=>max n (a6r x)) n:=by
  intro l
  induction l with
  | nil=>intro n;exact⟨fun x h=>by simp at h,Nat.le_refl _⟩
  | cons y l ih=>
    intro n
    obtain⟨h1,h2⟩:=ih (max n (a6r y))
    refine⟨fun x hx=>?_,Nat.le_trans (Nat.le_max_left ..) h2⟩
    rcases List.mem_cons.1 hx with rfl|hx
    ·exact Nat.le_trans (Nat.le_max_right ..) h2
    ·exact h1 x hx
 exact (key l 0).1 x h
end Go.Proofs.YthpjjjnbkfnghaaGreatDoor
namespace Go.Proofs.YthpjjjnbkfnghaaGreatDoor
section
variable (a b:List Int)
def b8V (x:Int) (prev:Nat->Nat):Nat->Nat
 | 0=>0
 | k+1=>if x=b.getD k 0 then prev k+1 else max (prev (k+1)) (b8V x prev k)
def a3L:Nat->Nat->Nat
 | 0=>fun _=>0
 | i+1=>b8V b (a.getD i 0) (a3L i)
end
section
variable {a b:List Int}
theorem b1p (k:Nat):a3L a b 0 k=0:=rfl
theorem a7b (i:Nat):a3L a b i 0=0:=by cases i<;>rfl
theorem a5G {i k:Nat} (h:a.getD i 0=b.getD k 0):a3L a b (i+1) (k+1)=a3L a b i k+1:=by
 show b8V b (a.getD i 0) (a3L a b i) (k+1)=_
 rw [b8V,if_pos h]
theorem a55 {i k:Nat} (h:a.getD i 0≠b.getD k 0):a3L a b (i+1) (k+1)=max (a3L a b i (k+1)) (a3L a b (i+1) k):=by
 show b8V b (a.getD i 0) (a3L a b i) (k+1)=_
 rw [b8V,if_neg h]
 rfl
theorem a4R:∀ (n i k:Nat),i+k<=n->a3L a b i k<=a3L a b (i+1) k/\a3L a b (i+1) k<=a3L a b i k+1/\a3L a b i k<=a3L a b i (k+1)/\a3L a b i (k+1)<=a3L a b i k+1
 | n,i,k,hn=>by
   have hB:∀ i k,i+k<=n->a3L a b i k<=a3L a b i (k+1)/\a3L a b i (k+1)<=a3L a b i k+1:=by
    intro i k hik
    cases i with
    | zero=>simp [b1p]
    | succ i=>
      cases n with
      | zero=>omega
      | succ n=>
        have h1:=a4R n i k (by omega)
        by_cases h:a.getD i 0=b.getD k 0
        ·rw [a5G h];omega
        ·rw [a55 h];omega
   have hA:a3L a b i k<=a3L a b (i+1) k/\a3L a b (i+1) k<=a3L a b i k+1:=by
    cases k with
    | zero=>simp [a7b]
    | succ k=>
      cases n with
      | zero=>omega
      | succ n=>
        have h1:=a4R n i k (by omega)
        by_cases h:a.getD i 0=b.getD k 0
        ·rw [a5G h];omega
        ·have h2:=hB i k (by omega)
         rw [a55 h];omega
   exact⟨hA.1,hA.2,hB i k hn⟩
theorem a81 (i k:Nat):a3L a b i k<=a3L a b (i+1) k/\a3L a b (i+1) k<=a3L a b i k+1:=⟨(a4R _ i k (Nat.le_refl _)).1,(a4R _ i k (Nat.le_refl _)).2.1⟩
theorem a9X (i k:Nat):a3L a b i k<=a3L a b i (k+1)/\a3L a b i (k+1)<=a3L a b i k+1:=(a4R _ i k (Nat.le_refl _)).2.2
theorem c25 (i k:Nat):a3L a b (i+1) (k+1)<=a3L a b i k+1:=by
 by_cases h:a.getD i 0=b.getD k 0
 ·rw [a5G h];omega
 ·rw [a55 h]
  have:=a81 (a:=a) (b:=b) i k
  have:=a9X (a:=a) (b:=b) i k
  omega
theorem b2N (i k:Nat):a3L a b i k<=i/\a3L a b i k<=k:=by
 induction i with
 | zero=>simp [b1p]
 | succ i ih=>
   constructor
   ·have:=(a81 (a:=a) (b:=b) i k).2;omega
   ·clear ih
    induction k with
    | zero=>simp [a7b]
    | succ k ih=>have:=(a9X (a:=a) (b:=b) (i+1) k).2;omega
end
theorem a9R {c l:List Int} {z:Int} (h:c.Sublist (l++[z])):c.Sublist l\/∃ d,c=d++[z]/\d.Sublist l:=by
 rw [List.sublist_append_iff] at h
 obtain⟨c1,c2,rfl,h1,h2⟩:=h
 cases c2 with
 | nil=>exact .inl (by simpa using h1)
 | cons y r=>
   have hl:=h2.length_le
   simp only [List.length_cons,List.length_nil] at hl
   have hr:r=[]:=List.length_eq_zero_iff.1 (by omega)
   subst hr
   have hy:y=z:=by
    have:=h2.subset (List.mem_cons_self ..)
    simpa using this
   subst hy
   exact .inr ⟨c1,rfl,h1⟩
theorem a2e {l:List Int} {i:Nat} (h:i<l.length):l.take (i+1)=l.take i++[l.getD i 0]:=by
 rw [List.take_add_one,a1e _ _ h];simp [h]
section
variable {a b:List Int}
theorem a8d:∀ (n i k:Nat),i+k<=n->i<=a.length->k<=b.length->∀ c:List Int,c.Sublist (a.take i)->c.Sublist (b.take k)->c.length<=a3L a b i k
 | n,0,k,_,_,_,c,h1,_=>by simp at h1;simp [h1]
 | n,i+1,0,_,_,_,c,_,h2=>by simp at h2;simp [h2]
 | 0,i+1,k+1,hn,_,_,_,_,_=>by omega
 | n+1,i+1,k+1,hn,hi,hk,c,h1,h2=>by
   have h1':=h1
   have h2':=h2
   rw [a2e (by omega)] at h1 h2
   by_cases h:a.getD i 0=b.getD k 0
   ·rw [a5G h]
    have d1:c.dropLast.Sublist (a.take i):=by
     rcases a9R h1 with h|⟨d,rfl,h⟩
     ·exact (List.dropLast_sublist c).trans h
     ·simpa using h
    have d2:c.dropLast.Sublist (b.take k):=by
     rcases a9R h2 with h|⟨d,rfl,h⟩
     ·exact (List.dropLast_sublist c).trans h
     ·simpa using h
    have:=a8d n i k (by omega) (by omega) (by omega) _ d1 d2
    simp at this
    omega
   ·rw [a55 h]
    rcases a9R h1 with g1|⟨d,rfl,g1⟩
    ·have:=a8d n i (k+1) (by omega) (by omega) hk c g1 h2'
     omega
    ·rcases a9R h2 with g2|⟨e,he,g2⟩
     ·have:=a8d n (i+1) k (by omega) hi (by omega) _ h1' g2
      omega
     ·have:=List.append_inj' he rfl
      simp at this
      exact absurd this.2 h
theorem a6c:∀ (n i k:Nat),i+k<=n->i<=a.length->k<=b.length->∃ c:List Int,c.Sublist (a.take i)/\c.Sublist (b.take k)/\c.length=a3L a b i k
 | n,0,k,_,_,_=>⟨[],by simp,by simp,rfl⟩
 | n,i+1,0,_,_,_=>⟨[],by simp,by simp,by simp [a7b]⟩
 | 0,i+1,k+1,hn,_,_=>by omega
 | n+1,i+1,k+1,hn,hi,hk=>by
   by_cases h:a.getD i 0=b.getD k 0
   ·obtain⟨c,h1,h2,h3⟩:=a6c n i k (by omega) (by omega) (by omega)
    refine⟨c++[a.getD i 0],?_,?_,?_⟩
    ·rw [a2e (by omega)];exact h1.append (List.Sublist.refl _)
    ·rw [a2e (by omega),h];exact h2.append (List.Sublist.refl _)
    ·rw [a5G h];simp [h3]
   ·rw [a55 h]
    rcases Nat.le_total (a3L a b i (k+1)) (a3L a b (i+1) k) with g|g
    ·obtain⟨c,h1,h2,h3⟩:=a6c n (i+1) k (by omega) hi (by omega)
     refine⟨c,h1,?_,by omega⟩
     rw [a2e (by omega)]
     exact h2.trans (List.sublist_append_left _ _)
    ·obtain⟨c,h1,h2,h3⟩:=a6c n i (k+1) (by omega) (by omega) hk
     refine⟨c,?_,h2,by omega⟩
     rw [a2e (by omega)]
     exact h1.trans (List.sublist_append_left _ _)
end
def a4x (a b:List Int):Nat:=a3L a b a.length b.length
theorem a6G {a b c:List Int} (h1:c.Sublist a) (h2:c.Sublist b):c.length<=a4x a b:=
 a8d _ _ _ (Nat.le_refl _) (Nat.le_refl _) (Nat.le_refl _) c (by simpa using h1) (by simpa using h2)
theorem a3M (a b:List Int):∃ c:List Int,c.Sublist a/\c.Sublist b/\c.length=a4x a b:=by
 obtain⟨c,h1,h2,h3⟩:=a6c (a:=a) (b:=b) _ _ _ (Nat.le_refl _) (Nat.le_refl _) (Nat.le_refl _)
 exact⟨c,by simpa using h1,by simpa using h2,h3⟩
theorem a7u {a b:List Int} {v:Nat} (h:∃ c:List Int,c.Sublist a/\c.Sublist b/\c.length=v) (k:∀ c:List Int,c.Sublist a->c.Sublist b->c.length<=v):a4x a b=v:=by
 obtain⟨c,h1,h2,h3⟩:=h
 obtain⟨e,g1,g2,g3⟩:=a3M a b
 have:=a6G h1 h2
 have:=k e g1 g2
 omega
theorem c4W {a b:List Int} {i k:Nat} (hi:i<=a.length) (hk:k<=b.length):a3L a b i k=a4x (a.take i) (b.take k):=by
 refine (a7u ?_ ?_).symm
 ·exact a6c _ _ _ (Nat.le_refl _) hi hk
 ·exact a8d _ _ _ (Nat.le_refl _) hi hk
theorem b9z (a b:List Int):a4x a b=a4x b a:=by
 obtain⟨c,h1,h2,h3⟩:=a3M b a
 refine a7u ⟨c,h2,h1,h3⟩ fun c h1 h2=>a6G h2 h1
theorem a9t (a b:List Int):a4x a.reverse b.reverse=a4x a b:=by
 obtain⟨c,h1,h2,h3⟩:=a3M a b
 refine a7u ⟨c.reverse,h1.reverse,h2.reverse,by simpa using h3⟩ fun c h1 h2=>?_
 have:=a6G (c:=c.reverse) (by simpa using h1.reverse) (by simpa using h2.reverse)
 simpa using this
theorem a7l (a a' b b':List Int):a4x a b+a4x a' b'<=a4x (a++a') (b++b'):=by
 obtain⟨c,h1,h2,h3⟩:=a3M a b
 obtain⟨d,g1,g2,g3⟩:=a3M a' b'
 have:=a6G (h1.append g1) (h2.append g2)
 simp at this
 omega
theorem b2p (b:List Int):a4x [] b=0:=by
 refine a7u ⟨[],by simp,by simp,rfl⟩ fun c h1 _=>?_
 have:=h1.length_le
 simpa using this
theorem b97 (b:List Int):a4x b []=0:=by rw [b9z,b2p]
theorem c2R (a:List Int):a4x a a=a.length:=
 a7u ⟨a,List.Sublist.refl _,List.Sublist.refl _,rfl⟩ fun c h _=>h.length_le
theorem a5v (a b:List Int):a4x a b<=a.length/\a4x a b<=b.length:=b2N _ _
theorem c2v (x:Int) (a b:List Int):a4x (x::a) (x::b)=a4x a b+1:=by
 obtain⟨c,h1,h2,h3⟩:=a3M a b
 refine a7u ⟨x::c,h1.cons_cons x,h2.cons_cons x,by simp [h3]⟩ fun c h1 h2=>?_
 have t1:c.tail.Sublist a:=by
  cases c with
  | nil=>simp
  | cons y c=>
    rcases List.sublist_cons_iff.1 h1 with h|⟨r,e,h⟩
    ·exact (List.tail_sublist _).trans h
    ·injection e with _ e;subst e;exact h
 have t2:c.tail.Sublist b:=by
  cases c with
  | nil=>simp
  | cons y c=>
    rcases List.sublist_cons_iff.1 h2 with h|⟨r,e,h⟩
    ·exact (List.tail_sublist _).trans h
    ·injection e with _ e;subst e;exact h
 have:=a6G t1 t2
 simp at this
 omega
theorem b1q (p a b:List Int):a4x (p++a) (p++b)=p.length+a4x a b:=by
 induction p with
 | nil=>simp
 | cons x p ih=>simp only [List.cons_append,c2v,ih,List.length_cons];omega
theorem b0F (p a b:List Int):a4x (a++p) (b++p)=a4x a b+p.length:=by
 rw [<-a9t,List.reverse_append,List.reverse_append,b1q,a9t]
 simp;omega
end Go.Proofs.YthpjjjnbkfnghaaGreatDoor
namespace Go.Proofs.YthpjjjnbkfnghaaGreatDoor
section
variable (a b:List Int)
def dst (x y:Nat):Int:=(x:Int)+y-2*a3L a b x y
def onD (e:Nat) (k:Int) (x:Int):Prop:=0<=x/\k<=x/\x<=a.length/\x-k<=b.length/\dst a b x.toNat (x-k).toNat<e
def b1T (e:Nat) (k:Int) (v:Int):Prop:=(v=-1/\∀ x,¬onD a b e k x)\/(onD a b e k v/\∀ x,onD a b e k x->x<=v)
end
section
variable {a b:List Int}
theorem b3M (x y:Nat):dst a b (x+1) y<=dst a b x y+1/\dst a b x y<=dst a b (x+1) y+1:=by
 have:=a81 (a:=a) (b:=b) x y
 simp only [dst];omega
theorem b7h (x y:Nat):dst a b x (y+1)<=dst a b x y+1/\dst a b x y<=dst a b x (y+1)+1:=by
 have:=a9X (a:=a) (b:=b) x y
 simp only [dst];omega
theorem c5W (x y:Nat):dst a b x y<=dst a b (x+1) (y+1):=by
 have:=c25 (a:=a) (b:=b) x y
 simp only [dst];omega
theorem c7G {x y:Nat} (h:a.getD x 0=b.getD y 0):dst a b (x+1) (y+1)=dst a b x y:=by
 simp only [dst,a5G h];omega
theorem c6Y {x y:Nat} (h:a.getD x 0≠b.getD y 0):dst a b (x+1) (y+1)=dst a b x (y+1)+1\/dst a b (x+1) (y+1)=dst a b (x+1) y+1:=by
 simp only [dst,a55 h];omega
theorem b12 (x y:Nat):0<=dst a b x y:=by
 have:=b2N (a:=a) (b:=b) x y
 simp only [dst];omega
theorem c2T (x y:Nat):(x:Int)-y<=dst a b x y/\(y:Int)-x<=dst a b x y:=by
 have:=b2N (a:=a) (b:=b) x y
 simp only [dst];omega
theorem c8w (y:Nat):dst a b 0 y=y:=by simp [dst,b1p]
theorem c3D (x:Nat):dst a b x 0=x:=by simp [dst,a7b]
theorem c4u {e:Nat} {k x:Int} (h:onD a b e k (x+1)) (h0:0<=x) (hk:k<=x):onD a b e k x:=by
 obtain⟨h1,h2,h3,h4,h5⟩:=h
 refine⟨h0,hk,by omega,by omega,?_⟩
 have e1:(x+1).toNat=x.toNat+1:=by omega
 have e2:(x+1-k).toNat=(x-k).toNat+1:=by omega
 rw [e1,e2] at h5
 have:=c5W (a:=a) (b:=b) x.toNat (x-k).toNat
 omega
theorem b6p {e:Nat} {k:Int}:∀ (n:Nat) (x y:Int),(x-y).toNat<=n->y<=x->onD a b e k x->0<=y->k<=y->onD a b e k y
 | 0,x,y,hn,hy,h,_,_=>by
   have:y=x:=by omega
   subst this;exact h
 | n+1,x,y,hn,hy,h,h0,hk=>by
   rcases Int.lt_or_eq_of_le hy with g|g
   ·exact b6p n (x-1) y (by omega) (by omega) (c4u (by simpa using h) (by omega) (by omega)) h0 hk
   ·subst g;exact h
theorem c70 {e:Nat} {k x y:Int} (hy:y<=x) (h:onD a b e k x) (h0:0<=y) (hk:k<=y):onD a b e k y:=b6p _ x y (Nat.le_refl _) hy h h0 hk
theorem b0D {e:Nat} {k v x:Int} (h:b1T a b e k v) (hx:onD a b e k x):x<=v:=by
 rcases h with⟨_,h⟩|⟨_,h⟩
 ·exact absurd hx (h x)
 ·exact h x hx
theorem b2r {e:Nat} {k v:Int} (h:b1T a b e k v) (hv:0<=v):onD a b e k v:=by
 rcases h with⟨h,_⟩|⟨h,_⟩
 ·omega
 ·exact h
theorem c0o {e:Nat} {k v:Int} (h:b1T a b e k v):-1<=v:=by
 rcases h with⟨h,_⟩|⟨h,_⟩
 ·omega
 ·have:=h.1;omega
def a1o (a b:List Int) (u v k:Int):Int:=min (min (max (u+1) v) a.length) (b.length+k)
theorem b7Q {d:Nat} {k u v:Int} (hk:-(b.length:Int)<=k/\k<=a.length) (hd:-(d:Int)<=k/\k<=d) (hu:b1T a b d (k-1) u) (hv:b1T a b d (k+1) v) :
  0<=a1o a b u v k/\k<=a1o a b u v k/\a1o a b u v k<=a.length/\a1o a b u v k-k<=b.length/\onD a b (d+1) k (a1o a b u v k):=by
 have hu1:=c0o hu
 have hv1:=c0o hv
 have hup:0<k->k-1<=u:=fun h=>by
  refine b0D hu ⟨by omega,by omega,by omega,by omega,?_⟩
  have e:(k-1-(k-1)).toNat=0:=by omega
  rw [e,c3D]
  omega
 have h0:0<=a1o a b u v k:=by unfold a1o;omega
 have h1:k<=a1o a b u v k:=by
  rcases Int.lt_or_le 0 k with h|h
  ·have:=hup h;unfold a1o;omega
  ·omega
 have h2:a1o a b u v k<=a.length:=by unfold a1o;omega
 have h3:a1o a b u v k-k<=b.length:=by unfold a1o;omega
 refine⟨h0,h1,h2,h3,h0,h1,h2,h3,?_⟩
 rcases Int.le_total v (u+1) with hw|hw
 ·
  rcases Int.lt_or_le u 0 with hu0|hu0
  ·have hk0:k<=0:=by
    rcases Int.lt_or_le 0 k with h|h
    ·have:=hup h;omega
    ·exact h
   have e:a1o a b u v k=0:=by unfold a1o;omega
   rw [e]
   show dst a b 0 _<_
   rw [c8w]
   omega
  ·obtain⟨g1,g2,g3,g4,g5⟩:=b2r hu hu0
   rcases Int.lt_or_le u a.length with hn|hn
   ·have e:a1o a b u v k=u+1:=by unfold a1o;omega
    have e1:(u+1).toNat=u.toNat+1:=by omega
    have e2:(u+1-k).toNat=(u-(k-1)).toNat:=by omega
    rw [e,e1,e2]
    have:=(b3M (a:=a) (b:=b) u.toNat (u-(k-1)).toNat).1
    omega
   ·have e:a1o a b u v k=u:=by unfold a1o;omega
    have e2:(u-(k-1)).toNat=(u-k).toNat+1:=by omega
    rw [e]
    rw [e2] at g5
    have:=(b7h (a:=a) (b:=b) u.toNat (u-k).toNat).2
    omega
 ·
  obtain⟨g1,g2,g3,g4,g5⟩:=b2r hv (by omega)
  rcases Int.lt_or_le (v-k) (b.length+1) with hm|hm
  ·have e:a1o a b u v k=v:=by unfold a1o;omega
   have e2:(v-k).toNat=(v-(k+1)).toNat+1:=by omega
   rw [e,e2]
   have:=(b7h (a:=a) (b:=b) v.toNat (v-(k+1)).toNat).1
   omega
  ·have e:a1o a b u v k=v-1:=by unfold a1o;omega
   have e1:v.toNat=(v-1).toNat+1:=by omega
   have e2:(v-1-k).toNat=(v-(k+1)).toNat:=by omega
   rw [e,e2]
   rw [e1] at g5
   have:=(b3M (a:=a) (b:=b) (v-1).toNat (v-(k+1)).toNat).2
   omega
theorem b4t {e:Nat} {k x:Int} (h:onD a b e k x):∀ n:Nat,n<=ahd (a.drop x.toNat) (b.drop (x-k).toNat)->onD a b e k (x+n)
 | 0,_=>by simpa using h
 | n+1,hn=>by
   obtain⟨h1,h2,h3,h4,h5⟩:=b4t h n (by omega)
   have hs:=(a3Z (0:Int) (a.drop x.toNat) (b.drop (x-k).toNat)).1 n (by omega)
   have hl:=a65 (a.drop x.toNat) (b.drop (x-k).toNat)
   simp only [List.length_drop] at hl
   have hx:=h.1
   have hxk:=h.2.1
   have e0:((n+1:Nat):Int)=(n:Int)+1:=by omega
   have e1:(x+(n+1:Nat)).toNat=(x+n).toNat+1:=by omega
   have e2:(x+(n+1:Nat)-k).toNat=(x+n-k).toNat+1:=by omega
   refine⟨by omega,by omega,by omega,by omega,?_⟩
   rw [e1,e2,c7G]
   ·exact h5
   ·have g1:(a.drop x.toNat).getD n 0=a.getD (x+n).toNat 0:=by
     have:(x+n).toNat=x.toNat+n:=by omega
     simp [List.getD,this]
    have g2:(b.drop (x-k).toNat).getD n 0=b.getD (x+n-k).toNat 0:=by
     have:(x+n-k).toNat=(x-k).toNat+n:=by omega
     simp [List.getD,this]
    rw [<-g1,<-g2]
    exact hs
theorem c8p {d:Nat} {k u v:Int} (hk:-(b.length:Int)<=k/\k<=a.length) (hd:-(d:Int)<=k/\k<=d) (hu:b1T a b d (k-1) u) (hv:b1T a b d (k+1) v) :
  b1T a b (d+1) k (a1o a b u v k+ahd (a.drop (a1o a b u v k).toNat) (b.drop (a1o a b u v k-k).toNat)):=by
 obtain⟨h0,h1,h2,h3,h4⟩:=b7Q hk hd hu hv
 have hge:∀ x:Int,x<=a.length->x-k<=b.length->x<=u+1\/x<=v->x<=a1o a b u v k:=fun x g1 g2 g3=>by unfold a1o;omega
 generalize a1o a b u v k=x1 at *
 have hs:=b4t h4 _ (Nat.le_refl _)
 have hstop:=(a3Z (0:Int) (a.drop x1.toNat) (b.drop (x1-k).toNat)).2
 simp only [List.length_drop] at hstop
 generalize hsn:ahd (a.drop x1.toNat) (b.drop (x1-k).toNat)=s at *
 refine .inr ⟨hs,fun x hx=>?_⟩
 rcases Int.lt_or_le (x1+s) x with g|g
 ·exfalso
  have hn:=c70 (y:=x1+s+1) (by omega) hx (by omega) (by omega)
  obtain⟨p1,p2,p3,p4,p5⟩:=hn
  have hne:a.getD (x1+s).toNat 0≠b.getD (x1+s-k).toNat 0:=by
   have:=hstop (by omega) (by omega)
   have g1:(a.drop x1.toNat).getD s 0=a.getD (x1+s).toNat 0:=by
    have:(x1+s).toNat=x1.toNat+s:=by omega
    simp [List.getD,this]
   have g2:(b.drop (x1-k).toNat).getD s 0=b.getD (x1+s-k).toNat 0:=by
    have:(x1+s-k).toNat=(x1-k).toNat+s:=by omega
    simp [List.getD,this]
   rwa [g1,g2] at this
  have e1:(x1+s+1).toNat=(x1+s).toNat+1:=by omega
  have e2:(x1+s+1-k).toNat=(x1+s-k).toNat+1:=by omega
  rw [e1,e2] at p5
  rcases c6Y hne with q|q
  ·have:onD a b d (k-1) (x1+s):=⟨by omega,by omega,by omega,by omega,by
    have e3:(x1+s-(k-1)).toNat=(x1+s-k).toNat+1:=by omega
    rw [e3];omega⟩
   have:=b0D hu this
   have:=hge (x1+s+1) (by omega) (by omega) (.inl (by omega))
   omega
  ·have:onD a b d (k+1) (x1+s+1):=⟨by omega,by omega,by omega,by omega,by
    have e3:(x1+s+1-(k+1)).toNat=(x1+s-k).toNat:=by omega
    rw [e3,e1];omega⟩
   have:=b0D hv this
   have:=hge (x1+s+1) (by omega) (by omega) (.inr (by omega))
   omega
 ·exact g
theorem b9a {e:Nat} {k v:Int} (h:b1T a b e k v) (hp:(k-e) % 2≠0):b1T a b (e+1) k v:=by
 have key:∀ x,onD a b (e+1) k x->onD a b e k x:=by
  rintro x ⟨h1,h2,h3,h4,h5⟩
  refine⟨h1,h2,h3,h4,?_⟩
  have:dst a b x.toNat (x-k).toNat=2*x-k-2*a3L a b x.toNat (x-k).toNat:=by simp only [dst];omega
  omega
 rcases h with⟨h,g⟩|⟨h,g⟩
 ·exact .inl ⟨h,fun x hx=>g x (key x hx)⟩
 ·obtain⟨h1,h2,h3,h4,h5⟩:=h
  exact .inr ⟨⟨h1,h2,h3,h4,by omega⟩,fun x hx=>g x (key x hx)⟩
theorem a8z {e:Nat} {k:Int} (h:k < -(b.length:Int)\/(a.length:Int)<k\/(e:Int)<=k\/(e:Int)<=-k):b1T a b e k (-1):=by
 refine .inl ⟨rfl,?_⟩
 rintro x ⟨h1,h2,h3,h4,h5⟩
 have:=c2T (a:=a) (b:=b) x.toNat (x-k).toNat
 omega
end
end Go.Proofs.YthpjjjnbkfnghaaGreatDoor
namespace Go.Proofs.YthpjjjnbkfnghaaGreatDoor
def rch (m:Nat) (far:List Int) (k:Int):Int:=far.getD (k+m+1).toNat 0
def c3S (a b far:List Int) (k:Int):Option (Int×List Int):=
 if 0<=a1o a b (rch b.length far (k-1)) (rch b.length far (k+1)) k/\k<=a1o a b (rch b.length far (k-1)) (rch b.length far (k+1)) k/\-(b.length:Int)<=k/\k<=a.length/\far.length=a.length+b.length+3 then
  some (a1o a b (rch b.length far (k-1)) (rch b.length far (k+1)) k+ahd (a.drop (a1o a b (rch b.length far (k-1)) (rch b.length far (k+1)) k).toNat) (b.drop (a1o a b (rch b.length far (k-1)) (rch b.length far (k+1)) k-k).toNat),
   far.set (k+b.length+1).toNat (a1o a b (rch b.length far (k-1)) (rch b.length far (k+1)) k+ahd (a.drop (a1o a b (rch b.length far (k-1)) (rch b.length far (k+1)) k).toNat) (b.drop (a1o a b (rch b.length far (k-1)) (rch b.length far (k+1)) k-k).toNat)))
 else none
def a5F (a b:List Int) (chk:Bool) (other:List Int) (high:Int):Nat->Int->List Int->Option (Sum (Int×Int) (List Int))
 | 0,_,_=>none
 | f+1,k,far=>if k<=high then
     match c3S a b far k with
     | none=>none
     | some (x,far')=>if chk=true/\(a.length:Int)<=x+rch b.length other (a.length-b.length-k) then some (.inl (x,x-k)) else a5F a b chk other high f (k+2) far'
   else some (.inr far)
def a9n (d:Nat) (m:Nat):Int:=if (d:Int) > m then -(m:Int)+((d:Int)-m).tmod 2 else -(d:Int)
def a25 (d:Nat) (n:Nat):Int:=if (d:Int) > n then (n:Int)-((d:Int)-n).tmod 2 else d
def b1k (n m:Nat):Bool:=decide (((n:Int)-m).tmod 2≠0)
def c7C (a b:List Int):Nat->Nat->List Int->List Int->Option (Int×Int)
 | 0,_,_,_=>none
 | f+1,d,fwd,bwd=>match a5F a b (b1k a.length b.length) bwd (a25 d a.length) (a.length+b.length+3) (a9n d b.length) fwd with
   | none=>none
   | some (.inl p)=>some p
   | some (.inr fwd')=>match a5F a.reverse b.reverse (!b1k a.length b.length) fwd' (a25 d a.length) (a.length+b.length+3) (a9n d b.length) bwd with
     | none=>none
     | some (.inl p)=>some (a.length-p.1,b.length-p.2)
     | some (.inr bwd')=>c7C a b f (d+1) fwd' bwd'
section
variable {a b:List Int}
theorem b4Y {far:List Int} {m:Nat} {k k' x:Int} (hl:(k+m+1).toNat<far.length) (h0:0<=k+m+1) (h1:0<=k'+m+1):rch m (far.set (k+m+1).toNat x) k'=if k'=k then x else rch m far k':=by
 unfold rch
 by_cases h:k'=k
 ·subst h;simp [List.getD,hl]
 ·rw [if_neg h]
  have:(k+m+1).toNat≠(k'+m+1).toNat:=by omega
  simp [List.getD,List.getElem?_set_ne this]
def b6q (a b:List Int) (d:Nat) (k:Int) (far:List Int):Prop:=
 far.length=a.length+b.length+3/\∀ k',-(b.length:Int)-1<=k'->k'<=a.length+1->b1T a b (if (k'-d) % 2=0/\k'<k then d+1 else d) k' (rch b.length far k')
def a7Z (a b:List Int) (e:Nat) (far:List Int):Prop:=
 far.length=a.length+b.length+3/\∀ k',-(b.length:Int)-1<=k'->k'<=a.length+1->b1T a b e k' (rch b.length far k')
theorem c0q (n:Int) (h:0<=n):n.tmod 2=n % 2:=by rw [Int.tmod_eq_emod_of_nonneg h]
theorem a4W (d m:Nat):-(d:Int)<=a9n d m/\-(m:Int)<=a9n d m/\(a9n d m-d) % 2=0/\(∀ k:Int,(k-d) % 2=0->-(d:Int)<=k->-(m:Int)<=k->a9n d m<=k)/\a9n d m<=1:=by
 unfold a9n
 split
 ·rw [c0q _ (by omega)]
  refine⟨by omega,by omega,by omega,fun k h1 h2 h3=>by omega,by omega⟩
 ·refine⟨by omega,by omega,by omega,fun k h1 h2 h3=>by omega,by omega⟩
theorem a4U (d n:Nat):a25 d n<=d/\a25 d n<=n/\(a25 d n-d) % 2=0/\(∀ k:Int,(k-d) % 2=0->k<=d->k<=n->k<=a25 d n):=by
 unfold a25
 split
 ·rw [c0q _ (by omega)]
  refine⟨by omega,by omega,by omega,fun k h1 h2 h3=>by omega⟩
 ·refine⟨by omega,by omega,by omega,fun k h1 h2 h3=>by omega⟩
theorem b2g {e:Nat} {k u v:Int} (h:b1T a b e k u) (g:b1T a b e k v):u=v:=by
 rcases h with⟨h1,h2⟩|⟨h1,h2⟩
 ·rcases g with⟨g1,g2⟩|⟨g1,g2⟩
  ·omega
  ·exact absurd g1 (h2 v)
 ·rcases g with⟨g1,g2⟩|⟨g1,g2⟩
  ·exact absurd h1 (g2 u)
  ·have:=h2 v g1
   have:=g2 u h1
   omega
theorem c4H {d:Nat} {k:Int} {far:List Int} (h:b6q a b d k far) (hp:(k-d) % 2=0) (h1:-(d:Int)<=k/\k<=d) (h2:-(b.length:Int)<=k/\k<=a.length) :
  ∃ x far',c3S a b far k=some (x,far')/\b1T a b (d+1) k x/\0<=x/\b6q a b d (k+2) far'/\rch b.length far' k=x:=by
 obtain⟨hl,ht⟩:=h
 have hu:=ht (k-1) (by omega) (by omega)
 rw [if_neg (by omega)] at hu
 have hv:=ht (k+1) (by omega) (by omega)
 rw [if_neg (by omega)] at hv
 obtain⟨s0,s1,_,_,_⟩:=b7Q h2 h1 hu hv
 have hx:=c8p h2 h1 hu hv
 refine⟨_,_,if_pos ⟨s0,s1,h2.1,h2.2,hl⟩,hx,by omega,⟨by simpa using hl,fun k' g1 g2=>?_⟩,?_⟩
 ·rw [b4Y (by omega) (by omega) (by omega)]
  by_cases e:k'=k
  ·subst e
   rw [if_pos rfl,if_pos ⟨hp,by omega⟩]
   exact hx
  ·rw [if_neg e]
   have:=ht k' g1 g2
   by_cases c:(k'-d) % 2=0/\k'<k
   ·rw [if_pos c] at this
    rw [if_pos ⟨c.1,by omega⟩]
    exact this
   ·rw [if_neg c] at this
    rw [if_neg (by omega)]
    exact this
 ·rw [b4Y (by omega) (by omega) (by omega),if_pos rfl]
theorem b0B {d:Nat} {chk:Bool} {other:List Int}:∀ (f:Nat) (k:Int) (far:List Int),b6q a b d k far->(k-d) % 2=0->-(d:Int)<=k->-(b.length:Int)<=k->a25 d a.length-k+3<=f->k<=a25 d a.length+2->
  (∀ k':Int,(k'-d) % 2=0->a9n d b.length<=k'->k'<k->chk=true->¬((a.length:Int)<=rch b.length far k'+rch b.length other (a.length-b.length-k')))->
  (∃ x k',a5F a b chk other (a25 d a.length) f k far=some (.inl (x,x-k'))/\chk=true/\b1T a b (d+1) k' x/\0<=x/\-(b.length:Int)<=k'/\k'<=a.length/\(a.length:Int)<=x+rch b.length other (a.length-b.length-k'))\/
  (∃ far',a5F a b chk other (a25 d a.length) f k far=some (.inr far')/\a7Z a b (d+1) far'/\
   ∀ k':Int,(k'-d) % 2=0->a9n d b.length<=k'->k'<=a25 d a.length->chk=true->¬((a.length:Int)<=rch b.length far' k'+rch b.length other (a.length-b.length-k')))
 | 0,k,far,h,hp,h1,h2,hf,hf2,hno=>by omega
 | f+1,k,far,h,hp,h1,h2,hf,hf2,hno=>by
   obtain⟨g1,g2,g3,g4⟩:=a4U d a.length
   by_cases hk:k<=a25 d a.length
   ·obtain⟨x,far',e,hx,hx0,hm,hr⟩:=c4H h hp ⟨h1,by omega⟩ ⟨h2,by omega⟩
    have hstep:a5F a b chk other (a25 d a.length) (f+1) k far=if chk=true/\(a.length:Int)<=x+rch b.length other (a.length-b.length-k) then some (.inl (x,x-k)) else a5F a b chk other (a25 d a.length) f (k+2) far':=by
     rw [a5F,if_pos hk,e]
    by_cases hc:chk=true/\(a.length:Int)<=x+rch b.length other (a.length-b.length-k)
    ·rw [hstep,if_pos hc]
     exact .inl ⟨x,k,rfl,hc.1,hx,hx0,h2,by omega,hc.2⟩
    ·rw [hstep,if_neg hc]
     refine b0B f (k+2) far' hm (by omega) (by omega) (by omega) (by omega) (by omega) fun k' p1 p2 p3 p4=>?_
     rcases Int.lt_or_le k' k with q|q
     ·have hl:=h.1
      have hr':rch b.length far' k'=rch b.length far k':=by
       unfold c3S at e
       split at e
       ·simp only [Option.some.injEq,Prod.mk.injEq] at e
        obtain⟨_,rfl⟩:=e
        have:=a4W d b.length
        rw [b4Y (by omega) (by omega) (by omega),if_neg (by omega)]
       ·cases e
      rw [hr']
      exact hno k' p1 p2 q p4
     ·have:k'=k:=by omega
      subst this
      rw [hr]
      exact fun hh=>hc ⟨p4,hh⟩
   ·have hstep:a5F a b chk other (a25 d a.length) (f+1) k far=some (.inr far):=by rw [a5F,if_neg hk]
    refine .inr ⟨far,hstep,⟨h.1,fun k' p1 p2=>?_⟩,fun k' p1 p2 p3 p4=>hno k' p1 p2 (by omega) p4⟩
    have:=h.2 k' p1 p2
    by_cases c:(k'-d) % 2=0/\k'<k
    ·rw [if_pos c] at this;exact this
    ·rw [if_neg c] at this
     by_cases c1:(k'-d) % 2=0
     ·
      have hge:k<=k':=by omega
      have hout:(d:Int)<k'\/(a.length:Int)<k':=by
       rcases Int.lt_or_le (d:Int) k' with q|q
       ·exact .inl q
       ·rcases Int.lt_or_le (a.length:Int) k' with q2|q2
        ·exact .inr q2
        ·have:=g4 k' c1 q q2;omega
      have e1:=b2g this (a8z (a:=a) (b:=b) (by omega))
      rw [e1]
      exact a8z (by omega)
     ·exact b9a this c1
theorem a1x (l:List Int):l.reverse.length=l.length:=List.length_reverse
def b7f (a b:List Int) (x y:Nat):Int:=dst a.reverse b.reverse (a.length-x) (b.length-y)
theorem a8K {x y:Nat} (hx:x<=a.length) (hy:y<=b.length):dst a b x y=(x:Int)+y-2*a4x (a.take x) (b.take y):=by rw [dst,c4W hx hy]
theorem a9x {x y:Nat} (hx:x<=a.length) (hy:y<=b.length):b7f a b x y=((a.length:Int)-x)+(b.length-y)-2*a4x (a.drop x) (b.drop y):=by
 unfold b7f
 rw [a8K (by simp) (by simp),List.take_reverse,List.take_reverse,a9t]
 have e1:a.length-(a.length-x)=x:=by omega
 have e2:b.length-(b.length-y)=y:=by omega
 rw [e1,e2]
 omega
theorem b5r {x y:Nat} (hx:x<=a.length) (hy:y<=b.length):dst a b a.length b.length<=dst a b x y+b7f a b x y:=by
 rw [a8K (Nat.le_refl _) (Nat.le_refl _),a8K hx hy,a9x hx hy]
 have:=a7l (a.take x) (a.drop x) (b.take y) (b.drop y)
 simp only [List.take_append_drop,List.take_length] at this ⊢
 omega
theorem a8a:∀ (n i k:Nat),i+k<=n->i<=a.length->k<=b.length->∀ t:Nat,(t:Int)<=dst a b i k->∃ x y,x<=i/\y<=k/\dst a b x y=t/\a4x ((a.take i).drop x) ((b.take k).drop y)+a3L a b x y≥a3L a b i k
 | n,0,k,hn,hi,hk,t,ht=>by
   rw [c8w] at ht
   exact⟨0,t,Nat.le_refl _,by omega,c8w _,by simp [b1p]⟩
 | n,i+1,0,hn,hi,hk,t,ht=>by
   rw [c3D] at ht
   exact⟨t,0,by omega,Nat.le_refl _,c3D _,by simp [a7b]⟩
 | 0,i+1,k+1,hn,_,_,_,_=>by omega
 | n+1,i+1,k+1,hn,hi,hk,t,ht=>by
   rcases Int.lt_or_eq_of_le ht with hlt|heq
   ·by_cases h:a.getD i 0=b.getD k 0
    ·rw [c7G h] at ht hlt
     obtain⟨x,y,hx,hy,h1,h2⟩:=a8a n i k (by omega) (by omega) (by omega) t ht
     refine⟨x,y,by omega,by omega,h1,?_⟩
     rw [a5G h,a2e (by omega),a2e (by omega),List.drop_append_of_le_length (by simp;omega),List.drop_append_of_le_length (by simp;omega),h,b0F]
     simp only [List.length_cons,List.length_nil]
     omega
    ·rcases c6Y h with e|e
     ·rw [e] at hlt
      obtain⟨x,y,hx,hy,h1,h2⟩:=a8a n i (k+1) (by omega) (by omega) hk t (by omega)
      refine⟨x,y,by omega,hy,h1,?_⟩
      have e2:a3L a b (i+1) (k+1)=a3L a b i (k+1):=by simp only [dst] at e;omega
      rw [e2,a2e (l:=a) (by omega),List.drop_append_of_le_length (by simp;omega)]
      have:=a7l ((a.take i).drop x) [a.getD i 0] ((b.take (k+1)).drop y) []
      simp only [List.append_nil,b97] at this
      omega
     ·rw [e] at hlt
      obtain⟨x,y,hx,hy,h1,h2⟩:=a8a n (i+1) k (by omega) hi (by omega) t (by omega)
      refine⟨x,y,hx,by omega,h1,?_⟩
      have e2:a3L a b (i+1) (k+1)=a3L a b (i+1) k:=by simp only [dst] at e;omega
      rw [e2,a2e (l:=b) (by omega),List.drop_append_of_le_length (l₁:=b.take k) (by simp;omega)]
      have:=a7l ((a.take (i+1)).drop x) [] ((b.take k).drop y) [b.getD k 0]
      simp only [List.append_nil,b2p] at this
      omega
   ·refine⟨i+1,k+1,Nat.le_refl _,Nat.le_refl _,heq.symm,?_⟩
    omega
theorem d2s (t:Nat) (ht:(t:Int)<=dst a b a.length b.length):∃ x y,x<=a.length/\y<=b.length/\dst a b x y=t/\dst a b x y+b7f a b x y=dst a b a.length b.length:=by
 obtain⟨x,y,hx,hy,h1,h2⟩:=a8a _ a.length b.length (Nat.le_refl _) (Nat.le_refl _) (Nat.le_refl _) t ht
 refine⟨x,y,hx,hy,h1,?_⟩
 have:=b5r hx hy
 rw [a9x hx hy]
 rw [a9x hx hy] at this
 simp only [List.take_length] at h2
 simp only [dst] at this ⊢
 omega
theorem c1l {e1 e2:Nat} {k x x':Int} (h1:b1T a b e1 k x) (h2:b1T a.reverse b.reverse e2 (a.length-b.length-k) x') (hx:0<=x) (hm:(a.length:Int)<=x+x') :
  ∃ p q:Nat,(p:Int)=x/\(q:Int)=x-k/\p<=a.length/\q<=b.length/\dst a b p q<e1/\b7f a b p q<e2:=by
 obtain⟨g1,g2,g3,g4,g5⟩:=b2r h1 hx
 have hb:=b2r h2 (by omega)
 have hb2:=c70 (y:=a.length-x) (by omega) hb (by omega) (by omega)
 obtain⟨_,_,_,_,q5⟩:=hb2
 refine⟨x.toNat,(x-k).toNat,by omega,by omega,by omega,by omega,g5,?_⟩
 unfold b7f
 have e3:((a.length:Int)-x).toNat=a.length-x.toNat:=by omega
 have e4:((a.length:Int)-x-(a.length-b.length-k)).toNat=b.length-(x-k).toNat:=by omega
 rw [e3,e4] at q5
 exact q5
theorem c2Y {d e2:Nat} {far other:List Int} (hd:a7Z a b (d+1) far) (ho:a7Z a.reverse b.reverse e2 other)
  (hno:∀ k':Int,(k'-d) % 2=0->a9n d b.length<=k'->k'<=a25 d a.length->¬((a.length:Int)<=rch b.length far k'+rch b.length other (a.length-b.length-k'))) (he:e2=d\/e2=d+1) :
  dst a b a.length b.length≠d+e2-1:=by
 intro h
 have hn:=b12 (a:=a) (b:=b) a.length b.length
 obtain⟨x,y,hx,hy,h1,h2⟩:=d2s (a:=a) (b:=b) d (by omega)
 have hab:=c2T (a:=a) (b:=b) x y
 have hpar:((x:Int)-y-d) % 2=0:=by simp only [dst] at h1;omega
 have hlo:=(a4W d b.length).2.2.2.1 (x-y) hpar (by omega) (by omega)
 have hhi:=(a4U d a.length).2.2.2 (x-y) hpar (by omega) (by omega)
 refine hno (x-y) hpar hlo hhi ?_
 have t1:=b0D (hd.2 (x-y) (by omega) (by omega)) (x:=x) ⟨by omega,by omega,by omega,by omega,by
  have e1:(x:Int).toNat=x:=by omega
  have e2:((x:Int)-(x-y)).toNat=y:=by omega
  rw [e1,e2];omega⟩
 have ho2:=ho.2 (a.length-b.length-(x-y)) (by simp only [a1x];omega) (by simp only [a1x];omega)
 simp only [a1x] at ho2
 have t2:=b0D ho2 (x:=a.length-x) ⟨by omega,by omega,by simp only [a1x];omega,by simp only [a1x];omega,by
  have e3:((a.length:Int)-x).toNat=a.length-x:=by omega
  have e4:((a.length:Int)-x-(a.length-b.length-(x-y))).toNat=b.length-y:=by omega
  rw [e3,e4]
  have:b7f a b x y=dst a.reverse b.reverse (a.length-x) (b.length-y):=rfl
  omega⟩
 omega
end
end Go.Proofs.YthpjjjnbkfnghaaGreatDoor
namespace Go.Proofs.YthpjjjnbkfnghaaGreatDoor
section
variable {a b:List Int}
theorem c9l:b1k a.length b.length=true↔(dst a b a.length b.length) % 2=1:=by
 unfold b1k
 rw [decide_eq_true_eq]
 have h:((a.length:Int)-b.length).tmod 2≠0↔((a.length:Int)-b.length) % 2≠0:=by
  rw [ne_eq,ne_eq,<-Int.dvd_iff_tmod_eq_zero,<-Int.dvd_iff_emod_eq_zero]
 rw [h]
 simp only [dst]
 omega
theorem c8f:dst a.reverse b.reverse a.length b.length=dst a b a.length b.length:=by
 have h1:=a8K (a:=a) (b:=b) (Nat.le_refl _) (Nat.le_refl _)
 have h2:=a8K (a:=a.reverse) (b:=b.reverse) (x:=a.length) (y:=b.length) (by simp) (by simp)
 rw [h1,h2,List.take_of_length_le (by simp),List.take_of_length_le (by simp),List.take_length,List.take_length,a9t]
theorem b1O {d:Nat} {far:List Int} (h:a7Z a b d far):b6q a b d (a9n d b.length) far:=by
 refine⟨h.1,fun k' h1 h2=>?_⟩
 have:=h.2 k' h1 h2
 have hl:=a4W d b.length
 split
 ·rename_i c
  rcases Int.lt_or_le k' (-(d:Int)) with g|g
  ·rw [b2g this (a8z (a:=a) (b:=b) (by omega))];exact a8z (by omega)
  ·rcases Int.lt_or_le k' (-(b.length:Int)) with g2|g2
   ·rw [b2g this (a8z (a:=a) (b:=b) (by omega))];exact a8z (by omega)
   ·have:=hl.2.2.2.1 k' c.1 g g2;omega
 ·exact this
theorem b7o:∀ (f d:Nat) (fwd bwd:List Int),a7Z a b d fwd->a7Z a.reverse b.reverse d bwd->
  ((dst a b a.length b.length) % 2=1->2*(d:Int)-1<=dst a b a.length b.length)->((dst a b a.length b.length) % 2=0->2*(d:Int)<=dst a b a.length b.length)->dst a b a.length b.length+1<2*((d:Int)+f)->
  ∃ p q:Nat,c7C a b f d fwd bwd=some ((p:Int),(q:Int))/\p<=a.length/\q<=b.length/\dst a b p q+b7f a b p q=dst a b a.length b.length/\dst a b p q<=b7f a b p q+1/\b7f a b p q<=dst a b p q
 | 0,d,fwd,bwd,hF,hB,ho,he,hf=>by omega
 | f+1,d,fwd,bwd,hF,hB,ho,he,hf=>by
   have hl:=a4W d b.length
   have hh:=a4U d a.length
   have hhge:-1<=a25 d a.length:=by
    unfold a25
    split
    ·rw [c0q _ (by omega)];omega
    ·omega
   have hodd:=c9l (a:=a) (b:=b)
   rcases b0B (d:=d) (chk:=b1k a.length b.length) (other:=bwd) (a.length+b.length+3) (a9n d b.length) fwd (b1O hF) hl.2.2.1 hl.1 hl.2.1 (by omega) (by omega) (fun k' _ _ h _=>by omega) with
    ⟨x,k',e,hc,ht,hx0,k1,k2,hm⟩|⟨fwd',e,hF',hno⟩
   ·
    have ho1:=hodd.1 hc
    have hb:=hB.2 (a.length-b.length-k') (by simp only [a1x];omega) (by simp only [a1x];omega)
    simp only [a1x] at hb
    obtain⟨p,q,hp,hq,p1,q1,g1,g2⟩:=c1l ht hb hx0 hm
    have hs:=b5r p1 q1
    have:=ho ho1
    refine⟨p,q,?_,p1,q1,by omega,by omega,by omega⟩
    rw [c7C,e]
    simp only [hp,hq]
   ·have hlr:=a4W d b.reverse.length
    have hhr:=a4U d a.reverse.length
    simp only [a1x] at hlr hhr
    have hl2:a9n d b.length=a9n d b.reverse.length:=by rw [a1x]
    have hh2:a25 d a.length=a25 d a.reverse.length:=by rw [a1x]
    rcases b0B (a:=a.reverse) (b:=b.reverse) (d:=d) (chk:=!b1k a.length b.length) (other:=fwd') (a.length+b.length+3) (a9n d b.reverse.length) bwd (b1O hB) (by simp only [a1x];exact hlr.2.2.1) (by simp only [a1x];exact hlr.1) (by simp only [a1x];exact hlr.2.1)
      (by simp only [a1x];omega) (by simp only [a1x];omega) (fun k' _ _ h _=>by omega) with
     ⟨x,k',e2,hc,ht,hx0,k1,k2,hm⟩|⟨bwd',e2,hB',hno2⟩
    ·
     simp only [a1x] at e2 k1 k2 hm
     have hne:¬b1k a.length b.length=true:=by simpa using hc
     have ho1:¬(dst a b a.length b.length) % 2=1:=fun h=>hne (hodd.2 h)
     have hb:=hF'.2 (a.length-b.length-k') (by omega) (by omega)
     have ht2:b1T a.reverse.reverse b.reverse.reverse (d+1) (a.reverse.length-b.reverse.length-k') (rch b.length fwd' (a.length-b.length-k')):=by
      simpa using hb
     obtain⟨p,q,hp,hq,p1,q1,g1,g2⟩:=c1l ht ht2 hx0 (by simp only [a1x];exact hm)
     simp only [a1x] at p1 q1
     have e3:b7f a.reverse b.reverse p q=dst a b (a.length-p) (b.length-q):=by
      unfold b7f;simp
     have e4:dst a.reverse b.reverse p q=b7f a b (a.length-p) (b.length-q):=by
      unfold b7f
      rw [show a.length-(a.length-p)=p by omega,show b.length-(b.length-q)=q by omega]
     rw [e3] at g2
     rw [e4] at g1
     have hs:=b5r (a:=a) (b:=b) (x:=a.length-p) (y:=b.length-q) (by omega) (by omega)
     have:=he (by omega)
     refine⟨a.length-p,b.length-q,?_,by omega,by omega,by omega,by omega,by omega⟩
     have e2':a5F a.reverse b.reverse (!b1k a.length b.length) fwd' (a25 d a.length) (a.length+b.length+3) (a9n d b.length) bwd=some (.inl (x,x-k')):=e2
     rw [c7C,e]
     simp only
     rw [e2']
     simp only
     congr 2<;>omega
    ·
     simp only [a1x] at e2
     have hB2:a7Z a.reverse b.reverse (d+1) bwd':=hB'
     have n1:b1k a.length b.length=true->dst a b a.length b.length≠d+d-1:=fun hc=>by
      have:=c2Y (e2:=d) hF' hB (fun k' h1 h2 h3=>hno k' h1 h2 h3 hc) (.inl rfl)
      exact this
     have n2:b1k a.length b.length=false->dst a b a.length b.length≠d+(d+1)-1:=fun hc=>by
      have hFr:a7Z a.reverse.reverse b.reverse.reverse (d+1) fwd':=by simpa using hF'
      have:=c2Y (a:=a.reverse) (b:=b.reverse) (e2:=d+1) hB' hFr (fun k' h1 h2 h3=>hno2 k' h1 h2 h3 (by simp [hc])) (.inr rfl)
      simp only [a1x] at this
      rw [c8f] at this
      exact this
     obtain⟨p,q,g1,g2⟩:=b7o f (d+1) fwd' bwd' hF' hB' (fun h=>by
       have:=n1 (hodd.2 h)
       have:=ho h
       omega) (fun h=>by
       have:=n2 (by
        cases hc:b1k a.length b.length with
        | false=>rfl
        | true=>have:=hodd.1 hc;omega)
       have:=he h
       omega) (by omega)
     refine⟨p,q,?_,g2⟩
     rw [c7C,e]
     simp only
     rw [e2]
     exact g1
end
end Go.Proofs.YthpjjjnbkfnghaaGreatDoor
