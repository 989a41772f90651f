/-
  Part 4 of what the proof rests on: values that are told, code that is walked, what comes out.
-/
import Derived.Test.YthpjjjnbkfnghaaGreatDoorMf3
set_option maxRecDepth 100000
set_option maxHeartbeats 2000000
set_option linter.all false
namespace Go.Proofs.YthpjjjnbkfnghaaGreatDoor
section
def b7F (f:Bool) (q v:Nat) (x:AV):Nat->AV:=fun j=>if j=0 then (if f=true then .pt q v 0 else .val (.pointer none)) else x
theorem b7X (f:Bool) (q v:Nat) (x:AV):b7F f q v x 1=x:=rfl
@[go_sem] def d0C:a0p:=fun args hp top nx K=>∃ (f:Bool) (q v:Nat) (x:AV),args=[.pt q v 0]/\hp q=.box v 138 2 (b7F f q v x)/\K (.val (.tuple #[])) (a0y hp q (.box v 138 2 (b7F true q v x))) top nx
theorem b48:a0f Tryz.prog 147 d0C:=by
 refine⟨a5D Tryz.func147 rfl (by decide),?_⟩;rintro args hp top nx K ⟨f,q,v,x,rfl,hrow,hK⟩ c η w vs hs hdead hargs;cases hargs with
 | cons hx hr=>cases hr with
   | nil=>
     obtain⟨g,cap,hη,rfl⟩:=hx;have hr:=hs.rows q;rw [hrow] at hr;obtain⟨b,cur,hb,hh,hsz,hc⟩:=hr _ _ hη;obtain rfl:g=b:=by simpa using hb
     obtain⟨x0,hx0,ho0,hr0⟩:=hc 0 (by decide);have hblk:(hp q).blk η=some g:=by rw [hrow];simp [Row.blk,Row.ver,hη]
     have hcell:w.cell? ⟨g,0,none⟩=some x0:=by rw [a0E hh];exact hx0
     cases f with
     | true=>
       have hr0:∃ g' cap',η v=some (some g',cap')/\x0=.pointer (some ⟨g',0,none⟩):=hr0;obtain⟨g',cap',h1,rfl⟩:=hr0;rw [hη] at h1;simp only [oSI,pMI] at h1;obtain⟨rfl,rfl⟩:=h1;refine (b0f g w hcell).mono ?_;rintro e w' ⟨rfl,rfl⟩
       have e:a0y hp q (.box v 138 2 (b7F true q v x))=hp:=by
        rw [<-hrow]
        funext p
        unfold a0y;split
        ·rename_i h;rw [h]
        ·rfl
       rw [e] at hK;exact⟨_,_,_,_,_,η,rfl,hK,hs,hdead,rfl⟩
     | false=>
       have hr0:x0=.pointer none:=hr0;subst hr0;refine (a8W g w hcell (by simp [World.shape?,hh,hsz]) (by simp [World.frozen?,hh])).mono ?_;rintro e w' ⟨rfl,rfl⟩;have hf:=a9J w g 0 (.pointer (some ⟨g,0,none⟩));have hO:∀ k,k<w.heap.size->k=g->a0D c η hp k:=fun k _ e=>.inr ⟨q,by rw [e];exact hblk⟩
       have hwr:=hs.write (row:=.box v 138 2 (b7F true q v x)) hblk (by rw [hrow];rfl) hf (by
        intro g' cap' he;rw [hη] at he;simp only [oSI,pMI] at he;obtain⟨rfl,rfl⟩:=he;refine⟨g,cur.setIfInBounds 0 (.pointer (some ⟨g,0,none⟩)),rfl,by simp [World.setCell,Array.getElem?_modify,hh],by simp [hsz],fun j hj=>?_⟩
        match j,hj with
        | 0,_=>exact⟨_,by simp [hsz],rfl,g,cap,hη,rfl⟩
        | 1,_=>
          obtain⟨x1,hx1,ho1,hr1⟩:=hc 1 (by decide)
          exact⟨x1,by rw [Array.getElem?_setIfInBounds_ne (by decide)];exact hx1,ho1,Rep.keep hf hO (fun _ _ h=>h) _ _ _ _ (Env.le_refl _) hr1⟩)
       refine⟨_,_,_,_,_,η,rfl,hK,hwr.1,fun p hp'=>?_,rfl⟩;by_cases e:p=q
       ·subst e;rw [hdead p hp'] at hrow;cases hrow
       ·rw [a0d _ _ e];exact hdead p hp'
section
variable {P:Program} {st:AS} {K:AS->Prop} {o:Oper}
theorem c91 {t t' e:TypeId} {x y:Operand} {s:List UInt8} (ho:o.op=.call ⟨.builtin .append,⟨[x,y]⟩,⟨[t,t']⟩⟩) (hu:P.underlying t=some (.slice e)) (hu':P.underlying t'=some .string)
  (hxe:st.ev x=.val (.slice none 0 0)) (hye:st.ev y=.st s) (h0:s≠[]) (hd:a0w st.sz o.dst) (hok:a6U P e 1 s.length)
  (hK:K ⟨a1t st.fr o.dst (.ow st.top st.nx s.length),a0y st.hp st.top (.sl st.nx e 1 s.length (a1y s)),st.sz,st.top+1,st.nx+1,st.df⟩):OpW P o st K:=by
 intro c η a w next Q hsr hnext
 have hev:∀ x,Rep w η (a0D c η st.hp) (st.ev x) (a.eval x):=a1h hsr.slots
 have hxv:a.eval x=.slice none 0 0:=by
  have hx:=hev x;rw [hxe] at hx;exact hx
 have hyv:a.eval y=.string ⟨s.toArray⟩:=by
  have hy:=hev y;rw [hye] at hy;exact hy
 have hnl:=a7A s;obtain⟨hsz,hz0,hb0,hbytes,zl,hz,hzl⟩:=hok;obtain⟨i,zv,hi,hiz,hzc,his,hib⟩:=a9l hz;have hisz:i.size=1:=by rw [his,hsz]
 have hss:(⟨s.toArray⟩:ByteArray).size=s.length:=by simp [ByteArray.size]
 have hmb:s.length*1<=s.length*P.bytesOf e:=Nat.mul_le_mul_left _ hb0;have hmx:s.length<=maxLen:=by simp only [maxLen];omega
 have hpos:0<s.length:=List.length_pos_iff.2 h0
 obtain⟨cap',hrun,hge,hle⟩:∃ cap',(Builtin.append_ #[t,t'] o.type #[a.eval x,a.eval y]).run P w=.ok (.slice (some ⟨w.heap.size,0,none⟩) s.length cap')
   (w.drew.alloc (.cells ((Lib.strCells ⟨s.toArray⟩).toArray++Builtin.zeroCells zv.cells (cap'-s.length)) e))/\s.length<=cap'/\cap'<=maxLen:=by
  refine⟨grownCap w s.length 0 e,?_,grownCap_ge _ _ _ _,grownCap_le_maxLen _ _ _ _ hmx⟩;rw [hxv,hyv];have hr:=run_append_nil_string (P:=P) w t t' o.type e i zv hu hu' hi hiz ⟨s.toArray⟩ (by rw [hss];omega) (by rw [hss];omega) (by rw [hss,hib];omega)
  have e1:((⟨s.toArray⟩:ByteArray).data.map fun b=>Value.int .u8 b.toNat)=(Lib.strCells ⟨s.toArray⟩).toArray:=by
   apply Array.ext';simp [Lib.strCells]
  rw [hss] at hr;rw [<-e1];exact hr
 generalize hw':w.drew.alloc (.cells ((Lib.strCells ⟨s.toArray⟩).toArray++Builtin.zeroCells zv.cells (cap'-s.length)) e)=w' at hrun;obtain⟨hs',hL⟩:=hsr.hs.declare (p:=st.top) (row:=.sl st.nx e 1 s.length (a1y s)) rfl;have hs'':HS c (a0y st.hp st.top (.sl st.nx e 1 s.length (a1y s))) (st.nx+1) η w.drew:=hs'.world (Fr.refl _ _).drew;have hrow:a0y st.hp st.top (.sl st.nx e 1 s.length (a1y s)) st.top=.sl st.nx e 1 s.length (a1y s):=a0g ..
 have hlay:=hs''.lay (p:=st.top) (ver:=st.nx) (cap:=cap') (by rw [hrow];rfl) (hsr.hs.fresh _ (nLR _)) hsr.hs.env.2.1 (.cells ((Lib.strCells ⟨s.toArray⟩).toArray++Builtin.zeroCells zv.cells (cap'-s.length)) e) (by
  rw [hrow];intro g cap he;rw [a0x] at he;simp only [oSI,pMI] at he;obtain⟨rfl,rfl⟩:=he;refine⟨_,heap_alloc_new w.drew _,?_,hge,hle,fun i hi j hj=>?_⟩
  ·simp only [Array.size_append,List.size_toArray,size_zeroCells,hzc,hzl,hnl];omega
  ·obtain⟨u,hu1,hu2,hu3⟩:=a4v (η:=a1e η st.nx (some w.drew.heap.size,cap')) (L:=a0D c (a1e η st.nx (some w.drew.heap.size,cap')) (a0y st.hp st.top (.sl st.nx e 1 s.length (a1y s)))) s i hi j hj;refine⟨u,?_,hu2,?_⟩
   ·rw [Array.getElem?_append_left (by simp only [List.size_toArray,hnl];omega),List.getElem?_toArray];exact hu1
   ·exact hu3)
 rw [hw'] at hlay
 have hexec:(execOp a.eval o).run P w=.ok (.value (.slice (some ⟨w.heap.size,0,none⟩) s.length cap')) w':=by
  unfold execOp;rw [ho];simp [resolve,invoke,builtin,hrun]
 unfold Oper.wp;rw [hexec]
 have hrep:Rep w' (a1e η st.nx (some w.drew.heap.size,cap')) (a0D c (a1e η st.nx (some w.drew.heap.size,cap')) (a0y st.hp st.top (.sl st.nx e 1 s.length (a1y s)))) (.ow st.top st.nx s.length) (.slice (some ⟨w.heap.size,0,none⟩) s.length cap'):=
  ⟨some w.drew.heap.size,cap',a0x _ _ _,rfl,hge⟩
 refine hnext _ _ _ _ (hsr.put hd hlay.1 (fun p hp=>?_) (fun x u hx=>hlay.2.rep (Rep.keep (Fr.refl (fun _=>False) w).drew (fun _ _ h=>h.elim) (fun b _ hb=>hL b hb) _ _ _ _ (Env.le_refl _) hx)) hrep) hK;rw [a0d _ _ (by omega)];exact hsr.dead p (by omega)
theorem c5L {t t' e:TypeId} {x y:Operand} (ho:o.op=.call ⟨.builtin .append,⟨[x,y]⟩,⟨[t,t']⟩⟩) (hu:P.underlying t=some (.slice e)) (hu':P.underlying t'=some .string) {k:Nat} (hk:P.cellsOf e=k) (h0:0<k)
  (hxe:st.ev x=.val (.slice none 0 0)) (hye:st.ev y=.st []) (hd:a0w st.sz o.dst)
  (hK:K ⟨a1t st.fr o.dst (.val (.slice none 0 0)),st.hp,st.sz,st.top,st.nx,st.df⟩):OpW P o st K:=by
 refine a5J hd (fun c η a w hsr=>?_) hK;have hev:∀ x,Rep w η (a0D c η st.hp) (st.ev x) (a.eval x):=a1h hsr.slots
 have hxv:a.eval x=.slice none 0 0:=by
  have hx:=hev x;rw [hxe] at hx;exact hx
 have hyv:a.eval y=.string ⟨#[]⟩:=by
  have hy:=hev y;rw [hye] at hy;exact hy
 refine⟨.slice none 0 0,?_,rfl⟩;have hr:=a4z (P:=P) (w:=w) (ty:=o.type) hu hu' hk h0 (a:=none) (n:=0) (cap:=0) (nLR _);unfold execOp;rw [ho];simp [resolve,invoke,builtin,hxv,hyv,hr]
end
end
section
attribute [local irreducible] AW a0h a0H a0c
def a5P (f:Bool) (p v q u:Nat) (l:List UInt8):Nat->AV:=b7F f p v (if l=[] then .val (.slice none 0 0) else .ow q u l.length)
def a6w (u:Nat) (l:List UInt8):Row:=if l=[] then .dead else a0i u l
theorem c3H (f:Bool) (p v q u:Nat):a5P f p v q u []=b7F f p v (.val (.slice none 0 0)):=rfl
theorem b0T {f:Bool} {p v q u:Nat} {l:List UInt8} (h:¬l=[]):a5P f p v q u l=b7F f p v (.ow q u l.length):=by
 unfold a5P;rw [if_neg h]
theorem b5l (u:Nat):a6w u []=.dead:=rfl
theorem a4u {u:Nat} {l:List UInt8} (h:¬l=[]):a6w u l=a0i u l:=if_neg h
theorem c9q {f:Bool} {p v p':Nat} {x y:AV} (h:a0h x y):a0c (.box v 138 2 (b7F f p v x)) (.box v 138 2 (b7F f p' v y)):=a0c.box fun j hj=>by
 match j,hj with
 | 0,_=>
   cases f with
   | true=>exact a0h.pt
   | false=>exact avR
 | 1,_=>exact h
theorem b0Q (f:Bool) (p q p' q' v u:Nat) (l:List UInt8):a0c (.box v 138 2 (a5P f p v q u l)) (.box v 138 2 (a5P f p' v q' u l)):=c9q (by
 split
 ·exact avR
 ·exact a0h.ow)
theorem b3A:a0W (.val (.slice none 0 0))=some (1,fun _=>.val (.slice none 0 0)):=rfl
def b4S:a0p:=fun args hp top nx K=>∃ (f:Bool) (v u:Nat) (l s:List UInt8),args=[.pt 0 v 0,.st s]/\hp=rws [(0,.box v 138 2 (a5P f 0 v 1 u l)),(1,a6w u l)]/\top=2/\l.length+s.length<=100000000000/\
 ∀ u' nx',((l≠[]/\u'=u)\/nx<=u')->nx<=nx'->K (tu2 (.val (.int .i64 s.length)) (.val .nilIface)) (rws [(0,.box v 138 2 (a5P true 0 v 1 u' (l++s))),(1,a6w u' (l++s))]) 2 nx'
theorem c0b:a0f Tryz.prog 88 b4S:=by
 refine a0f.mk Tryz.func88 rfl (by decide) Tryz.results88 Tryz.ntmps88 ?_;rintro args hp top nx K ⟨f,v,u,l,s,rfl,rfl,rfl,hl,hK⟩;have hΓ:=gkM b48 gkN;refine⟨Nat.le_of_ble_eq_true rfl,AW.late ?_⟩;refine awL hΓ [1] rfl ?_;simp only [go_sem];refine⟨f,0,v,_,rfl,rfl,?_⟩;by_cases hl0:l=[]
 ·subst hl0;refine AW.cut ⟨[(0,.pt 0 v 0),(1,.st s)],[(0,.box v 138 2 (b7F true 0 v (.val (.slice none 0 0))))],19,2,nx,[]⟩ ?_ ?_
  ·simp only [go_sem];exact rlR
  refine AW.fork (AW.regionO hΓ [false,false,false,false,false,false,true] ?_);simp only [go_sem,b7X];by_cases hs0:s=[]
  ·subst hs0;refine c5L rfl Tryz.underlying102 Tryz.underlying9 a5C (by decide) rfl rfl (Nat.lt_of_lt_of_le (by decide:14<19) (nLR _)) ?_;simp only [go_sem,b7X,b3A];refine awZ hΓ rfl ?_;simp only [go_sem];refine⟨_,a0e (fun p=>p) (l:=[(4,.val (.int .i64 0)),(5,.val .nilIface)]) (r:=[(0,.box v 138 2 (a5P true 0 v 1 nx [])),(1,a6w nx [])]) (sz:=19) (top:=2) (nx:=nx+1) (df:=[]) ?_,?_⟩
   ·simp only [go_sem];refine⟨Nat.le_succ _,avR,a0c.box fun j hj=>?_,rlR⟩
    match j,hj with
    | 0,_=>exact avR
    | 1,_=>exact avR
   ·exact⟨rfl,⟨trivial,trivial⟩,hK nx (nx+1) (.inr (nLR _)) (by omega)⟩
  ·refine c91 rfl Tryz.underlying102 Tryz.underlying9 rfl rfl hs0 (Nat.lt_of_lt_of_le (by decide:14<19) (nLR _)) ⟨a5C,by decide,by rw [a2G];decide,by rw [a2G];omega,_,b1G,rfl⟩ ?_;simp only [go_sem,b7X];refine awZ hΓ rfl ?_;simp only [go_sem];refine⟨_,a0e (fun p=>if p=1 then 2 else p) (l:=[(4,.val (.int .i64 s.length)),(5,.val .nilIface)]) (r:=[(0,.box v 138 2 (a5P true 0 v 1 nx s)),(1,a6w nx s)]) (sz:=19) (top:=2) (nx:=nx+1) (df:=[]) ?_,?_⟩
   ·rw [b0T hs0,a4u hs0];simp only [go_sem];refine⟨avR,a0c.box fun j hj=>?_,rlR⟩
    match j,hj with
    | 0,_=>exact avR
    | 1,_=>exact a0h.ow
   ·exact⟨rfl,⟨trivial,trivial⟩,hK nx (nx+1) (.inr (nLR _)) (by omega)⟩
 ·have hls:¬l++s=[]:=fun h=>hl0 (List.append_eq_nil_iff.1 h).1
  refine AW.cut ⟨[(0,.pt 0 v 0),(1,.st s)],[(0,.box v 138 2 (b7F true 0 v (.ow 1 u l.length))),(1,a0i u l)],19,2,nx,[]⟩ ?_ ?_
  ·rw [a4u hl0];simp only [go_sem,hl0];exact⟨rlR,rlR⟩
  refine AW.fork (AW.regionO hΓ [false,false,false,false,false,false,true] ?_);simp only [go_sem,b7X];refine a4L rfl Tryz.underlying102 Tryz.underlying9 rfl rfl rfl (Nat.lt_of_lt_of_le (by decide:14<19) (nLR _)) ⟨a5C,by decide,by rw [a2G];decide,by rw [a2G];omega,_,b1G,rfl⟩ ?_;simp only [go_sem,b7X];refine awZ hΓ rfl ?_;simp only [go_sem];refine⟨_,a0e (fun p=>p) (l:=[(4,.val (.int .i64 s.length)),(5,.val .nilIface)]) (r:=[(0,.box v 138 2 (a5P true 0 v 1 nx (l++s))),(1,a6w nx (l++s))]) (sz:=19) (top:=2) (nx:=nx+1) (df:=[]) ?_,?_⟩
  ·rw [b0T hls,a4u hls];simp only [go_sem];refine⟨avR,a0c.box fun j hj=>?_,b0v rfl rfl⟩
   match j,hj with
   | 0,_=>exact avR
   | 1,_=>exact avR
  ·exact⟨rfl,⟨trivial,trivial⟩,hK nx (nx+1) (.inr (nLR _)) (by omega)⟩
@[go_sem] def b8M:a0p:=a0U b4S
theorem b53:a0f Tryz.prog 88 b8M:=c0b.frame
theorem a3H {f:Bool} {p q v u:Nat} {l s:List UInt8} {hp:Nat->Row} {top nx:Nat} {K:AV->(Nat->Row)->Nat->Nat->Prop} (hpq:p≠q)
  (hr:a0c (hp p) (.box v 138 2 (a5P f p v q u l))) (hr2:a0c (hp q) (a6w u l)) (ht:p<top/\q<top) (hl:l.length+s.length<=100000000000)
  (hK:∀ u' nx',((l≠[]/\u'=u)\/nx<=u')->nx<=nx'->K (tu2 (.val (.int .i64 s.length)) (.val .nilIface)) (a0y (a0y hp p (.box v 138 2 (a5P true p v q u' (l++s)))) q (a6w u' (l++s))) top nx') :
  b8M [.pt p v 0,.st s] hp top nx K:=by
 have e1:(hp p).ver=some v:=hr.vers.symm;have e2:(hp q).ver=(a6w u l).ver:=hr2.vers.symm;refine⟨[p,q],[.pt 0 v 0,.st s],rws [(0,.box v 138 2 (a5P f 0 v 1 u l)),(1,a6w u l)],by simp [hpq],by simp;omega,.cons a0h.pt (.cons  avR  .nil),b3i (hr.trans (b0Q f p q 0 1 v u l)) hr2,fun i hi=>a1b (top:=2) (by simp) i (by simpa using hi),f,v,u,l,s,rfl,rfl,rfl,hl,fun u' nx' h1 h3=>?_⟩;refine⟨_,_,avR,fun i o ho=>?_,fun o ho=>?_,fun o ho w hv=>?_,hK u' nx' h1 h3⟩
 ·match i with
  | 0=>
    simp only [gCZ,oSI] at ho;subst ho;rw [a0d _ _ hpq,a0g];exact b0Q true 0 1 p q v u' _
  | 1=>
    simp only [gCS,gCZ,oSI] at ho;subst ho;rw [a0g];exact rlR
  | i+2=>simp at ho
 ·simp only [List.mem_cons,List.not_mem_nil,or_false,not_or] at ho;rw [a0d _ _ ho.2,a0d _ _ ho.1]
 ·simp only [List.mem_cons,List.not_mem_nil,or_false] at ho;rcases ho with rfl|rfl
  ·rw [a0d _ _ hpq,a0g] at hv;have:some v=some w:=hv;obtain rfl:=oJI this;exact .inl e1
  ·rw [a0g] at hv;by_cases h0:l++s=[]
   ·rw [h0,b5l] at hv;cases hv
   ·rw [a4u h0] at hv;have:some u'=some w:=hv;obtain rfl:=oJI this;rcases h1 with⟨h1,rfl⟩|h1
    ·rw [e2,a4u h1];exact .inl rfl
    ·exact .inr h1
@[go_sem] def d7f:a0p:=fun args hp top nx K=>∃ (f:Bool) (p v q u:Nat) (l:List UInt8),args=[.pt p v 0]/\hp p=.box v 138 2 (a5P f p v q u l)/\hp q=a6w u l/\l.length<=100000000000/\K (.st l) (a0y hp q .dead) top nx
theorem c59:a0f Tryz.prog 92 d7f:=by
 refine⟨a5D Tryz.func92 rfl (by decide),?_⟩;rintro args hp top nx K ⟨f,p,v,q,u,l,rfl,hrow,hrow2,hlen,hK⟩ c η w vs hs hdead hargs;by_cases h0:l=[]
 ·subst h0;rw [c3H] at hrow;rw [b5l] at hrow2
  have e:a0y hp q .dead=hp:=by
   funext k
   unfold a0y;split
   ·rename_i h;rw [h,hrow2]
   ·rfl
  rw [e] at hK;cases hargs with
  | cons hx hr=>cases hr with
    | nil=>
      obtain⟨b,cap,hη,rfl⟩:=hx;have hr:=hs.rows p;rw [hrow] at hr;obtain⟨b',cur,hb,hh,hsz,hc⟩:=hr _ _ hη;obtain rfl:b=b':=by simpa using hb
      obtain⟨x0,hx0,_,_⟩:=hc 0 (by decide);obtain⟨x1,hx1,_,hr1⟩:=hc 1 (by decide);have hr1:x1=.slice none 0 0:=hr1;subst hr1
      have hcur:cur=#[x0,.slice none 0 0]:=by
       apply Array.ext
       ·simp [hsz]
       ·intro i h1 h2
        match i,h2 with
        | 0,_=>rw [Array.getElem?_eq_getElem h1] at hx0;exact oJI hx0
        | 1,_=>rw [Array.getElem?_eq_getElem h1] at hx1;exact oJI hx1
      refine (b5c b x0 w (by rw [hh,hcur])).mono ?_;rintro e w' ⟨rfl,hf⟩;exact⟨_,_,_,_,_,η,rfl,hK,hs.world hf,hdead,rfl⟩
 ·rw [b0T h0] at hrow;rw [a4u h0] at hrow2;exact (d1J.2 [.pt p v 0] hp top nx K (.inl ⟨f,p,v,q,u,l,rfl,hrow,hrow2,h0,hlen,hK⟩) c η w vs hs hdead hargs)
end
set_option maxHeartbeats 8000000
section
theorem Fr.grown (w:World) (k:Nat) (os:Array Obj):Fr (fun _=>False) w (Go.Sort.grow (w.drewN k) os):=by
 refine⟨rfl,rfl,rfl,?_,fun b hb _=>?_⟩
 ·show w.heap.size<=(w.heap++os).size;rw [Array.size_append];omega
 ·show (w.heap++os)[b]?=w.heap[b]?;rw [Array.getElem?_append_left hb]
theorem c8J {w:World} (hT:Tz w):Lib.TabIs Tryz.prog w "internal/strconv.uint64pow10" .u64 Lib.pow10Tab:=by
 obtain⟨o,ho,t,f,rfl⟩:=hT 5 d8w rfl;have hg:Tryz.prog.globalNamed "internal/strconv.uint64pow10" = some 5:=by decide +kernel
 unfold Lib.TabIs World.var?;rw [hg];simp only [Option.bind_some,ho]
@[go_sem] def d6M:a0j:=a0j.f1 kI (fun n=>0<=n/\n<=1000000000000) (fun n=>kS.enc (Lib.itoa n))
theorem a8t:a0b Tryz.prog 117 d6M:=by
 refine a0b.rawT Tryz.func117 rfl (by decide) fun args hp w L vs hT hL ha=>?_
 match args,hp with
 | [x],hp=>
   obtain⟨h1,h2⟩:=hp;cases ha with
   | cons hx hr=>cases hr with
     | nil=>
       have ex:=h1 _ _ _ _ hx;simp only [kI,Rep] at ex;subst ex;refine (Tryz.strconv_Itoa (kI.dec x) (by omega) (by omega) w (c8J hT)).mono ?_;rintro e w' ⟨rfl,k,os,rfl⟩;exact⟨_,rfl,Fr.grown w k os,rfl⟩
attribute [local irreducible] AW a0h a0H a0c
theorem a3j {n:Int} (h:0<=n) (h2:n<1000000000000):(Lib.itoa n).length<=12:=by
 obtain⟨k,rfl⟩:=Int.eq_ofNat_of_zero_le h;unfold Lib.itoa;rw [if_neg (by omega)]
 exact b33 12 _ (by omega) (by rw [Int.toNat_natCast];have:(10:Nat) ^ 12=1000000000000:=by decide
                               omega)
theorem a6A {a n:Int} (h1:0<=a) (h2:a<=1000000000) (h3:0<=n) (h4:n<=1000000000):(b12 a n).length<=30:=by
 have:=a3j (n:=a+1) (by omega) (by omega);have:=a3j (n:=n) (by omega) (by omega);unfold b12;simp only [lAp,lCo,List.length_nil];omega
def b8n:a0j:=a0j.f2 kI kI (fun a n=>(0<=a/\a<=1000000000)/\0<=n/\n<=1000000000) (fun a n=>kS.enc (b12 a n))
theorem c5b:a0b Tryz.prog 148 b8n:=by
 refine a0b.f2 Tryz.func148 rfl (by decide) Tryz.results148 Tryz.ntmps148 (by decide) fun a n ⟨⟨h1,h2⟩,h3,h4⟩=>?_
 have hΓ:=gkC a8t gkN;refine awN hΓ rfl ?_;simp only [go_sem];have l1:=a3j (n:=a+1) (by omega) (by omega);have l2:=a3j (n:=n) (by omega) (by omega);exact⟨by omega,by omega,by omega,by omega,by omega,rfl⟩
@[go_sem] def d3F:a0j:=a0j.f1 (kA (eP eI (eP eI (eL (eP eI (eL eS)))))) (fun h=>(0<=h.1/\h.1<=1000000)/\(0<=h.2.1/\h.2.1<=100000000)/\h.2.2.length<10000/\∀ s∈h.2.2,s.2.length<=10000) (fun h=>kS.enc (a5u h))
theorem c99:a0b Tryz.prog 89 d3F:=by
 refine a0b.f1 Tryz.func89 rfl (by decide) Tryz.results89 Tryz.ntmps89 (by decide) fun h ⟨⟨h1,h2⟩,⟨h3,h4⟩,h5,h6⟩=>?_
 have hΓ:=gkC b15 (gkC c5b gkN);obtain⟨A,B,st⟩:=h;dsimp only at h1 h2 h3 h4 h5 h6;have c0:=Nat.le_trans (a2k h6 0) (Nat.mul_le_mul_right _ (show st.length<=10000 by omega));have c1:=Nat.le_trans (a2k h6 1) (Nat.mul_le_mul_right _ (show st.length<=10000 by omega));have c2:=Nat.le_trans (a2k h6 2) (Nat.mul_le_mul_right _ (show st.length<=10000 by omega));refine awN hΓ rfl ?_;simp only [go_sem,b8n,a2y,b3r,d4s,d1n,d27,hk0,hk1,hk2];have l1:=a6A (a:=A) (n:=(a0o 0 st:Int)+a0o 1 st) h1 (by omega) (by omega) (by omega);have l2:=a6A (a:=B) (n:=(a0o 0 st:Int)+a0o 2 st) h3 (by omega) (by omega) (by omega);exact⟨⟨h5,h6⟩,by omega,⟨by omega,by omega,by omega⟩,by omega,by omega,by omega,⟨by omega,by omega,by omega⟩,by omega,by omega,rfl⟩
theorem c1P {nx n m:Nat} {l:List UInt8} {b:UInt8} {dd:Nat->Nat->AV} (hn:n=l.length) (hm:m=n+1) (hd:dd 0 0=.val (.int .u8 b.toNat)):a0c (.sl nx 5 1 m (apC n (a1y l) dd)) (a0i nx (l++[b])):=by
 refine a0c.trans (a0c.sl rfl (d:=apC n (a1y l) (a1y [b])) fun i hi j hj=>?_) (b0v hn (by simpa using hm));simp only [apC];split
 ·exact avR
 ·rw [show i-n=0 by omega,show j=0 by omega,hd];exact avR
def b4O:a0p:=fun args hp top nx K=>∃ (v u:Nat) (l:List UInt8) (b:UInt8),args=[.pt 0 v 0,.val (.int .u8 b.toNat)]/\hp=rws [(0,.box v 138 2 (a5P true 0 v 1 u l)),(1,a6w u l)]/\top=2/\l≠[]/\l.length<=100000000000/\
 ∀ u' nx',nx<=u'->nx<=nx'->K (.val .nilIface) (rws [(0,.box v 138 2 (a5P true 0 v 1 u' (l++[b]))),(1,a6w u' (l++[b]))]) 2 nx'
theorem b8w:a0f Tryz.prog 90 b4O:=by
 refine a0f.mk Tryz.func90 rfl (by decide) Tryz.results90 Tryz.ntmps90 ?_;rintro args hp top nx K ⟨v,u,l,b,rfl,rfl,rfl,hl0,hl,hK⟩;have hΓ:=gkM b48 gkN;refine⟨Nat.le_of_ble_eq_true rfl,AW.late ?_⟩;refine awL hΓ [1] rfl ?_;simp only [go_sem];refine⟨true,0,v,_,rfl,rfl,?_⟩;have hls:¬l++[b]=[]:=fun h=>hl0 (List.append_eq_nil_iff.1 h).1
 refine AW.cut ⟨[(0,.pt 0 v 0),(1,.val (.int .u8 b.toNat))],[(0,.box v 138 2 (b7F true 0 v (.ow 1 u l.length))),(1,a0i u l)],17,2,nx,[]⟩ ?_ ?_
 ·rw [a4u hl0];simp only [go_sem,hl0];exact⟨rlR,rlR⟩
 refine awN hΓ rfl ?_;simp only [go_sem,b7X,a0i];refine⟨by omega,_,a0e (fun p=>p) (l:=[(4,.val .nilIface)]) (r:=[(0,.box v 138 2 (a5P true 0 v 1 nx (l++[b]))),(1,a6w nx (l++[b]))]) (sz:=17) (top:=2) (nx:=nx+1) (df:=[]) ?_,?_⟩
 ·rw [b0T hls,a4u hls];simp only [go_sem];refine⟨avR,a0c.box fun j hj=>?_,c1P rfl rfl rfl⟩
  match j,hj with
  | 0,_=>exact avR
  | 1,_=>exact avR
 ·exact⟨rfl,trivial,hK nx (nx+1) (nLR _) (by omega)⟩
@[go_sem] def c1q:a0p:=a0U b4O
theorem c27:a0f Tryz.prog 90 c1q:=b8w.frame
theorem b2c {p q v u:Nat} {l:List UInt8} {b:UInt8} {hp:Nat->Row} {top nx:Nat} {K:AV->(Nat->Row)->Nat->Nat->Prop} (hpq:p≠q)
  (hr:a0c (hp p) (.box v 138 2 (a5P true p v q u l))) (hr2:a0c (hp q) (a6w u l)) (ht:p<top/\q<top) (hl0:l≠[]) (hl:l.length<=100000000000)
  (hK:∀ u' nx',nx<=u'->nx<=nx'->K (.val .nilIface) (a0y (a0y hp p (.box v 138 2 (a5P true p v q u' (l++[b])))) q (a6w u' (l++[b]))) top nx') :
  c1q [.pt p v 0,.val (.int .u8 b.toNat)] hp top nx K:=by
 have e1:(hp p).ver=some v:=hr.vers.symm;refine⟨[p,q],[.pt 0 v 0,.val (.int .u8 b.toNat)],rws [(0,.box v 138 2 (a5P true 0 v 1 u l)),(1,a6w u l)],by simp [hpq],by simp;omega,.cons a0h.pt (.cons  avR  .nil),b3i (hr.trans (b0Q true p q 0 1 v u l)) hr2,fun i hi=>a1b (top:=2) (by simp) i (by simpa using hi),v,u,l,b,rfl,rfl,rfl,hl0,hl,fun u' nx' h1 h3=>?_⟩;refine⟨_,_,avR,fun i o ho=>?_,fun o ho=>?_,fun o ho w hv=>?_,hK u' nx' h1 h3⟩
 ·match i with
  | 0=>
    simp only [gCZ,oSI] at ho;subst ho;rw [a0d _ _ hpq,a0g];exact b0Q true 0 1 p q v u' _
  | 1=>
    simp only [gCS,gCZ,oSI] at ho;subst ho;rw [a0g];exact rlR
  | i+2=>simp at ho
 ·simp only [List.mem_cons,List.not_mem_nil,or_false,not_or] at ho;rw [a0d _ _ ho.2,a0d _ _ ho.1]
 ·simp only [List.mem_cons,List.not_mem_nil,or_false] at ho;rcases ho with rfl|rfl
  ·rw [a0d _ _ hpq,a0g] at hv;have:some v=some w:=hv;obtain rfl:=oJI this;exact .inl e1
  ·rw [a0g,a4u (by simp)] at hv;have:some u'=some w:=hv;obtain rfl:=oJI this;exact .inr h1
end
section
theorem Fr.drewN (w:World) (k:Nat):Fr (fun _=>False) w (w.drewN k):=⟨rfl,rfl,rfl,nLR _,fun _ _ _=>rfl⟩
theorem b4r {w:World} (hT:Tz w):∃ m,w.cell? ⟨0,0,none⟩=some (.int .i64 m):=by
 obtain⟨o,ho,m,t,f,rfl⟩:=hT 0 d8c rfl;refine⟨m,?_⟩;unfold World.cell?;rw [show (⟨0,0,none⟩:Addr).block=0 from rfl,ho];rfl
theorem Fr.bytes (w:World) (e:TypeId) (t:ByteArray):Fr (fun _=>False) w (Lib.bytesWorld w e t):=by
 refine⟨?_,?_,?_,by rw [Lib.bytesWorld_size];omega,fun b hb _=>Lib.bytesWorld_at_old w e t b hb⟩
 all_goals (unfold Lib.bytesWorld World.freeze;split<;>rfl)
theorem c4Z:∀ (n:Nat) (s:List UInt8),s.length<=n->Lib.count s [32]+1=(wdL s).length:=by
 intro n
 induction n with
 | zero=>
   intro s h;obtain rfl:=List.length_eq_zero_iff.1 (by omega:s.length=0);rw [Lib.count_miss (b6c (by simp))];rfl
 | succ n ih=>
   intro s h;rcases a2f 32 s with h1|⟨p,r,rfl,h1⟩
   ·rw [Lib.count_miss (b6c h1),a4X s h1];rfl
   ·rw [Lib.count_hit (i:=p.length) (by simp) (b2D h1)];have e:(p++32::r).drop (p.length+([32]:List UInt8).length)=r:=b58 p r 32;rw [e,a4b p r h1,lCo,<-ih r (by simp at h;omega)];omega
theorem b5H {w:World} {L:Nat->Prop} {n cap:Nat} {l:List (List UInt8)} {cells:Array Value} {t:TypeId} (hn:n=l.length) (hc:n<=cap) (hL:∀ b,L b->b<w.heap.size)
  (h:∀ i,i<l.length->cells[i]?=some (.string ⟨(l.getD i []).toArray⟩)):Rep (w.alloc (.cells cells t)) a0N L (sL eS l) (.slice (some ⟨w.heap.size,0,none⟩) n cap):=by
 subst hn;refine⟨_,_,rfl,hc,fun _ _=>⟨w.heap.size,0,rfl,fun hl=>Nat.lt_irrefl _ (hL _ hl),fun i hi j hj=>?_⟩⟩;have hj:j<1:=hj;obtain rfl:j=0:=by omega
 refine⟨_,?_,rfl,rfl⟩;rw [a0E (heap_alloc_new w _)];rw [Nat.zero_add,show i*eS.sz+0=i from Nat.mul_one i,h i hi];rfl
@[go_sem] def c8D:a0j:=a0j.f2 kS kS (fun s b=>s.length<=1000000000/\b=[32]) (fun s _=>sL eS (wdL s))
theorem b5O:a0b Tryz.prog 55 c8D:=by
 refine a0b.rawT Tryz.func55 rfl (by decide) fun args hp w L vs hT hL ha=>?_
 match args,hp with
 | [x,y],hp=>
   obtain⟨h1,h2,h3,h4⟩:=hp;cases ha with
   | cons hx hr=>cases hr with
     | cons hy hr=>cases hr with
       | nil=>
         have ex:=h1 _ _ _ _ hx;have ey:=h2 _ _ _ _ hy;simp only [kS,Rep] at ex ey;rw [show AV.str y=[32] from h4] at ey;subst ex ey;have h3:(AV.str x).length<=1000000000:=h3;show Calls _ _ _ _ fun e w'=>∃ v,e=.returned v/\Fr (fun _=>False) w w'/\Rep w' a0N L (sL eS (wdL (AV.str x))) v
         generalize AV.str x=s at *
         obtain⟨m,hm⟩:=b4r hT;refine (Tryz.strings_Split ⟨s.toArray⟩ ⟨[32].toArray⟩ m w (by rw [Lib.size_eq];simp only [List.toList_toArray];omega) hm (by decide)).mono ?_;rintro e w' ⟨rfl,rfl⟩;refine⟨_,rfl,Fr.alloc _ _ _,?_⟩
         have hl:(Lib.splitB ⟨[32].toArray⟩ 0 (Lib.countB ⟨s.toArray⟩ ⟨[32].toArray⟩) ⟨s.toArray⟩).map (·.data.toList)=wdL s:=by
          rw [Lib.splitB_data];exact c2H _ s (nLR _)
         have hc:Lib.countB ⟨s.toArray⟩ ⟨[32].toArray⟩+1=(wdL s).length:=c4Z _ s (nLR _);refine b5H hc (nLR _) hL fun i hi=>?_
         rw [<-hl,List.length_map] at hi;rw [<-hl];simp only [List.getElem?_toArray,List.getElem?_map,List.getElem?_eq_getElem hi,Option.map_some,List.getD,Option.getD_some]
@[go_sem] def d0l:a0j:=a0j.f3 kS kS kI (fun s b n=>s.length<=1000000000/\b=[32]/\n=3) (fun s _ _=>sL eS (Lib.splitN s [32] 3))
theorem c4R:a0b Tryz.prog 113 d0l:=by
 refine a0b.rawT Tryz.func113 rfl (by decide) fun args hp w L vs hT hL ha=>?_
 match args,hp with
 | [x,y,z],hp=>
   obtain⟨h1,h2,h2',h3,h4,h5⟩:=hp;cases ha with
   | cons hx hr=>cases hr with
     | cons hy hr=>cases hr with
       | cons hz hr=>cases hr with
         | nil=>
           have ex:=h1 _ _ _ _ hx;have ey:=h2 _ _ _ _ hy;have ez:=h2' _ _ _ _ hz;simp only [kS,kI,Rep] at ex ey ez;rw [show AV.str y=[32] from h4] at ey;rw [show AV.int z=3 from h5] at ez;subst ex ey ez;have h3:(AV.str x).length<=1000000000:=h3;show Calls _ _ _ _ fun e w'=>∃ v,e=.returned v/\Fr (fun _=>False) w w'/\Rep w' a0N L (sL eS (Lib.splitN (AV.str x) [32] 3)) v
           generalize AV.str x=s at *
           obtain⟨m,hm⟩:=b4r hT;refine (Tryz.strings_SplitN ⟨s.toArray⟩ ⟨[32].toArray⟩ 3 m w (by rw [Lib.size_eq];simp only [List.toList_toArray];omega) hm (by decide) (by decide) (by decide)).mono ?_;rintro e w' ⟨rfl,rfl⟩;refine⟨_,rfl,Fr.alloc _ _ _,?_⟩;have hs:(⟨s.toArray⟩:ByteArray).size=s.length:=by rw [Lib.size_eq]
           have hl:(Lib.splitB ⟨[32].toArray⟩ 0 (min 3 ((⟨s.toArray⟩:ByteArray).size+1)-1) ⟨s.toArray⟩).map (·.data.toList)=Lib.splitN s [32] 3:=by
            rw [Lib.splitB_data,hs];rfl
           have hle:=Lib.splitB_length_le ⟨[32].toArray⟩ 0 (min 3 ((⟨s.toArray⟩:ByteArray).size+1)-1) ⟨s.toArray⟩;refine b5H (by rw [<-hl,List.length_map]) (by omega) hL fun i hi=>?_
           rw [<-hl,List.length_map] at hi;rw [<-hl];unfold Lib.cellsOf;simp only [List.getElem?_toArray,List.getElem?_append_left (by simpa using hi:i<(List.map Value.string _).length),List.getElem?_map,List.getElem?_eq_getElem hi,Option.map_some,List.getD,Option.getD_some]
def c6R:a0j:=a0j.f3 kS kS kS (fun s a b=>s.length<=4000000000/\a=[10]/\b=[59]) (fun s _ _=>kS.enc (b1J s))
theorem c8v:a0b Tryz.prog 171 c6R:=by
 refine a0b.rawT Tryz.func171 rfl (by decide) fun args hp w L vs hT hL ha=>?_
 match args,hp with
 | [x,y,z],hp=>
   obtain⟨h1,h2,h2',h3,h4,h5⟩:=hp;cases ha with
   | cons hx hr=>cases hr with
     | cons hy hr=>cases hr with
       | cons hz hr=>cases hr with
         | nil=>
           have ex:=h1 _ _ _ _ hx;have ey:=h2 _ _ _ _ hy;have ez:=h2' _ _ _ _ hz;simp only [kS,Rep] at ex ey ez;rw [show AV.str y=[10] from h4] at ey;rw [show AV.str z=[59] from h5] at ez;subst ex ey ez;have h3:(AV.str x).length<=4000000000:=h3;show Calls _ _ _ _ fun e w'=>∃ v,e=.returned v/\Fr (fun _=>False) w w'/\Rep w' a0N L (kS.enc (b1J (AV.str x))) v
           generalize AV.str x=s at *
           obtain⟨m,hm⟩:=b4r hT;have hs:(⟨s.toArray⟩:ByteArray).size=s.length:=by rw [Lib.size_eq]
           have hc:Lib.countB ⟨s.toArray⟩ ⟨[10].toArray⟩<=s.length+1:=Lib.count_le s [10];have h59:(⟨[(59:UInt8)].toArray⟩:ByteArray).size=1:=rfl;refine (Tryz.strings_ReplaceAll ⟨s.toArray⟩ ⟨[10].toArray⟩ ⟨[59].toArray⟩ m w (by rw [hs];omega) hm (by decide) (by rw [hs,h59];omega)).mono ?_;rintro e w' ⟨rfl,hb⟩;refine⟨_,rfl,Fr.of_below hb _,?_⟩;have e:Lib.replaceAll s [10] [59]=b1J s:=b4A _ s (nLR _);show _=Value.string _;rw [<-e]
def ifV:AV:=.ob fun _ v=>∃ u x,v=.iface u x
def b4e (s:List UInt8):AV:=match Lib.atoiAll s with
 | .ok n=>tu2 (.val (.int .i64 n)) (.val .nilIface)
 | .range=>tu2 (.val (.int .i64 (Lib.atoiSat s))) ifV
 | _=>tu2 (.val (.int .i64 0)) ifV
theorem b8v {w:World} (hT:Tz w) {g:Nat} (h:tabZ g=some b9U):∃ u v,w.cell? ⟨g,0,none⟩=some (.iface u v):=by
 obtain⟨o,ho,u,v,t,f,rfl⟩:=hT g _ h;refine⟨u,v,?_⟩;rw [a0E ho];rfl
theorem c6n {w:World} {L:Nat->Prop} {n:Int} {u:TypeId} {x:Value}:Rep w a0N L (tu2 (.val (.int .i64 n)) ifV) (.tuple #[.int .i64 n,.iface u x]):=by
 refine⟨_,rfl,rfl,fun j hj=>?_⟩
 match j,hj with
 | 0,_=>exact⟨_,rfl,rfl⟩
 | 1,_=>exact⟨_,rfl,a0N,fun _ _ h=>h,u,x,rfl⟩
@[go_sem] def d3V:a0j:=a0j.f1 kS (fun s=>s.length<=1000000000) b4e
theorem d0f:a0b Tryz.prog 144 d3V:=by
 refine a0b.rawT Tryz.func144 rfl (by decide) fun args hp w L vs hT hL ha=>?_
 match args,hp with
 | [x],hp=>
   obtain⟨h1,h2⟩:=hp;cases ha with
   | cons hx hr=>cases hr with
     | nil=>
       have ex:=h1 _ _ _ _ hx;simp only [kS,Rep] at ex;subst ex;have h2:(AV.str x).length<=1000000000:=h2;show Calls _ _ _ _ fun e w'=>∃ v,e=.returned v/\Fr (fun _=>False) w w'/\Rep w' a0N L (b4e (AV.str x)) v
       generalize AV.str x=s at *
       have hs:(⟨s.toArray⟩:ByteArray).size=s.length:=by rw [Lib.size_eq]
       unfold b4e;rcases h:Lib.atoiAll s with n|_|_
       ·refine (Tryz.strconv_Atoi_ok ⟨s.toArray⟩ (by rw [hs];omega) n h w).mono ?_;rintro e w' ⟨rfl,hw⟩;refine⟨_,rfl,?_,?_⟩
        ·rcases hw with rfl|⟨t,rfl⟩
         ·exact Fr.refl _ _
         ·exact Fr.bytes w _ t
        ·refine⟨_,rfl,rfl,fun j hj=>?_⟩
         match j,hj with
         | 0,_=>exact⟨_,rfl,rfl⟩
         | 1,_=>exact⟨_,rfl,rfl⟩
       ·obtain⟨u,v,hc⟩:=b8v hT (g:=1) rfl;refine (Tryz.strconv_Atoi_syntax ⟨s.toArray⟩ (by rw [hs];omega) h _ w hc (.inr ⟨u,v,rfl⟩)).mono ?_;rintro e w' ⟨N,rfl,_,_,hb⟩;exact⟨_,rfl,Fr.of_below hb _,c6n⟩
       ·obtain⟨u,v,hc⟩:=b8v hT (g:=2) rfl;refine (Tryz.strconv_Atoi_range ⟨s.toArray⟩ (by rw [hs];omega) h _ w hc (.inr ⟨u,v,rfl⟩)).mono ?_;rintro e w' ⟨N,rfl,_,_,hb⟩;exact⟨_,rfl,Fr.of_below hb _,c6n⟩
end
section
attribute [local irreducible] AW a0h a0H a0c
@[go_sem] def d81:a0j:=a0j.f1 kS (fun l=>l.length<=100000000000) (fun l=>kI.enc (a42 l))
@[go_sem] def b6M:a0j:=a0j.f2 kS kU (fun _ _=>True) (fun a c=>kI.enc (Lib.indexByte a c.toNat.toUInt8))
theorem b4l:a0b Tryz.prog 146 b6M:=by
 refine a0b.raw Tryz.func146 rfl (by decide) fun args hp w L vs hL ha=>?_
 match args,hp with
 | [x,y],hp=>
   obtain⟨h1,h2,h3⟩:=hp;cases ha with
   | cons hx hr=>cases hr with
     | cons hy hr=>cases hr with
       | nil=>
         have ex:=a9y h1 hx;have ey:=a9y h2 hy;obtain rfl:=ex;obtain rfl:=ey;refine (Tryz.strings_IndexByte _ _ w).mono ?_;rintro e w' ⟨rfl,rfl⟩;exact⟨_,rfl,Fr.refl _ _,rfl⟩
theorem c48 (l:List UInt8) (h:l≠[]):(Lib.indexByte [60,124,61,62] (l.getD 0 0).toNat.toUInt8<0->a42 l=0)/\
  (¬Lib.indexByte [60,124,61,62] (l.getD 0 0).toNat.toUInt8<0->∀ n,1<=n->n<=l.length->(∀ k,k<n->l.getD k 0=l.getD 0 0)->(n<l.length->l.getD n 0≠l.getD 0 0)->n=a42 l):=by
 cases l with
 | nil=>exact absurd rfl h
 | cons c r=>
   have e:∀ c:UInt8,c.toNat.toUInt8=c:=fun c=>by simp
   simp only [List.getD_cons_zero,e]
   have hc:Lib.indexByte [60,124,61,62] c<0↔¬(c=60\/c=124\/c=61\/c=62):=by
    constructor
    ·intro h0 h1;rcases h1 with rfl|rfl|rfl|rfl<;>exact absurd h0 (by decide)
    ·intro h0;rcases Int.lt_or_le (Lib.indexByte [60,124,61,62] c) 0 with h1|h1
     ·exact h1
     ·obtain⟨o,ho⟩:=Int.eq_ofNat_of_zero_le h1;have:=(Lib.indexByte_some (o:=o) ho).1;have hm:=List.mem_of_getElem? this;simp only [List.mem_cons,List.not_mem_nil,or_false] at hm;exact absurd hm h0
   refine⟨fun h0=>?_,fun h0 n h1 h2 h3 h4=>?_⟩
   ·rw [a42,if_neg (hc.1 h0)]
   ·rw [a42,if_pos (Decidable.not_not.1 fun hh=>h0 (hc.2 hh))];obtain⟨m,rfl⟩:∃ m,n=m+1:=⟨n-1,by omega⟩;rw [a7l c r m (by simpa using h2) (fun k hk=>by simpa using h3 (k+1) (by omega)) (fun hm=>by simpa using h4 (by simpa using hm))];omega
theorem d3m:a0b Tryz.prog 180 d81:=by
 refine a0b.f1 Tryz.func180 rfl (by decide) Tryz.results180 Tryz.ntmps180 (by decide) fun l hl=>?_
 have hΓ:=gkC b4l gkN;by_cases h:l=[]
 ·subst h;refine awN hΓ rfl ?_;simp only [go_sem];rfl
 ·obtain⟨r1,r2⟩:=c48 l h;have hpos:0<l.length:=List.length_pos_iff.2 h;refine awN hΓ rfl ?_;simp only [go_sem,h];refine⟨by omega,fun h0=>by rw [r1 h0];rfl,fun h0=>?_⟩;refine AW.round (α:={ n:Nat // 1<=n/\n<=l.length/\∀ k,k<n->l.getD k 0=l.getD 0 0 }) (fun n=>⟨[(0,.st l),(3,.val (.int .i64 n.1))],[],27,0,0,[]⟩) (fun n=>l.length-n.1) ⟨1,nLR _,hpos,fun k hk=>by rw [show k=0 by omega]⟩ ?_ ?_
  ·simp only [go_sem]
  ·rintro⟨n,h1,h2,h3⟩;refine awN hΓ rfl ?_;simp only [go_sem];refine⟨fun _=>by omega,fun _=>by omega,fun⟨ha,hb⟩=>⟨by omega,⟨n+1,by omega,by omega,fun k hk=>?_⟩,by dsimp only;omega⟩,fun hh=>?_⟩
   ·rcases Nat.lt_or_ge k n with h'|h'
    ·exact h3 k h'
    ·obtain rfl:k=n:=by omega
     exact hb
   ·rw [r2 h0 n h1 h2 h3 fun hl=>hh (by omega)]
theorem b7r (l:List (List UInt8)) (x:List UInt8):a3r (l++[x])=max (a3r l) (a42 x):=by
 unfold a3r;rw [List.foldl_append];rfl
@[go_sem] def c4r:a0j:=a0j.f1 (kL (eL eS)) (fun l=>l.length<=100000000/\∀ f∈l,b5m f) (fun l=>kI.enc (a3r l.flatten))
theorem b9Z:a0b Tryz.prog 198 c4r:=by
 refine a0b.f1 Tryz.func198 rfl (by decide) Tryz.results198 Tryz.ntmps198 (by decide) fun fs ⟨hl,hf⟩=>?_
 have hΓ:=gkC d3m gkN;refine awZ hΓ rfl ?_;simp only [go_sem];refine AW.round (α:={ i:Nat // i<=fs.length }) (fun i=>⟨[(3,.val (.int .i64 (a3r (fs.take i.1).flatten))),(8,sL (eL eS) fs),(9,.val (.int .i64 fs.length)),(10,.val (.int .i64 i.1))],[],27,0,0,[]⟩) (fun i=>fs.length-i.1) ⟨0,by simp⟩ ?_ ?_
 ·simp only [go_sem];rfl
 ·rintro⟨i,hi⟩;refine awL hΓ [5] rfl ?_;simp only [go_sem];refine⟨fun hil=>?_,fun hil=>?_⟩
  ·have hlt:i<fs.length:=by omega
   have hfi:=hf _ (a0F fs [] hlt▸List.getElem_mem hlt);have hft:(fs.take (i+1)).flatten=(fs.take i).flatten++fs.getD i []:=by rw [a1U fs [] hlt];simp
   generalize hfe:fs.getD i []=f at *
   obtain⟨hf1,hf2⟩:=hfi;refine⟨by omega,?_⟩;refine AW.to (fun _:Unit=>Sh.st ⟨[(3,.val (.int .i64 (a3r ((fs.take i).flatten++f)))),(8,sL (eL eS) fs),(9,.val (.int .i64 fs.length)),(10,.val (.int .i64 i))],[],27,0,0,[]⟩) ?_ ?_
   ·refine AW.block (AW.round (α:={ k:Nat // k<=f.length }) (fun k=>⟨[(3,.val (.int .i64 (a3r ((fs.take i).flatten++f.take k.1)))),(8,sL (eL eS) fs),(9,.val (.int .i64 fs.length)),(10,.val (.int .i64 i)),(14,sL eS f),(15,.val (.int .i64 f.length)),(16,.val (.int .i64 k.1))],[],27,0,0,[]⟩) (fun k=>f.length-k.1) ⟨0,by simp⟩ ?_ ?_)
    ·simp only [go_sem];simp
    ·rintro⟨k,hk⟩;refine awN hΓ rfl ?_;simp only [go_sem];refine⟨fun hkf=>?_,fun hkf=>?_⟩
     ·have hkl:k<f.length:=by omega
      have hfl:=b5w f k;refine⟨by omega,by omega,by omega,⟨k+1,by omega⟩,⟨?_,by dsimp only;omega⟩,by dsimp only;omega⟩;dsimp only;rw [a1U f [] hkl,<-List.append_assoc,b7r];omega
     ·obtain rfl:k=f.length:=by omega
      refine⟨(),a0t ?_⟩;simp only [go_sem]
   ·intro _;simp only [go_sem];exact⟨by omega,⟨i+1,by omega⟩,⟨by dsimp only;rw [hft],by dsimp only;omega⟩,by dsimp only;omega⟩
  ·obtain rfl:i=fs.length:=by omega
   rw [List.take_length]
@[go_sem] def c2z:a0j:=a0j.f1 kS (fun l=>l.length<=100000000000) (fun l=>kB.enc (a0C l))
theorem b8e:a0b Tryz.prog 38 c2z:=by
 refine a0b.f1 Tryz.func38 rfl (by decide) Tryz.results38 Tryz.ntmps38 (by decide) fun l hl=>?_
 have hΓ:=gkN;refine awZ hΓ rfl ?_;simp only [go_sem];refine⟨fun _=>by omega,fun _=>by omega,?_⟩;unfold a0C;rcases Nat.eq_zero_or_pos l.length with h|h
 ·obtain rfl:=List.length_eq_zero_iff.1 h;rfl
 ·have e:((l.length:Int)-1).toNat=l.length-1:=by omega
  rw [e,List.getLast?_eq_getElem?,a0F _ _ (by omega),List.getElem?_eq_getElem (by omega)];simp [h]
end
section
attribute [local irreducible] AW a0h a0H a0c a3o
theorem a8N:∀ k:Nat,k<10->List.drop k (List.take (k+1) [48,49,50,51,52,53,54,55,56,57])=[UInt8.ofNat (48+k)]:=by decide
def a19 (k:Nat):a0j:=a0j.f1 kI (fun n=>(0<=n/\n<10 ^ (k+1))/\n<1000000000000) (fun n=>kS.enc (Lib.itoa n))
theorem d3R:∀ k,a0b Tryz.prog 39 (a19 k):=by
 intro k
 induction k with
 | zero=>
   refine a0b.f1 Tryz.func39 rfl (by decide) Tryz.results39 Tryz.ntmps39 (by decide) (fun n hn=>?_);obtain⟨⟨h0,h1⟩,hM⟩:=hn;have h1:n<10:=by simpa using h1
   have hΓ:=gkN;refine awN hΓ rfl ?_;simp only [go_sem];refine⟨fun h=>by omega,fun _=>⟨fun h=>by omega,fun _=>⟨fun _=>⟨⟨by omega,by omega⟩,⟨by omega,by omega,by omega⟩,?_⟩,fun h=>by omega⟩⟩⟩;obtain⟨k,rfl⟩:=Int.eq_ofNat_of_zero_le h0;have h1:k<10:=by omega
   rw [show ((k:Int)+1).toNat=k+1 by omega,Int.toNat_natCast,a8N k h1,a23,Lib.decDigits,dif_pos h1]
 | succ k ih=>
   refine a0b.f1 Tryz.func39 rfl (by decide) Tryz.results39 Tryz.ntmps39 (by decide) (fun n hn=>?_);obtain⟨⟨h0,h1⟩,hM⟩:=hn;obtain⟨n,rfl⟩:=Int.eq_ofNat_of_zero_le h0;have hΓ:GOK Tryz.prog (gam [(39,a19 k)]):=(.cons ih .nil);have e1:(n:Int).tdiv 10=((n / 10:Nat):Int):=by rw [Int.tdiv_eq_ediv_of_nonneg h0];omega
   have e2:(n:Int).tmod 10=((n % 10:Nat):Int):=by rw [Int.tmod_eq_emod_of_nonneg h0];omega
   have e3:((n / 10:Nat):Int)<10 ^ (k+1):=by
    rw [Int.pow_succ] at h1;omega
   have hl:(Lib.itoa ((n / 10:Nat):Int)).length<=12:=a3j (by omega) (by omega);refine awN hΓ rfl ?_;simp only [go_sem,e1,e2,a19];refine⟨fun h=>by omega,fun _=>⟨fun h=>by omega,fun _=>⟨fun _=>⟨⟨by omega,by omega⟩,⟨by omega,by omega,by omega⟩,?_⟩,fun h=>⟨⟨by omega,by omega⟩,⟨⟨by omega,e3⟩,by omega⟩,⟨by omega,by omega⟩,⟨by omega,by omega,by omega⟩,by omega,?_⟩⟩⟩⟩
   ·have h1:n<10:=by omega
    rw [a8N n h1,a23,Lib.decDigits,dif_pos h1]
   ·rw [a8N _ (Nat.mod_lt _ (by omega))];have h2:¬n<10:=by omega
    rw [a23,a23,Lib.decDigits.eq_def n,dif_neg h2]
@[go_sem] def c7P:a0j:=a19 9
theorem b1O:a0b Tryz.prog 39 c7P:=d3R 9
def nuO:Option Nat->AV
 | some n=>tu2 (kI.enc n) (kB.enc true)
 | none=>tu2 (kI.enc 0) (kB.enc false)
@[go_sem] noncomputable def c5l:a0j:=a0j.f1 kS (fun w=>w.length<=1000000) (fun w=>nuO (a3o w))
theorem b0z {o:Option Nat} (h:none=d7a o):o=none:=by
 cases o with
 | none=>rfl
 | some k=>cases h
theorem c5K {o:Option Nat} {n:Int} (h:some n=d7a o):∃ k:Nat,n=k/\o=some k:=by
 cases o with
 | none=>cases h
 | some k=>exact⟨k,oJI h,rfl⟩
theorem c3C {P:Program} {o:Oper} {st:AS} {K:AS->Prop} {t t2:TypeId} {x:Operand} (ho:o.op=.binOp .neq t x (.const .nilIface) t2) (h:d3Z P t) (hx:st.ev x=ifV) (hd:a0w st.sz o.dst)
  (hK:K ⟨a1t st.fr o.dst (.val (.bool true)),st.hp,st.sz,st.top,st.nx,st.df⟩):OpW P o st K:=by
 refine a5J hd (fun c η a w hsr=>?_) hK;have hv:=a1h hsr.slots x;unfold AS.ev at hx;rw [hx] at hv;obtain⟨_,_,u,y,hv⟩:=hv;refine⟨.bool true,?_,rfl⟩;unfold execOp;rw [ho];have hc:a.eval (.const .nilIface)=.nilIface:=rfl;have hq:(Op.equal t (.iface u y) .nilIface).run P w=.ok false w:=run_equal_held_nil w t u y h;simp [hv,hc,binOp,eqGuard,hq]
theorem c1T (w:List UInt8):(∃ n,Lib.atoiAll w=.ok n)\/(∃ m:Int,b4e w=tu2 (.val (.int .i64 m)) ifV)/\a3o w=none:=by
 have hn:=b5K w;unfold b81 at hn;unfold b4e;rcases h:Lib.atoiAll w with n|_|_
 ·exact .inl ⟨n,rfl⟩
 ·rw [h] at hn;exact .inr ⟨⟨_,rfl⟩,b0z hn⟩
 ·rw [h] at hn;exact .inr ⟨⟨_,rfl⟩,b0z hn⟩
theorem a6b:a0b Tryz.prog 114 c5l:=by
 refine a0b.f1 Tryz.func114 rfl (by decide) Tryz.results114 Tryz.ntmps114 (by decide) fun w hw=>?_
 have hΓ:=gkC d0f (gkC a8t gkN);rcases c1T w with⟨n,h⟩|⟨⟨m,eo⟩,hn⟩
 ·have hn:=b5K w;unfold b81 at hn;have eo:b4e w=tu2 (.val (.int .i64 n)) (.val .nilIface):=by unfold b4e;rw [h]
  rw [h] at hn;dsimp only at hn;by_cases hb:n<0\/1000000<n\/Lib.itoa n≠w
  ·rw [if_pos hb] at hn;rw [b0z hn]
   have hd:(decide (n<0)||decide (1000000<n)||decide ¬Lib.itoa n=w)=true:=by
    simpa [or_assoc] using hb
   refine awN hΓ rfl ?_;simp only [go_sem,eo];refine⟨by omega,fun h=>by simp [h],fun h=>?_,fun h=>by simp [h],fun _=>?_,fun h=>absurd (hd.symm.trans h) (by decide)⟩
   ·simp at h;omega
   ·simp only [go_sem,nuO]
  ·rw [if_neg hb] at hn;obtain⟨k,rfl,hk⟩:=c5K hn;rw [hk];simp only [not_or,Decidable.not_not] at hb;obtain⟨hb1,hb2,hb3⟩:=hb;have hI1:((k:Int)<0)=False:=eq_false hb1;have hI2:((1000000:Int)<k)=False:=eq_false hb2;refine awN hΓ rfl ?_;simp only [go_sem,eo,hI1,hI2,hb3];refine⟨by omega,by omega,?_⟩;simp only [go_sem,nuO]
 ·rw [hn];refine awL hΓ [1] rfl ?_;simp only [go_sem,eo];refine⟨by omega,AW.fork (AW.fork (AW.regionO hΓ [false,true] ?_))⟩;simp only [go_sem];refine c3C rfl (of_eq_true d1v) rfl (by exact (by decide:12<28)) ?_;simp only [go_sem];refine awN hΓ rfl ?_;simp only [go_sem];simp only [go_sem,nuO]
def a0B (w:List UInt8):Int×Bool:=if w=[108,101,102,116] then (1,true) else if w=[98,97,115,101] then (2,true) else if w=[114,105,103,104,116] then (3,true) else (0,false)
@[go_sem] def d25:a0j:=a0j.f1 kS (fun _=>True) (fun w=>tu2 (kI.enc (a0B w).1) (kB.enc (a0B w).2))
theorem b9F:a0b Tryz.prog 121 d25:=by
 refine a0b.f1 Tryz.func121 rfl (by decide) Tryz.results121 Tryz.ntmps121 (by decide) fun w _=>?_
 have hΓ:=gkN;by_cases h1:w=[108,101,102,116]
 ·subst h1;refine awN hΓ rfl ?_;simp only [go_sem]
  trivial
 by_cases h2:w=[98,97,115,101]
 ·subst h2;refine awN hΓ rfl ?_;simp only [go_sem];decide
 by_cases h3:w=[114,105,103,104,116]
 ·subst h3;refine awN hΓ rfl ?_;simp only [go_sem];decide
 have e:a0B w=(0,false):=by unfold a0B;rw [if_neg h1,if_neg h2,if_neg h3]
 refine awN hΓ rfl ?_;simp only [go_sem,h1,h2,h3,e]
def a6V (w:List UInt8):List UInt8:=if w=[45] then [] else w
@[go_sem] def d0d:a0j:=a0j.f1 kS (fun _=>True) (fun w=>kS.enc (a6V w))
theorem c2I:a0b Tryz.prog 115 d0d:=by
 refine a0b.f1 Tryz.func115 rfl (by decide) Tryz.results115 Tryz.ntmps115 (by decide) fun w _=>?_
 have hΓ:=gkN;refine awN hΓ rfl ?_;simp only [go_sem];unfold a6V;exact⟨fun h=>by rw [if_pos h],fun h=>by rw [if_neg h]⟩
@[go_sem] def b7N:a0j:=a0j.f1 kS (fun _=>True) (fun w=>kS.enc (a6V w))
theorem b4t:a0b Tryz.prog 69 b7N:=by
 refine a0b.f1 Tryz.func69 rfl (by decide) Tryz.results69 Tryz.ntmps69 (by decide) fun w _=>?_
 have hΓ:=gkN;refine awN hΓ rfl ?_;simp only [go_sem];unfold a6V;exact⟨fun h=>by rw [if_pos h],fun h=>by rw [if_neg h]⟩
@[go_sem] def d4h:a0j:=a0j.f1 kS (fun s=>s.length<=4000000000) (fun s=>kS.enc (a2P s))
theorem b9y:a0b Tryz.prog 118 d4h:=by
 refine a0b.f1 Tryz.func118 rfl (by decide) Tryz.results118 Tryz.ntmps118 (by decide) fun s hs=>?_
 have hΓ:=gkC c8v gkN;refine awN hΓ rfl ?_;simp only [go_sem,c6R];unfold a2P;exact⟨fun h=>by rw [if_pos h],fun h=>⟨hs,by rw [if_neg h]⟩⟩
@[go_sem] def c1C:a0j:=a0j.f1 kS (fun s=>s.length<=4000000000) (fun s=>kS.enc (a2P s))
theorem b0o:a0b Tryz.prog 41 c1C:=by
 refine a0b.f1 Tryz.func41 rfl (by decide) Tryz.results41 Tryz.ntmps41 (by decide) fun s hs=>?_
 have hΓ:=gkN;by_cases h:s=[]
 ·subst h;refine awN hΓ rfl ?_;simp only [go_sem];rfl
 have e:a2P s=b1J s:=by unfold a2P;rw [if_neg h]
 rw [e];refine awZ hΓ rfl ?_;simp only [go_sem,h];refine AW.round (α:={ i:Nat // i<=s.length }) (fun i=>⟨[(0,.st s),(3,.st (b1J (s.take i.1))),(4,.val (.int .i64 i.1))],[],27,0,0,[]⟩) (fun i=>s.length-i.1) ⟨0,nZL _⟩ ?_ ?_
 ·simp only [go_sem];simp [b1J]
 ·rintro⟨i,hi⟩;rcases Nat.lt_or_ge i s.length with hlt|hge
  ·have hlI:((i:Int)<(s.length:Nat))=True:=eq_true (by omega)
   have et:b1J (s.take (i+1))=b1J (s.take i)++[d0R (s.getD i 0)]:=by
    rw [a0K s 0 hlt];simp [b1J]
   refine awN hΓ rfl ?_;simp only [go_sem,hlI];have hll:(b1J (s.take i)).length=i:=by simp [b1J,Nat.min_eq_left hi]
   refine⟨by omega,fun h=>⟨by omega,by omega,⟨i+1,hlt⟩,⟨?_,rfl⟩,by dsimp only;omega⟩,fun h=>⟨by omega,by omega,by omega,by omega,⟨i+1,hlt⟩,⟨?_,rfl⟩,by dsimp only;omega⟩⟩
   ·dsimp only;rw [et,h];rfl
   ·dsimp only;rw [et,show List.drop i (List.take (i+1) s)=[s.getD i 0] by rw [a0K s 0 hlt,List.drop_left' (by rw [List.length_take];omega)]];unfold d0R;rw [if_neg h]
  ·obtain rfl:i=s.length:=by omega
   have hlI:((s.length:Int)<(s.length:Nat))=False:=eq_false (by omega);refine awN hΓ rfl ?_;simp only [go_sem,hlI]
@[go_sem] def c97:a0j:=a0j.f2 kS kI (fun s n=>s.length<=1000000000/\1<=n/\n<=1000000) (fun s n=>kS.enc (a4B n.toNat s))
theorem c4l:a0b Tryz.prog 68 c97:=by
 refine a0b.f2 Tryz.func68 rfl (by decide) Tryz.results68 Tryz.ntmps68 (by decide) fun s n ⟨hs,hn1,hn2⟩=>?_
 have hΓ:=gkN;generalize hg:a4B n.toNat s=r;refine awZ hΓ rfl ?_;simp only [go_sem];refine AW.round (α:={ i:Nat×Nat // i.1<=s.length/\(1<=i.2/\i.2<=1000000)/\r=a4B i.2 (s.drop i.1) }) (fun i=>⟨[(0,.st s),(1,.val (.int .i64 i.1.2)),(5,.val (.int .i64 i.1.1))],[],24,0,0,[]⟩) (fun i=>s.length-i.1.1) ⟨(0,n.toNat),nZL _,by dsimp only;omega,hg.symm⟩ ?_ ?_
 ·simp only [go_sem];omega
 ·rintro⟨⟨i,m⟩,hi,⟨hm1,hm2⟩,hb⟩;dsimp only at hi hm1 hm2 hb;rcases Nat.lt_or_ge i s.length with hlt|hge
  ·have hlI:((i:Int)<(s.length:Nat))=True:=eq_true (by omega)
   have hd:s.drop i=s.getD i 0::s.drop (i+1):=by
    rw [List.drop_eq_getElem_cons hlt];simp [List.getD,List.getElem?_eq_getElem hlt]
   rw [hd,a4B] at hb;refine awN hΓ rfl ?_;simp only [go_sem,hlI];refine⟨by omega,fun h=>⟨by omega,fun h2=>⟨by omega,by omega,?_⟩,fun h2=>⟨by omega,⟨(i+1,m-1),hlt,⟨by dsimp only;omega,by dsimp only;omega⟩,?_⟩,⟨by dsimp only;omega,by dsimp only;omega⟩,by dsimp only;omega⟩⟩,fun h=>⟨by omega,⟨(i+1,m),hlt,⟨hm1,hm2⟩,?_⟩,⟨rfl,by dsimp only;omega⟩,by dsimp only;omega⟩⟩
   ·rw [hb,if_pos h,if_pos (by omega)]
   ·rw [hb,if_pos h,if_neg (by omega)]
   ·rw [hb,if_neg h]
  ·obtain rfl:i=s.length:=by omega
   have hlI:((s.length:Int)<(s.length:Nat))=False:=eq_false (by omega);have hb':r=a4B m []:=by rw [hb,List.drop_length]
   refine awN hΓ rfl ?_;simp only [go_sem,hlI];exact hb'.symm
end
section
attribute [local irreducible] AW a0h a0H a0c
def b3S:a0j:=a0j.f2 (kL eI) (kL eI) (fun a b=>a.length<1000000000/\b.length<1000000000) (fun a b=>kI.enc (ahd a b))
theorem b7H:c94 Tryz.prog 242:=a3w Tryz.func242 (by decide) rfl rfl
theorem c3u:a0b Tryz.prog 218 b3S:=by
 refine a0b.f2D b7H Tryz.func218 rfl (by decide) Tryz.results218 Tryz.ntmps218 (by decide) fun a b hd=>?_
 have hΓ:=gkN;refine awZ hΓ rfl ?_;simp only [go_sem];refine AW.round (α:={ i:Nat // i<=a.length/\i<=b.length/\∀ k,k<i->a.getD k 0=b.getD k 0 }) (fun i=>⟨[(0,sL eI a),(1,sL eI b),(4,.val (.int .i64 i.1))],[],29,0,0,[⟨.fn (.func 242) #[],#[]⟩]⟩) (fun i=>a.length-i.1) ⟨0,by simp⟩ ?_ ?_
 ·simp only [go_sem]
 ·rintro⟨i,hi,hb,hk⟩;refine awZ hΓ rfl ?_;simp only [go_sem]
  repeat' (first|refine And.intro ?_ ?_|intro h)
  all_goals (try omega)
  ·refine⟨⟨i+1,by omega,by omega,fun k hk'=>?_⟩,by simp,by simp;omega⟩;rcases Nat.lt_or_ge k i with h'|h'
   ·exact hk k h'
   ·obtain rfl:k=i:=by omega
    exact h.2
  ·exact congrArg _ (b6r 0 i a b hi hb hk fun p q=>h ⟨by omega,by omega⟩)
def b0N:a0j:=a0j.f2 (kL eI) (kL eI) (fun a b=>a.length<1000000000/\b.length<1000000000) (fun a b=>kI.enc (bhd a b))
theorem b4h:c94 Tryz.prog 243:=a3w Tryz.func243 (by decide) rfl rfl
theorem b9q:a0b Tryz.prog 219 b0N:=by
 refine a0b.f2D b4h Tryz.func219 rfl (by decide) Tryz.results219 Tryz.ntmps219 (by decide) fun a b hd=>?_
 have hΓ:=gkN;refine awZ hΓ rfl ?_;simp only [go_sem];refine AW.round (α:={ i:Nat // i<=a.length/\i<=b.length/\∀ k,k<i->a.getD (a.length-1-k) 0=b.getD (b.length-1-k) 0 }) (fun i=>⟨[(0,sL eI a),(1,sL eI b),(4,.val (.int .i64 i.1))],[],37,0,0,[⟨.fn (.func 243) #[],#[]⟩]⟩) (fun i=>a.length-i.1) ⟨0,by simp⟩ ?_ ?_
 ·simp only [go_sem]
 ·rintro⟨i,hi,hb,hk⟩;refine awZ hΓ rfl ?_;simp only [go_sem];have e1:(↑i:Int)<↑a.length->((a.length:Int)-1-i).toNat=a.length-1-i:=fun h=>by omega
  have e2:(↑i:Int)<↑b.length->((b.length:Int)-1-i).toNat=b.length-1-i:=fun h=>by omega
  repeat' (first|refine And.intro ?_ ?_|intro h)
  all_goals (try omega)
  ·refine⟨⟨i+1,by omega,by omega,fun k hk'=>?_⟩,by simp,by simp;omega⟩;rcases Nat.lt_or_ge k i with h'|h'
   ·exact hk k h'
   ·obtain rfl:k=i:=by omega
    have:=h.2
    rwa [e1 h.1.1,e2 h.1.2] at this
  ·refine congrArg _ (c66 0 i a b hi hb hk fun p q=>?_);have:=h ⟨by omega,by omega⟩
   rwa [e1 (by omega),e2 (by omega)] at this
def c1t:a0j:=a0j.f2 (kL eI) (kL eI) (fun a b=>a.length<1000000000/\b.length<1000000000) (fun a b=>tu2 (kI.enc (ahd a b)) (kI.enc (bhd (a.drop (ahd a b)) (b.drop (ahd a b)))))
theorem c9X:a0b Tryz.prog 187 c1t:=by
 refine a0b.f2 Tryz.func187 rfl (by decide) Tryz.results187 Tryz.ntmps187 (by decide) fun a b hd=>?_
 have hΓ:GOK Tryz.prog (gam [(218,b3S),(219,b0N)]):=.cons c3u (.cons b9q .nil);refine awZ hΓ rfl ?_;have h1:=a5B a b;have p1:(List.range (a.length-ahd a b)).map (fun i=>a.getD (ahd a b+i) 0)=a.drop (ahd a b):=by rw [a6T a 0 (by omega),List.take_of_length_le (by simp)]
 have p2:(List.range (b.length-ahd a b)).map (fun i=>b.getD (ahd a b+i) 0)=b.drop (ahd a b):=by rw [a6T b 0 (by omega),List.take_of_length_le (by simp)]
 simp only [go_sem,b3S,b0N,p1,p2,List.length_drop];omega
def a87:a0j:=a0j.f2 (kL eS) (kL eS) (fun a b=>a.length<1000000000/\b.length<1000000000) (fun a b=>kI.enc (ahd a b))
theorem b60:c94 Tryz.prog 247:=a3w Tryz.func247 (by decide) rfl rfl
theorem b5W:a0b Tryz.prog 230 a87:=by
 refine a0b.f2D b60 Tryz.func230 rfl (by decide) Tryz.results230 Tryz.ntmps230 (by decide) fun a b hd=>?_
 have hΓ:=gkN;refine awZ hΓ rfl ?_;simp only [go_sem];refine AW.round (α:={ i:Nat // i<=a.length/\i<=b.length/\∀ k,k<i->a.getD k []=b.getD k [] }) (fun i=>⟨[(0,sL eS a),(1,sL eS b),(4,.val (.int .i64 i.1))],[],29,0,0,[⟨.fn (.func 247) #[],#[]⟩]⟩) (fun i=>a.length-i.1) ⟨0,by simp⟩ ?_ ?_
 ·simp only [go_sem]
 ·rintro⟨i,hi,hb,hk⟩;refine awZ hΓ rfl ?_;simp only [go_sem]
  repeat' (first|refine And.intro ?_ ?_|intro h)
  all_goals (try omega)
  ·refine⟨⟨i+1,by omega,by omega,fun k hk'=>?_⟩,by simp,by simp;omega⟩;rcases Nat.lt_or_ge k i with h'|h'
   ·exact hk k h'
   ·obtain rfl:k=i:=by omega
    exact h.2
  ·exact congrArg _ (b6r [] i a b hi hb hk fun p q=>h ⟨by omega,by omega⟩)
def b1s:a0j:=a0j.f2 (kL eS) (kL eS) (fun a b=>a.length<1000000000/\b.length<1000000000) (fun a b=>kI.enc (bhd a b))
theorem b3x:c94 Tryz.prog 256:=a3w Tryz.func256 (by decide) rfl rfl
theorem b8S:a0b Tryz.prog 248 b1s:=by
 refine a0b.f2D b3x Tryz.func248 rfl (by decide) Tryz.results248 Tryz.ntmps248 (by decide) fun a b hd=>?_
 have hΓ:=gkN;refine awZ hΓ rfl ?_;simp only [go_sem];refine AW.round (α:={ i:Nat // i<=a.length/\i<=b.length/\∀ k,k<i->a.getD (a.length-1-k) []=b.getD (b.length-1-k) [] }) (fun i=>⟨[(0,sL eS a),(1,sL eS b),(4,.val (.int .i64 i.1))],[],37,0,0,[⟨.fn (.func 256) #[],#[]⟩]⟩) (fun i=>a.length-i.1) ⟨0,by simp⟩ ?_ ?_
 ·simp only [go_sem]
 ·rintro⟨i,hi,hb,hk⟩;refine awZ hΓ rfl ?_;simp only [go_sem];have e1:(↑i:Int)<↑a.length->((a.length:Int)-1-i).toNat=a.length-1-i:=fun h=>by omega
  have e2:(↑i:Int)<↑b.length->((b.length:Int)-1-i).toNat=b.length-1-i:=fun h=>by omega
  repeat' (first|refine And.intro ?_ ?_|intro h)
  all_goals (try omega)
  ·refine⟨⟨i+1,by omega,by omega,fun k hk'=>?_⟩,by simp,by simp;omega⟩;rcases Nat.lt_or_ge k i with h'|h'
   ·exact hk k h'
   ·obtain rfl:k=i:=by omega
    have:=h.2
    rwa [e1 h.1.1,e2 h.1.2] at this
  ·refine congrArg _ (c66 [] i a b hi hb hk fun p q=>?_);have:=h ⟨by omega,by omega⟩
   rwa [e1 (by omega),e2 (by omega)] at this
def c55:a0j:=a0j.f2 (kL eS) (kL eS) (fun a b=>a.length<1000000000/\b.length<1000000000) (fun a b=>tu2 (kI.enc (ahd a b)) (kI.enc (bhd (a.drop (ahd a b)) (b.drop (ahd a b)))))
theorem c8z:a0b Tryz.prog 231 c55:=by
 refine a0b.f2 Tryz.func231 rfl (by decide) Tryz.results231 Tryz.ntmps231 (by decide) fun a b hd=>?_
 have hΓ:GOK Tryz.prog (gam [(230,a87),(248,b1s)]):=.cons b5W (.cons b8S .nil);refine awZ hΓ rfl ?_;have h1:=a5B a b;have p1:(List.range (a.length-ahd a b)).map (fun i=>a.getD (ahd a b+i) [])=a.drop (ahd a b):=by rw [a6T a [] (by omega),List.take_of_length_le (by simp)]
 have p2:(List.range (b.length-ahd a b)).map (fun i=>b.getD (ahd a b+i) [])=b.drop (ahd a b):=by rw [a6T b [] (by omega),List.take_of_length_le (by simp)]
 simp only [go_sem,a87,b1s,p1,p2,List.length_drop];omega
def d74:a0j:=a0j.f2 (kL eS) (kL eS) (fun a b=>a.length<1000000000/\b.length<1000000000) (fun a b=>kB.enc (decide (a=b)))
theorem d53:a0b Tryz.prog 200 d74:=by
 refine a0b.f2 Tryz.func200 rfl (by decide) Tryz.results200 Tryz.ntmps200 (by decide) fun a b hd=>?_
 have hΓ:GOK Tryz.prog (gam [(230,a87)]):=.cons b5W .nil;refine awZ hΓ rfl ?_;simp only [go_sem,a87];refine⟨fun _=>hd,?_⟩;rw [Bool.eq_iff_iff];simp only [Bool.and_eq_true,decide_eq_true_eq];refine⟨fun h=>b8D (by omega) (by omega),fun h=>?_⟩;subst h;rw [b5C];exact⟨rfl,rfl⟩
end
set_option maxHeartbeats 2000000
section
attribute [local irreducible] AW a0h a0H a0c
abbrev Sp:=Int×Int
abbrev Ck:=Bool×Sp×Sp×Sp
abbrev Pl:=Int×Int×Int
abbrev eSp:El Sp:=eP eI eI
abbrev eCk:El Ck:=eP eB (eP eSp (eP eSp eSp))
abbrev ePl:El Pl:=eP eI (eP eI eI)
theorem d5V {a b d:Int} {c:Nat->AV} (h0:c 0=.val (.int .i64 a)) (h1:c 1=.val (.int .i64 b)) (h2:c 2=.val (.int .i64 d)):a0h (.ag 3 c) (.ag 3 (ePl.enc (a,b,d))):=a0h.ag fun j hj=>a0h.of_eq (match j,hj with
 | 0,_=>h0
 | 1,_=>h1
 | 2,_=>h2)
theorem d6a {s:Bool} {b1 b2 l1 l2 r1 r2:Int} {c:Nat->AV} (h0:c 0=.val (.bool s)) (h1:c 1=.val (.int .i64 b1)) (h2:c 2=.val (.int .i64 b2)) (h3:c 3=.val (.int .i64 l1)) (h4:c 4=.val (.int .i64 l2)) (h5:c 5=.val (.int .i64 r1)) (h6:c 6=.val (.int .i64 r2)) :
  a0h (.ag 7 c) (.ag 7 (eCk.enc (s,(b1,b2),(l1,l2),r1,r2))):=a0h.ag fun j hj=>a0h.of_eq (match j,hj with
 | 0,_=>h0
 | 1,_=>h1
 | 2,_=>h2
 | 3,_=>h3
 | 4,_=>h4
 | 5,_=>h5
 | 6,_=>h6)
def a5v (s:Sp) (l:List (List UInt8)):List (List UInt8):=if s.1<0\/(l.length:Int)<s.2\/s.2<s.1 then [] else a06 l s.1.toNat s.2.toNat
theorem b3V (s:Sp) (l:List (List UInt8)):(a5v s l).length<=l.length:=by
 unfold a5v;by_cases h:s.1<0\/(l.length:Int)<s.2\/s.2<s.1
 ·rw [if_pos h];simp
 ·rw [if_neg h,a1B l (by omega)];omega
@[go_sem] def d7s:a0j:=a0j.f2 (kA eSp) (kL eS) (fun s l=>l.length<100000000) (fun s l=>sL eS (a5v s l))
theorem b9t:a0b Tryz.prog 199 d7s:=by
 refine a0b.f2 Tryz.func199 rfl (by decide) Tryz.results199 Tryz.ntmps199 (by decide) fun s l hl=>?_
 have hΓ:=gkM a7O gkN;obtain⟨f,t⟩:=s;unfold a5v;refine awZ hΓ rfl ?_;simp only [go_sem];refine⟨fun h=>by simp [h],fun h=>by simp [h],fun h=>?_,fun h=>?_⟩
 ·simp only [Bool.or_eq_true,decide_eq_true_eq,or_assoc] at h;rw [if_pos h];exact a0h.em_sn
 ·simp only [Bool.or_eq_false_iff,decide_eq_false_iff_not] at h;refine⟨by omega,_,a06 l f.toNat t.toNat,rfl,a9R (by omega),by rw [a1B l (by omega)];omega,fun ver nx' _ _=>?_⟩;rw [if_neg (by omega)];exact avR
def btw (p q:Pl):Ck:=(false,(p.1,q.1),(p.2.1,q.2.1),(p.2.2,q.2.2))
@[go_sem] def c2E:a0j:=a0j.f2 (kA ePl) (kA ePl) (fun _ _=>True) (fun p q=>(kA eCk).enc (btw p q))
theorem b2I:a0b Tryz.prog 154 c2E:=by
 refine a0b.f2 Tryz.func154 rfl (by decide) Tryz.results154 Tryz.ntmps154 (by decide) fun p q _=>?_
 have hΓ:=gkN;obtain⟨p1,p2,p3⟩:=p;obtain⟨q1,q2,q3⟩:=q;unfold btw;refine awZ hΓ rfl ?_;simp only [go_sem];exact d6a rfl rfl rfl rfl rfl rfl rfl
def a9z (p:Pl):Pl:=(p.1+1,p.2.1+1,p.2.2+1)
def d5i (p:Pl):Prop:=(-9223372036854775808<=p.1/\p.1<9223372036854775807)/\(-9223372036854775808<=p.2.1/\p.2.1<9223372036854775807)/\-9223372036854775808<=p.2.2/\p.2.2<9223372036854775807
@[go_sem] def d2j:a0j:=a0j.f1 (kA ePl) d5i (fun p=>(kA ePl).enc (a9z p))
theorem c1S:a0b Tryz.prog 156 d2j:=by
 refine a0b.f1 Tryz.func156 rfl (by decide) Tryz.results156 Tryz.ntmps156 (by decide) fun p hp=>?_
 have hΓ:=gkN;obtain⟨p1,p2,p3⟩:=p;obtain⟨h1,h2,h3⟩:=hp;simp only at h1 h2 h3;unfold a9z;refine awZ hΓ rfl ?_;simp only [go_sem];exact⟨by omega,by omega,by omega,d5V rfl rfl rfl⟩
def a91 (c:Ck) (b l r:List (List UInt8)):Int:=if c.1=true then 0 else if a5v c.2.2.1 l=a5v c.2.1 b then 2 else if a5v c.2.2.2 r=a5v c.2.1 b then 1 else if a5v c.2.2.1 l=a5v c.2.2.2 r then 3 else 4
@[go_sem] def d0k:a0j:=a0j.f4 (kA eCk) (kL eS) (kL eS) (kL eS) (fun c b l r=>b.length<100000000/\l.length<100000000/\r.length<100000000) (fun c b l r=>kI.enc (a91 c b l r))
theorem b5k:a0b Tryz.prog 159 d0k:=by
 refine a0b.f4 Tryz.func159 rfl (by decide) Tryz.results159 Tryz.ntmps159 (by decide) fun c b l r ⟨hb,hl,hr⟩=>?_
 have hΓ:=gkC b9t (gkC d53 gkN);obtain⟨s,⟨b1,b2⟩,⟨l1,l2⟩,r1,r2⟩:=c;unfold a91;dsimp only;have g1:=b3V (b1,b2) b;have g2:=b3V (l1,l2) l;have g3:=b3V (r1,r2) r;refine awZ hΓ rfl ?_;simp only [go_sem,d74];refine⟨fun h=>by rw [if_pos h],fun h=>⟨hb,hl,hr,by omega,fun h1=>by simp [h,h1],fun h1=>⟨by omega,fun h2=>by simp [h,h1,h2],fun h2=>⟨by omega,fun h3=>?_,fun h3=>?_⟩⟩⟩⟩
 ·rw [if_neg (by simp [h]),if_neg h1,if_neg h2,if_pos h3]
 ·rw [if_neg (by simp [h]),if_neg h1,if_neg h2,if_neg h3]
def a3V (a b:Int):Int->Int->List (Int×Int)->Bool
 | _,_,[]=>true
 | u,v,p::l=>decide (u<p.1/\v<p.2/\p.1<a/\p.2<b)&&a3V a b p.1 p.2 l
@[go_sem] def d1R:a0j:=a0j.f3 (kL (eP eI eI)) kI kI (fun l a b=>l.length<100000000) (fun l a b=>kB.enc (a3V a b (-1) (-1) l))
theorem c7H:a0b Tryz.prog 152 d1R:=by
 refine a0b.f3 Tryz.func152 rfl (by decide) Tryz.results152 Tryz.ntmps152 (by decide) fun l a b hl=>?_
 have hΓ:=gkN;refine awZ hΓ rfl ?_;simp only [go_sem,a5w]
 refine AW.round (α:={ x:Nat×Int×Int×Nat // x.1<=l.length/\a3V a b (-1) (-1) l=a3V a b x.2.1 x.2.2.1 (l.drop x.1)/\-1<=x.2.1/\-1<=x.2.2.1 })
  (fun x=>⟨[(1,.val (.int .i64 a)),(2,.val (.int .i64 b)),(7,.pt 0 0 0),(11,sL (eP eI eI) l),(12,.val (.int .i64 l.length)),(13,.val (.int .i64 x.1.1))],[(0,.box 0 129 2 fun j=>if j=0 then .val (.int .i64 x.1.2.1) else .val (.int .i64 x.1.2.2.1))],43,1,x.1.2.2.2,[]⟩) (fun x=>l.length-x.1.1) ⟨(0,-1,-1,1),nZL _,rfl,Int.le_refl _,Int.le_refl _⟩ ?_ ?_
 ·simp only [go_sem];refine a0c.box fun j hj=>a0h.of_eq ?_
  match j,hj with
  | 0,_=>rfl
  | 1,_=>rfl
 ·rintro⟨⟨i,u,v,nx⟩,hi,hr,hu,hv⟩;simp only at hi hr hu hv;refine awL hΓ [4,99999] rfl ?_;simp only [go_sem,a5w];refine⟨fun hlt=>?_,fun hge=>?_⟩
  ·obtain⟨x,y,hxy⟩:∃ x y,l.getD i (0,0)=(x,y):=⟨_,_,rfl⟩
   have hd:l.drop i=(x,y)::l.drop (i+1):=by
    rw [List.drop_eq_getElem_cons (by omega),<-a0F l (0,0) (by omega),hxy]
   rw [hd,a3V] at hr;dsimp only at hr;refine⟨by omega,?_⟩;refine AW.cut ⟨[(1,.val (.int .i64 a)),(2,.val (.int .i64 b)),(7,.pt 0 0 0),(9,.pt 1 nx 0),(11,sL (eP eI eI) l),(12,.val (.int .i64 l.length)),(13,.val (.int .i64 i))],[(0,.box 0 129 2 fun j=>if j=0 then .val (.int .i64 u) else .val (.int .i64 v)),(1,.box nx 129 2 fun j=>if j=0 then .val (.int .i64 x) else .val (.int .i64 y))],43,2,nx+1,[]⟩ ?_ ?_
   ·simp only [go_sem];refine⟨rlR,a0c.box fun j hj=>a0h.of_eq ?_⟩
    match j,hj with
    | 0,_=>show (eP eI eI).enc (l.getD i (0,0)) 0=_;rw [hxy];rfl
    | 1,_=>show (eP eI eI).enc (l.getD i (0,0)) 1=_;rw [hxy];rfl
   ·refine awN hΓ rfl ?_;simp only [go_sem];refine⟨fun h=>by simp [h],fun h=>by rw [h];rfl,fun h=>by rw [h];rfl,fun h=>?_,fun h=>?_⟩
    ·simp only [Bool.or_eq_true,decide_eq_true_eq] at h;rw [hr,decide_eq_false (by omega),Bool.false_and]
    ·simp only [Bool.or_eq_false_iff,decide_eq_false_iff_not] at h;rw [decide_eq_true (by omega),Bool.true_and] at hr;exact⟨by omega,⟨(i+1,x,y,nx+1),by dsimp only;omega,hr,by dsimp only;omega,by dsimp only;omega⟩,⟨nLR _,by dsimp only;omega,a9M⟩,by dsimp only;omega⟩
  ·obtain rfl:i=l.length:=by omega
   rw [List.drop_length] at hr;exact hr.symm
def a2E:List (Int×Int)->List (Int×Int)->List Pl
 | [],_=>[]
 | _::_,[]=>[]
 | p::l,q::r=>if p.1<q.1 then a2E l (q::r) else if q.1<p.1 then a2E (p::l) r else (p.1,p.2,q.2)::a2E l r
 termination_by l r=>l.length+r.length
theorem a6G (l:List (Int×Int)):a2E l []=[]:=by cases l<;>simp [a2E]
theorem a6p (r:List (Int×Int)):a2E [] r=[]:=by simp [a2E]
@[go_sem] def d5M:a0j:=a0j.f2 (kL (eP eI eI)) (kL (eP eI eI)) (fun l r=>l.length<100000000/\r.length<100000000) (fun l r=>sL ePl (a2E l r))
theorem d1s:a0b Tryz.prog 153 d5M:=by
 refine a0b.f2 Tryz.func153 rfl (by decide) Tryz.results153 Tryz.ntmps153 (by decide) fun l r ⟨hl,hr⟩=>?_
 have hΓ:=gkN;refine awL hΓ [200004] rfl ?_;simp only [go_sem,a5w];refine AW.adopt 5 210 3 (fun i=>ePl.enc (([]:List Pl).getD i (0,0,0))) rfl ?_
 refine AW.round (α:={ x:Nat×Nat×List Pl×Nat×Nat // x.1<=l.length/\x.2.1<=r.length/\x.2.2.1.length<=x.1/\a2E l r=x.2.2.1++a2E (l.drop x.1) (r.drop x.2.1) })
  (fun x=>⟨[(0,sL (eP eI eI) l),(1,sL (eP eI eI) r),(5,.ow 0 x.1.2.2.2.1 x.1.2.2.1.length),(6,.val (.int .i64 x.1.1)),(7,.val (.int .i64 x.1.2.1))],[(0,a0G x.1.2.2.2.1 210 ePl x.1.2.2.1)],70,1,x.1.2.2.2.2,[]⟩) (fun x=>l.length+r.length-x.1.1-x.1.2.1) ⟨(0,0,[],0,1),nZL _,nZL _,nLR _,rfl⟩ ?_ ?_
 ·simp only [go_sem,a5w];exact rlR
 ·rintro⟨⟨i,j,out,v,nx⟩,hi,hj,ho,hb⟩;simp only at hi hj ho hb;refine awL hΓ [200004,99999] rfl ?_;simp only [go_sem,a5w,d5R,pp0,pp1];refine⟨fun⟨h1,h2⟩=>?_,fun h=>?_⟩
  ·have hdl:l.drop i=l.getD i (0,0)::l.drop (i+1):=by
    rw [List.drop_eq_getElem_cons (by omega),<-a0F l (0,0) (by omega)]
   have hdr:r.drop j=r.getD j (0,0)::r.drop (j+1):=by
    rw [List.drop_eq_getElem_cons (by omega),<-a0F r (0,0) (by omega)]
   refine⟨by omega,by omega,fun c=>?_,fun c=>⟨by omega,by omega,fun c2=>?_,fun c2=>?_⟩⟩
   ·rw [hdl,hdr,a2E,if_pos c,<-hdr] at hb;exact⟨by omega,⟨(i+1,j,out,v,nx),by dsimp only;omega,by dsimp only;omega,by dsimp only;omega,hb⟩,⟨nLR _,⟨⟨rfl,rfl⟩,by dsimp only;omega,rfl⟩,rlR⟩,by dsimp only;omega⟩
   ·rw [hdl,hdr,a2E,if_neg c,if_pos c2,<-hdl] at hb;exact⟨by omega,⟨(i,j+1,out,v,nx),by dsimp only;omega,by dsimp only;omega,by dsimp only;omega,hb⟩,⟨nLR _,⟨⟨rfl,rfl⟩,rfl,by dsimp only;omega⟩,rlR⟩,by dsimp only;omega⟩
   ·rw [hdl,hdr,a2E,if_neg c,if_neg c2] at hb;refine AW.drawT hΓ mixed 18 [] (by decide +kernel) ?_;simp only [go_sem,a5w,d5R,pp0,pp1];refine⟨by omega,by omega,by omega,by omega,by omega,by omega,⟨(i+1,j+1,out++[((l.getD i (0,0)).1,(l.getD i (0,0)).2,(r.getD j (0,0)).2)],nx,nx+1),by dsimp only;omega,by dsimp only;omega,by simp;omega,by dsimp only;rw [hb,List.append_assoc];rfl⟩,⟨nLR _,⟨⟨rfl,by simp⟩,by dsimp only;omega,by dsimp only;omega⟩,?_⟩,by dsimp only;omega⟩;refine a02 (E:=ePl) rfl rfl rfl rfl (by simp) fun k hk=>?_
    match k,hk with
    | 0,_=>exact avR
    | 1,_=>exact avR
    | 2,_=>exact avR
  ·have e:a2E (l.drop i) (r.drop j)=[]:=by
    rcases Nat.lt_or_ge i l.length with c|c
    ·rw [show r.drop j=[] from List.drop_eq_nil_of_le (by omega)];exact a6G _
    ·rw [show l.drop i=[] from List.drop_eq_nil_of_le (by omega)];exact a6p _
   rw [e,List.append_nil] at hb;rw [hb];exact a3A (E:=ePl) rfl rfl rfl
def a08 (l:List Ck) (p:Pl):List Ck:=
 match l.getLast? with
 | some c=>if c.1=true then l.dropLast++[(true,(c.2.1.1,p.1+1),(c.2.2.1.1,p.2.1+1),(c.2.2.2.1,p.2.2+1))] else l++[(true,(p.1,p.1+1),(p.2.1,p.2.1+1),(p.2.2,p.2.2+1))]
 | none=>l++[(true,(p.1,p.1+1),(p.2.1,p.2.1+1),(p.2.2,p.2.2+1))]
theorem a1R (m:List Ck) (c:Ck) (p:Pl):a08 (m++[c]) p=if c.1=true then m++[(true,(c.2.1.1,p.1+1),(c.2.2.1.1,p.2.1+1),(c.2.2.2.1,p.2.2+1))] else m++[c]++[(true,(p.1,p.1+1),(p.2.1,p.2.1+1),(p.2.2,p.2.2+1))]:=by
 simp [a08]
theorem a5K (p:Pl):a08 [] p=[(true,(p.1,p.1+1),(p.2.1,p.2.1+1),(p.2.2,p.2.2+1))]:=rfl
theorem c0j {α:Type} (m:List α) (c d:α):(m++[c]).getD m.length d=c:=by simp [List.getD]
def b11:a0p:=fun args hp top nx K=>∃ (l:List Ck) (v:Nat) (p:Pl),args=[.ow 0 v l.length,(kA ePl).enc p]/\hp=rws [(0,a0G v 216 eCk l)]/\top=1/\l.length<100000000/\d5i p/\
 ∀ v' nx',(v'=v\/nx<=v')->nx<=nx'->K (.ow 0 v' (a08 l p).length) (rws [(0,a0G v' 216 eCk (a08 l p))]) 1 nx'
theorem b6N:a0f Tryz.prog 155 b11:=by
 refine a0f.mk Tryz.func155 rfl (by decide) Tryz.results155 Tryz.ntmps155 ?_;rintro args hp top nx K ⟨l,v,p,rfl,rfl,rfl,hl,hp,hK⟩;have hΓ:=gkC c1S (gkC b2I gkN);refine⟨Nat.le_of_ble_eq_true rfl,AW.late ?_⟩;have hp':=hp;obtain⟨p1,p2,p3⟩:=p;obtain⟨q1,q2,q3⟩:=hp';simp only at q1 q2 q3;have hn:a9z (p1,p2,p3)=(p1+1,p2+1,p3+1):=rfl;have hb:btw (p1,p2,p3) (p1+1,p2+1,p3+1)=(false,(p1,p1+1),(p2,p2+1),(p3,p3+1)):=rfl;rcases l.eq_nil_or_concat with rfl|⟨m,c,hms⟩
 ·refine awL hΓ [200005,99999] rfl ?_;simp only [go_sem,hn,hb];refine⟨hp,_,a0e (fun p=>p) (l:=[(4,.ow 0 (nx+1+1+1) 1)]) (r:=[(0,a0G (nx+1+1+1) 216 eCk (a08 [] (p1,p2,p3)))]) (sz:=53) (top:=1) (nx:=nx+1+1+1+1) (df:=[]) ?_,?_⟩
  ·simp only [go_sem];rw [a5K];refine a02 (E:=eCk) (l:=[]) rfl rfl rfl rfl rfl fun j hj=>?_
   match j,hj with
   | 0,_=>exact avR
   | 1,_=>exact avR
   | 2,_=>exact avR
   | 3,_=>exact avR
   | 4,_=>exact avR
   | 5,_=>exact avR
   | 6,_=>exact avR
  ·simp only [go_sem];exact hK (nx+1+1+1) (nx+1+1+1+1) (.inr (by omega)) (by omega)
 ·rw [List.concat_eq_append] at hms;subst hms;have e1:(((m.length+1:Nat):Int)-1)=(m.length:Int):=by omega
  have e2:(0<=(m.length:Int))=True:=eq_true (by omega);have hlm:m.length+1<100000000:=by simpa using hl
  obtain⟨s,⟨b1,b2⟩,⟨l1,l2⟩,r1,r2⟩:=c;cases s with
  | true=>
    refine awL hΓ [200005,99999] rfl ?_;simp only [go_sem,hn,hb,c0j,e1,e2];refine⟨hp,by omega,by omega,by omega,by omega,?_⟩;refine AW.still 5 2 (nx+1) 210 3 _ rfl rfl (fun j hj=>match j,hj with|0,_=>rfl|1,_=>rfl|2,_=>rfl) ?_;refine AW.drawZ hΓ mixed 12 [13,14,15,17,18,19] [3,4,5,6,7,8,13,14,15,17,18,19] [] (by decide +kernel) ?_;simp only [go_sem,hn,hb,c0j,e1,e2];refine⟨by omega,by omega,by omega,_,a0e (fun p=>p) (l:=[(4,.ow 0 v (m.length+1))]) (r:=[(0,a0G v 216 eCk (a08 (m++[(true,(b1,b2),(l1,l2),r1,r2)]) (p1,p2,p3)))]) (sz:=53) (top:=1) (nx:=nx+1+1) (df:=[]) ?_,?_⟩
    ·simp only [go_sem];rw [a1R,if_pos rfl];refine a0c.sl (by simp) fun i hi j hj=>?_
     simp only [stE];by_cases e:i=m.length
     ·subst e;rw [c0j,c0j]
      match j,hj with
      | 0,_=>simp;exact avR
      | 1,_=>simp;exact avR
      | 2,_=>simp;exact avR
      | 3,_=>simp;exact avR
      | 4,_=>simp;exact avR
      | 5,_=>simp;exact avR
      | 6,_=>simp;exact avR
     ·rw [if_neg (fun h=>e h.1),if_neg (fun h=>e h.1),if_neg (fun h=>e h.1)];have e3:∀ c:Ck,(m++[c]).getD i eCk.dflt=m.getD i eCk.dflt:=fun c=>by simp [List.getD,List.getElem?_append_left (show i<m.length by omega)]
      rw [e3,e3];exact avR
    ·simp only [go_sem];have:=hK v (nx+1+1) (.inl rfl) (by omega)
     rwa [show (a08 (m++[(true,(b1,b2),(l1,l2),r1,r2)]) (p1,p2,p3)).length=m.length+1 by rw [a1R,if_pos rfl];simp] at this
  | false=>
    refine awL hΓ [200005,99999] rfl ?_;simp only [go_sem,hn,hb,c0j,e1,e2];refine⟨hp,by omega,by omega,by omega,by omega,_,a0e (fun p=>p) (l:=[(4,.ow 0 (nx+1+1+1) (m.length+1+1))]) (r:=[(0,a0G (nx+1+1+1) 216 eCk (a08 (m++[(false,(b1,b2),(l1,l2),r1,r2)]) (p1,p2,p3)))]) (sz:=53) (top:=1) (nx:=nx+1+1+1+1) (df:=[]) ?_,?_⟩
    ·simp only [go_sem];rw [a1R,if_neg (fun h=>by cases h)];refine a02 (E:=eCk) rfl rfl (by simp) rfl (by simp) fun j hj=>?_
     match j,hj with
     | 0,_=>exact avR
     | 1,_=>exact avR
     | 2,_=>exact avR
     | 3,_=>exact avR
     | 4,_=>exact avR
     | 5,_=>exact avR
     | 6,_=>exact avR
    ·simp only [go_sem];have:=hK (nx+1+1+1) (nx+1+1+1+1) (.inr (by omega)) (by omega)
     rwa [show (a08 (m++[(false,(b1,b2),(l1,l2),r1,r2)]) (p1,p2,p3)).length=m.length+1+1 by rw [a1R,if_neg (fun h=>by cases h)];simp] at this
@[go_sem] def b6o:a0p:=a0U b11
theorem b8d:a0f Tryz.prog 155 b6o:=b6N.frame
theorem b6W {l:List Ck} {v q n:Nat} {p:Pl} {x:AV} {hp:Nat->Row} {top nx:Nat} {K:AV->(Nat->Row)->Nat->Nat->Prop} (hn:n=l.length) (hx:a0h x ((kA ePl).enc p)) (hr:a0c (hp q) (a0G v 216 eCk l)) (ht:q<top) (hl:l.length<100000000) (hp0:d5i p)
  (hK:∀ v' nx',nx<=nx'->K (.ow q v' (a08 l p).length) (a0y hp q (a0G v' 216 eCk (a08 l p))) top nx'):b6o [.ow q v n,x] hp top nx K:=by
 subst hn;have hver:(hp q).ver=some v:=hr.vers.symm;refine⟨[q],[.ow 0 v l.length,(kA ePl).enc p],rws [(0,a0G v 216 eCk l)],by simp,by simpa using ht,.cons a0h.ow (.cons hx .nil),a7a hr,fun i hi=>a1b (top:=1) (by simp) i (by simpa using hi),l,v,p,rfl,rfl,rfl,hl,hp0,fun v' nx' h1 h3=>?_⟩;refine⟨.ow q v' (a08 l p).length,_,a0h.ow,fun i r hr=>?_,fun r hr=>?_,fun r hr w hw=>?_,hK v' nx' h3⟩
 ·cases i with
  | zero=>
    simp only [gCZ,oSI] at hr;subst hr;rw [a0g];exact rlR
  | succ i=>simp at hr
 ·rw [a0d _ _ (by simpa using hr)]
 ·simp only [List.mem_singleton] at hr;subst hr;rw [a0g] at hw;have:some v'=some w:=hw;obtain rfl:=oJI this;rcases h1 with rfl|h1
  ·exact .inl hver
  ·exact .inr h1
theorem d7T (p1 p2 p3 t1 t2 t3:Int):(decide (p1=t1)&&(decide (p2=t2)&&decide (p3=t3)))=decide (((p1,p2,p3):Pl)=(t1,t2,t3)):=by
 rw [Bool.eq_iff_iff];simp only [Bool.and_eq_true,decide_eq_true_eq,pMI]
def ofK (a5A:Pl):List Pl->List Ck->Pl->List Ck
 | [],s,t=>if t=a5A then s else s++[btw t a5A]
 | p::M,s,t=>ofK a5A M (a08 (if p=t then s else s++[btw t p]) p) (a9z p)
theorem b1E {a b:Int}:∀ {l:List (Int×Int)} {u v:Int},a3V a b u v l=true->∀ p∈l,u<p.1/\v<p.2/\p.1<a/\p.2<b
 | q::l,u,v,h,p,hp=>by
   rw [a3V,Bool.and_eq_true,decide_eq_true_eq] at h;rcases List.mem_cons.1 hp with rfl|hp
   ·exact h.1
   ·have:=b1E h.2 p hp;omega
theorem a50:∀ (n:Nat) (l r:List (Int×Int)),l.length+r.length<=n->∀ x∈a2E l r,∃ p∈l,∃ q∈r,p.1=q.1/\x=(p.1,p.2,q.2)
 | _,[],r,_,x,hx=>by rw [a6p] at hx;cases hx
 | _,p::l,[],_,x,hx=>by rw [a6G] at hx;cases hx
 | 0,_::_,_::_,h,_,_=>by simp at h
 | n+1,p::l,q::r,h,x,hx=>by
   simp only [lCo] at h;rw [a2E] at hx;by_cases c:p.1<q.1
   ·rw [if_pos c] at hx;obtain⟨p',hp,q',hq,e⟩:=a50 n l (q::r) (by simp only [lCo];omega) x hx;exact⟨p',List.mem_cons_of_mem _ hp,q',hq,e⟩
   ·rw [if_neg c] at hx;by_cases c2:q.1<p.1
    ·rw [if_pos c2] at hx;obtain⟨p',hp,q',hq,e⟩:=a50 n (p::l) r (by simp only [lCo];omega) x hx;exact⟨p',hp,q',List.mem_cons_of_mem _ hq,e⟩
    ·rw [if_neg c2] at hx;rcases List.mem_cons.1 hx with rfl|hx
     ·exact⟨p,List.mem_cons_self ..,q,List.mem_cons_self ..,by omega,rfl⟩
     ·obtain⟨p',hp,q',hq,e⟩:=a50 n l r (by omega) x hx;exact⟨p',List.mem_cons_of_mem _ hp,q',List.mem_cons_of_mem _ hq,e⟩
theorem a6F:∀ (n:Nat) (l r:List (Int×Int)),l.length+r.length<=n->(a2E l r).length<=l.length
 | _,[],r,_=>by rw [a6p];simp
 | _,p::l,[],_=>by rw [a6G];simp
 | 0,_::_,_::_,h=>by simp at h
 | n+1,p::l,q::r,h=>by
   simp only [lCo] at h;rw [a2E];by_cases c:p.1<q.1
   ·rw [if_pos c];have:=a6F n l (q::r) (by simp only [lCo];omega);simp only [lCo];omega
   ·rw [if_neg c];by_cases c2:q.1<p.1
    ·rw [if_pos c2];exact a6F n (p::l) r (by simp only [lCo];omega)
    ·rw [if_neg c2];have:=a6F n l r (by omega);simp only [lCo];omega
theorem a8v (l:List Ck) (p:Pl):(a08 l p).length<=l.length+1:=by
 rcases l.eq_nil_or_concat with rfl|⟨m,c,rfl⟩
 ·simp [a5K]
 ·rw [List.concat_eq_append,a1R];by_cases h:c.1=true
  ·rw [if_pos h];simp
  ·rw [if_neg h];simp
def c0d (a b c:Int) (l r:List (Int×Int)):Bool:=decide (0<=a/\0<=b/\0<=c)&&(a3V a b (-1) (-1) l&&a3V a c (-1) (-1) r)
@[go_sem] def d9E:a0j:=a0j.f5 kI kI kI (kL (eP eI eI)) (kL (eP eI eI)) (fun a b c l r=>a<100000000/\b<100000000/\c<100000000/\l.length<10000000/\r.length<10000000)
 (fun a b c l r=>if c0d a b c l r then tu2 (sL eCk (ofK (a,b,c) (a2E l r) [] (0,0,0))) (kI.enc 0) else tu2 .em (kI.enc 12))
theorem d7t:a0b Tryz.prog 99 d9E:=by
 refine a0b.f5 Tryz.func99 rfl (by decide) Tryz.results99 Tryz.ntmps99 (by decide) fun a b c l r ⟨ha,hb,hc,hl,hr⟩=>?_
 have hΓ:=gkC c7H (gkC d1s (gkC b2I (gkM b8d (gkC c1S gkN))));rcases hf:c0d a b c l r with _|_
 ·have hbad:(decide (a<0)||decide (b<0)||decide (c<0)||!a3V a b (-1) (-1) l||!a3V a c (-1) (-1) r)=true:=by
   cases h:(decide (a<0)||decide (b<0)||decide (c<0)||!a3V a b (-1) (-1) l||!a3V a c (-1) (-1) r) with
   | true=>rfl
   | false=>
     simp only [Bool.or_eq_false_iff,decide_eq_false_iff_not,Bool.not_eq_false'] at h;obtain⟨⟨⟨⟨h1,h2⟩,h3⟩,h4⟩,h5⟩:=h
     have:c0d a b c l r=true:=by
      unfold c0d;rw [h4,h5,decide_eq_true (by omega)];rfl
     rw [this] at hf;cases hf
  refine awL hΓ [5] rfl ?_;simp only [go_sem,a5w,hf];refine⟨fun h=>by simp [h],fun h=>by rw [h];rfl,fun _=>by omega,fun h=>by rw [h];rfl,fun _=>by omega,fun h=>by rw [h];rfl,fun h=>by rw [hbad] at h;cases h⟩
 ·have hf':=hf;unfold c0d at hf';simp only [Bool.and_eq_true,decide_eq_true_eq] at hf';obtain⟨⟨a0,b0,c0⟩,g1,g2⟩:=hf';have d1:(a<0)=False:=eq_false (by omega);have d2:(b<0)=False:=eq_false (by omega);have d3:(c<0)=False:=eq_false (by omega);refine awL hΓ [5] rfl ?_;simp only [go_sem,a5w,hf,d1,d2,d3,g1,g2];refine⟨by omega,by omega,by omega,?_⟩;refine AW.adopt 12 216 7 (fun i=>eCk.enc (([]:List Ck).getD i eCk.dflt)) rfl ?_
  have hM:∀ p∈a2E l r,(0<=p.1/\p.1<a)/\(0<=p.2.1/\p.2.1<b)/\0<=p.2.2/\p.2.2<c:=fun p hp=>by
   obtain⟨x,hx,y,hy,_,rfl⟩:=a50 _ l r (nLR _) p hp;have h1:=b1E g1 x hx;have h2:=b1E g2 y hy;exact⟨by dsimp only;omega,by dsimp only;omega,by dsimp only;omega⟩
  have hMl:=a6F _ l r (nLR _);generalize hMe:a2E l r=M at *
  refine AW.block (AW.round (α:={ x:Nat×List Ck×Pl×Nat×Nat×Nat×Nat // x.1<=M.length/\x.2.1.length<=2*x.1/\ofK (a,b,c) M [] (0,0,0)=ofK (a,b,c) (M.drop x.1) x.2.1 x.2.2.1 })
   (fun x=>⟨[(12,.ow 2 x.1.2.2.2.2.2.1 x.1.2.1.length),(13,.pt 0 x.1.2.2.2.1 0),(14,.pt 1 x.1.2.2.2.2.1 0),(48,sL ePl M),(49,.val (.int .i64 M.length)),(50,.val (.int .i64 x.1.1))],
    [(0,.box x.1.2.2.2.1 210 3 (ePl.enc x.1.2.2.1)),(1,.box x.1.2.2.2.2.1 210 3 (ePl.enc (a,b,c))),(2,a0G x.1.2.2.2.2.2.1 216 eCk x.1.2.1)],80,3,x.1.2.2.2.2.2.2,[]⟩) (fun x=>M.length-x.1.1) ⟨(0,[],(0,0,0),0,1,2,3),nZL _,nLR _,rfl⟩ ?_ ?_)
  ·simp only [go_sem];refine⟨a0c.box fun j hj=>?_,a0c.box fun j hj=>?_,rlR⟩
   ·match j,hj with
    | 0,_=>exact avR
    | 1,_=>exact avR
    | 2,_=>exact avR
   ·match j,hj with
    | 0,_=>exact avR
    | 1,_=>exact avR
    | 2,_=>exact avR
  ·rintro⟨⟨i,s,⟨t1,t2,t3⟩,va,vb,v,nx⟩,hi,hs,he⟩;simp only at hi hs he;refine awL hΓ [8,99999] rfl ?_;simp only [go_sem];refine⟨fun hil=>?_,fun hil=>?_⟩
   ·have hlt:i<M.length:=by omega
    obtain⟨p1,p2,p3,hp⟩:∃ p1 p2 p3,M.getD i ePl.dflt=(p1,p2,p3):=⟨_,_,_,rfl⟩
    have hd:M.drop i=(p1,p2,p3)::M.drop (i+1):=by
     rw [List.drop_eq_getElem_cons hlt,<-a0F M ePl.dflt hlt,hp]
    have hpb:=hM (p1,p2,p3) (by rw [<-hp,a0F M _ hlt];exact List.getElem_mem _);simp only at hpb;rw [hd,ofK] at he;refine⟨by omega,?_⟩;obtain⟨s',hs'⟩:∃ s',(if (p1,p2,p3)=(t1,t2,t3) then s else s++[btw (t1,t2,t3) (p1,p2,p3)])=s':=⟨_,rfl⟩
    have hsl:s'.length<=s.length+1:=by
     rw [<-hs'];split
     ·omega
     ·simp
    rw [hs'] at he
    refine AW.to (fun x:Nat×Nat=>Sh.st ⟨[(12,.ow 2 x.1 s'.length),(13,.pt 0 va 0),(14,.pt 1 vb 0),(16,.pt 3 nx 0),(48,sL ePl M),(49,.val (.int .i64 M.length)),(50,.val (.int .i64 i))],
     [(0,.box va 210 3 (ePl.enc (p1,p2,p3))),(1,.box vb 210 3 (ePl.enc (a,b,c))),(2,a0G x.1 216 eCk s'),(3,.box nx 210 3 (ePl.enc (p1,p2,p3)))],80,4,x.2,[]⟩) ?_ ?_
    ·refine awN hΓ rfl ?_;simp only [go_sem,hp];rw [d7T];refine⟨fun h=>⟨by omega,⟨(nx+1,nx+1+1),a0t ?_⟩⟩,fun h=>⟨(v,nx+1),a0t ?_⟩⟩
     ·have hne:¬((p1,p2,p3):Pl)=(t1,t2,t3):=fun e=>by rw [decide_eq_true e] at h;cases h
      rw [if_neg hne] at hs';subst hs';simp only [go_sem];refine⟨a0c.box fun j hj=>?_,rlR,a02 (E:=eCk) rfl rfl rfl rfl (by simp) fun j hj=>avR,a0c.box fun j hj=>?_⟩
      ·match j,hj with
       | 0,_=>exact avR
       | 1,_=>exact avR
       | 2,_=>exact avR
      ·match j,hj with
       | 0,_=>exact avR
       | 1,_=>exact avR
       | 2,_=>exact avR
     ·have heq:((p1,p2,p3):Pl)=(t1,t2,t3):=of_decide_eq_true (by simpa only [Bool.not_eq_false'] using h);rw [if_pos heq] at hs';subst hs';obtain⟨rfl,rfl,rfl⟩:p1=t1/\p2=t2/\p3=t3:=by simpa using heq
      simp only [go_sem];refine⟨rlR,rlR,rlR,a0c.box fun j hj=>?_⟩
      match j,hj with
      | 0,_=>exact avR
      | 1,_=>exact avR
      | 2,_=>exact avR
    ·rintro⟨v',nx'⟩;simp only [go_sem];have hok:d5i (p1,p2,p3):=⟨by dsimp only;omega,by dsimp only;omega,by dsimp only;omega⟩;have hsl2:=a8v s' (p1,p2,p3);refine b6W (q:=2) (l:=s') (p:=(p1,p2,p3)) rfl  avR   rlR  (by decide) (by omega) hok fun v2 n2 h2=>?_
     generalize a08 s' (p1,p2,p3)=s2 at *
     simp only [go_sem];refine⟨hok,by omega,⟨(i+1,s2,a9z (p1,p2,p3),va,vb,v2,n2),by dsimp only;omega,by dsimp only;omega,he⟩,⟨nLR _,⟨⟨rfl,rfl⟩,rfl,rfl,by dsimp only;omega⟩,a0c.box fun j hj=>?_,rlR,rlR⟩,by dsimp only;omega⟩
     match j,hj with
     | 0,_=>exact avR
     | 1,_=>exact avR
     | 2,_=>exact avR
   ·obtain rfl:i=M.length:=by omega
    rw [List.drop_length,ofK] at he;refine AW.seqTo (fun x:Nat×Nat=>Sh.st ⟨[(12,.ow 2 x.1 (ofK (a,b,c) M [] (0,0,0)).length)],[(2,a0G x.1 216 eCk (ofK (a,b,c) M [] (0,0,0)))],80,3,x.2,[]⟩) ?_ ?_
    ·refine awZ hΓ rfl ?_;simp only [go_sem];rw [d7T];refine⟨fun h=>⟨by omega,⟨(nx,nx+1),a0t ?_⟩⟩,fun h=>⟨(v,nx),a0t ?_⟩⟩
     ·have hne:¬((t1,t2,t3):Pl)=(a,b,c):=fun e=>by rw [decide_eq_true e] at h;cases h
      rw [if_neg hne] at he;rw [he];simp only [go_sem];exact a02 (E:=eCk) rfl rfl rfl rfl (by simp) fun j hj=>avR
     ·have heq:((t1,t2,t3):Pl)=(a,b,c):=of_decide_eq_true (by simpa only [Bool.not_eq_false'] using h);rw [if_pos heq] at he;rw [he];simp only [go_sem];exact rlR
    ·rintro⟨v',nx'⟩;refine awZ hΓ rfl ?_;simp only [go_sem];exact a3A (E:=eCk) rfl rfl rfl
end
section
theorem b24 {a b u v:Int} {p:Int×Int} {l:List (Int×Int)} (h:a3V a b u v (p::l)=true):(u<p.1/\v<p.2/\p.1<a/\p.2<b)/\a3V a b p.1 p.2 l=true:=by
 rw [a3V,Bool.and_eq_true,decide_eq_true_eq] at h;exact h
def a2O (c:Ck):Pl:=(c.2.1.1,c.2.2.1.1,c.2.2.2.1)
def toP (c:Ck):Pl:=(c.2.1.2,c.2.2.1.2,c.2.2.2.2)
def leP (p q:Pl):Prop:=p.1<=q.1/\p.2.1<=q.2.1/\p.2.2<=q.2.2
def chF:Pl->Option Bool->List Ck->Pl->Prop
 | t,_,[],e=>t=e
 | t,o,c::l,e=>a2O c=t/\leP t (toP c)/\t≠toP c/\o≠some c.1/\chF (toP c) (some c.1) l e
def b0R:Option Bool->List Ck->Option Bool
 | o,[]=>o
 | _,c::l=>b0R (some c.1) l
theorem a45 (c:Ck):∀ (o:Option Bool) (s:List Ck),b0R o (s++[c])=some c.1
 | _,[]=>rfl
 | _,d::s=>a45 c (some d.1) s
theorem a4F {e:Pl} {c:Ck}:∀ {t:Pl} {o:Option Bool} {s:List Ck},chF t o (s++[c]) e↔chF t o s (a2O c)/\leP (a2O c) (toP c)/\a2O c≠toP c/\b0R o s≠some c.1/\toP c=e
 | t,o,[]=>by
   show (a2O c=t/\leP t (toP c)/\t≠toP c/\o≠some c.1/\toP c=e)↔(t=a2O c/\leP (a2O c) (toP c)/\a2O c≠toP c/\o≠some c.1/\toP c=e);constructor
   ·rintro⟨rfl,h⟩;exact⟨rfl,h⟩
   ·rintro⟨rfl,h⟩;exact⟨rfl,h⟩
 | t,o,d::s=>by
   have ih:=a4F (e:=e) (c:=c) (t:=toP d) (o:=some d.1) (s:=s);show (a2O d=t/\leP t (toP d)/\t≠toP d/\o≠some d.1/\chF (toP d) (some d.1) (s++[c]) e)↔((a2O d=t/\leP t (toP d)/\t≠toP d/\o≠some d.1/\chF (toP d) (some d.1) s (a2O c))/\leP (a2O c) (toP c)/\a2O c≠toP c/\b0R (some d.1) s≠some c.1/\toP c=e);rw [ih];constructor
   ·rintro⟨h1,h2,h3,h4,h5,h6⟩;exact⟨⟨h1,h2,h3,h4,h5⟩,h6⟩
   ·rintro⟨⟨h1,h2,h3,h4,h5⟩,h6⟩;exact⟨h1,h2,h3,h4,h5,h6⟩
theorem a6O {p q r:Pl} (h:leP p q) (k:leP q r):leP p r:=⟨Int.le_trans h.1 k.1,Int.le_trans h.2.1 k.2.1,Int.le_trans h.2.2 k.2.2⟩
theorem a5a (p:Pl):leP p p:=⟨Int.le_refl _,Int.le_refl _,Int.le_refl _⟩
theorem c0Y:∀ {t:Pl} {o:Option Bool} {s:List Ck} {e:Pl},chF t o s e->leP t e
 | t,_,[],_,h=>by rw [show t=_ from h];exact a5a _
 | _,_,_::_,_,⟨_,h2,_,_,h5⟩=>a6O h2 (c0Y h5)
def upM (a5A:Pl):Pl->List Pl->Prop
 | t,[]=>leP t a5A
 | t,p::M=>leP t p/\upM a5A (a9z p) M
theorem a8k {a b c:Int}:∀ (n:Nat) (l r:List (Int×Int)) (u v u' w:Int) (t:Pl),l.length+r.length<=n->a3V a b u v l=true->a3V a c u' w r=true->(t.1<=u+1\/t.1<=u'+1)->t.2.1<=v+1->t.2.2<=w+1->leP t (a,b,c)->upM (a,b,c) t (a2E l r)
 | _,[],r,_,_,_,_,t,_,_,_,_,_,_,h=>by rw [a6p];exact h
 | _,p::l,[],_,_,_,_,t,_,_,_,_,_,_,h=>by rw [a6G];exact h
 | 0,_::_,_::_,_,_,_,_,_,h,_,_,_,_,_,_=>by simp at h
 | n+1,p::l,q::r,u,v,u',w,t,h,hl,hr,h1,h2,h3,h4=>by
   simp only [lCo] at h;obtain⟨l1,l2⟩:=b24 hl;obtain⟨r1,r2⟩:=b24 hr;rw [a2E];by_cases e1:p.1<q.1
   ·rw [if_pos e1];exact a8k n l (q::r) p.1 p.2 u' w t (by simp only [lCo];omega) l2 hr (by omega) (by omega) h3 h4
   ·by_cases e2:q.1<p.1
    ·rw [if_neg e1,if_pos e2];exact a8k n (p::l) r u v q.1 q.2 t (by simp only [lCo];omega) hl r2 (by omega) h2 (by omega) h4
    ·rw [if_neg e1,if_neg e2];refine⟨⟨?_,?_,?_⟩,a8k n l r p.1 p.2 q.1 q.2 _ (by omega) l2 r2 (.inl (Int.le_refl _)) (Int.le_refl _) (Int.le_refl _) ⟨?_,?_,?_⟩⟩
     ·show t.1<=p.1;omega
     ·show t.2.1<=p.2;omega
     ·show t.2.2<=q.2;omega
     ·show p.1+1<=a;omega
     ·show p.2+1<=b;omega
     ·show q.2+1<=c;omega
theorem b1U (p q:Pl) (h:leP p q):p≠a9z q:=fun e=>by
 have h1:p.1=q.1+1:=congrArg Prod.fst e;have:=h.1;omega
theorem b0w (p:Pl):leP p (a9z p):=⟨Int.le_of_lt (Int.lt_succ _),Int.le_of_lt (Int.lt_succ _),Int.le_of_lt (Int.lt_succ _)⟩
theorem a5j {s:List Ck} {t:Pl} (h:chF (0,0,0) none s t):chF (0,0,0) none (a08 s t) (a9z t)/\b0R none (a08 s t)=some true:=by
 rcases s.eq_nil_or_concat with rfl|⟨m,c,rfl⟩
 ·have h:(0,0,0)=t:=h;subst h;exact⟨⟨rfl,b0w _,b1U _ _ (a5a _),by simp,rfl⟩,rfl⟩
 ·rw [List.concat_eq_append] at h ⊢;rw [a1R];by_cases hc:c.1=true
  ·rw [if_pos hc];obtain⟨h1,h2,h3,h4,h5⟩:=a4F.1 h;refine⟨a4F.2 ⟨h1,?_,?_,?_,rfl⟩,a45 _ _ _⟩
   ·exact a6O (h5▸h2) (b0w t)
   ·exact b1U _ t (h5▸h2)
   ·rw [hc] at h4;exact h4
  ·rw [if_neg hc];refine⟨a4F.2 ⟨h,b0w t,b1U _ t (a5a _),?_,rfl⟩,a45 _ _ _⟩;rw [a45];intro e;exact hc (oJI e)
theorem c90 (a5A:Pl):∀ (M:List Pl) (s:List Ck) (t:Pl),chF (0,0,0) none s t->b0R none s≠some false->upM a5A t M->chF (0,0,0) none (ofK a5A M s t) a5A
 | [],s,t,h,hl,hu=>by
   rw [ofK];by_cases e:t=a5A
   ·rw [if_pos e,<-e];exact h
   ·rw [if_neg e];exact a4F.2 ⟨h,hu,e,hl,rfl⟩
 | p::M,s,t,h,hl,hu=>by
   rw [ofK];by_cases e:p=t
   ·rw [if_pos e,e];obtain⟨h1,h2⟩:=a5j h;exact c90 a5A M _ _ h1 (by rw [h2];simp) (e▸hu.2)
   ·rw [if_neg e];obtain⟨h1,h2⟩:=a5j (s:=s++[btw t p]) (t:=p) (a4F.2 ⟨h,hu.1,fun e2=>e e2.symm,hl,rfl⟩);exact c90 a5A M _ _ h1 (by rw [h2];simp) hu.2
theorem d2D {a b c:Int} {l r:List (Int×Int)} (h:c0d a b c l r=true):chF (0,0,0) none (ofK (a,b,c) (a2E l r) [] (0,0,0)) (a,b,c):=by
 unfold c0d at h;simp only [Bool.and_eq_true,decide_eq_true_eq] at h;obtain⟨⟨h1,h2,h3⟩,h4,h5⟩:=h;exact c90 (a,b,c) _ _ _ rfl (by simp [b0R]) (a8k _ l r (-1) (-1) (-1) (-1) (0,0,0) (nLR _) h4 h5 (.inl (Int.le_refl _)) (Int.le_refl _) (Int.le_refl _) ⟨h1,h2,h3⟩)
abbrev BS:=List UInt8
instance:DecidableEq (BS×BS×BS×BS×Bool):=inferInstance
instance:DecidableEq (Bool×BS×BS×BS×BS×Bool):=inferInstance
abbrev Pt:=BS×BS×BS×Bool×BS×BS×BS×BS×Bool
instance:DecidableEq Pt:=inferInstance
abbrev ePt:El Pt:=eP eS (eP eS (eP eS (eP eB (eP eS (eP eS (eP eS (eP eS eB)))))))
abbrev eLb:El (BS×BS×BS):=eP eS (eP eS eS)
@[reducible] def hkP (p:Pt):Bool:=p.2.2.2.1
@[reducible] def txP (p:Pt):BS:=p.2.2.2.2.1
def a0Q (t:BS):Pt:=([],[],[],false,t,[],[],[],false)
def a0n (p:Pt):Bool:=decide (p=a0Q (txP p))
def a2i (s:BS):Bool:=decide ((10:UInt8)∉s)
def b0h (p:Pt):Bool:=a2i p.1&&(a2i p.2.1&&a2i p.2.2.1)
theorem b9M (a b:BS):a2i (a++b)=(a2i a&&a2i b):=by
 unfold a2i;rw [Bool.eq_iff_iff];simp [not_or]
theorem c3B (s:BS):decide (0<=Lib.indexByte s 10)=!a2i s:=by
 unfold a2i;rcases a4R s with⟨h1,h2⟩|⟨p,r,rfl,h2,h1⟩
 ·rw [h1];simp [h2]
 ·rw [h1];simp
def a3f (p:Pt):Bool:=p.2.2.2.1&&(decide (p.2.2.2.2.1=[])&&((p.2.2.2.2.2.2.2.2||(decide (p.2.2.2.2.2.2.1=[])&&decide (p.2.1=[])))&&b0h p))
def a3Y (p:Pt) (another:Bool):Bool:=a0n p&&(decide (txP p≠[])&&(!another||a0C (txP p)))
def c1L (d:List Pt) (i:Nat):Bool:=(hkP (d.getD i ePt.dflt)||(decide (i=0)||hkP (d.getD (i-1) ePt.dflt)))&&(a3f (d.getD i ePt.dflt)||a3Y (d.getD i ePt.dflt) (decide (i+1<d.length)))
def a2v (d:List Pt):Bool:=decide (∀ i,i<d.length->c1L d i=true)
def a0k (d:List Pt):Nat:=(d.filter hkP).length
def a4E (l:List BS):Nat:=l.foldl (fun n s=>max n (a3r (a0a s))) 0
theorem b7k (l:List BS) (x:BS):a4E (l++[x])=max (a4E l) (a3r (a0a x)):=by
 unfold a4E;rw [List.foldl_append];rfl
def b20 (p:Pt):List BS:=[p.2.2.2.2.1,p.2.2.2.2.2.1,p.2.2.2.2.2.2.1,p.2.2.2.2.2.2.2.1]
def a59 (d:List Pt) (w:Int):Bool:=decide (1<=w)&&decide (∀ p∈d,(a4E (b20 p):Int)<w)
def a3F (d:List Pt) (ts:List BS):List Pt:=if ts.flatten=[] then d else d++[a0Q ts.flatten]
def c6k:List Pt->List Pt->List BS->List Pt
 | [],d,ts=>a3F d ts
 | p::l,d,ts=>if a0n p=true then c6k l d (ts++[txP p]) else c6k l (a3F d ts++[p]) []
def ofD (l:List Pt):List Pt:=c6k l [] []
theorem a1c (t:BS):a0n (a0Q t)=true:=decide_eq_true rfl
theorem a3M {p:Pt} (h:a0n p=true):p=a0Q (txP p):=of_decide_eq_true h
def a2p (out:List Pt) (p:Pt):List Pt:=
 if a0n p=true then
  if txP p=[] then out else
   match out.getLast? with
   | some q=>if a0n q=true then out.dropLast++[a0Q (txP q++txP p)] else out++[p]
   | none=>out++[p]
 else out++[p]
theorem a6Y {out:List Pt} {p:Pt} (h:a0n p=false):a2p out p=out++[p]:=by unfold a2p;rw [if_neg (by simp [h])]
theorem b4D {out:List Pt} {p:Pt} (h:a0n p=true) (h2:txP p=[]):a2p out p=out:=by unfold a2p;rw [if_pos h,if_pos h2]
theorem a8q {p:Pt} (h2:¬(a0n p=true/\txP p=[])):a2p [] p=[p]:=by
 unfold a2p;by_cases h:a0n p=true
 ·rw [if_pos h,if_neg fun e=>h2 ⟨h,e⟩];rfl
 ·rw [if_neg h];rfl
theorem b0H {m:List Pt} {q p:Pt} (h:a0n p=true) (h2:txP p≠[]) (hq:a0n q=true):a2p (m++[q]) p=m++[a0Q (txP q++txP p)]:=by
 unfold a2p;rw [if_pos h,if_neg h2];simp [hq]
theorem b01 {m:List Pt} {q p:Pt} (h2:¬(a0n p=true/\txP p=[])) (hq:a0n q=false):a2p (m++[q]) p=m++[q]++[p]:=by
 unfold a2p;by_cases h:a0n p=true
 ·rw [if_pos h,if_neg fun e=>h2 ⟨h,e⟩];simp [hq]
 ·rw [if_neg h]
theorem c2W (d:List Pt):a3F d []=d:=rfl
theorem c0S {d:List Pt} {ts:List BS} {p:Pt} (hd:∀ q,d.getLast?=some q->a0n q=false) (hp:a0n p=true):a3F d (ts++[txP p])=a2p (a3F d ts) p:=by
 have e:=a3M hp;by_cases h0:txP p=[]
 ·rw [b4D hp h0];unfold a3F;rw [h0];simp
 ·unfold a3F;have hf:¬(ts++[txP p]).flatten=[]:=by simp [h0]
  rw [if_neg hf];by_cases h1:ts.flatten=[]
  ·rw [if_pos h1];have ef:(ts++[txP p]).flatten=txP p:=by simp [h1]
   rw [ef,<-e];rcases d.eq_nil_or_concat with rfl|⟨m,q,rfl⟩
   ·rw [a8q fun h=>h0 h.2];rfl
   ·rw [List.concat_eq_append] at hd ⊢;rw [b01 (fun h=>h0 h.2) (hd q (by simp))]
  ·rw [if_neg h1,b0H hp h0 (a1c _)];simp [a0Q,txP]
theorem c7w:∀ (l d:List Pt) (ts:List BS),(∀ q,d.getLast?=some q->a0n q=false)->c6k l d ts=l.foldl a2p (a3F d ts)
 | [],d,ts,_=>rfl
 | p::l,d,ts,hd=>by
   rw [c6k,List.foldl_cons];cases h:a0n p with
   | true=>rw [if_pos rfl,c7w l d _ hd,c0S hd h]
   | false=>
     rw [if_neg (by simp),c7w l _ [] (fun q hq=>by
      rw [List.getLast?_append] at hq;simp at hq
      rw [<-hq];exact h),c2W,a6Y h]
theorem b2A (l:List Pt):ofD l=l.foldl a2p []:=c7w l [] [] (fun q h=>by cases h)
def a24 (l:List Pt):Nat:=(l.map fun p=>(txP p).length).sum
theorem a14 (l m:List Pt):a24 (l++m)=a24 l+a24 m:=by simp [a24]
theorem a10 (p:Pt):a24 [p]=(txP p).length:=by simp [a24]
theorem b2G (l:List Pt) (i:Nat):a24 (l.take i)<=a24 l:=by
 have:=a14 (l.take i) (l.drop i);rw [List.take_append_drop] at this;omega
theorem c45 (out:List Pt) (p:Pt):a24 (a2p out p)<=a24 out+(txP p).length/\(a2p out p).length<=out.length+1:=by
 have hn:a24 (out++[p])<=a24 out+(txP p).length/\(out++[p]).length<=out.length+1:=by rw [a14,a10];simp
 cases hp:a0n p with
 | false=>rw [a6Y hp];exact hn
 | true=>
   by_cases h0:txP p=[]
   ·rw [b4D hp h0];omega
   ·rcases out.eq_nil_or_concat with rfl|⟨m,q,rfl⟩
    ·rw [a8q fun e=>h0 e.2];exact hn
    ·rw [List.concat_eq_append] at *
     cases hqt:a0n q with
     | false=>rw [b01 (fun e=>h0 e.2) hqt];exact hn
     | true=>
       rw [b0H hp h0 hqt,a14,a14,a10,a10];simp [a0Q,txP];omega
theorem b4Z:∀ (l out:List Pt),a24 (l.foldl a2p out)<=a24 out+a24 l/\(l.foldl a2p out).length<=out.length+l.length
 | [],out=>by simp [a24]
 | p::l,out=>by
   have h1:=b4Z l (a2p out p);have h2:=c45 out p;have e:a24 (p::l)=(txP p).length+a24 l:=by simp [a24]
   rw [List.foldl_cons,e,lCo];omega
theorem b3K (l:List Pt):a24 (ofD l)<=a24 l/\(ofD l).length<=l.length:=by
 have:=b4Z l [];rw [<-b2A] at this;simpa [a24] using this
def okS (l:List Pt) (i:Nat):Bool:=(hkP (l.getD i ePt.dflt)||(decide (i=0)||hkP (l.getD (i-1) ePt.dflt)))&&(a3f (l.getD i ePt.dflt)||a3Y (l.getD i ePt.dflt) true)
def SrP (l:List Pt):Prop:=∀ i,i<l.length->okS l i=true
theorem b9I {p:Pt} (b:Bool) (h:a3Y p true=true):a3Y p b=true:=by
 unfold a3Y at *
 simp only [Bool.and_eq_true,Bool.not_true,Bool.false_or] at h;rw [h.1,h.2.1,h.2.2];simp
theorem d2K {l:List Pt} {i:Nat} (h:okS l i=true):c1L l i=true:=by
 unfold okS at h;unfold c1L;simp only [Bool.and_eq_true] at h ⊢;refine⟨h.1,?_⟩;have h3:=h.2;rw [Bool.or_eq_true] at h3 ⊢;rcases h3 with h2|h2
 ·exact .inl h2
 ·exact .inr (b9I _ h2)
theorem SrP.right {l:List Pt} (h:SrP l):a2v l=true:=decide_eq_true fun i hi=>d2K (h i hi)
theorem b3M {l:List Pt} {p:Pt} {i:Nat} (h:i<l.length):okS (l++[p]) i=okS l i:=by
 have e:∀ k,k<l.length->(l++[p]).getD k ePt.dflt=l.getD k ePt.dflt:=fun k hk=>by simp [List.getD,List.getElem?_append_left hk]
 unfold okS;rw [e i h];rcases Nat.eq_zero_or_pos i with rfl|h0
 ·simp
 ·rw [e (i-1) (by omega)]
theorem b0i (l:List Pt) (p:Pt):(l++[p]).getD l.length ePt.dflt=p:=by simp [List.getD]
theorem c8S (l:List Pt) (p:Pt) (h:0<l.length):(l++[p]).getD (l.length-1) ePt.dflt=l.getD (l.length-1) ePt.dflt:=by
 simp [List.getD,List.getElem?_append_left (show l.length-1<l.length by omega)]
theorem SrP.left {l:List Pt} {p:Pt} (h:SrP (l++[p])):SrP l:=fun i hi=>by
 have:=h i (by simp;omega)
 rwa [b3M hi] at this
theorem SrP.snoc {l:List Pt} {p:Pt} (h:SrP l) (hp:okS (l++[p]) l.length=true):SrP (l++[p]):=fun i hi=>by
 rcases Nat.lt_or_ge i l.length with g|g
 ·rw [b3M g];exact h i g
 ·obtain rfl:i=l.length:=by simp at hi;omega
  exact hp
theorem a9P {l:List Pt} {p:Pt} (h:SrP l) (hp:c1L (l++[p]) l.length=true):a2v (l++[p])=true:=decide_eq_true fun i hi=>by
 rcases Nat.lt_or_ge i l.length with g|g
 ·exact d2K (by rw [b3M g];exact h i g)
 ·obtain rfl:i=l.length:=by simp at hi;omega
  exact hp
theorem b4F {p:Pt} (h:a3f p=true):hkP p=true:=by
 unfold a3f at h;simp only [Bool.and_eq_true] at h;exact h.1
theorem a8Q {p:Pt} (h:a0n p=true):hkP p=false:=by
 rw [a3M h];rfl
theorem a9a {p:Pt} (h:a3f p=true):a0n p=false:=by
 cases c:a0n p with
 | false=>rfl
 | true=>have:=a8Q c;rw [b4F h] at this;cases this
theorem SrP.last {l:List Pt} {q:Pt} (h:SrP (l++[q])) (hq:a0n q=false):hkP q=true:=by
 have:=h l.length (by simp);unfold okS at this;rw [b0i] at this;simp only [Bool.and_eq_true,Bool.or_eq_true] at this;rcases this.2 with h2|h2
 ·exact b4F h2
 ·unfold a3Y at h2;rw [hq] at h2;cases h2
theorem b6a {l:List Pt} {t:BS} (h:SrP l) (h0:t≠[]) (he:a0C t=true) (hl:∀ q,l.getLast?=some q->a0n q=false):okS (l++[a0Q t]) l.length=true:=by
 unfold okS;rw [b0i]
 have hk:(decide (l.length=0)||hkP ((l++[a0Q t]).getD (l.length-1) ePt.dflt))=true:=by
  rcases l.eq_nil_or_concat with rfl|⟨m,q,rfl⟩
  ·rfl
  ·rw [List.concat_eq_append] at *
   rw [c8S _ _ (by simp)];have:(m++[q]).getD ((m++[q]).length-1) ePt.dflt=q:=by simp [List.getD]
   rw [this,h.last (hl q (by simp)),Bool.or_true]
 rw [hk,Bool.or_true,Bool.true_and];unfold a3Y;rw [a1c];have e:txP (a0Q t)=t:=rfl;rw [e,he,decide_eq_true h0];simp
theorem b2C {l:List Pt} {t:BS} (h:SrP l) (h0:t≠[]) (hl:∀ q,l.getLast?=some q->a0n q=false):c1L (l++[a0Q t]) l.length=true:=by
 unfold c1L;rw [b0i]
 have hk:(decide (l.length=0)||hkP ((l++[a0Q t]).getD (l.length-1) ePt.dflt))=true:=by
  rcases l.eq_nil_or_concat with rfl|⟨m,q,rfl⟩
  ·rfl
  ·rw [List.concat_eq_append] at *
   rw [c8S _ _ (by simp)];have:(m++[q]).getD ((m++[q]).length-1) ePt.dflt=q:=by simp [List.getD]
   rw [this,h.last (hl q (by simp)),Bool.or_true]
 rw [hk,Bool.or_true,Bool.true_and];unfold a3Y;rw [a1c,decide_eq_false (show ¬l.length+1<(l++[a0Q t]).length by simp)];have e:txP (a0Q t)=t:=rfl;rw [e,decide_eq_true h0];simp
theorem c4h {l:List Pt} {p:Pt} (h:a3f p=true):okS (l++[p]) l.length=true:=by
 unfold okS;rw [b0i,b4F h,h];rfl
theorem a30 (out:List Pt) (p:Pt) (hp:a0n p=true):(txP p=[]/\a2p out p=out)\/
  (txP p≠[]/\((∃ m q,out=m++[q]/\a0n q=true/\a2p out p=m++[a0Q (txP q++txP p)])\/((∀ q,out.getLast?=some q->a0n q=false)/\a2p out p=out++[p]))):=by
 by_cases h0:txP p=[]
 ·exact .inl ⟨h0,b4D hp h0⟩
 ·refine .inr ⟨h0,?_⟩;rcases out.eq_nil_or_concat with rfl|⟨m,q,rfl⟩
  ·exact .inr ⟨(fun q h=>by cases h),a8q fun e=>h0 e.2⟩
  ·rw [List.concat_eq_append];cases hq:a0n q with
   | true=>exact .inl ⟨m,q,rfl,hq,b0H hp h0 hq⟩
   | false=>
     refine .inr ⟨fun q' h=>?_,b01 (fun e=>h0 e.2) hq⟩;simp at h;rw [<-h];exact hq
theorem SrP.text {m:List Pt} {q:Pt} (h:SrP (m++[q])) (hq:a0n q=true):∀ q',m.getLast?=some q'->a0n q'=false:=fun q' hq'=>by
 have:=h m.length (by simp);unfold okS at this;rw [b0i,a8Q hq] at this;simp only [Bool.and_eq_true,Bool.or_eq_true,Bool.false_eq_true,false_or,decide_eq_true_eq] at this;rcases m.eq_nil_or_concat with rfl|⟨m',q2,rfl⟩
 ·cases hq'
 ·rw [List.concat_eq_append] at *
  simp at hq';subst hq';rcases this.1 with h1|h1
  ·simp at h1
  ·rw [c8S _ _ (by simp)] at h1;have e:(m'++[q2]).getD ((m'++[q2]).length-1) ePt.dflt=q2:=by simp [List.getD]
   rw [e] at h1;cases c:a0n q2 with
   | false=>rfl
   | true=>rw [a8Q c] at h1;cases h1
theorem b6g {a b:BS} (h0:b≠[]):a0C (a++b)=a0C b:=by
 unfold a0C;rcases b.eq_nil_or_concat with rfl|⟨m,c,rfl⟩
 ·exact absurd rfl h0
 ·rw [List.concat_eq_append,<-List.append_assoc,List.getLast?_concat,List.getLast?_concat]
theorem b3B {out:List Pt} {p:Pt} (h:SrP out) (hp:a3f p=true\/(a0n p=true/\(txP p=[]\/a0C (txP p)=true))):SrP (a2p out p):=by
 rcases hp with hp|⟨hp,he⟩
 ·rw [a6Y (a9a hp)];exact h.snoc (c4h hp)
 ·rcases a30 out p hp with⟨_,e⟩|⟨h0,⟨m,q,rfl,hq,e⟩|⟨hl,e⟩⟩
  ·rw [e];exact h
  ·rw [e];have he:=he.resolve_left h0;exact h.left.snoc (b6a h.left (by simp [h0]) (by rw [b6g h0];exact he) (h.text hq))
  ·rw [e];have he:=he.resolve_left h0;rw [a3M hp];exact h.snoc (b6a h h0 he hl)
theorem b6P {out:List Pt} {p:Pt} (h:SrP out) (hp:a3f p=true\/a0n p=true):a2v (a2p out p)=true:=by
 rcases hp with hp|hp
 ·exact (b3B h (.inl hp)).right
 ·rcases a30 out p hp with⟨_,e⟩|⟨h0,⟨m,q,rfl,hq,e⟩|⟨hl,e⟩⟩
  ·rw [e];exact h.right
  ·rw [e];exact a9P h.left (b2C h.left (by simp [h0]) (h.text hq))
  ·rw [e,a3M hp];exact a9P h (b2C h h0 hl)
theorem b4G:∀ (l out:List Pt),SrP out->(∀ p∈l,a3f p=true\/(a0n p=true/\(txP p=[]\/a0C (txP p)=true)))->SrP (l.foldl a2p out)
 | [],_,h,_=>h
 | p::l,out,h,hl=>b4G l _ (b3B h (hl p (List.mem_cons_self ..))) fun q hq=>hl q (List.mem_cons_of_mem p hq)
theorem c49 {l:List Pt} (h1:∀ p∈l,a3f p=true\/a0n p=true) (h2:∀ p∈l.dropLast,a3f p=true\/(a0n p=true/\(txP p=[]\/a0C (txP p)=true))):a2v (ofD l)=true:=by
 rw [b2A];rcases l.eq_nil_or_concat with rfl|⟨m,p,rfl⟩
 ·rfl
 ·rw [List.concat_eq_append] at *
  rw [List.dropLast_concat] at h2;rw [List.foldl_append];exact b6P (b4G m [] (fun i hi=>by simp at hi) h2) (h1 p (by simp))
theorem b2W:∀ (l out:List Pt),a0k (l.foldl a2p out)=a0k out+a0k l
 | [],out=>by simp [a0k]
 | p::l,out=>by
   have key:a0k (a2p out p)=a0k out+a0k [p]:=by
    have hap:∀ a b:List Pt,a0k (a++b)=a0k a+a0k b:=fun a b=>by simp [a0k]
    cases hp:a0n p with
    | false=>rw [a6Y hp,hap]
    | true=>
      have h1:∀ t:BS,a0k [a0Q t]=0:=fun t=>rfl
      have h2:a0k [p]=0:=by rw [a3M hp];rfl
      rcases a30 out p hp with⟨_,e⟩|⟨h0,⟨m,q,rfl,hq,e⟩|⟨hl,e⟩⟩
      ·rw [e,h2];rfl
      ·have h3:a0k [q]=0:=by rw [a3M hq];rfl
       rw [e,hap,hap,h1,h2,h3]
      ·rw [e,hap]
   have hap:a0k (p::l)=a0k [p]+a0k l:=by
    rw [show p::l=[p]++l from rfl];unfold a0k;rw [List.filter_append,lAp]
   rw [List.foldl_cons,b2W l,key,hap];omega
theorem b1v (l:List Pt):a0k (ofD l)=a0k l:=by
 rw [b2A,b2W];simp [a0k]
theorem b57 {l m:List BS} {x:BS} (h:x∈l):(l++m).idxOf x=l.idxOf x:=by rw [List.idxOf_append,if_pos h]
theorem c7o {l m:List BS} {x:BS} (h:¬x∈l):(l++m).idxOf x=m.idxOf x+l.length:=by rw [List.idxOf_append,if_neg h]
theorem a7J:∀ (l ks:List BS),ks.Nodup->(a1C ks l).1.Nodup/\(∃ m,(a1C ks l).1=ks++m)/\(∀ x∈l,x∈(a1C ks l).1)/\(a1C ks l).2=l.map fun x=>(((a1C ks l).1.idxOf x:Nat):Int)
 | [],ks,h=>⟨h,⟨[],by simp [a1C]⟩,fun _ h=>by simp at h,rfl⟩
 | x::l,ks,h=>by
   have hk:(if x∈ks then ks else ks++[x]).Nodup:=by
    split
    ·exact h
    ·rename_i hx;rw [List.nodup_append];refine⟨h,by simp,fun a ha b hb e=>?_⟩;simp at hb;exact hx (by rw [<-hb,<-e];exact ha)
   have hx:x∈(if x∈ks then ks else ks++[x]):=by
    split
    ·assumption
    ·simp
   have hi:(if x∈ks then ks else ks++[x]).idxOf x=ks.idxOf x:=by
    split
    ·rfl
    ·rename_i hx;rw [c7o hx,List.idxOf_cons_self,List.idxOf_eq_length hx,Nat.zero_add]
   have hm:∃ m,(if x∈ks then ks else ks++[x])=ks++m:=by
    split
    ·exact⟨[],by simp⟩
    ·exact⟨[x],rfl⟩
   obtain⟨i1,⟨m,i2⟩,i3,i4⟩:=a7J l (if x∈ks then ks else ks++[x]) hk;obtain⟨m',hm⟩:=hm;simp only [a1C];refine⟨i1,⟨m'++m,by rw [i2,hm,List.append_assoc]⟩,fun y hy=>?_,?_⟩
   ·rcases List.mem_cons.1 hy with rfl|hy
    ·rw [i2];exact List.mem_append_left _ hx
    ·exact i3 y hy
   ·rw [List.map_cons,i4]
    congr 1
    rw [i2,b57 hx,hi]
theorem c9Y {K:List BS} {x y:BS} (hx:x∈K) (hy:y∈K) (h:K.idxOf x=K.idxOf y):x=y:=by
 have h1:=List.idxOf_lt_length_of_mem hx;have h2:=List.idxOf_lt_length_of_mem hy;have e1:K[K.idxOf x]=x:=List.getElem_idxOf h1;have e2:K[K.idxOf y]=y:=List.getElem_idxOf h2;rw [<-e1,<-e2]
 congr 1
theorem a6i (a b c:List BS):∃ φ:BS->Int,a0X [] [a,b,c]=[a.map φ,b.map φ,c.map φ]/\∀ x y,(x∈a\/x∈b\/x∈c)->(y∈a\/y∈b\/y∈c)->φ x=φ y->x=y:=by
 obtain⟨a1,⟨ma,a2⟩,a3,a4⟩:=a7J a [] List.nodup_nil;obtain⟨b1,⟨mb,b2⟩,b3,b4⟩:=a7J b (a1C [] a).1 a1;obtain⟨c1,⟨mc,c2⟩,c3,c4⟩:=a7J c (a1C (a1C [] a).1 b).1 b1;generalize hKa:(a1C [] a).1=Ka at *
 generalize hKb:(a1C Ka b).1=Kb at *
 generalize hKc:(a1C Kb c).1=Kc at *
 have ea:∀ x∈a,Kc.idxOf x=Ka.idxOf x:=fun x hx=>by
  rw [c2,b57 (by rw [b2];exact List.mem_append_left _ (a3 x hx)),b2,b57 (a3 x hx)]
 have eb:∀ x∈b,Kc.idxOf x=Kb.idxOf x:=fun x hx=>by
  rw [c2,b57 (b3 x hx)]
 have hin:∀ x,(x∈a\/x∈b\/x∈c)->x∈Kc:=fun x hx=>by
  rcases hx with h|h|h
  ·rw [c2,b2];exact List.mem_append_left _ (List.mem_append_left _ (a3 x h))
  ·rw [c2];exact List.mem_append_left _ (b3 x h)
  ·exact c3 x h
 refine⟨fun x=>((Kc.idxOf x:Nat):Int),?_,fun x y hx hy e=>c9Y (hin x hx) (hin y hy) (Int.ofNat.inj e)⟩;simp only [a0X];rw [hKa,hKb,a4,b4,c4]
 congr 1
 ·exact List.map_congr_left fun x hx=>by rw [ea x hx]
 ·congr 1
  exact List.map_congr_left fun x hx=>by rw [eb x hx]
theorem b1e {a b:List Int}:∀ {l:List (Int×Int)} {u v:Int},rgt a b u v l=true->a3V a.length b.length u v l=true
 | [],_,_,_=>rfl
 | p::l,u,v,h=>by
   rw [rgt,Bool.and_eq_true,decide_eq_true_eq] at h;rw [a3V,b1e h.2,Bool.and_true,decide_eq_true_eq];exact⟨h.1.1,h.1.2.1,h.1.2.2.1,h.1.2.2.2.1⟩
theorem b34 {a b:List Int}:∀ {l:List (Int×Int)} {u v:Int},rgt a b u v l=true->∀ p∈l,u<p.1/\v<p.2/\p.1<a.length/\p.2<b.length/\a.getD p.1.toNat 0=b.getD p.2.toNat 0
 | q::l,u,v,h,p,hp=>by
   rw [rgt,Bool.and_eq_true,decide_eq_true_eq] at h;rcases List.mem_cons.1 hp with rfl|hp
   ·exact h.1
   ·obtain⟨g1,g2,g3⟩:=b34 h.2 p hp;exact⟨by omega,by omega,g3⟩
theorem a2n {α:Type} (φ:BS->α) (d:α) {l:List BS} {k:Nat} (h:k<l.length):(l.map φ).getD k d=φ (l.getD k []):=by
 rw [a0F _ _ (by simpa using h),a0F _ _ h,List.getElem_map]
theorem a3v {l:List BS} {k:Nat} (h:k<l.length):l.getD k []∈l:=by
 rw [a0F _ _ h];exact List.getElem_mem h
abbrev Fl:=List BS×List BS×List BS
def atP (f:Fl) (p:Pl):Prop:=(0<=p.1/\p.1<f.1.length)/\(0<=p.2.1/\p.2.1<f.2.1.length)/\(0<=p.2.2/\p.2.2<f.2.2.length)/\f.2.1.getD p.2.1.toNat []=f.1.getD p.1.toNat []/\f.2.2.getD p.2.2.toNat []=f.1.getD p.1.toNat []
def c69 (f:Fl) (l r:List (Int×Int)):Prop:=rgt ((a0X [] [f.1,f.2.1,f.2.2]).getD 0 []) ((a0X [] [f.1,f.2.1,f.2.2]).getD 1 []) (-1) (-1) l=true/\rgt ((a0X [] [f.1,f.2.1,f.2.2]).getD 0 []) ((a0X [] [f.1,f.2.1,f.2.2]).getD 2 []) (-1) (-1) r=true
theorem b1p {f:Fl} {l r:List (Int×Int)} (h:c69 f l r):c0d f.1.length f.2.1.length f.2.2.length l r=true:=by
 obtain⟨φ,e,_⟩:=a6i f.1 f.2.1 f.2.2;unfold c69 at h;rw [e] at h;have h1:=b1e h.1;have h2:=b1e h.2;simp only [List.getD_cons_zero,List.getD_cons_succ,List.length_map] at h1 h2;unfold c0d;rw [h1,h2];simp
theorem d0G {f:Fl} {l r:List (Int×Int)} (h:c69 f l r):∀ p∈a2E l r,atP f p:=fun x hx=>by
 obtain⟨p,hp,q,hq,e1,rfl⟩:=a50 _ l r (nLR _) x hx;obtain⟨φ,e,inj⟩:=a6i f.1 f.2.1 f.2.2;unfold c69 at h;rw [e] at h;obtain⟨a1,a2,a3,a4,a5⟩:=b34 h.1 p hp;obtain⟨b1,b2,b3,b4,b5⟩:=b34 h.2 q hq;simp only [List.getD_cons_zero,List.getD_cons_succ,List.length_map] at a3 a4 a5 b3 b4 b5;have k1:p.1.toNat<f.1.length:=by omega
 have k2:p.2.toNat<f.2.1.length:=by omega
 have k3:q.2.toNat<f.2.2.length:=by omega
 rw [a2n φ 0 k1,a2n φ 0 k2] at a5;rw [<-e1,a2n φ 0 k1,a2n φ 0 k3] at b5;refine⟨⟨show (0:Int)<=p.1 by omega,a3⟩,⟨show (0:Int)<=p.2 by omega,a4⟩,⟨show (0:Int)<=q.2 by omega,b4⟩,?_,?_⟩
 ·exact (inj _ _ (.inl (a3v k1)) (.inr (.inl (a3v k2))) a5).symm
 ·exact (inj _ _ (.inl (a3v k1)) (.inr (.inr (a3v k3))) b5).symm
def b76 (p:Pl) (n:Nat):Pl:=(p.1+n,p.2.1+n,p.2.2+n)
def a9i (f:Fl) (c:Ck):Prop:=c.1=true->∃ n:Nat,toP c=b76 (a2O c) n/\∀ k,k<n->atP f (b76 (a2O c) k)
theorem a7v {f:Fl} {s:List Ck} {p:Pl} (h:∀ c∈s,a9i f c) (hc:chF (0,0,0) none s p) (hp:atP f p):∀ c∈a08 s p,a9i f c:=by
 have one:a9i f (true,(p.1,p.1+1),(p.2.1,p.2.1+1),(p.2.2,p.2.2+1)):=fun _=>⟨1,rfl,fun k hk=>by
  obtain rfl:k=0:=by omega
  have:b76 p 0=p:=by simp [b76]
  show atP f (b76 p 0);rw [this]
  exact hp⟩
 rcases s.eq_nil_or_concat with rfl|⟨m,d,rfl⟩
 ·rw [a5K];intro c hc;simp only [List.mem_singleton] at hc;subst hc;exact one
 ·rw [List.concat_eq_append] at h hc ⊢;rw [a1R];by_cases hd:d.1=true
  ·rw [if_pos hd];obtain⟨_,_,_,_,e⟩:=a4F.1 hc;obtain⟨n,e2,g⟩:=h d (by simp) hd;intro c hc;rcases List.mem_append.1 hc with hc|hc
   ·exact h c (by simp [hc])
   ·simp only [List.mem_singleton] at hc;subst hc;rw [e] at e2;refine fun _=>⟨n+1,?_,fun k hk=>?_⟩
    ·rw [e2];show (_,_,_)=(_,_,_);simp only [b76,a2O,Int.natCast_add,Int.add_assoc];rfl
    ·show atP f (b76 (a2O d) k);rcases Nat.lt_or_ge k n with g1|g1
     ·exact g k g1
     ·obtain rfl:k=n:=by omega
      rw [<-e2];exact hp
  ·rw [if_neg hd];intro c hc;rcases List.mem_append.1 hc with hc|hc
   ·exact h c hc
   ·simp only [List.mem_singleton] at hc;subst hc;exact one
theorem b3p {f:Fl} (a5A:Pl):∀ (M:List Pl) (s:List Ck) (t:Pl),chF (0,0,0) none s t->b0R none s≠some false->upM a5A t M->(∀ p∈M,atP f p)->(∀ c∈s,a9i f c)->∀ c∈ofK a5A M s t,a9i f c
 | [],s,t,h,hl,hu,hM,hs=>by
   rw [ofK];by_cases e:t=a5A
   ·rw [if_pos e];exact hs
   ·rw [if_neg e];intro c hc;rcases List.mem_append.1 hc with hc|hc
    ·exact hs c hc
    ·simp only [List.mem_singleton] at hc;subst hc;exact fun h=>by cases h
 | p::M,s,t,h,hl,hu,hM,hs=>by
   rw [ofK];by_cases e:p=t
   ·rw [if_pos e,e];obtain⟨h1,h2⟩:=a5j h;exact b3p a5A M _ _ h1 (by rw [h2];simp) (e▸hu.2) (fun q hq=>hM q (List.mem_cons_of_mem _ hq)) (a7v hs h (e▸hM p (List.mem_cons_self ..)))
   ·rw [if_neg e];have hc:=a4F (e:=p) (c:=btw t p) (t:=(0,0,0)) (o:=none) (s:=s) |>.2 ⟨h,hu.1,fun e2=>e e2.symm,hl,rfl⟩;obtain⟨h1,h2⟩:=a5j (s:=s++[btw t p]) (t:=p) hc;refine b3p a5A M _ _ h1 (by rw [h2];simp) hu.2 (fun q hq=>hM q (List.mem_cons_of_mem _ hq)) (a7v (fun c hc=>?_) hc (hM p (List.mem_cons_self ..)));rcases List.mem_append.1 hc with hc|hc
    ·exact hs c hc
    ·simp only [List.mem_singleton] at hc;subst hc;exact fun h=>by cases h
def d10 (f:Fl) (l r:List (Int×Int)):List Ck:=ofK (f.1.length,f.2.1.length,f.2.2.length) (a2E l r) [] (0,0,0)
def c6o (f:Fl):Pl:=(f.1.length,f.2.1.length,f.2.2.length)
theorem d3D {f:Fl} {l r:List (Int×Int)} (h:c69 f l r):chF (0,0,0) none (d10 f l r) (c6o f):=d2D (b1p h)
theorem c4p {f:Fl} {l r:List (Int×Int)} (h:c69 f l r):∀ c∈d10 f l r,a9i f c:=by
 have hf:=b1p h;unfold c0d at hf;simp only [Bool.and_eq_true,decide_eq_true_eq] at hf;obtain⟨⟨h1,h2,h3⟩,h4,h5⟩:=hf;exact b3p (c6o f) _ _ _ rfl (by simp [b0R]) (a8k _ l r (-1) (-1) (-1) (-1) (0,0,0) (nLR _) h4 h5 (.inl (Int.le_refl _)) (Int.le_refl _) (Int.le_refl _) ⟨h1,h2,h3⟩) (d0G h) (fun c hc=>by simp at hc)
def a9j (f:Fl) (c:Ck):List BS:=a5v c.2.1 f.1
def a2e (f:Fl) (c:Ck):List BS:=a5v c.2.2.1 f.2.1
def a2R (f:Fl) (c:Ck):List BS:=a5v c.2.2.2 f.2.2
theorem b0L {s:Sp} {l:List BS} (h1:0<=s.1) (h2:s.1<=s.2) (h3:s.2<=l.length):a5v s l=a06 l s.1.toNat s.2.toNat:=by
 unfold a5v;rw [if_neg (by omega)]
theorem a3e {α:Type} (a:List α) {i j:Nat} (h:j<=a.length):(a06 a i j).length=j-i:=by simp [a06];omega
theorem a4H {a:List BS} {i j k:Nat} (h:k<j-i) (hj:j<=a.length):(a06 a i j).getD k []=a.getD (i+k) []:=by
 simp [a06,List.getD,List.getElem?_take,show i+k<j by omega]
theorem c3j {a:List BS} {i j:Nat} {x:BS} (hj:j<=a.length) (h:x∈a06 a i j):∃ k,i<=k/\k<j/\x=a.getD k []:=by
 obtain⟨k,hk,e⟩:=List.getElem_of_mem h;have hk':k<j-i:=by rw [a3e a hj] at hk;exact hk
 refine⟨i+k,by omega,by omega,?_⟩;rw [<-a4H hk' hj,a0F _ _ hk,e]
structure Cmp (g:Ck->Sp) (h:Pl->Int):Prop where
 fro:∀ c,(g c).1=h (a2O c)
 too:∀ c,(g c).2=h (toP c)
 mono:∀ p q,leP p q->h p<=h q
 add:∀ p (n:Nat),h (b76 p n)=h p+n
 zero:h (0,0,0)=0
theorem d9f:Cmp (fun c=>c.2.1) (fun p=>p.1):=⟨fun _=>rfl,fun _=>rfl,fun _ _ h=>h.1,fun _ _=>rfl,rfl⟩
theorem d9b:Cmp (fun c=>c.2.2.1) (fun p=>p.2.1):=⟨fun _=>rfl,fun _=>rfl,fun _ _ h=>h.2.1,fun _ _=>rfl,rfl⟩
theorem d9y:Cmp (fun c=>c.2.2.2) (fun p=>p.2.2):=⟨fun _=>rfl,fun _=>rfl,fun _ _ h=>h.2.2,fun _ _=>rfl,rfl⟩
theorem b2w {α:Type} (a:List α) {i j k:Nat} (h1:i<=j) (h2:j<=k):a06 a i j++a06 a j k=a06 a i k:=by
 unfold a06;have e:a.take j=(a.take k).take j:=by rw [List.take_take];congr 1;omega
 rw [e];generalize a.take k=b;rw [List.drop_take];have:b.drop j=(b.drop i).drop (j-i):=by rw [List.drop_drop];congr 1;omega
 rw [this,List.take_append_drop]
theorem b2i {g:Ck->Sp} {h:Pl->Int} (hg:Cmp g h) {l:List BS}:∀ {L:List Ck} {t:Pl} {o:Option Bool} {e:Pl},chF t o L e->0<=h t->h e<=l.length->(L.map fun c=>a5v (g c) l).flatten=a06 l (h t).toNat (h e).toNat
 | [],t,_,e,hc,_,_=>by
   have:t=e:=hc;subst this;simp [a06]
 | c::L,t,o,e,⟨h1,h2,h3,h4,h5⟩,h6,h7=>by
   have m1:=hg.mono _ _ h2;have m2:=hg.mono _ _ (c0Y h5);rw [List.map_cons,List.flatten_cons,b2i hg h5 (by omega) h7,b0L (by rw [hg.fro,h1];exact h6) (by rw [hg.fro,hg.too,h1];exact m1) (by rw [hg.too];omega),hg.fro,hg.too,h1];exact b2w l (by omega) (by omega)
theorem b1i {g:Ck->Sp} {h:Pl->Int} (hg:Cmp g h) {l:List BS} {L:List Ck} {e:Pl} (hc:chF (0,0,0) none L e) (he:h e=l.length):(L.map fun c=>a5v (g c) l).flatten=l:=by
 rw [b2i hg hc (by rw [hg.zero];exact Int.le_refl _) (by omega),hg.zero,he];simp [a06]
theorem c24:∀ {L:List Ck} {t:Pl} {o:Option Bool} {e:Pl},chF t o L e->∀ c∈L,leP t (a2O c)/\leP (a2O c) (toP c)/\leP (toP c) e
 | c::L,t,o,e,⟨h1,h2,h3,h4,h5⟩,d,hd=>by
   rcases List.mem_cons.1 hd with rfl|hd
   ·exact⟨by rw [h1];exact a5a _,by rw [h1];exact h2,c0Y h5⟩
   ·obtain⟨g1,g2,g3⟩:=c24 h5 d hd;exact⟨a6O h2 g1,g2,g3⟩
def inF (f:Fl) (c:Ck):Prop:=leP (0,0,0) (a2O c)/\leP (a2O c) (toP c)/\leP (toP c) (c6o f)
theorem b36 {f:Fl} {c:Ck} (h:inF f c):a9j f c=a06 f.1 c.2.1.1.toNat c.2.1.2.toNat:=b0L h.1.1 h.2.1.1 h.2.2.1
theorem a8n {f:Fl} {c:Ck} (h:inF f c):a2e f c=a06 f.2.1 c.2.2.1.1.toNat c.2.2.1.2.toNat:=b0L h.1.2.1 h.2.1.2.1 h.2.2.2.1
theorem a8u {f:Fl} {c:Ck} (h:inF f c):a2R f c=a06 f.2.2 c.2.2.2.1.toNat c.2.2.2.2.toNat:=b0L h.1.2.2 h.2.1.2.2 h.2.2.2.2
theorem c18 {f:Fl} {c:Ck} (h:inF f c) (hg:a9i f c) (hs:c.1=true):a2e f c=a9j f c/\a2R f c=a9j f c:=by
 obtain⟨n,e,g⟩:=hg hs;have e1:c.2.1.2=c.2.1.1+n:=congrArg (fun p:Pl=>p.1) e;have e2:c.2.2.1.2=c.2.2.1.1+n:=congrArg (fun p:Pl=>p.2.1) e;have e3:c.2.2.2.2=c.2.2.2.1+n:=congrArg (fun p:Pl=>p.2.2) e;have a1:(0:Int)<=c.2.1.1:=h.1.1;have a2:(0:Int)<=c.2.2.1.1:=h.1.2.1;have a3:(0:Int)<=c.2.2.2.1:=h.1.2.2;have b1:c.2.1.2<=f.1.length:=h.2.2.1;have b2:c.2.2.1.2<=f.2.1.length:=h.2.2.2.1;have b3:c.2.2.2.2<=f.2.2.length:=h.2.2.2.2;rw [b36 h,a8n h,a8u h];have l1:=a3e f.1 (i:=c.2.1.1.toNat) (j:=c.2.1.2.toNat) (by omega);have l2:=a3e f.2.1 (i:=c.2.2.1.1.toNat) (j:=c.2.2.1.2.toNat) (by omega);have l3:=a3e f.2.2 (i:=c.2.2.2.1.toNat) (j:=c.2.2.2.2.toNat) (by omega)
 have key:∀ k,k<n->f.2.1.getD (c.2.2.1.1.toNat+k) []=f.1.getD (c.2.1.1.toNat+k) []/\f.2.2.getD (c.2.2.2.1.toNat+k) []=f.1.getD (c.2.1.1.toNat+k) []:=fun k hk=>by
  obtain⟨_,_,_,g4,g5⟩:=g k hk;have q1:(b76 (a2O c) k).1.toNat=c.2.1.1.toNat+k:=by show (c.2.1.1+(k:Int)).toNat=_;omega
  have q2:(b76 (a2O c) k).2.1.toNat=c.2.2.1.1.toNat+k:=by show (c.2.2.1.1+(k:Int)).toNat=_;omega
  have q3:(b76 (a2O c) k).2.2.toNat=c.2.2.2.1.toNat+k:=by show (c.2.2.2.1+(k:Int)).toNat=_;omega
  rw [q1,q2] at g4;rw [q1,q3] at g5;exact⟨g4,g5⟩
 constructor
 ·refine a03 [] (by omega) fun k hk=>?_
  rw [a4H (by omega) (by omega),a4H (by omega) (by omega)];exact (key k (by omega)).1
 ·refine a03 [] (by omega) fun k hk=>?_
  rw [a4H (by omega) (by omega),a4H (by omega) (by omega)];exact (key k (by omega)).2
def a9c (f:Fl):Prop:=a0I f.1=true/\a0I f.2.1=true/\a0I f.2.2=true
theorem a61 {l:List BS} (h:a0I l=true) {k:Nat} (hk:k+1<l.length):a0C (l.getD k [])=true:=((a2t l).1 h k (by omega)).2 hk
def b92 (f:Fl) (c:Ck):Prop:=∀ x,x∈a9j f c\/x∈a2e f c\/x∈a2R f c->a0C x=true
theorem a5n {l:List BS} (hw:a0I l=true) {i j:Nat} (h:j<l.length):∀ x∈a06 l i j,a0C x=true:=fun x hx=>by
 obtain⟨k,h1,h2,rfl⟩:=c3j (by omega) hx;exact a61 hw (by omega)
theorem b3z {f:Fl} (hw:a9c f):∀ (L:List Ck) (t:Pl) (o:Option Bool),chF t o L (c6o f)->leP (0,0,0) t->(∀ c∈L,a9i f c)->∀ c∈L.dropLast,b92 f c
 | [],_,_,_,_,_,_,h=>by simp at h
 | [c],_,_,_,_,_,_,h=>by simp at h
 | c::d::L,t,o,hc,h0,hg,x,hx=>by
   have hx:x=c\/x∈(d::L).dropLast:=by simpa using hx
   obtain⟨h1,h2,h3,h4,h5⟩:=hc;have h5':=h5;obtain⟨k1,k2,k3,k4,k5⟩:=h5;rcases hx with rfl|hx
   ·have hin:inF f x:=⟨by rw [h1];exact h0,by rw [h1];exact h2,c0Y h5'⟩;have hle:=c0Y k5;have z1:(0:Int)<=(toP x).1:=Int.le_trans h0.1 h2.1;have z2:(0:Int)<=(toP x).2.1:=Int.le_trans h0.2.1 h2.2.1;have z3:(0:Int)<=(toP x).2.2:=Int.le_trans h0.2.2 h2.2.2;have w1:(toP x).1<=(toP d).1:=k2.1;have w2:(toP x).2.1<=(toP d).2.1:=k2.2.1;have w3:(toP x).2.2<=(toP d).2.2:=k2.2.2;have v1:(toP d).1<=f.1.length:=hle.1;have v2:(toP d).2.1<=f.2.1.length:=hle.2.1;have v3:(toP d).2.2<=f.2.2.length:=hle.2.2;cases hs:x.1 with
    | true=>
      obtain⟨e1,e2⟩:=c18 hin (hg x (by simp)) hs
      have hall:∀ y∈a9j f x,a0C y=true:=by
       by_cases c1:(toP x).1<(toP d).1
       ·rw [b36 hin];exact a5n hw.1 (by show (toP x).1.toNat<_;omega)
       ·by_cases c2:(toP x).2.1<(toP d).2.1
        ·rw [<-e1,a8n hin];exact a5n hw.2.1 (by show (toP x).2.1.toNat<_;omega)
        ·by_cases c3:(toP x).2.2<(toP d).2.2
         ·rw [<-e2,a8u hin];exact a5n hw.2.2 (by show (toP x).2.2.toNat<_;omega)
         ·exact absurd (show toP x=toP d from Prod.ext (by omega) (Prod.ext (by omega) (by omega))) k3
      intro y hy;rw [e1,e2] at hy;rcases hy with hy|hy|hy
      ·exact hall y hy
      ·exact hall y hy
      ·exact hall y hy
    | false=>
      have hd:d.1=true:=by
       cases hd:d.1 with
       | true=>rfl
       | false=>rw [hs,hd] at k4;exact absurd rfl k4
      obtain⟨n,e,_⟩:=hg d (by simp) hd;rw [k1] at e
      have hn:0<n:=by
       rcases Nat.eq_zero_or_pos n with rfl|h
       ·exact absurd (show toP x=toP d by rw [e];simp [b76]) k3
       ·exact h
      have u1:(toP d).1=(toP x).1+n:=congrArg (fun p:Pl=>p.1) e;have u2:(toP d).2.1=(toP x).2.1+n:=congrArg (fun p:Pl=>p.2.1) e;have u3:(toP d).2.2=(toP x).2.2+n:=congrArg (fun p:Pl=>p.2.2) e;intro y hy;rcases hy with hy|hy|hy
      ·rw [b36 hin] at hy;exact a5n hw.1 (by show (toP x).1.toNat<_;omega) y hy
      ·rw [a8n hin] at hy;exact a5n hw.2.1 (by show (toP x).2.1.toNat<_;omega) y hy
      ·rw [a8u hin] at hy;exact a5n hw.2.2 (by show (toP x).2.2.toNat<_;omega) y hy
   ·exact b3z hw (d::L) (toP c) (some c.1) h5' (a6O h0 h2) (fun e he=>hg e (List.mem_cons_of_mem _ he)) x hx
def a7P (f:Fl) (c:Ck):Int:=a91 c f.1 f.2.1 f.2.2
def a1s (st:Int) (l r:List BS):Nat×Nat:=if st=2 then (ahd l r,bhd (l.drop (ahd l r)) (r.drop (ahd l r))) else (0,0)
theorem a7W (st:Int) (l r:List BS):(a1s st l r).1+(a1s st l r).2<=l.length/\(a1s st l r).1+(a1s st l r).2<=r.length:=by
 unfold a1s;split
 ·have h1:=a5B l r;have h2:=c1u (l.drop (ahd l r)) (r.drop (ahd l r));simp only [List.length_drop] at h2;simp only;omega
 ·simp
def b03 (f:Fl) (c:Ck) (st:Int) (lb:BS×BS×BS):Pt:=
 (lb.1,(if st=0 then [] else lb.2.1),lb.2.2,true,[],(a06 (a2e f c) (a1s st (a2e f c) (a2R f c)).1 ((a2e f c).length-(a1s st (a2e f c) (a2R f c)).2)).flatten,
  (if st=0 then [] else (a9j f c).flatten),(a06 (a2R f c) (a1s st (a2e f c) (a2R f c)).1 ((a2R f c).length-(a1s st (a2e f c) (a2R f c)).2)).flatten,decide (st≠0))
def a57 (f:Fl) (c:Ck) (st:Int) (lb:BS×BS×BS):List Pt:=
 [a0Q ((a2e f c).take (a1s st (a2e f c) (a2R f c)).1).flatten,b03 f c st lb,a0Q ((a2e f c).drop ((a2e f c).length-(a1s st (a2e f c) (a2R f c)).2)).flatten]
def a6d (f:Fl) (c:Ck) (k fav:Int):List BS:=if k=0 then a9j f c else if k=2 then a2R f c else if k=4/\fav=3 then a2R f c else a2e f c
def a3p (f:Fl) (st:Int) (lb:BS×BS×BS) (fav:Int) (c:Ck):List Pt:=if a7P f c=4/\fav=0 then a57 f c st lb else [a0Q (a6d f c (a7P f c) fav).flatten]
def a6a (n:Int):Bool:=decide (n=0)||(decide (n=1)||decide (n=2))
def a6C (n:Int):Bool:=decide (n=0)||(decide (n=1)||decide (n=3))
def a1i (lb:BS×BS×BS):Bool:=a2i lb.1&&(a2i lb.2.1&&a2i lb.2.2)
def b6I (f:Fl) (L:List Ck) (st:Int) (lb:BS×BS×BS) (fav:Int):List Pt×Int:=
 if (a6a st&&a6C fav)=false then ([],5) else if a1i lb=false then ([],3) else (ofD (L.flatMap (a3p f st lb fav)),0)
def b10 (f:Fl) (L:List Ck):Nat:=(L.filter fun c=>decide (a7P f c=4)).length
theorem a6M {l:List BS} (h:∀ x∈l,a0C x=true):l.flatten=[]\/a0C l.flatten=true:=by
 rcases l.eq_nil_or_concat with rfl|⟨m,x,rfl⟩
 ·exact .inl rfl
 ·right;rw [List.concat_eq_append,List.flatten_append];have hx:=h x (by simp);have:[x].flatten=x:=by simp
  rw [this,b6g (fun e=>by rw [e] at hx;simp [a0C] at hx)];exact hx
theorem b1w {f:Fl} {c:Ck} {st:Int} {lb:BS×BS×BS} (h:a1i lb=true):a3f (b03 f c st lb)=true:=by
 unfold a1i at h;simp only [Bool.and_eq_true] at h;unfold a3f b03 b0h;simp only [Bool.and_eq_true,Bool.or_eq_true,decide_eq_true_eq];refine⟨trivial,trivial,?_,h.1,?_,h.2.2⟩
 ·by_cases e:st=0
  ·rw [if_pos e,if_pos e];exact .inr ⟨rfl,rfl⟩
  ·exact .inl e
 ·split
  ·rfl
  ·exact h.2.1
theorem c8r {f:Fl} {st:Int} {lb:BS×BS×BS} {fav:Int} (h:a1i lb=true) (c:Ck):∀ p∈a3p f st lb fav c,a3f p=true\/a0n p=true:=by
 unfold a3p;split
 ·intro p hp;unfold a57 at hp;simp only [List.mem_cons,List.not_mem_nil,or_false] at hp;rcases hp with rfl|rfl|rfl
  ·exact .inr (a1c _)
  ·exact .inl (b1w h)
  ·exact .inr (a1c _)
 ·intro p hp;simp only [List.mem_singleton] at hp;subst hp;exact .inr (a1c _)
theorem c5p {f:Fl} {c:Ck} (h:b92 f c) (k fav:Int):∀ x∈a6d f c k fav,a0C x=true:=by
 intro x hx;unfold a6d at hx;split at hx
 ·exact h x (.inl hx)
 ·split at hx
  ·exact h x (.inr (.inr hx))
  ·split at hx
   ·exact h x (.inr (.inr hx))
   ·exact h x (.inr (.inl hx))
theorem b46 {f:Fl} {st:Int} {lb:BS×BS×BS} {fav:Int} {c:Ck} (hp:a1i lb=true) (h:b92 f c):∀ p∈a3p f st lb fav c,a3f p=true\/(a0n p=true/\(txP p=[]\/a0C (txP p)=true)):=by
 unfold a3p;split
 ·intro p hpm;unfold a57 at hpm;simp only [List.mem_cons,List.not_mem_nil,or_false] at hpm;rcases hpm with rfl|rfl|rfl
  ·exact .inr ⟨a1c _,a6M fun x hx=>h x (.inr (.inl (List.mem_of_mem_take hx)))⟩
  ·exact .inl (b1w hp)
  ·exact .inr ⟨a1c _,a6M fun x hx=>h x (.inr (.inl (List.mem_of_mem_drop hx)))⟩
 ·intro p hpm;simp only [List.mem_singleton] at hpm;subst hpm;exact .inr ⟨a1c _,a6M (c5p h _ _)⟩
theorem b8W (f:Fl) (c:Ck):(a7P f c=0/\c.1=true)\/(c.1=false/\(a7P f c=2/\a2e f c=a9j f c\/a7P f c=1/\a2R f c=a9j f c\/a7P f c=3/\a2e f c=a2R f c\/a7P f c=4/\a2e f c≠a9j f c/\a2R f c≠a9j f c/\a2e f c≠a2R f c)):=by
 unfold a7P a91;cases h:c.1 with
 | true=>exact .inl ⟨rfl,rfl⟩
 | false=>
   refine .inr ⟨rfl,?_⟩;rw [if_neg (by simp)];by_cases h1:a5v c.2.2.1 f.2.1=a5v c.2.1 f.1
   ·rw [if_pos h1];exact .inl ⟨rfl,h1⟩
   ·rw [if_neg h1];by_cases h2:a5v c.2.2.2 f.2.2=a5v c.2.1 f.1
    ·rw [if_pos h2];exact .inr (.inl ⟨rfl,h2⟩)
    ·rw [if_neg h2];by_cases h3:a5v c.2.2.1 f.2.1=a5v c.2.2.2 f.2.2
     ·rw [if_pos h3];exact .inr (.inr (.inl ⟨rfl,h3⟩))
     ·rw [if_neg h3];exact .inr (.inr (.inr ⟨rfl,h1,h2,h3⟩))
theorem c4B {f:Fl} {c:Ck} (h:a7P f c=4):a2e f c≠a2R f c:=by
 rcases b8W f c with⟨h1,_⟩|⟨_,⟨h1,_⟩|⟨h1,_⟩|⟨h1,_⟩|⟨_,_,_,h2⟩⟩
 ·omega
 ·omega
 ·omega
 ·omega
 ·exact h2
theorem c1v {f:Fl} (hw:a9c f) {c:Ck} (hin:inF f c) (hne:a2e f c≠a2R f c):∀ x∈(a2e f c).take (ahd (a2e f c) (a2R f c)),a0C x=true:=by
 intro x hx;have hle:=a5B (a2e f c) (a2R f c);have hsp:=(a26 [] (a2e f c) (a2R f c)).1;have b2:c.2.2.1.2<=f.2.1.length:=hin.2.2.2.1;have b3:c.2.2.2.2<=f.2.2.length:=hin.2.2.2.2;have a2:(0:Int)<=c.2.2.1.1:=hin.1.2.1;have a3:(0:Int)<=c.2.2.2.1:=hin.1.2.2;obtain⟨k,hk,e⟩:=List.getElem_of_mem hx;rw [List.length_take] at hk;rw [List.getElem_take] at e;have e':(a2e f c).getD k []=x:=by rw [a0F _ _ (by omega)];exact e
 have lO:(a2e f c).length=c.2.2.1.2.toNat-c.2.2.1.1.toNat:=by rw [a8n hin];exact a3e _ (by omega)
 have lT:(a2R f c).length=c.2.2.2.2.toNat-c.2.2.2.1.toNat:=by rw [a8u hin];exact a3e _ (by omega)
 rcases Nat.lt_or_ge (ahd (a2e f c) (a2R f c)) (a2e f c).length with g|g
 ·rw [<-e',a8n hin,a4H (by omega) (by omega)];exact a61 hw.2.1 (by omega)
 ·rcases Nat.lt_or_ge (ahd (a2e f c) (a2R f c)) (a2R f c).length with g2|g2
  ·rw [<-e',hsp k (by omega),a8u hin,a4H (by omega) (by omega)];exact a61 hw.2.2 (by omega)
  ·exact absurd (b8D (by omega) (by omega)) hne
theorem b98 (f:Fl) (st:Int) (lb:BS×BS×BS) (fav:Int) (c:Ck):a3p f st lb fav c≠[]:=by
 unfold a3p;split
 ·simp [a57]
 ·simp
theorem b2E {f:Fl} (hw:a9c f) {st:Int} {lb:BS×BS×BS} {fav:Int} {c:Ck} (hp:a1i lb=true) (hin:inF f c):∀ p∈(a3p f st lb fav c).dropLast,a3f p=true\/(a0n p=true/\(txP p=[]\/a0C (txP p)=true)):=by
 unfold a3p;split
 ·rename_i hc;intro p hpm;unfold a57 at hpm;have hpm:p=a0Q ((a2e f c).take (a1s st (a2e f c) (a2R f c)).1).flatten\/p=b03 f c st lb:=by simpa using hpm
  rcases hpm with rfl|rfl
  ·refine .inr ⟨a1c _,a6M fun x hx=>?_⟩;unfold a1s at hx;split at hx
   ·exact c1v hw hin (c4B hc.1) x hx
   ·simp at hx
  ·exact .inl (b1w hp)
 ·intro p hpm;simp at hpm
theorem a7q {α:Type} (a b:List α) (h:b≠[]):(a++b).dropLast=a++b.dropLast:=by
 rw [List.dropLast_append_of_ne_nil h]
theorem b8C {f:Fl} (hw:a9c f) {L:List Ck} (hc:chF (0,0,0) none L (c6o f)) (hg:∀ c∈L,a9i f c) {st:Int} {lb:BS×BS×BS} {fav:Int} (hp:a1i lb=true):a2v (ofD (L.flatMap (a3p f st lb fav)))=true:=by
 refine c49 (fun p h=>?_) (fun p h=>?_)
 ·obtain⟨c,_,hc2⟩:=List.mem_flatMap.1 h;exact c8r hp c p hc2
 ·have hends:=b3z hw L (0,0,0) none hc (a5a _) hg;have hin:=c24 hc;rcases L.eq_nil_or_concat with rfl|⟨m,c,rfl⟩
  ·simp at h
  ·rw [List.concat_eq_append] at h hends hin;rw [List.flatMap_append,a7q _ _ (by simpa using b98 f st lb fav c)] at h;rcases List.mem_append.1 h with h|h
   ·obtain⟨d,hd,hd2⟩:=List.mem_flatMap.1 h;exact b46 hp (hends d (by simpa using hd)) p hd2
   ·have h:p∈(a3p f st lb fav c).dropLast:=by simpa using h
    exact b2E hw hp (hin c (by simp)) p h
theorem c0H (a b:List Pt):a0k (a++b)=a0k a+a0k b:=by simp [a0k]
theorem b7S (f:Fl) (st:Int) (lb:BS×BS×BS) (c:Ck):a0k (a3p f st lb 0 c)=if a7P f c=4 then 1 else 0:=by
 unfold a3p;by_cases h:a7P f c=4
 ·rw [if_pos ⟨h,rfl⟩,if_pos h];rfl
 ·rw [if_neg (fun e=>h e.1),if_neg h];rfl
theorem c5J (f:Fl) (c:Ck) (L:List Ck):b10 f (c::L)=(if a7P f c=4 then 1 else 0)+b10 f L:=by
 unfold b10;rw [List.filter_cons];by_cases h:a7P f c=4
 ·rw [if_pos (by simpa using h),if_pos h,lCo];omega
 ·rw [if_neg (by simpa using h),if_neg h];omega
theorem c4I (f:Fl) (c:Ck) (L:List Ck):b10 f (L++[c])=b10 f L+(if a7P f c=4 then 1 else 0):=by
 unfold b10;rw [List.filter_append,lAp]
 congr 1
 rw [List.filter_cons];by_cases h:a7P f c=4
 ·rw [if_pos (by simpa using h),if_pos h];rfl
 ·rw [if_neg (by simpa using h),if_neg h];rfl
theorem b2U (f:Fl) (st:Int) (lb:BS×BS×BS):∀ L:List Ck,a0k (L.flatMap (a3p f st lb 0))=b10 f L
 | []=>rfl
 | c::L=>by
   rw [List.flatMap_cons,c0H,b7S,b2U f st lb L,c5J]
end
section
attribute [local irreducible] AW a0h a0H a0c
@[go_sem] theorem d1u (l:Array UInt8):a5X (.string ⟨l⟩)=.st l.toList:=rfl
theorem c2a (a:List UInt8):(decide (1<=(a.length:Int))&&decide (List.drop ((a.length:Int)-1).toNat a=[10]))=a0C a:=by
 unfold a0C;have e:((a.length:Int)-1).toNat=a.length-1:=by omega
 rw [e,Bool.eq_iff_iff];simp only [Bool.and_eq_true,decide_eq_true_eq];rcases a.eq_nil_or_concat with rfl|⟨m,c,rfl⟩
 ·simp
 ·rw [List.concat_eq_append];have e2:(m++[c]).length-1=m.length:=by simp
  rw [e2,List.drop_left];simp;omega
@[go_sem] def c5t:a0j:=a0j.f2 kS kS (fun a b=>a.length<=100000000000/\b=[10]) (fun a _=>kB.enc (a0C a))
theorem a8T:a0b Tryz.prog 149 c5t:=by
 refine a0b.f2 Tryz.func149 rfl (by decide) Tryz.results149 Tryz.ntmps149 (by decide) fun a b ⟨ha,h⟩=>?_
 have hΓ:=gkN;subst h;refine awZ hΓ rfl ?_;simp only [go_sem];exact⟨by omega,by omega,c2a a⟩
@[go_sem] def c9F:a0j:=a0j.f2 kS kS (fun a b=>a.length<=100000000000/\b=[10]) (fun a _=>kB.enc (a0C a))
theorem a7X:a0b Tryz.prog 91 c9F:=by
 refine a0b.f2 Tryz.func91 rfl (by decide) Tryz.results91 Tryz.ntmps91 (by decide) fun a b ⟨ha,h⟩=>?_
 have hΓ:=gkC a8T gkN;subst h;refine awZ hΓ rfl ?_;simp only [go_sem];exact ha
theorem b7M (ll bl rl:BS) (h:Bool) (t l b r:BS) (hb:Bool):a0n (ll,bl,rl,h,t,l,b,r,hb)=true↔ll=[]/\bl=[]/\rl=[]/\h=false/\l=[]/\b=[]/\r=[]/\hb=false:=by
 simp [a0n,a0Q,txP]
@[go_sem] def c8Z:a0j:=a0j.f1 (kA ePt) (fun _=>True) (fun p=>kB.enc (a0n p))
theorem b5Z:a0b Tryz.prog 178 c8Z:=by
 refine a0b.f1 Tryz.func178 rfl (by decide) Tryz.results178 Tryz.ntmps178 (by decide) fun p _=>?_
 have hΓ:=gkN;obtain⟨ll,bl,rl,h,t,l,b,r,hb⟩:=p;refine awZ hΓ rfl ?_;simp only [go_sem];rw [Bool.eq_iff_iff,b7M];simp only [Bool.and_eq_true,decide_eq_true_eq,and_assoc]
theorem d6N {ll bl rl:BS} {h:Bool} {t l b r:BS} {hb:Bool} {c:Nat->AV} (h0:c 0=.st ll) (h1:c 1=.st bl) (h2:c 2=.st rl) (h3:c 3=.val (.bool h)) (h4:c 4=.st t) (h5:c 5=.st l) (h6:c 6=.st b) (h7:c 7=.st r) (h8:c 8=.val (.bool hb)) :
  a0h (.ag 9 c) (.ag 9 (ePt.enc (ll,bl,rl,h,t,l,b,r,hb))):=a0h.ag fun j hj=>a0h.of_eq (match j,hj with
 | 0,_=>h0
 | 1,_=>h1
 | 2,_=>h2
 | 3,_=>h3
 | 4,_=>h4
 | 5,_=>h5
 | 6,_=>h6
 | 7,_=>h7
 | 8,_=>h8)
theorem b8z (p:Pt):(p.1,p.2.1,p.2.2.1,p.2.2.2.1,p.2.2.2.2.1,p.2.2.2.2.2.1,p.2.2.2.2.2.2.1,p.2.2.2.2.2.2.2.1,p.2.2.2.2.2.2.2.2)=p:=rfl
def a8y:a0j:=a0j.f2 kS kS (fun _ b=>b=[10]) (fun a _=>kB.enc (!a2i a))
theorem b0s:a0b Tryz.prog 197 a8y:=by
 refine a0b.f2 Tryz.func197 rfl (by decide) Tryz.results197 Tryz.ntmps197 (by decide) fun a b h=>?_
 have hΓ:=gkC b1R gkN;subst h;refine awZ hΓ rfl ?_;simp only [go_sem];exact c3B a
@[go_sem] def c9m:a0j:=a0j.f1 (kA eLb) (fun l=>l.1.length<=1000000000/\l.2.1.length<=1000000000/\l.2.2.length<=1000000000) (fun l=>kB.enc (a2i l.1&&(a2i l.2.1&&a2i l.2.2)))
theorem b1g:a0b Tryz.prog 150 c9m:=by
 refine a0b.f1 Tryz.func150 rfl (by decide) Tryz.results150 Tryz.ntmps150 (by decide) fun l ⟨h1,h2,h3⟩=>?_
 have hΓ:=gkC b0s gkN;obtain⟨a,b,c⟩:=l;simp only at h1 h2 h3;refine awZ hΓ rfl ?_;simp only [go_sem,a8y,b9M];refine⟨by omega,by omega,?_⟩;rw [Bool.not_not,Bool.and_assoc]
def b22 (p:Pt):Prop:=(p.1.length<=1000000000/\p.2.1.length<=1000000000/\p.2.2.1.length<=1000000000)/\(txP p).length<=100000000/\p.2.2.2.2.2.1.length<=100000000/\p.2.2.2.2.2.2.1.length<=100000000/\p.2.2.2.2.2.2.2.1.length<=100000000
@[go_sem] def c9N:a0j:=a0j.f1 (kA ePt) b22 (fun p=>kB.enc (a3f p))
theorem c4N:a0b Tryz.prog 173 c9N:=by
 refine a0b.f1 Tryz.func173 rfl (by decide) Tryz.results173 Tryz.ntmps173 (by decide) fun p ⟨⟨h1,h2,h3⟩,_⟩=>?_
 have hΓ:=gkC b1g gkN;obtain⟨ll,bl,rl,h,t,l,b,r,hb⟩:=p;simp only at h1 h2 h3;refine awZ hΓ rfl ?_;simp only [go_sem];refine⟨fun h h'=>?_,fun _=>⟨h1,h2,h3⟩,?_⟩
 ·rw [h.1,h.2,h'];rfl
 ·unfold a3f b0h;simp only [Bool.and_assoc]
@[go_sem] def d1z:a0j:=a0j.f2 (kA ePt) kB (fun p _=>b22 p) (fun p b=>kB.enc (a3Y p b))
theorem c8a:a0b Tryz.prog 174 d1z:=by
 refine a0b.f2 Tryz.func174 rfl (by decide) Tryz.results174 Tryz.ntmps174 (by decide) fun p an ⟨_,h1,_⟩=>?_
 have hΓ:=gkC b5Z (gkC a7X gkN);obtain⟨ll,bl,rl,h,t,l,b,r,hb⟩:=p;simp only [txP] at h1;refine awZ hΓ rfl ?_;simp only [go_sem];refine⟨fun _=>by omega,fun h h'=>?_,?_⟩
 ·rw [h.1,decide_eq_true h.2];simpa using h'
 ·unfold a3Y;simp only [Bool.and_assoc]
theorem b5V {l:List Pt} {i:Nat} (h:i<l.length) (h2:c1L l i=false):a2v l=false:=decide_eq_false fun hh=>by
 rw [hh i h] at h2;cases h2
theorem c0p {l:List Pt} (h:∀ i,i<l.length->c1L l i=true):a2v l=true:=decide_eq_true h
@[go_sem] def c9I:a0j:=a0j.f1 (kL ePt) (fun l=>l.length<100000000/\∀ p∈l,b22 p) (fun l=>kB.enc (a2v l))
theorem b1S:a0b Tryz.prog 125 c9I:=by
 refine a0b.f1 Tryz.func125 rfl (by decide) Tryz.results125 Tryz.ntmps125 (by decide) fun l ⟨hl,hp⟩=>?_
 have hΓ:=gkC c4N (gkC c8a gkN);refine awZ hΓ rfl ?_;simp only [go_sem]
 refine AW.round (α:={ x:Nat×Nat×Nat // x.1<=l.length/\∀ k,k<x.1->c1L l k=true })
  (fun x=>⟨[(0,sL ePt l),(5,sL ePt l),(6,.val (.int .i64 l.length)),(7,.val (.int .i64 x.1.1))],[],42,x.1.2.2,x.1.2.1,[]⟩) (fun x=>l.length-x.1.1) ⟨(0,0,0),nZL _,fun k hk=>absurd hk (Nat.not_lt_zero _)⟩ ?_ ?_
 ·simp only [go_sem]
 ·rintro⟨⟨i,nx,tp⟩,hi,hk⟩;simp only at hi hk;rcases Nat.lt_or_ge i l.length with hlt|hge
  ·have hlI:((i:Int)<(l.length:Nat))=True:=eq_true (by omega);have e1:((i:Int)-1).toNat=i-1:=by omega
   have e2:((i:Int)<(l.length:Nat)-1)=(i+1<l.length):=propext (by omega);have e3:(0<(i:Int))=(0<i):=propext (by omega);have hok:c1L l i=((hkP (l.getD i ePt.dflt)||(decide (i=0)||hkP (l.getD (i-1) ePt.dflt)))&&(a3f (l.getD i ePt.dflt)||a3Y (l.getD i ePt.dflt) (decide (i+1<l.length)))):=rfl
   have hpi:b22 (l.getD i ePt.dflt):=by
    rw [a0F l _ hlt];exact hp _ (List.getElem_mem _)
   generalize hpe:l.getD i ePt.dflt=p at *
   refine awN hΓ rfl ?_;simp only [go_sem,hlI,e1,e2,e3,hpe,b8z];generalize hqe:l.getD (i-1) ePt.dflt=q at *
   refine⟨by omega,fun _=>by omega,fun _=>by omega,fun h=>?_,fun h=>⟨hpi,fun _=>by omega,fun _=>hpi,fun h2=>?_,fun h2=>⟨by omega,⟨(i+1,nx+1,0),by dsimp only;omega,fun k hk'=>?_⟩,⟨nLR _,by dsimp only;omega⟩,by dsimp only;omega⟩⟩⟩
   ·refine (b5V hlt ?_).symm;obtain⟨⟨h1,h2⟩,h3⟩:=h;simp only [Bool.not_eq_true'] at h1 h3;rw [hok];simp only [hkP,h1,h3,decide_eq_false (show ¬i=0 by omega)];rfl
   ·refine (b5V hlt ?_).symm;simp only [Bool.not_eq_true'] at h2;rw [hok,h2.1,h2.2,Bool.or_self,Bool.and_false]
   ·dsimp only at hk';rcases Nat.lt_or_ge k i with h'|h'
    ·exact hk k h'
    ·obtain rfl:k=i:=by omega
     rw [hok,Bool.and_eq_true];refine⟨?_,?_⟩
     ·simp only [hkP,Bool.or_eq_true,decide_eq_true_eq];by_cases c:p.2.2.2.1=true
      ·exact .inl c
      ·by_cases c2:k=0
       ·exact .inr (.inl c2)
       ·have:=h ⟨by simpa using c,by omega⟩;exact .inr (.inr (by simpa using this))
     ·cases c:a3f p with
      | true=>rfl
      | false=>
        have:=h2 (by rw [c];rfl);simpa using this
  ·have hlI:((i:Int)<(l.length:Nat))=False:=eq_false (by omega);refine awN hΓ rfl ?_;simp only [go_sem,hlI];exact (c0p fun k hk'=>hk k (by omega)).symm
theorem a5q (l:List Pt) (p:Pt):a0k (l++[p])=a0k l+if p.2.2.2.1=true then 1 else 0:=by
 unfold a0k;rw [List.filter_append,lAp];cases h:p.2.2.2.1 with
 | true=>simp [hkP,h]
 | false=>simp [hkP,h]
theorem a27 (l:List Pt):a0k l<=l.length:=List.length_filter_le _ _
@[go_sem] def d0g:a0j:=a0j.f1 (kL ePt) (fun l=>l.length<100000000) (fun l=>kI.enc (a0k l))
theorem a79:a0b Tryz.prog 78 d0g:=by
 refine a0b.f1 Tryz.func78 rfl (by decide) Tryz.results78 Tryz.ntmps78 (by decide) fun l hl=>?_
 have hΓ:=gkN;refine awZ hΓ rfl ?_;simp only [go_sem]
 refine AW.round (α:={ x:Nat×Nat×Nat // x.1<=l.length })
  (fun x=>⟨[(3,.val (.int .i64 (a0k (l.take x.1.1)))),(6,sL ePt l),(7,.val (.int .i64 l.length)),(8,.val (.int .i64 x.1.1))],[],18,x.1.2.2,x.1.2.1,[]⟩) (fun x=>l.length-x.1.1) ⟨(0,0,0),nZL _⟩ ?_ ?_
 ·simp only [go_sem];rfl
 ·rintro⟨⟨i,nx,tp⟩,hi⟩;simp only at hi;refine awN hΓ rfl ?_;simp only [go_sem];have hc:=a27 (l.take i);rw [List.length_take] at hc;refine⟨fun hlt=>?_,fun hge=>?_⟩
  ·have e:=a5q (l.take i) (l.getD i ePt.dflt);rw [<-a1U l ePt.dflt (by omega)] at e;refine⟨by omega,fun h=>⟨by omega,by omega,⟨(i+1,nx+1,0),by dsimp only;omega⟩,⟨nLR _,?_,by dsimp only;omega⟩,by dsimp only;omega⟩,fun h=>⟨by omega,⟨(i+1,nx+1,0),by dsimp only;omega⟩,⟨nLR _,?_,by dsimp only;omega⟩,by dsimp only;omega⟩⟩
   ·dsimp only;rw [e,if_pos h];omega
   ·dsimp only;rw [e,if_neg (by rw [h];exact Bool.false_ne_true)];omega
  ·obtain rfl:i=l.length:=by omega
   rw [List.take_length]
theorem a6W {α:Type} {m:Nat} (f:α->Nat):∀ (l:List α) (n:Nat),n<=m->(∀ x∈l,f x<=m)->l.foldl (fun n x=>max n (f x)) n<=m
 | [],n,h,_=>h
 | x::l,n,h,h2=>a6W f l (max n (f x)) (Nat.max_le.2 ⟨h,h2 x (List.mem_cons_self ..)⟩) fun y hy=>h2 y (List.mem_cons_of_mem _ hy)
theorem c2Y {l:List BS} {m:Nat} (h:∀ x∈l,x.length<=m):a3r l<=m:=a6W a42 l 0 (nZL _) fun x hx=>Nat.le_trans (b0V x) (h x hx)
theorem b2Y {s x:BS} (h:x∈a0a s):x.length<=s.length:=by
 have:=(List.sublist_flatten_of_mem h).length_le
 rwa [a0L] at this
theorem c26 {l:List BS} {m:Nat} (h:∀ x∈l,x.length<=m):a4E l<=m:=a6W (fun s=>a3r (a0a s)) l 0 (nZL _) fun x hx=>Nat.le_trans (c2Y fun y hy=>b2Y hy) (h x hx)
theorem b0b {s:BS} (h:s.length<=100000000):b5m (a0a s):=by
 refine⟨?_,?_⟩
 ·have:=a0l s;omega
 ·rw [a0L];omega
@[go_sem] def c2d:a0j:=a0j.f1 (kL eS) (fun l=>l.length<100000000/\∀ s∈l,s.length<=100000000) (fun l=>kI.enc (a4E l))
theorem a9N:a0b Tryz.prog 151 c2d:=by
 refine a0b.f1 Tryz.func151 rfl (by decide) Tryz.results151 Tryz.ntmps151 (by decide) fun l ⟨hl,hs⟩=>?_
 have hΓ:=gkC a8Y (gkC b9Z gkN);refine awZ hΓ rfl ?_;simp only [go_sem]
 refine AW.round (α:={ x:Nat×Nat×Nat // x.1<=l.length })
  (fun x=>⟨[(3,.val (.int .i64 (a4E (l.take x.1.1)))),(6,sL eS l),(7,.val (.int .i64 l.length)),(8,.val (.int .i64 x.1.1))],[],20,x.1.2.2,x.1.2.1,[]⟩) (fun x=>l.length-x.1.1) ⟨(0,0,0),nZL _⟩ ?_ ?_
 ·simp only [go_sem];rfl
 ·rintro⟨⟨i,nx,tp⟩,hi⟩;simp only at hi;refine awN hΓ rfl ?_;simp only [go_sem];refine⟨fun hlt=>?_,fun hge=>?_⟩
  ·have hlt':i<l.length:=by omega
   have h1:(l.getD i []).length<=100000000:=by
    rw [a0F l _ hlt'];exact hs _ (List.getElem_mem _)
   have e:=b7k (l.take i) (l.getD i []);rw [<-a1U l [] hlt'] at e;refine⟨by omega,h1,b0b h1,by omega,⟨(i+1,nx,0),by dsimp only;omega⟩,⟨nLR _,?_,by dsimp only;omega⟩,by dsimp only;omega⟩;dsimp only;rw [e,show ([a0a (l.getD i [])]:List (List BS)).flatten=a0a (l.getD i []) by simp];omega
  ·obtain rfl:i=l.length:=by omega
   rw [List.take_length]
@[go_sem] def c95:a0j:=a0j.f2 kI (kL eS) (fun _ l=>l.length<100000000/\∀ s∈l,s.length<=100000000) (fun n l=>kI.enc (max n ((a4E l:Nat)+1)))
theorem c4D:a0b Tryz.prog 98 c95:=by
 refine a0b.f2 Tryz.func98 rfl (by decide) Tryz.results98 Tryz.ntmps98 (by decide) fun n l ⟨hl,hs⟩=>?_
 have hΓ:=gkC a9N gkN;refine awZ hΓ rfl ?_;simp only [go_sem];have:=c26 hs;exact⟨⟨hl,hs⟩,by omega,by omega⟩
@[go_sem] def d3z:a0j:=a0j.f2 (kL ePt) kI (fun l _=>l.length<100000000/\∀ p∈l,b22 p) (fun l w=>kB.enc (a59 l w))
theorem c9z:a0b Tryz.prog 126 d3z:=by
 refine a0b.f2 Tryz.func126 rfl (by decide) Tryz.results126 Tryz.ntmps126 (by decide) fun l w ⟨hl,hp⟩=>?_
 have hΓ:=gkC a9N gkN;refine awZ hΓ rfl ?_;simp only [go_sem];refine⟨fun h=>(by unfold a59;rw [decide_eq_false (by omega)];rfl),fun h=>?_⟩
 refine AW.round (α:={ x:Nat×Nat×Nat // x.1<=l.length/\∀ k,k<x.1->(a4E (b20 (l.getD k ePt.dflt)):Int)<w })
  (fun x=>⟨[(1,.val (.int .i64 w)),(9,sL ePt l),(10,.val (.int .i64 l.length)),(11,.val (.int .i64 x.1.1))],[],28,x.1.2.2,x.1.2.1,[]⟩) (fun x=>l.length-x.1.1) ⟨(0,0,0),nZL _,fun k hk=>absurd hk (Nat.not_lt_zero _)⟩ ?_ ?_
 ·simp only [go_sem]
 ·rintro⟨⟨i,nx,tp⟩,hi,hk⟩;simp only at hi hk;refine awN hΓ rfl ?_;simp only [go_sem];have e4:∀ p:Pt,[p.2.2.2.2.1,p.2.2.2.2.2.1,p.2.2.2.2.2.2.1,p.2.2.2.2.2.2.2.1]=b20 p:=fun _=>rfl
  simp only [e4];refine⟨fun hlt=>?_,fun hge=>?_⟩
  ·have hlt':i<l.length:=by omega
   have hm:l.getD i ePt.dflt∈l:=by
    rw [a0F l _ hlt'];exact List.getElem_mem _
   have h4:=(hp _ hm).2;refine⟨by omega,⟨h4.1,h4.2.1,h4.2.2.1,h4.2.2.2⟩,fun hw=>?_,fun hw=>⟨by omega,⟨(i+1,nx+1,0),by dsimp only;omega,fun k hk'=>?_⟩,⟨nLR _,by dsimp only;omega⟩,by dsimp only;omega⟩⟩
   ·unfold a59;rw [decide_eq_false (p:=∀ p∈l,_) (fun hh=>by have:=hh _ hm;omega),Bool.and_false]
   ·dsimp only at hk';rcases Nat.lt_or_ge k i with h'|h'
    ·exact hk k h'
    ·obtain rfl:k=i:=by omega
     omega
  ·unfold a59;rw [decide_eq_true (by omega),decide_eq_true (p:=∀ p∈l,_) fun p hp'=>?_]
   ·rfl
   ·obtain⟨k,hk',rfl⟩:=List.getElem_of_mem hp';have:=hk k (by omega)
    rwa [a0F l _ hk'] at this
def b0e:a0j:=a0j.f1 kS (fun l=>l.length<=100000000000) (fun l=>kB.enc (a2i l))
theorem b4L:a0b Tryz.prog 172 b0e:=by
 refine a0b.f1 Tryz.func172 rfl (by decide) Tryz.results172 Tryz.ntmps172 (by decide) fun l hl=>?_
 have hΓ:=gkN;refine awZ hΓ rfl ?_;simp only [go_sem];refine AW.round (α:={ x:Nat×Nat×Nat // x.1<=l.length/\∀ k,k<x.1->l.getD k 0≠10 }) (fun x=>⟨[(0,.st l),(3,.val (.int .i64 x.1.1))],[],14,x.1.2.2,x.1.2.1,[]⟩) (fun x=>l.length-x.1.1) ⟨(0,0,0),nZL _,fun k hk=>absurd hk (Nat.not_lt_zero _)⟩ ?_ ?_
 ·simp only [go_sem]
 ·rintro⟨⟨i,nx,tp⟩,hi,hk⟩;simp only at hi hk;refine awN hΓ rfl ?_;simp only [go_sem];refine⟨fun hlt=>⟨by omega,fun h10=>?_,fun hn=>⟨by omega,⟨(i+1,nx,tp),by dsimp only;omega,fun k hk'=>?_⟩,⟨nLR _,by dsimp only;omega⟩,by dsimp only;omega⟩⟩,fun hge=>?_⟩
  ·refine (decide_eq_false fun hh=>hh ?_).symm;rw [<-h10,a0F l _ (by omega)];exact List.getElem_mem _
  ·dsimp only at hk';rcases Nat.lt_or_ge k i with h'|h'
   ·exact hk k h'
   ·obtain rfl:k=i:=by omega
    exact hn
  ·have hno:¬(10:UInt8)∈l:=fun hm=>?_
   ·unfold a2i;rw [decide_eq_true hno]
   obtain⟨k,hk1,hk2⟩:=List.getElem_of_mem hm;exact hk k (by omega) (by rw [a0F l _ hk1];exact hk2)
def b2s:a0j:=a0j.f1 (kA ePt) (fun p=>p.1.length<=100000000/\p.2.1.length<=100000000/\p.2.2.1.length<=100000000) (fun p=>kB.enc (b0h p))
theorem b7c:a0b Tryz.prog 122 b2s:=by
 refine a0b.f1 Tryz.func122 rfl (by decide) Tryz.results122 Tryz.ntmps122 (by decide) fun p ⟨h1,h2,h3⟩=>?_
 have hΓ:=gkC b4L gkN;obtain⟨ll,bl,rl,h,t,l,b,r,hb⟩:=p;simp only at h1 h2 h3;refine awZ hΓ rfl ?_;simp only [go_sem,b0e];refine⟨by omega,fun _=>by omega,fun _=>by omega,?_⟩;unfold b0h;rw [Bool.and_assoc]
end
section
abbrev Mk:=Int×Bool×BS
instance:DecidableEq Mk:=inferInstance
abbrev eMk:El Mk:=eP eU (eP eB eS)
def mk0:Mk:=(0,false,[])
def a4i (w:Int):Bool:=decide (1<=w)&&decide (w<=1073741824)
def b67 (k:Int):Prop:=k=60\/k=124\/k=61\/k=62
def c4n (m:Mk):Bool:=
 if m.1=60 then !m.2.1&&a2i m.2.2 else if m.1=124\/m.1=62 then a2i m.2.2 else if m.1=61 then decide (m.2.2=[]) else false
theorem c2M {m:Mk} (h:c4n m=true):b67 m.1:=by
 unfold c4n at h;unfold b67;split at h
 ·omega
 ·split at h
  ·omega
  ·split at h
   ·omega
   ·cases h
def a3C (f:Bool) (l:BS):BS:=(if f=true then [33] else [])++((if l=[] then [] else 32::l)++[10])
def a3E (m:Mk) (w:Int):BS:=List.replicate w.toNat (UInt8.ofNat m.1.toNat)++a3C m.2.1 m.2.2
theorem b9T (f:Bool) (l:BS):(a3C f l).length<=l.length+3:=by
 unfold a3C;cases f<;>by_cases h:l=[]<;>simp [h]
theorem a4P (m:Mk) (w:Int):(a3E m w).length<=w.toNat+(m.2.2.length+3):=by
 unfold a3E;have:=b9T m.2.1 m.2.2;simp only [lAp,List.length_replicate];omega
def rdT (r:BS):Option (Bool×BS):=
 let f:=decide (r.getD 0 0=33)
 let r1:=if f=true then r.drop 1 else r
 let l:=if 1<r1.length/\r1.getD 0 0=32 then (r1.take (r1.length-1)).drop 1 else []
 if a3C f l=r then some (f,l) else none
theorem c4O (f:Bool) (l:BS):rdT (a3C f l)=some (f,l):=by
 have hf:decide ((a3C f l).getD 0 0=33)=f:=by
  unfold a3C;cases f with
  | true=>rfl
  | false=>
    by_cases h:l=[]
    ·subst h;rfl
    ·rw [if_neg h];rfl
 have hr:(if f=true then (a3C f l).drop 1 else a3C f l)=(if l=[] then [] else 32::l)++[10]:=by
  unfold a3C;cases f with
  | true=>rfl
  | false=>rfl
 have hl:(if 1<((if l=[] then ([]:BS) else 32::l)++[10]).length/\((if l=[] then ([]:BS) else 32::l)++[10]).getD 0 0=32 then (((if l=[] then ([]:BS) else 32::l)++[10]).take (((if l=[] then ([]:BS) else 32::l)++[10]).length-1)).drop 1 else [])=l:=by
  by_cases h:l=[]
  ·subst h;rfl
  ·rw [if_neg h,if_pos ⟨by simp,rfl⟩];simp
 unfold rdT;simp only [hf,hr,hl,if_pos]
theorem b3W {r:BS} {f:Bool} {l:BS}:rdT r=some (f,l)↔a3C f l=r:=by
 constructor
 ·intro h;unfold rdT at h;generalize decide (r.getD 0 0=33)=f' at h;dsimp only at h;generalize (if f'=true then r.drop 1 else r)=r1 at h;generalize (if 1<r1.length/\r1.getD 0 0=32 then (r1.take (r1.length-1)).drop 1 else [])=l' at h;by_cases e:a3C f' l'=r
  ·rw [if_pos e] at h;simp only [oSI,pMI] at h;obtain⟨h1,h2⟩:=h;rw [h2,h1] at e;exact e
  ·rw [if_neg e] at h;cases h
 ·rintro rfl;exact c4O f l
def a4A (s:BS):BS:=if a0C s=true then s.take (s.length-1) else s
def prB (a b:BS):Bool:=decide (a.take 1=b)
theorem c7t (a b:BS):prB a b=true↔a.take 1=b:=decide_eq_true_iff
theorem d1l {a b:BS}:prB a b=false↔¬a.take 1=b:=decide_eq_false_iff_not
def a7n (s:BS) (c:UInt8):BS:=if s.take 1=[c] then s.drop 1 else s
def rdI (r:BS):Option (Bool×BS):=
 if a0C r=true/\prB (a7n (a4A r) 33) [32]=decide (a7n (a7n (a4A r) 33) 32≠[]) then some (prB (a4A r) [33],a7n (a7n (a4A r) 33) 32) else none
theorem b7E {r:BS} (h:a0C r=true):r=r.take (r.length-1)++[10]:=by
 have h:r.getLast?=some 10:=of_decide_eq_true h;rcases r.eq_nil_or_concat with rfl|⟨m,c,rfl⟩
 ·cases h
 ·rw [List.concat_eq_append] at *
  simp at h;subst h;simp
theorem d2W {s:BS} {c:UInt8} (h:s.take 1=[c]):s=c::s.drop 1:=by
 cases s with
 | nil=>cases h
 | cons x s=>simp at h;subst h;rfl
theorem c0K {r:BS} {f:Bool} {l:BS}:rdI r=some (f,l)↔a3C f l=r:=by
 unfold rdI prB;constructor
 ·intro h;split at h
  ·rename_i hh;obtain⟨h1,h2⟩:=hh;simp only [oSI,pMI] at h;obtain⟨h3,h4⟩:=h;have e1:a4A r=r.take (r.length-1):=if_pos h1;have e0:=b7E h1;rw [e1] at h2 h3 h4;generalize r.take (r.length-1)=b at *
   rw [h4] at h2;rw [e0]
   have eb:a7n b 33=(if l=[] then [] else 32::l):=by
    by_cases g:(a7n b 33).take 1=[32]
    ·rw [decide_eq_true g] at h2;have:l≠[]:=of_decide_eq_true h2.symm;have h5:a7n (a7n b 33) 32=(a7n b 33).drop 1:=if_pos g;rw [if_neg this,d2W g,<-h5,h4]
    ·rw [decide_eq_false g] at h2;have hl:l=[]:=by simpa using h2
     have:a7n (a7n b 33) 32=a7n b 33:=if_neg g;rw [if_pos hl,<-this,h4,hl]
   unfold a3C;rw [<-eb,<-List.append_assoc]
   congr 1
   by_cases g:b.take 1=[33]
   ·rw [<-h3,decide_eq_true g,if_pos rfl];have:a7n b 33=b.drop 1:=if_pos g;rw [this];exact (d2W g).symm
   ·rw [<-h3,decide_eq_false g,if_neg (by simp)];exact if_neg g
  ·cases h
 ·rintro rfl
  have h1:a0C (a3C f l)=true:=by
   unfold a0C a3C;rw [<-List.append_assoc,List.getLast?_append];rfl
  have e1:a4A (a3C f l)=(if f=true then [33] else [])++(if l=[] then [] else 32::l):=by
   unfold a4A;rw [if_pos h1];unfold a3C;rw [<-List.append_assoc];generalize (if f=true then ([33]:BS) else [])++(if l=[] then [] else 32::l)=x;simp
  have e2:(a4A (a3C f l)).take 1=[33]↔f=true:=by
   rw [e1];cases f with
   | true=>simp
   | false=>
     by_cases h:l=[]
     ·simp [h]
     ·simp [h]
  have e3:a7n (a4A (a3C f l)) 33=(if l=[] then [] else 32::l):=by
   unfold a7n;cases f with
   | true=>rw [if_pos (e2.2 rfl),e1];rfl
   | false=>rw [if_neg (fun h=>by have:=e2.1 h;cases this),e1];rfl
  have e4:a7n (if l=[] then ([]:BS) else 32::l) 32=l:=by
   by_cases h:l=[]
   ·subst h;rfl
   ·rw [if_neg h];rfl
  have e5:(if l=[] then ([]:BS) else 32::l).take 1=[32]↔l≠[]:=by
   by_cases h:l=[]
   ·simp [h]
   ·simp [h]
  rw [e3,e4,if_pos ⟨h1,by rw [decide_eq_decide];exact e5⟩]
  congr 2
  cases f with
  | true=>exact decide_eq_true (e2.2 rfl)
  | false=>exact decide_eq_false fun h=>by have:=e2.1 h;cases this
theorem d3j (r:BS):rdI r=rdT r:=by
 cases h:rdT r with
 | some p=>obtain⟨f,l⟩:=p;exact c0K.2 (b3W.1 h)
 | none=>
   cases g:rdI r with
   | none=>rfl
   | some p=>obtain⟨f,l⟩:=p;rw [b3W.2 (c0K.1 g)] at h;cases h
def d7j (c:UInt8):Prop:=c=60\/c=124\/c=61\/c=62
theorem c11 {s:BS} {n:Nat} (h1:1<=n) (h:n<=a42 s):d7j (s.getD 0 0)/\s=List.replicate n (s.getD 0 0)++s.drop n:=by
 cases s with
 | nil=>simp [a42] at h;omega
 | cons c r=>
   rw [a42] at h;split at h
   ·rename_i hs;refine⟨hs,?_⟩
    have e:∀ (m:Nat) (r:BS),m<=(r.takeWhile (·==c)).length->r=List.replicate m c++r.drop m:=by
     intro m
     induction m with
     | zero=>intro r _;rfl
     | succ m ih=>
       intro r hr;cases r with
       | nil=>simp at hr
       | cons d r=>
         rw [List.takeWhile_cons] at hr;split at hr
         ·rename_i hd;obtain rfl:d=c:=by simpa using hd
          rw [List.replicate_succ,List.cons_append,List.drop_succ_cons]
          congr 1
          exact ih r (by simpa using hr)
         ·simp at hr
    obtain⟨m,rfl⟩:∃ m,n=m+1:=⟨n-1,by omega⟩;rw [List.getD_cons_zero,List.replicate_succ,List.cons_append,List.drop_succ_cons]
    congr 1
    exact e m r (by omega)
   ·omega
def a0J (s:BS) (w:Int):Mk×Bool×Int:=
 if a4i w=false then (mk0,false,4) else if (a42 s:Int)<w then (mk0,false,0) else
  match rdT (s.drop w.toNat) with
  | some (f,l)=>if c4n ((s.getD 0 0).toNat,f,l)=true then (((s.getD 0 0).toNat,f,l),true,0) else (mk0,false,6)
  | none=>(mk0,false,6)
theorem a5h {w:Int}:a4i w=true↔1<=w/\w<=1073741824:=by simp [a4i]
theorem b9G {s:BS} {w:Int} {m:Mk} {e:Int} (h:a0J s w=(m,true,e)):a3E m w=s/\c4n m=true/\a4i w=true/\e=0:=by
 unfold a0J at h;split at h
 ·simp at h
 ·rename_i hw;split at h
  ·simp at h
  ·rename_i hr;have hw:a4i w=true:=by simpa using hw
   obtain⟨h1,h2⟩:=a5h.1 hw;obtain⟨g1,g2⟩:=c11 (s:=s) (n:=w.toNat) (by omega) (by omega);split at h
   ·rename_i f l hf;split at h
    ·rename_i hm;simp only [pMI] at h;obtain⟨rfl,_,rfl⟩:=h;refine⟨?_,hm,hw,rfl⟩;unfold a3E;simp only;rw [b3W.1 hf];have:UInt8.ofNat ((s.getD 0 0).toNat:Int).toNat=s.getD 0 0:=by simp
     rw [this];exact g2.symm
    ·simp at h
   ·simp at h
end
section
attribute [local irreducible] AW a0h a0H a0c
def b50:a0j:=a0j.f2 kS kS (fun a b=>a.length<=100000000000/\b.length=1) (fun a b=>kB.enc (prB a b))
theorem b8U:a0b Tryz.prog 140 b50:=by
 refine a0b.f2 Tryz.func140 rfl (by decide) Tryz.results140 Tryz.ntmps140 (by decide) fun a b ⟨ha,h⟩=>?_
 have hΓ:=gkN;unfold prB;refine awZ hΓ rfl ?_;simp only [go_sem];refine⟨fun _=>by omega,?_⟩;rw [h];by_cases g:a=[]
 ·subst g;have:b≠[]:=fun e=>by subst e;cases h
  simp [Ne.symm this]
 ·have:0<a.length:=List.length_pos_iff.2 g;rw [decide_eq_true (by omega),Bool.true_and]
@[go_sem] def c03:a0j:=a0j.f2 kS kI (fun a n=>a.length=1/\0<=n/\n<=100000000000) (fun a n=>kS.enc (List.replicate n.toNat (a.getD 0 0)))
theorem c5h:a0b Tryz.prog 212 c03:=by
 refine a0b.raw Tryz.func212 rfl (by decide) fun args hp w L vs hL ha=>?_
 match args,hp with
 | [x,y],hp=>
   obtain⟨h1,h2,h3,h4,h5⟩:=hp;cases ha with
   | cons hx hr=>cases hr with
     | cons hy hr=>cases hr with
       | nil=>
         have ex:=a9y h1 hx;have ey:=a9y h2 hy;obtain rfl:=ex;obtain rfl:=ey;rw [show c03.res [x,y]=kS.enc (List.replicate (kI.dec y).toNat ((kS.dec x).getD 0 0)) from rfl];generalize kS.dec x=a at *
         generalize kI.dec y=n at *
         obtain⟨k,rfl⟩:=Int.eq_ofNat_of_zero_le h4;have hsz:(⟨a.toArray⟩:ByteArray).size=1:=by simpa [ByteArray.size] using h3
         refine (Tryz.strings_Repeat ⟨a.toArray⟩ k w (by omega) (by rw [hsz];omega)).mono ?_;rintro e w' ⟨rfl,hb⟩;refine⟨_,rfl,Fr.of_below hb _,?_⟩
         obtain⟨c,rfl⟩:∃ c,a=[c]:=by
          match a,h3 with
          | [c],_=>exact⟨c,rfl⟩
         show Value.string _=Value.string _;rw [show ([c]:List UInt8)=List.replicate 1 c from rfl,Lib.repeatL_replicate,Nat.mul_one];rfl
@[go_sem] def c32:a0j:=a0j.f1 kI (fun _=>True) (fun w=>kB.enc (a4i w))
theorem b2b:a0b Tryz.prog 124 c32:=by
 refine a0b.f1 Tryz.func124 rfl (by decide) Tryz.results124 Tryz.ntmps124 (by decide) fun w _=>?_
 have hΓ:=gkN;refine awZ hΓ rfl ?_;simp only [go_sem];rfl
@[go_sem] def c5n:a0j:=a0j.f1 kS (fun _=>True) (fun l=>kB.enc (a2i l))
theorem c1o:a0b Tryz.prog 217 c5n:=by
 refine a0b.f1 Tryz.func217 rfl (by decide) Tryz.results217 Tryz.ntmps217 (by decide) fun l _=>?_
 have hΓ:=gkC b0s gkN;refine awZ hΓ rfl ?_;simp only [go_sem,a8y];rw [Bool.not_not]
@[go_sem] def d3A:a0j:=a0j.f1 (kA eMk) (fun _=>True) (fun m=>kB.enc (c4n m))
theorem c9e:a0b Tryz.prog 182 d3A:=by
 refine a0b.f1 Tryz.func182 rfl (by decide) Tryz.results182 Tryz.ntmps182 (by decide) fun m _=>?_
 have hΓ:=gkC c1o gkN;obtain⟨k,f,l⟩:=m;by_cases h1:k=60
 ·subst h1;refine awZ hΓ rfl ?_;simp only [go_sem];rfl
 by_cases h2:k=124
 ·subst h2;refine awZ hΓ rfl ?_;simp only [go_sem];refine AW.fork ?_;refine awZ hΓ rfl ?_;simp only [go_sem];refine awZ hΓ rfl ?_;simp only [go_sem];rfl
 by_cases h3:k=62
 ·subst h3;refine awZ hΓ rfl ?_;simp only [go_sem];refine AW.fork ?_;refine awZ hΓ rfl ?_;simp only [go_sem];refine awZ hΓ rfl ?_;simp only [go_sem];rfl
 by_cases h4:k=61
 ·subst h4;refine awZ hΓ rfl ?_;simp only [go_sem];refine AW.fork ?_;refine awZ hΓ rfl ?_;simp only [go_sem];refine awZ hΓ rfl ?_;simp only [go_sem];rfl
 ·refine awZ hΓ rfl ?_;simp only [go_sem,h1,h2,h3,h4];refine AW.fork ?_;refine awZ hΓ rfl ?_;simp only [go_sem,h1,h2,h3,h4];refine awZ hΓ rfl ?_;simp only [go_sem,h1,h2,h3,h4];simp [c4n,h1,h2,h3,h4]
def c6N:a0j:=a0j.f2 kS kS (fun a b=>a.length<=100000000000/\b=[10]) (fun a _=>tu2 (kS.enc (a4A a)) (kB.enc (a0C a)))
theorem d0I:a0b Tryz.prog 240 c6N:=by
 refine a0b.f2 Tryz.func240 rfl (by decide) Tryz.results240 Tryz.ntmps240 (by decide) fun a b ⟨ha,h⟩=>?_
 have hΓ:=gkC a8T gkN;subst h;unfold a4A;refine awZ hΓ rfl ?_;simp only [go_sem]
 have hp:a0C a=true->0<a.length:=fun h=>by
  cases a with
  | nil=>cases h
  | cons _ _=>simp
 refine⟨ha,fun h=>?_,fun h=>?_⟩
 ·have h:a0C a=false:=by simpa using h
  exact⟨by rw [if_neg (by simp [h])],h.symm⟩
 ·have h:a0C a=true:=by simpa using h
  have:=hp h;refine⟨by omega,by omega,?_,h.symm⟩;rw [if_pos h]
  congr 1
  omega
def d3o:a0j:=a0j.f2 kS kS (fun a b=>a.length<=100000000000/\b=[10]) (fun a _=>tu2 (kS.enc (a4A a)) (kB.enc (a0C a)))
theorem d2w:a0b Tryz.prog 215 d3o:=by
 refine a0b.f2 Tryz.func215 rfl (by decide) Tryz.results215 Tryz.ntmps215 (by decide) fun a b ⟨ha,h⟩=>?_
 have hΓ:=gkC d0I gkN;subst h;refine awZ hΓ rfl ?_;simp only [go_sem,c6N];exact ha
def c6a:a0j:=a0j.f2 kS kS (fun a b=>a.length<=100000000000/\b.length=1) (fun a b=>tu2 (kS.enc (a7n a (b.getD 0 0))) (kB.enc (prB a b)))
theorem c8I:a0b Tryz.prog 241 c6a:=by
 refine a0b.f2 Tryz.func241 rfl (by decide) Tryz.results241 Tryz.ntmps241 (by decide) fun a b ⟨ha,h⟩=>?_
 have hΓ:=gkC b8U gkN;unfold a7n
 have hb:[b.getD 0 0]=b:=by
  match b,h with
  | [c],_=>rfl
 refine awZ hΓ rfl ?_;simp only [go_sem,b50,hb];refine⟨⟨ha,h⟩,fun h=>?_,fun h=>?_⟩
 ·have h:prB a b=false:=by simpa using h
  exact⟨by rw [if_neg (d1l.1 h)],h.symm⟩
 ·have h:prB a b=true:=by simpa using h
  have h1:=(c7t a b).1 h;have:=congrArg List.length h1;rw [List.length_take] at this;refine⟨by omega,?_,h.symm⟩;rw [if_pos h1,show b.length=1 by assumption]
def d2c:a0j:=a0j.f2 kS kS (fun a b=>a.length<=100000000000/\b.length=1) (fun a b=>tu2 (kS.enc (a7n a (b.getD 0 0))) (kB.enc (prB a b)))
theorem d1x:a0b Tryz.prog 216 d2c:=by
 refine a0b.f2 Tryz.func216 rfl (by decide) Tryz.results216 Tryz.ntmps216 (by decide) fun a b ⟨ha,h⟩=>?_
 have hΓ:=gkC c8I gkN;refine awZ hΓ rfl ?_;simp only [go_sem,c6a];exact⟨ha,h⟩
theorem c3z {k:Int} {f:Bool} {l:BS} {c:Nat->AV} (h0:c 0=.val (.int .u8 k)) (h1:c 1=.val (.bool f)) (h2:c 2=.st l):a0h (.ag 3 c) (.ag 3 (eMk.enc (k,f,l))):=a0h.ag fun j hj=>a0h.of_eq (match j,hj with
 | 0,_=>h0
 | 1,_=>h1
 | 2,_=>h2)
def rdO (c:Int) (b:BS):Mk×Bool:=match rdI b with
 | some (f,l)=>((c,f,l),true)
 | none=>(mk0,false)
theorem b3Z (b:BS):(a4A b).length<=b.length:=by
 unfold a4A;split
 ·rw [List.length_take];omega
 ·exact nLR _
theorem c9g (b:BS) (c:UInt8):(a7n b c).length<=b.length:=by
 unfold a7n;split
 ·rw [List.length_drop];omega
 ·exact nLR _
@[go_sem] def d2P:a0j:=a0j.f2 kU kS (fun _ b=>b.length<=100000000000) (fun c b=>tu2 ((kA eMk).enc (rdO c b).1) (kB.enc (rdO c b).2))
theorem c7x:a0b Tryz.prog 181 d2P:=by
 refine a0b.f2 Tryz.func181 rfl (by decide) Tryz.results181 Tryz.ntmps181 (by decide) fun c b hb=>?_
 have hΓ:=gkC d2w (gkC d1x gkN);have h1:=b3Z b;have h2:=c9g (a4A b) 33;refine awZ hΓ rfl ?_;simp only [go_sem,d3o,d2c];refine⟨hb,by omega,by omega,fun h=>by rw [h];rfl,fun h=>?_,fun h=>?_⟩
 ·have e:rdO c b=(mk0,false):=by
   have:rdI b=none:=if_neg fun⟨g1,g2⟩=>by
    rw [g1,g2] at h;simp at h
   unfold rdO;rw [this]
  rw [e];exact⟨c3z rfl rfl rfl,rfl⟩
 ·have e:rdO c b=((c,prB (a4A b) [33],a7n (a7n (a4A b) 33) 32),true):=by
   have:rdI b=some (prB (a4A b) [33],a7n (a7n (a4A b) 33) 32):=if_pos (by
    simp only [Bool.or_eq_false_iff,Bool.not_eq_false',decide_eq_false_iff_not,Decidable.not_not] at h
    exact h)
   unfold rdO;rw [this]
  rw [e];exact⟨c3z rfl rfl rfl,rfl⟩
@[go_sem] def d32:a0j:=a0j.f2 (kA eMk) kI (fun m w=>b67 m.1/\0<=w/\w<=10000000000/\m.2.2.length<=10000000000) (fun m w=>kS.enc (a3E m w))
theorem c89:a0b Tryz.prog 175 d32:=by
 refine a0b.f2 Tryz.func175 rfl (by decide) Tryz.results175 Tryz.ntmps175 (by decide) fun m w ⟨hk,hw1,hw2,hl⟩=>?_
 have hΓ:=gkC c5h gkN;obtain⟨k,f,l⟩:=m;simp only at hk hl
 have e1:Utf8.encode (IntKind.i32.wrap k)=⟨([UInt8.ofNat k.toNat]:List UInt8).toArray⟩:=by
  rcases hk with rfl|rfl|rfl|rfl<;>rfl
 cases f
 all_goals (
  by_cases h:l=[]
  all_goals (
   refine awZ hΓ rfl ?_;simp only [go_sem,h];refine AW.fork ?_;refine awZ hΓ rfl ?_;simp only [go_sem,h];refine AW.fork ?_;refine awZ hΓ rfl ?_;simp only [go_sem,h]
   try refine⟨by omega,by omega,?_⟩
   refine AW.fork (AW.regionO hΓ [false,false,false,true] ?_);simp only [go_sem,h];refine c7W rfl (by rw [Tryz.underlying21];rfl) Tryz.underlying9 rfl e1 (Nat.lt_of_lt_of_le (by decide:19<25) (nLR _)) ?_;simp only [go_sem,h];refine⟨by omega,by omega,by omega,?_⟩;refine awZ hΓ rfl ?_;simp only [go_sem,h]
   simp [a3E,a3C,h]))
@[go_sem] def d4g:a0j:=a0j.f2 kS kI (fun l _=>l.length<=100000000000) (fun l w=>tu3 ((kA eMk).enc (a0J l w).1) (kB.enc (a0J l w).2.1) (kI.enc (a0J l w).2.2))
theorem b4V {c:Nat->AV} (h0:c 0=.val (.int .u8 0)) (h1:c 1=.val (.bool false)) (h2:c 2=.st []):a0h (.ag 3 c) (.ag 3 (eMk.enc mk0)):=c3z h0 h1 h2
theorem c8O:a0b Tryz.prog 135 d4g:=by
 refine a0b.f2 Tryz.func135 rfl (by decide) Tryz.results135 Tryz.ntmps135 (by decide) fun l w hl=>?_
 have hΓ:=gkC b2b (gkC d3m (gkC c7x (gkC c9e gkN)));by_cases hw:a4i w=false
 ·refine awL hΓ [200005] rfl ?_;simp only [go_sem,hw];have e:a0J l w=(mk0,false,4):=if_pos hw;rw [e];exact⟨b4V rfl rfl rfl,rfl,rfl⟩
 have hw':a4i w=true:=by simpa using hw
 have hw2:=a5h.1 hw';by_cases hr:(a42 l:Int)<w
 ·have hr':((a42 l:Int)<w)=True:=eq_true hr;refine awL hΓ [200005] rfl ?_;simp only [go_sem,hw',hr'];have e:a0J l w=(mk0,false,0):=by unfold a0J;rw [if_neg hw,if_pos hr]
  rw [e];exact⟨hl,b4V rfl rfl rfl,rfl,rfl⟩
 ·have hr':((a42 l:Int)<w)=False:=eq_false hr;have hrl:=b0V l
  have e:a0J l w=(match rdT (l.drop w.toNat) with
   | some (f,x)=>if c4n ((l.getD 0 0).toNat,f,x)=true then (((l.getD 0 0).toNat,f,x),true,0) else (mk0,false,6)
   | none=>(mk0,false,6)):=by
   conv=>lhs;unfold a0J
   rw [if_neg hw,if_neg hr]
   all_goals rfl
  refine awL hΓ [200005] rfl ?_;simp only [go_sem,hw',hr'];refine⟨hl,AW.drawZ hΓ mixed 10 [11] [8,11] [] (by decide +kernel) ?_⟩;simp only [go_sem]
  have ro:rdO ((l.getD 0 0).toNat:Int) (l.drop w.toNat)=(match rdT (l.drop w.toNat) with
   | some (f,x)=>(((l.getD 0 0).toNat,f,x),true)
   | none=>(mk0,false)):=by
   unfold rdO;rw [d3j]
  cases hT:rdT (l.drop w.toNat) with
  | none=>
    rw [hT] at ro e;dsimp only at ro e;rw [ro,e];refine⟨by omega,⟨by omega,by omega,by omega⟩,by omega,fun h=>by simp at h,fun _=>⟨b4V rfl rfl rfl,rfl,rfl⟩,fun h=>?_⟩;simp at h
  | some p=>
    obtain⟨f,x⟩:=p;rw [hT] at ro e;dsimp only at ro e;rw [ro];refine⟨by omega,⟨by omega,by omega,by omega⟩,by omega,fun _=>rfl,fun h=>?_,fun h=>?_⟩
    ·have hm:¬c4n ((l.getD 0 0).toNat,f,x)=true:=by simpa using h
     rw [e,if_neg hm];exact⟨b4V rfl rfl rfl,rfl,rfl⟩
    ·have hm:c4n ((l.getD 0 0).toNat,f,x)=true:=by simpa using h
     rw [e,if_pos hm];exact⟨c3z rfl rfl rfl,rfl,rfl⟩
def a3D (s:BS):Bool:=decide (s≠[])&&!a0C s
def a6c (s:BS):BS:=if a3D s=true then s++[10] else s
theorem a8B (s:BS):(a6c s).length<=s.length+1:=by
 unfold a6c;split
 ·simp
 ·omega
theorem c2J (s:BS):s.length<=(a6c s).length:=by
 unfold a6c;split
 ·simp
 ·omega
def b5I:a0p:=d51 fun xs a r=>∃ s:BS,xs=[.st s]/\a=a6c s/\r=kB.enc (a3D s)/\s.length<=1000000000
theorem b80:a0f Tryz.prog 176 b5I:=by
 refine a0f.mk Tryz.func176 rfl (by decide) Tryz.results176 Tryz.ntmps176 ?_;rintro args hp top nx K ⟨f,v,u,l,xs,a,r,rfl,⟨s,rfl,rfl,rfl,hs⟩,rfl,rfl,hl,hK⟩;have hΓ:=gkM b0C (gkC a7X gkN);refine⟨Nat.le_of_ble_eq_true rfl,AW.late ?_⟩;have hge:=c2J s;refine awN hΓ rfl ?_;simp only [go_sem];refine a2L rfl (by decide)  rlR   rlR  (by decide) (by omega) fun u1 n1 g1 h1=>?_
 simp only [go_sem];have hlk:(decide ¬s=[]&&!a0C s)=a3D s:=rfl;refine⟨fun _=>by omega,fun hc=>?_,fun hc=>?_⟩
 ·have hk:a3D s=true:=by
   rw [<-hlk,decide_eq_true hc.1,hc.2];rfl
  have ha:a6c s=s++[10]:=if_pos hk;rw [hk] at hK;rw [ha] at hl hK;rw [lAp] at hl;simp only [a54,a8R] at hl;refine a2L (by simp [Nat.add_assoc]) (by decide)  rlR   rlR  (by decide) (by simp;omega) fun u2 n2 g2 h2=>?_
  simp only [go_sem];refine⟨_,a0e (fun p=>p) (l:=[(4,.val (.bool true))]) (r:=[(0,.box v 138 2 (a5Z true 0 v 1 u2 (l++(s++[10])).length)),(1,a0i u2 (l++(s++[10])))]) (sz:=20) (top:=2) (nx:=n2) (df:=[]) ?_,?_⟩
  ·simp only [go_sem,hc.1,hc.2];exact⟨a8S (by omega),a8o (by simp)⟩
  ·simp only [go_sem];have:=hK u2 n2 (by omega) (by omega);simp only [lAp,a54,a8R] at this;exact this
 ·have hk:a3D s=false:=by
   rw [<-hlk];by_cases h0:s=[]
   ·rw [decide_eq_false (by simpa using h0),Bool.false_and]
   ·rw [hc h0,Bool.and_false]
  have ha:a6c s=s:=if_neg (by rw [hk];simp);rw [hk] at hK;rw [ha] at hl hK;rw [hlk,hk];refine⟨_,a0e (fun p=>p) (l:=[(4,.val (.bool false))]) (r:=[(0,.box v 138 2 (a5Z true 0 v 1 u1 (l++s).length)),(1,a0i u1 (l++s))]) (sz:=20) (top:=2) (nx:=n1) (df:=[]) ?_,?_⟩
  ·simp only [go_sem];exact⟨rlR,rlR⟩
  ·simp only [go_sem];have:=hK u1 n1 (by omega) (by omega);simp only [lAp,a54,a8R] at this;exact this
@[go_sem] def c9Z:a0p:=a0U b5I
theorem c47:a0f Tryz.prog 176 c9Z:=b80.frame
def a3J (w:Int) (p:Pt):BS:=
 if hkP p=true then
  a3E (60,false,p.1) w++(a6c p.2.2.2.2.2.1++(if p.2.2.2.2.2.2.2.2=true then
    a3E (124,a3D p.2.2.2.2.2.1,p.2.1) w++(a6c p.2.2.2.2.2.2.1++(a3E (61,a3D p.2.2.2.2.2.2.1,[]) w++(a6c p.2.2.2.2.2.2.2.1++a3E (62,a3D p.2.2.2.2.2.2.2.1,p.2.2.1) w)))
   else a3E (61,a3D p.2.2.2.2.2.1,[]) w++(a6c p.2.2.2.2.2.2.2.1++a3E (62,a3D p.2.2.2.2.2.2.2.1,p.2.2.1) w)))
 else txP p
def b5G:a0p:=d51 fun xs a r=>∃ (p:Pt) (w:Int),xs=[(kA ePt).enc p,.val (.int .i64 w)]/\a=a3J w p/\r=.val (.tuple #[])/\hkP p=true/\b22 p/\0<=w/\w<=10000000000
theorem c0Q:a0f Tryz.prog 127 b5G:=by
 refine a0f.mk Tryz.func127 rfl (by decide) Tryz.results127 Tryz.ntmps127 ?_;rintro args hp top nx K ⟨f,v,u,l,xs,a,r,rfl,⟨p,w,rfl,rfl,rfl,hh,hp,hw1,hw2⟩,rfl,rfl,hl,hK⟩;have hΓ:=gkM b0C (gkM c47 (gkC c89 gkN));refine⟨Nat.le_of_ble_eq_true rfl,AW.late ?_⟩;obtain⟨ll,bl,rl,h,t,lf,b,r,hb⟩:=p;obtain⟨⟨p1,p2,p3⟩,p4,p5,p6,p7⟩:=hp;simp only [txP] at p1 p2 p3 p4 p5 p6 p7;unfold a3J at hl hK;rw [if_pos hh] at hl hK;simp only at hl hK;generalize ha1:a3E (60,false,ll) w=a1 at *
 generalize ha2:a6c lf=a2 at *
 generalize ha3:a3E (124,a3D lf,bl) w=a3 at *
 generalize ha4:a6c b=a4 at *
 generalize ha6:a6c r=a6 at *
 generalize ha7:a3E (62,a3D r,rl) w=a7 at *
 refine awL hΓ [0] rfl ?_;simp only [go_sem];refine AW.cut ⟨[(0,.pt 0 v 0),(2,.val (.int .i64 w)),(4,.pt 2 nx 0)],[(0,.box v 138 2 (a5Z f 0 v 1 u l.length)),(1,a0i u l),(2,.box nx 179 9 (ePt.enc (ll,bl,rl,h,t,lf,b,r,hb)))],53,3,nx+1,[]⟩ ?_ ?_
 ·simp only [go_sem];exact⟨rlR,rlR,rlR⟩
 refine AW.still 4 2 nx 179 9 _ rfl rfl (fun j hj=>match j,hj with|0,_=>rfl|1,_=>rfl|2,_=>rfl|3,_=>rfl|4,_=>rfl|5,_=>rfl|6,_=>rfl|7,_=>rfl|8,_=>rfl) ?_;refine awN hΓ rfl ?_;simp only [go_sem,ha1];cases hb with
 | true=>
   simp only [if_true] at hl hK;generalize ha5:a3E (61,a3D b,[]) w=a5 at *
   rw [show a1++(a2++(a3++(a4++(a5++(a6++a7)))))=a1++a2++a3++a4++a5++a6++a7 by simp only [List.append_assoc]] at hl hK
   have hl:l.length+a1.length+a2.length+a3.length+a4.length+a5.length+a6.length+a7.length<=100000000000:=by
    simp only [lAp] at hl;omega
   refine⟨⟨.inl rfl,hw1,hw2,by omega⟩,a2L rfl (by decide)  rlR   rlR  (by decide) (by omega) fun u1 n1 g1 h1=>?_⟩;simp only [go_sem];refine a94 ⟨lf,rfl,ha2.symm,rfl,by omega⟩ (by simp [Nat.add_assoc]) (by decide)  rlR   rlR  (by decide) (by simp;omega) fun u2 n2 g2 h2=>?_
   simp only [go_sem];rw [ha3];refine⟨⟨.inr (.inl rfl),hw1,hw2,by omega⟩,a2L (by simp [Nat.add_assoc]) (by decide)  rlR   rlR  (by decide) (by simp;omega) fun u3 n3 g3 h3=>?_⟩;simp only [go_sem];refine a94 ⟨b,rfl,ha4.symm,rfl,by omega⟩ (by simp [Nat.add_assoc]) (by decide)  rlR   rlR  (by decide) (by simp;omega) fun u4 n4 g4 h4=>?_
   simp only [go_sem,ha5];refine⟨⟨.inr (.inr (.inl rfl)),hw1,hw2⟩,a2L (by simp [Nat.add_assoc]) (by decide)  rlR   rlR  (by decide) (by simp;omega) fun u5 n5 g5 h5=>?_⟩;simp only [go_sem];refine a94 ⟨r,rfl,ha6.symm,rfl,by omega⟩ (by simp [Nat.add_assoc]) (by decide)  rlR   rlR  (by decide) (by simp;omega) fun u6 n6 g6 h6=>?_
   simp only [go_sem,ha7];refine⟨⟨.inr (.inr (.inr rfl)),hw1,hw2,by omega⟩,a2L (by simp [Nat.add_assoc]) (by decide)  rlR   rlR  (by decide) (by simp;omega) fun u7 n7 g7 h7=>?_⟩;simp only [go_sem];refine⟨_,a0e (fun p=>p) (l:=[]) (r:=[(0,.box v 138 2 (a5Z true 0 v 1 u7 (l++(a1++a2++a3++a4++a5++a6++a7)).length)),(1,a0i u7 (l++(a1++a2++a3++a4++a5++a6++a7)))]) (sz:=53) (top:=2) (nx:=n7) (df:=[]) ?_,?_⟩
   ·simp only [go_sem];exact⟨a8S (by simp [Nat.add_assoc]),a8o (by simp)⟩
   ·simp only [go_sem];have:=hK u7 n7 (by omega) (by omega);simp only [lAp,a54,a8R] at this;exact this
 | false=>
   have e0:(if false=true then a3++(a4++(a3E (61,a3D b,[]) w++(a6++a7))) else a3E (61,a3D lf,[]) w++(a6++a7))=a3E (61,a3D lf,[]) w++(a6++a7):=if_neg (by simp);rw [e0] at hl hK;generalize ha5:a3E (61,a3D lf,[]) w=a5 at *
   rw [show a1++(a2++(a5++(a6++a7)))=a1++a2++a5++a6++a7 by simp only [List.append_assoc]] at hl hK
   have hl:l.length+a1.length+a2.length+a5.length+a6.length+a7.length<=100000000000:=by
    simp only [lAp] at hl;omega
   refine⟨⟨.inl rfl,hw1,hw2,by omega⟩,a2L rfl (by decide)  rlR   rlR  (by decide) (by omega) fun u1 n1 g1 h1=>?_⟩;simp only [go_sem];refine a94 ⟨lf,rfl,ha2.symm,rfl,by omega⟩ (by simp) (by decide)  rlR   rlR  (by decide) (by simp;omega) fun u2 n2 g2 h2=>?_
   simp only [go_sem,ha5];refine⟨⟨.inr (.inr (.inl rfl)),hw1,hw2⟩,a2L (by simp [Nat.add_assoc]) (by decide)  rlR   rlR  (by decide) (by simp;omega) fun u5 n5 g5 h5=>?_⟩;simp only [go_sem];refine a94 ⟨r,rfl,ha6.symm,rfl,by omega⟩ (by simp [Nat.add_assoc]) (by decide)  rlR   rlR  (by decide) (by simp;omega) fun u6 n6 g6 h6=>?_
   simp only [go_sem,ha7];refine⟨⟨.inr (.inr (.inr rfl)),hw1,hw2,by omega⟩,a2L (by simp [Nat.add_assoc]) (by decide)  rlR   rlR  (by decide) (by simp;omega) fun u7 n7 g7 h7=>?_⟩;simp only [go_sem];refine⟨_,a0e (fun p=>p) (l:=[]) (r:=[(0,.box v 138 2 (a5Z true 0 v 1 u7 (l++(a1++a2++a5++a6++a7)).length)),(1,a0i u7 (l++(a1++a2++a5++a6++a7)))]) (sz:=53) (top:=2) (nx:=n7) (df:=[]) ?_,?_⟩
   ·simp only [go_sem];exact⟨a8S (by simp [Nat.add_assoc]),a8o (by simp)⟩
   ·simp only [go_sem];have:=hK u7 n7 (by omega) (by omega);simp only [lAp,a54,a8R] at this;exact this
@[go_sem] def c8K:a0p:=a0U b5G
theorem c2N:a0f Tryz.prog 127 c8K:=c0Q.frame
def a07 (w:Int) (d:List Pt):BS:=(d.map (a3J w)).flatten
theorem b3O (w:Int) (l:List Pt) (p:Pt):a07 w (l++[p])=a07 w l++a3J w p:=by simp [a07]
theorem b38 (w:Int) (d:List Pt) (i:Nat):(a07 w (d.take i)).length<=(a07 w d).length:=by
 have h:a07 w d=a07 w (d.take i)++a07 w (d.drop i):=by
  unfold a07;rw [<-List.flatten_append,<-List.map_append,List.take_append_drop]
 rw [h,lAp];omega
theorem c1i {d:List Pt} {i:Nat} (h:a2v d=true) (hi:i<d.length) (hh:hkP (d.getD i ePt.dflt)=false):a0n (d.getD i ePt.dflt)=true/\txP (d.getD i ePt.dflt)≠[]:=by
 have h1:=of_decide_eq_true h i hi;unfold c1L at h1;simp only [Bool.and_eq_true,Bool.or_eq_true] at h1;rcases h1.2 with h2|h2
 ·unfold a3f at h2;simp only [Bool.and_eq_true] at h2;rw [show hkP (d.getD i ePt.dflt)=(d.getD i ePt.dflt).2.2.2.1 from rfl] at hh;rw [h2.1] at hh;cases hh
 ·unfold a3Y at h2;simp only [Bool.and_eq_true,decide_eq_true_eq] at h2;exact⟨h2.1,h2.2.1⟩
theorem b99 {w:Int} {d:List Pt} (hw:a4i w=true) (h:a2v d=true) (h0:d≠[]):a07 w d≠[]:=by
 have hi:0<d.length:=List.length_pos_iff.2 h0
 have hn:a3J w (d.getD 0 ePt.dflt)≠[]:=by
  unfold a3J;cases hh:hkP (d.getD 0 ePt.dflt) with
  | true=>
    rw [if_pos rfl];have hw2:=a5h.1 hw;obtain⟨n,hn⟩:∃ n,w.toNat=n+1:=⟨w.toNat-1,by omega⟩;unfold a3E;rw [hn,List.replicate_succ];simp
  | false=>
    rw [if_neg (by simp)];exact (c1i h hi hh).2
 cases d with
 | nil=>exact absurd rfl h0
 | cons p d=>
   intro e;unfold a07 at e;simp only [List.map_cons,List.flatten_cons,List.append_eq_nil_iff] at e;exact hn e.1
def printR (d:List Pt) (w:Int):BS×Int:=if a4i w=false then ([],4) else if a2v d=false then ([],11) else if a59 d w=false then ([],4) else (a07 w d,0)
@[go_sem] def c9b:a0j:=a0j.f2 (kL ePt) kI (fun d w=>(d.length<100000000/\∀ p∈d,b22 p)/\(a4i w=true->(a07 w d).length<=90000000000)) (fun d w=>tu2 (kS.enc (printR d w).1) (kI.enc (printR d w).2))
theorem b1A:a0b Tryz.prog 75 c9b:=by
 refine a0b.f2 Tryz.func75 rfl (by decide) Tryz.results75 Tryz.ntmps75 (by decide) fun d w ⟨⟨hd1,hd2⟩,hd3⟩=>?_
 have hΓ:=gkC b2b (gkC b1S (gkC c9z (gkM c2N (gkM b0C (gkM d1J gkN)))));unfold printR;by_cases hw:a4i w=false
 ·refine awZ hΓ rfl ?_;simp only [go_sem,hw]
 have hw':a4i w=true:=by simpa using hw
 have hw2:=a5h.1 hw';rw [if_neg hw];by_cases hr:a2v d=false
 ·refine awZ hΓ rfl ?_;simp only [go_sem,hw',hr];exact⟨hd1,hd2⟩
 have hr':a2v d=true:=by simpa using hr
 rw [if_neg hr];by_cases hf:a59 d w=false
 ·refine awZ hΓ rfl ?_;simp only [go_sem,hw',hr',hf];exact⟨hd1,hd2⟩
 have hf':a59 d w=true:=by simpa using hf
 rw [if_neg hf];refine awL hΓ [0] rfl ?_;simp only [go_sem];refine AW.seqTo (fun _:Unit=>Sh.st ⟨[(0,sL ePt d),(1,.val (.int .i64 w))],[],38,0,0,[]⟩) ?_ fun _=>?_
 ·refine awZ hΓ rfl ?_;simp only [go_sem,hw',hr',hf'];refine⟨⟨hd1,hd2⟩,⟨hd1,hd2⟩,(),a0t ?_⟩;simp only [go_sem]
 refine AW.fork (AW.regionO hΓ [true] ?_);simp only [go_sem];refine b0O rfl b3T (Nat.lt_of_lt_of_le (by decide:6<38) (nLR _)) ?_;simp only [go_sem];by_cases h0:d=[]
 ·subst h0;refine AW.cut ⟨[(0,sL ePt []),(1,.val (.int .i64 w)),(6,.pt 0 0 0)],[(0,.box 0 138 2 d6m)],38,1,1,[]⟩ ?_ ?_
  ·simp only [go_sem];refine a0c.box fun j hj=>?_
   match j,hj with
   | 0,_=>exact avR
   | 1,_=>exact avR
  refine awZ hΓ rfl ?_;simp only [go_sem];refine AW.round (α:=Nat) (fun nx=>⟨[(6,.pt 0 0 0),(22,sL ePt []),(23,.val (.int .i64 0)),(24,.val (.int .i64 0))],[(0,.box 0 138 2 d6m)],38,1,nx,[]⟩) (fun _=>0) 1 ?_ ?_
  ·simp only [go_sem];exact rlR
  ·intro nx;refine awN hΓ rfl ?_;simp only [go_sem];exact .inr ⟨0,0,rfl,rfl,rfl⟩
 ·refine AW.cut ⟨[(0,sL ePt d),(1,.val (.int .i64 w)),(6,.pt 0 0 0)],[(0,.box 0 138 2 fun j=>if j=0 then .val (.pointer none) else .em)],38,1,1,[]⟩ ?_ ?_
  ·simp only [go_sem];refine a0c.box fun j hj=>?_
   match j,hj with
   | 0,_=>exact avR
   | 1,_=>exact d2R
  refine AW.adoptB (q:=0) 1 5 1 (a1y []) rfl rfl ?_;refine AW.cut ⟨[(0,sL ePt d),(1,.val (.int .i64 w)),(6,.pt 0 0 0)],[(0,.box 0 138 2 (a5Z false 0 0 1 1 0)),(1,a0i 1 [])],38,2,2,[]⟩ ?_ ?_
  ·simp only [go_sem];refine⟨a0c.box fun j hj=>?_,rlR⟩
   match j,hj with
   | 0,_=>exact avR
   | 1,_=>exact avR
  refine awZ hΓ rfl ?_;simp only [go_sem]
  refine AW.round (α:={ x:Nat×Bool×Nat×Nat // x.1<=d.length })
   (fun x=>⟨[(1,.val (.int .i64 w)),(6,.pt 0 0 0),(22,sL ePt d),(23,.val (.int .i64 d.length)),(24,.val (.int .i64 x.1.1))],
    [(0,.box 0 138 2 (a5Z x.1.2.1 0 0 1 x.1.2.2.1 (a07 w (d.take x.1.1)).length)),(1,a0i x.1.2.2.1 (a07 w (d.take x.1.1)))],38,2,x.1.2.2.2,[]⟩) (fun x=>d.length-x.1.1) ⟨(0,false,1,2),nZL _⟩ ?_ ?_
  ·simp only [go_sem];exact⟨rlR,rlR⟩
  ·rintro⟨⟨i,f,u,nx⟩,hi⟩;simp only at hi;refine awL hΓ [10,99999] rfl ?_;simp only [go_sem];refine⟨fun hlt=>⟨by omega,?_⟩,fun hge=>?_⟩
   ·have hlt':i<d.length:=by omega
    have hpi:b22 (d.getD i ePt.dflt):=by
     rw [a0F d _ hlt'];exact hd2 _ (List.getElem_mem _)
    have hcf:=c1i (i:=i) hr' hlt';have hsn:=b3O w (d.take i) (d.getD i ePt.dflt);rw [<-a1U d ePt.dflt hlt'] at hsn;have htl:=b38 w d (i+1);have hd3:=hd3 hw';rw [hsn,lAp] at htl;generalize hpe:d.getD i ePt.dflt=p at *
    refine AW.cut ⟨[(1,.val (.int .i64 w)),(6,.pt 0 0 0),(8,.pt 2 nx 0),(22,sL ePt d),(23,.val (.int .i64 d.length)),(24,.val (.int .i64 i))],
     [(0,.box 0 138 2 (a5Z f 0 0 1 u (a07 w (d.take i)).length)),(1,a0i u (a07 w (d.take i))),(2,.box nx 179 9 (ePt.enc p))],38,3,nx+1,[]⟩ ?_ ?_
    ·simp only [go_sem];exact⟨rlR,rlR,a0c.box fun j hj=>a0h.of_eq (a8D (nZL _) (by omega))⟩
    refine AW.still 8 2 nx 179 9 _ rfl rfl (fun j hj=>match j,hj with|0,_=>rfl|1,_=>rfl|2,_=>rfl|3,_=>rfl|4,_=>rfl|5,_=>rfl|6,_=>rfl|7,_=>rfl|8,_=>rfl) ?_;generalize hte:a07 w (d.take i)=t at *
    refine awN hΓ rfl ?_;simp only [go_sem,b8z];refine⟨fun hc=>?_,fun hc=>?_⟩
    ·refine a94 ⟨p,w,rfl,rfl,rfl,hc,hpi,by omega,by omega⟩ rfl (by decide)  rlR   rlR  (by decide) (by omega) fun u1 n1 g1 h1=>?_
     simp only [go_sem];refine⟨by omega,⟨(i+1,true,u1,n1),by dsimp only;omega⟩,⟨nLR _,by dsimp only;omega,a8S ?_,a8o ?_⟩,by dsimp only;omega⟩
     ·dsimp only;rw [hsn,lAp]
     ·dsimp only;rw [hsn]
    ·have htx:a3J w p=p.2.2.2.2.1:=if_neg (by rw [show hkP p=p.2.2.2.1 from rfl,hc];simp);rw [htx] at htl hsn;refine a2L rfl (by decide)  rlR   rlR  (by decide) (by omega) fun u1 n1 g1 h1=>?_
     simp only [go_sem];refine⟨by omega,⟨(i+1,true,u1,n1),by dsimp only;omega⟩,⟨nLR _,by dsimp only;omega,a8S ?_,a8o ?_⟩,by dsimp only;omega⟩
     ·dsimp only;rw [hsn,lAp]
     ·dsimp only;rw [hsn]
   ·obtain rfl:i=d.length:=by omega
    rw [List.take_length];refine .inl ⟨f,0,0,1,u,a07 w d,rfl,rfl,rfl,b99 hw' hr' h0,by have:=hd3 hw';omega,rfl⟩
theorem c30 (l:List BS):(List.range l.length).map (fun i=>l.getD i [])=l:=by
 refine a03 [] (by simp) fun t ht=>?_
 simp at ht;simp [List.getD,ht]
def c6K:a0p:=fun args hp top nx K=>∃ (d:List Pt) (v:Nat) (ts:List BS) (u:Nat),args=[.ow 0 v d.length,.ow 1 u ts.length]/\hp=rws [(0,a0G v 179 ePt d),(1,a0G u 9 eS ts)]/\top=2/\d.length<100000000/\b5m ts/\
 ∀ v' nx',(v'=v\/nx<=v')->nx<=nx'->K (.ow 0 v' (a3F d ts).length) (rws [(0,a0G v' 179 ePt (a3F d ts)),(1,a0G u 9 eS ts)]) 2 nx'
theorem c8U:a0f Tryz.prog 179 c6K:=by
 refine a0f.mk Tryz.func179 rfl (by decide) Tryz.results179 Tryz.ntmps179 ?_;rintro args hp top nx K ⟨d,v,ts,u,rfl,rfl,rfl,hl,hts,hK⟩;have hΓ:=gkC b86 gkN;refine⟨Nat.le_of_ble_eq_true rfl,AW.late ?_⟩;refine awN hΓ rfl ?_;simp only [go_sem,c30];refine⟨hts,fun h=>⟨by omega,?_⟩,fun h=>?_⟩
 ·have e:a3F d ts=d++[a0Q ts.flatten]:=if_neg h;refine⟨_,a0e (fun p=>p) (l:=[(4,.ow 0 nx (d.length+1))]) (r:=[(0,a0G nx 179 ePt (a3F d ts)),(1,a0G u 9 eS ts)]) (sz:=16) (top:=2) (nx:=nx+1) (df:=[]) ?_,?_⟩
  ·rw [e];simp only [go_sem];refine⟨a02 (E:=ePt) rfl rfl rfl rfl (by simp) fun j hj=>?_,rlR⟩
   match j,hj with
   | 0,_=>exact avR
   | 1,_=>exact avR
   | 2,_=>exact avR
   | 3,_=>exact avR
   | 4,_=>exact avR
   | 5,_=>exact avR
   | 6,_=>exact avR
   | 7,_=>exact avR
   | 8,_=>exact avR
  ·simp only [go_sem];have:=hK nx (nx+1) (.inr (nLR _)) (by omega)
   rwa [show (a3F d ts).length=d.length+1 by rw [e];simp] at this
 ·have e:a3F d ts=d:=if_pos (Decidable.not_not.1 h);refine⟨_,a0H.refl _,?_⟩;simp only [go_sem];have:=hK v nx (.inl rfl) (nLR _)
  rwa [e] at this
@[go_sem] def d2m:a0p:=a0U c6K
theorem d3p:a0f Tryz.prog 179 d2m:=c8U.frame
theorem c5f {hp:Nat->Row} {p q:Nat} {r s:Row} (h:a0c (hp p) r) (h2:a0c (hp q) s):∀ (i o:Nat),[p,q][i]?=some o->a0c (hp o) (rws [(0,r),(1,s)] i):=by
 intro i o hq
 match i with
 | 0=>
   simp only [gCZ,oSI] at hq;subst hq;exact h
 | 1=>
   simp only [gCS,gCZ,oSI] at hq;subst hq;exact h2
 | i+2=>simp at hq
theorem b9x {d:List Pt} {ts:List BS} {p q v u n m:Nat} {hp:Nat->Row} {top nx:Nat} {K:AV->(Nat->Row)->Nat->Nat->Prop} (hn:n=d.length) (hm:m=ts.length) (hpq:p≠q)
  (hr:a0c (hp p) (a0G v 179 ePt d)) (hr2:a0c (hp q) (a0G u 9 eS ts)) (ht:p<top/\q<top) (hl:d.length<100000000) (hts:b5m ts)
  (hK:∀ v' nx',nx<=nx'->K (.ow p v' (a3F d ts).length) (a0y (a0y hp p (a0G v' 179 ePt (a3F d ts))) q (a0G u 9 eS ts)) top nx') :
  d2m [.ow p v n,.ow q u m] hp top nx K:=by
 subst hn hm;have e1:(hp p).ver=some v:=hr.vers.symm;have e2:(hp q).ver=some u:=hr2.vers.symm;refine⟨[p,q],[.ow 0 v d.length,.ow 1 u ts.length],rws [(0,a0G v 179 ePt d),(1,a0G u 9 eS ts)],by simp [hpq],by simp;omega,.cons a0h.ow (.cons a0h.ow .nil),c5f hr hr2,fun i hi=>a1b (top:=2) (by simp) i (by simpa using hi),d,v,ts,u,rfl,rfl,rfl,hl,hts,fun v' nx' h1 h3=>?_⟩;refine⟨.ow p v' (a3F d ts).length,_,a0h.ow,fun i o ho=>?_,fun o ho=>?_,fun o ho w hv=>?_,hK v' nx' h3⟩
 ·match i with
  | 0=>
    simp only [gCZ,oSI] at ho;subst ho;rw [a0d _ _ hpq,a0g];exact rlR
  | 1=>
    simp only [gCS,gCZ,oSI] at ho;subst ho;rw [a0g];exact rlR
  | i+2=>simp at ho
 ·simp only [List.mem_cons,List.not_mem_nil,or_false,not_or] at ho;rw [a0d _ _ ho.2,a0d _ _ ho.1]
 ·simp only [List.mem_cons,List.not_mem_nil,or_false] at ho;rcases ho with rfl|rfl
  ·rw [a0d _ _ hpq,a0g] at hv;have:some v'=some w:=hv;obtain rfl:=oJI this;rcases h1 with rfl|h1
   ·exact .inl e1
   ·exact .inr h1
  ·rw [a0g] at hv;have:some u=some w:=hv;obtain rfl:=oJI this;exact .inl e2
theorem b5t (d:List Pt) (ts:List BS):(a3F d ts).length<=d.length+ts.length:=by
 unfold a3F;split
 ·omega
 ·rename_i h;have:0<ts.length:=List.length_pos_iff.2 fun e=>h (by rw [e];rfl)
  simp only [lAp,lCo,List.length_nil];omega
@[go_sem] def d85:a0j:=a0j.f1 (kL ePt) (fun l=>l.length<100000000/\a24 l<=1000000000) (fun l=>sL ePt (ofD l))
theorem c7V:a0b Tryz.prog 134 d85:=by
 refine a0b.f1 Tryz.func134 rfl (by decide) Tryz.results134 Tryz.ntmps134 (by decide) fun l ⟨hl,hs⟩=>?_
 have hΓ:=gkC b5Z (gkM d3p gkN);refine awL hΓ [2,200008] rfl ?_;simp only [go_sem];refine AW.adopt 3 179 9 (fun i=>ePt.enc (([]:List Pt).getD i ePt.dflt)) rfl ?_;refine AW.adopt 4 9 1 (fun i=>eS.enc (([]:List BS).getD i [])) rfl ?_;refine awL hΓ [3,200008] rfl ?_;simp only [go_sem]
 refine AW.block (AW.roundL (α:={ x:Nat×List Pt×List BS×Nat×Nat×Nat // x.1<=l.length/\ofD l=c6k (l.drop x.1) x.2.1 x.2.2.1/\x.2.1.length+x.2.2.1.length<=x.1/\x.2.2.1.length<=x.1/\x.2.2.1.flatten.length<=a24 (l.take x.1) })
  (fun x=>(Sh.mk [(3,.ow 0 x.1.2.2.2.1 x.1.2.1.length),(4,.ow 1 x.1.2.2.2.2.1 x.1.2.2.1.length),(7,sL ePt l),(8,.val (.int .i64 l.length)),(9,.val (.int .i64 x.1.1))]
   [(0,a0G x.1.2.2.2.1 179 ePt x.1.2.1),(1,a0G x.1.2.2.2.2.1 9 eS x.1.2.2.1)] 30 2 x.1.2.2.2.2.2 []).st) (fun x=>l.length-x.1.1) ⟨(0,[],[],0,1,2),nZL _,rfl,by simp,by simp,by simp⟩ ?_ ?_)
 ·refine Sh.fitsV.le (σ:=fun p=>p) ?_;simp only [go_sem];exact⟨rlR,rlR⟩
 ·rintro⟨⟨i,d,ts,v,u,nx⟩,hi,he,hd,ht,hs2⟩;simp only at hi he hd ht hs2;refine awL hΓ [5,99999,200008] rfl ?_;simp only [go_sem];have hst:=b2G l i;refine⟨fun hil=>⟨by omega,?_⟩,fun hil=>?_⟩
  ·have hlt:i<l.length:=by omega
   have hdr:l.drop i=l.getD i ePt.dflt::l.drop (i+1):=by
    rw [List.drop_eq_getElem_cons hlt,<-a0F l ePt.dflt hlt]
   have hsum:a24 (l.take (i+1))=a24 (l.take i)+(txP (l.getD i ePt.dflt)).length:=by
    rw [a1U l ePt.dflt hlt,a14,a10]
   have hst1:=b2G l (i+1);rw [hdr,c6k] at he;generalize hpe:l.getD i ePt.dflt=p at *
   refine AW.cut ⟨[(3,.ow 0 v d.length),(4,.ow 1 u ts.length),(6,.pt 2 nx 0),(7,sL ePt l),(8,.val (.int .i64 l.length)),(9,.val (.int .i64 i))],
    [(0,a0G v 179 ePt d),(1,a0G u 9 eS ts),(2,.box nx 179 9 (ePt.enc p))],30,3,nx+1,[]⟩ ?_ ?_
   ·simp only [go_sem];exact⟨rlR,rlR,a0c.box fun j hj=>a0h.of_eq (a8D (nZL _) (by omega))⟩
   refine AW.still 6 2 nx 179 9 _ rfl rfl (fun j hj=>match j,hj with|0,_=>rfl|1,_=>rfl|2,_=>rfl|3,_=>rfl|4,_=>rfl|5,_=>rfl|6,_=>rfl|7,_=>rfl|8,_=>rfl) ?_;refine awL hΓ [99999,200008] rfl ?_;simp only [go_sem,b8z];refine⟨fun hp=>⟨by omega,by omega,⟨(i+1,d,ts++[txP p],v,nx+1,nx+1+1),by dsimp only;omega,?_,by simp;omega,by simp;omega,?_⟩,?_,by dsimp only;omega⟩,fun hp=>?_⟩
   ·dsimp only;rw [he,if_pos hp]
   ·dsimp only;rw [hsum,List.flatten_append,lAp];exact Nat.add_le_add hs2 (by simp)
   ·refine a0e (fun p=>p) ?_;simp only [go_sem];refine⟨by omega,rlR,?_⟩;exact a02 (E:=eS) rfl rfl rfl rfl (by simp) fun j hj=>avR
   ·rw [if_neg (by simp [hp])] at he;refine AW.drawZ hΓ mixed 2 [3,4] [3,4] [] (by decide +kernel) ?_;simp only [go_sem];have hwl:=b5t d ts;refine b9x rfl rfl (by decide)  rlR   rlR  (by decide) (by omega) ⟨by omega,by omega⟩ fun v1 n1 h1=>?_
    generalize a3F d ts=w at *
    simp only [go_sem];refine⟨by omega,by omega,⟨(i+1,w++[p],[],n1,n1+1,n1+2),by dsimp only;omega,he,by simp;omega,by simp,by simp⟩,?_,by dsimp only;omega⟩;refine (a0H.adopt (s:=4) 9 1 (fun i=>eS.enc (([]:List BS).getD i [])) rfl).trans (a0e (fun p=>if p=1 then 3 else p) ?_);simp only [go_sem];exact⟨by omega,a02 (E:=ePt) rfl rfl rfl rfl (by simp) fun j hj=>avR,rlR⟩
  ·obtain rfl:i=l.length:=by omega
   rw [List.drop_length,c6k] at he;have hwl:=b5t d ts;refine b9x rfl rfl (by decide)  rlR   rlR  (by decide) (by omega) ⟨by omega,by omega⟩ fun v1 n1 h1=>?_
   generalize a3F d ts=w at *
   simp only [go_sem];rw [he];exact a3A (E:=ePt) rfl rfl rfl
def a2X (p:Pt):Nat:=p.2.2.2.2.1.length+p.2.2.2.2.2.1.length+p.2.2.2.2.2.2.1.length+p.2.2.2.2.2.2.2.1.length+p.1.length+p.2.1.length+p.2.2.1.length
def a2z (l:List Pt):Nat:=(l.map a2X).sum
theorem a8F (l:List Pt) (p:Pt):a2z (l++[p])=a2z l+a2X p:=by simp [a2z]
theorem c3k {l:List Pt} {p:Pt} (h:p∈l):a2X p<=a2z l:=by
 induction l with
 | nil=>cases h
 | cons t l ih=>
   have e:a2z (t::l)=a2X t+a2z l:=by simp [a2z]
   rcases List.mem_cons.1 h with rfl|h
   ·omega
   ·have:=ih h;omega
theorem a96 (w:Int) (p:Pt):(a3J w p).length<=4*w.toNat+a2X p+15:=by
 obtain⟨ll,bl,rl,h,x,lf,b,r,hb⟩:=p;unfold a3J a2X;simp only [hkP,txP];have h1:=a4P (60,false,ll) w;have h2:=a4P (124,a3D lf,bl) w;have h3:=a4P (61,a3D b,[]) w;have h4:=a4P (62,a3D r,rl) w;have h5:=a4P (61,a3D lf,[]) w;have h6:=a8B lf;have h7:=a8B b;have h8:=a8B r;simp only at h1 h2 h3 h4 h5;simp only [List.length_nil] at h3 h5;by_cases hh:h=true
 ·rw [if_pos hh];by_cases hh2:hb=true
  ·rw [if_pos hh2];simp only [lAp];omega
  ·rw [if_neg hh2];simp only [lAp];omega
 ·rw [if_neg hh];omega
theorem a66 (w:Int):∀ (d:List Pt),(a07 w d).length<=d.length*(4*w.toNat+15)+a2z d
 | []=>by simp [a07]
 | p::d=>by
   have h1:=a66 w d;have h2:=a96 w p;have e:a2z (p::d)=a2X p+a2z d:=by simp [a2z]
   have e2:a07 w (p::d)=a3J w p++a07 w d:=by simp [a07]
   rw [e2,lAp,e,lCo,Nat.succ_mul];omega
end
section
def a5b (a k:Int):Bool:=if k=60 then decide (a=0) else if k=124 then decide (a=60) else if k=61 then (decide (a=60)||decide (a=124)) else decide (a=61)
def b9J (c:Pt) (s:BS):Pt:=(c.1,c.2.1,c.2.2.1,c.2.2.2.1,c.2.2.2.2.1,s,c.2.2.2.2.2.2.1,c.2.2.2.2.2.2.2.1,c.2.2.2.2.2.2.2.2)
def b9L (c:Pt) (s:BS):Pt:=(c.1,c.2.1,c.2.2.1,c.2.2.2.1,c.2.2.2.2.1,c.2.2.2.2.2.1,s,c.2.2.2.2.2.2.2.1,c.2.2.2.2.2.2.2.2)
def b5e (c:Pt) (s:BS):Pt:=(c.1,c.2.1,c.2.2.1,c.2.2.2.1,c.2.2.2.2.1,c.2.2.2.2.2.1,c.2.2.2.2.2.2.1,s,c.2.2.2.2.2.2.2.2)
def c1g (c:Pt) (s:BS):Pt:=(c.1,s,c.2.2.1,c.2.2.2.1,c.2.2.2.2.1,c.2.2.2.2.2.1,c.2.2.2.2.2.2.1,c.2.2.2.2.2.2.2.1,true)
def b2Z (c:Pt) (s:BS):Pt:=(c.1,c.2.1,s,c.2.2.2.1,c.2.2.2.2.1,c.2.2.2.2.2.1,c.2.2.2.2.2.2.1,c.2.2.2.2.2.2.2.1,c.2.2.2.2.2.2.2.2)
def b16 (a:Int) (sd:BS) (c:Pt):Pt:=if a=60 then b9J c sd else if a=124 then b9L c sd else if a=61 then b5e c sd else c
def a90 (a:Int) (m:Mk) (sd:BS) (c:Pt):Pt:=
 if m.1=60 then (m.2.2,[],[],true,[],[],[],[],false) else if m.1=124 then c1g (b16 a sd c) m.2.2 else if m.1=62 then b2Z (b16 a sd c) m.2.2 else b16 a sd c
def a5L (a:Int) (m:Mk) (now sd:BS) (c:Pt) (ps:List Pt):List Pt:=
 if m.1=60 then ps++[a0Q now] else if m.1=62 then ps++[a90 a m sd c] else ps
def b1t (m:Mk) (now:BS):Option BS:=if m.2.1=true then (if a4A now=[]\/a0C (a4A now)=true then none else some (a4A now)) else some now
def a01 (a:Int) (now:BS) (c:Pt) (ps:List Pt) (m:Mk):Int×Int×Pt×List Pt:=
 if m.1=60/\a≠0 then (7,a,c,ps) else if a5b a m.1=false then (8,a,c,ps) else match b1t m now with
  | none=>(9,a,c,ps)
  | some sd=>(0,if m.1=62 then 0 else m.1,a90 a m sd c,a5L a m now sd c ps)
def a7x (w:Int):List BS->Int->BS->Pt->List Pt->Nat->List Pt×Int×Int
 | [],a,now,_,ps,i=>if a≠0 then ([],10,(i:Int)+1) else (ofD (ps++[a0Q now]),0,0)
 | l::ls,a,now,c,ps,i=>
   if (a0J l w).2.1=true then
    if (a01 a now c ps (a0J l w).1).1≠0 then ([],(a01 a now c ps (a0J l w).1).1,(i:Int)+1)
    else a7x w ls (a01 a now c ps (a0J l w).1).2.1 [] (a01 a now c ps (a0J l w).1).2.2.1 (a01 a now c ps (a0J l w).1).2.2.2 (i+1)
   else if (a0J l w).2.2≠0 then ([],(a0J l w).2.2,(i:Int)+1) else a7x w ls a (now++l) c ps (i+1)
def a0V (s:BS) (w:Int):List Pt×Int×Int:=if a4i w=false then ([],4,0) else a7x w (a0a s) 0 [] ePt.dflt [] 0
theorem b71 {a:BS} (b:BS) (h:a=[]\/a0C a=true):a0a (a++b)=a0a a++a0a b:=by
 induction a with
 | nil=>rfl
 | cons x a ih=>
   by_cases ha:a=[]
   ·subst ha
    have hx:x=10:=by
     rcases h with h|h
     ·cases h
     ·simpa [a0C] using h
    subst hx;rfl
   ·have h':a0C a=true:=by
     rcases h with h|h
     ·cases h
     ·unfold a0C at h ⊢;rw [List.getLast?_cons_of_ne_nil ha] at h;exact h
    have:=ih (.inr h');rw [List.cons_append];simp only [a0a];by_cases hx:x=10
    ·rw [if_pos hx,if_pos hx,this];rfl
    ·rw [if_neg hx,if_neg hx,this];cases hs:a0a a with
     | nil=>
       have:=a0L a;rw [hs] at this;exact absurd this.symm ha
     | cons y ys=>rfl
theorem b9i {l:List BS} {x:BS} (h:x∈l):a42 x<=a3r l:=by
 have key:∀ (l:List BS) (n:Nat),(∀ x∈l,a42 x<=l.foldl (fun n x=>max n (a42 x)) n)/\n<=l.foldl (fun n x=>max n (a42 x)) n:=by
  intro l
  induction l with
  | nil=>intro n;exact⟨fun x h=>by simp at h,nLR _⟩
  | cons y l ih=>
    intro n;obtain⟨h1,h2⟩:=ih (max n (a42 y));refine⟨fun x hx=>?_,Nat.le_trans (Nat.le_max_left ..) h2⟩;rcases List.mem_cons.1 hx with rfl|hx
    ·exact Nat.le_trans (Nat.le_max_right ..) h2
    ·exact h1 x hx
 exact (key l 0).1 x h
end
section
section
variable (a b:List Int)
def b61 (x:Int) (prev:Nat->Nat):Nat->Nat
 | 0=>0
 | k+1=>if x=b.getD k 0 then prev k+1 else max (prev (k+1)) (b61 x prev k)
def a2M:Nat->Nat->Nat
 | 0=>fun _=>0
 | i+1=>b61 b (a.getD i 0) (a2M i)
end
section
variable {a b:List Int}
theorem a9O (k:Nat):a2M a b 0 k=0:=rfl
theorem a5H (i:Nat):a2M a b i 0=0:=by cases i<;>rfl
theorem a4p {i k:Nat} (h:a.getD i 0=b.getD k 0):a2M a b (i+1) (k+1)=a2M a b i k+1:=by
 show b61 b (a.getD i 0) (a2M a b i) (k+1)=_;rw [b61,if_pos h]
theorem a4Q {i k:Nat} (h:a.getD i 0≠b.getD k 0):a2M a b (i+1) (k+1)=max (a2M a b i (k+1)) (a2M a b (i+1) k):=by
 show b61 b (a.getD i 0) (a2M a b i) (k+1)=_;rw [b61,if_neg h];rfl
theorem a32:∀ (n i k:Nat),i+k<=n->a2M a b i k<=a2M a b (i+1) k/\a2M a b (i+1) k<=a2M a b i k+1/\a2M a b i k<=a2M a b i (k+1)/\a2M a b i (k+1)<=a2M a b i k+1
 | n,i,k,hn=>by
   have hB:∀ i k,i+k<=n->a2M a b i k<=a2M a b i (k+1)/\a2M a b i (k+1)<=a2M a b i k+1:=by
    intro i k hik;cases i with
    | zero=>simp [a9O]
    | succ i=>
      cases n with
      | zero=>omega
      | succ n=>
        have h1:=a32 n i k (by omega);by_cases h:a.getD i 0=b.getD k 0
        ·rw [a4p h];omega
        ·rw [a4Q h];omega
   have hA:a2M a b i k<=a2M a b (i+1) k/\a2M a b (i+1) k<=a2M a b i k+1:=by
    cases k with
    | zero=>simp [a5H]
    | succ k=>
      cases n with
      | zero=>omega
      | succ n=>
        have h1:=a32 n i k (by omega);by_cases h:a.getD i 0=b.getD k 0
        ·rw [a4p h];omega
        ·have h2:=hB i k (by omega);rw [a4Q h];omega
   exact⟨hA.1,hA.2,hB i k hn⟩
theorem a7b (i k:Nat):a2M a b i k<=a2M a b (i+1) k/\a2M a b (i+1) k<=a2M a b i k+1:=⟨(a32 _ i k (nLR _)).1,(a32 _ i k (nLR _)).2.1⟩
theorem a8J (i k:Nat):a2M a b i k<=a2M a b i (k+1)/\a2M a b i (k+1)<=a2M a b i k+1:=(a32 _ i k (nLR _)).2.2
theorem b9O (i k:Nat):a2M a b (i+1) (k+1)<=a2M a b i k+1:=by
 by_cases h:a.getD i 0=b.getD k 0
 ·rw [a4p h];omega
 ·rw [a4Q h];have:=a7b (a:=a) (b:=b) i k;have:=a8J (a:=a) (b:=b) i k;omega
theorem b0K (i k:Nat):a2M a b i k<=i/\a2M a b i k<=k:=by
 induction i with
 | zero=>simp [a9O]
 | succ i ih=>
   constructor
   ·have:=(a7b (a:=a) (b:=b) i k).2;omega
   ·clear ih
    induction k with
    | zero=>simp [a5H]
    | succ k ih=>have:=(a8J (a:=a) (b:=b) (i+1) k).2;omega
end
theorem a7T {c l:List Int} {z:Int} (h:c.Sublist (l++[z])):c.Sublist l\/∃ d,c=d++[z]/\d.Sublist l:=by
 rw [List.sublist_append_iff] at h;obtain⟨c1,c2,rfl,h1,h2⟩:=h;cases c2 with
 | nil=>exact .inl (by simpa using h1)
 | cons y r=>
   have hl:=h2.length_le;simp only [lCo,List.length_nil] at hl;have hr:r=[]:=List.length_eq_zero_iff.1 (by omega);subst hr
   have hy:y=z:=by
    have:=h2.subset (List.mem_cons_self ..);simpa using this
   subst hy;exact .inr ⟨c1,rfl,h1⟩
theorem a1z {l:List Int} {i:Nat} (h:i<l.length):l.take (i+1)=l.take i++[l.getD i 0]:=by
 rw [List.take_add_one,a0F _ _ h];simp [h]
section
variable {a b:List Int}
theorem a6h:∀ (n i k:Nat),i+k<=n->i<=a.length->k<=b.length->∀ c:List Int,c.Sublist (a.take i)->c.Sublist (b.take k)->c.length<=a2M a b i k
 | n,0,k,_,_,_,c,h1,_=>by simp at h1;simp [h1]
 | n,i+1,0,_,_,_,c,_,h2=>by simp at h2;simp [h2]
 | 0,i+1,k+1,hn,_,_,_,_,_=>by omega
 | n+1,i+1,k+1,hn,hi,hk,c,h1,h2=>by
   have h1':=h1;have h2':=h2;rw [a1z (by omega)] at h1 h2;by_cases h:a.getD i 0=b.getD k 0
   ·rw [a4p h]
    have d1:c.dropLast.Sublist (a.take i):=by
     rcases a7T h1 with h|⟨d,rfl,h⟩
     ·exact (List.dropLast_sublist c).trans h
     ·simpa using h
    have d2:c.dropLast.Sublist (b.take k):=by
     rcases a7T h2 with h|⟨d,rfl,h⟩
     ·exact (List.dropLast_sublist c).trans h
     ·simpa using h
    have:=a6h n i k (by omega) (by omega) (by omega) _ d1 d2;simp at this;omega
   ·rw [a4Q h];rcases a7T h1 with g1|⟨d,rfl,g1⟩
    ·have:=a6h n i (k+1) (by omega) (by omega) hk c g1 h2';omega
    ·rcases a7T h2 with g2|⟨e,he,g2⟩
     ·have:=a6h n (i+1) k (by omega) hi (by omega) _ h1' g2;omega
     ·have:=List.append_inj' he rfl;simp at this;exact absurd this.2 h
theorem a4I:∀ (n i k:Nat),i+k<=n->i<=a.length->k<=b.length->∃ c:List Int,c.Sublist (a.take i)/\c.Sublist (b.take k)/\c.length=a2M a b i k
 | n,0,k,_,_,_=>⟨[],by simp,by simp,rfl⟩
 | n,i+1,0,_,_,_=>⟨[],by simp,by simp,by simp [a5H]⟩
 | 0,i+1,k+1,hn,_,_=>by omega
 | n+1,i+1,k+1,hn,hi,hk=>by
   by_cases h:a.getD i 0=b.getD k 0
   ·obtain⟨c,h1,h2,h3⟩:=a4I n i k (by omega) (by omega) (by omega);refine⟨c++[a.getD i 0],?_,?_,?_⟩
    ·rw [a1z (by omega)];exact h1.append (List.Sublist.refl _)
    ·rw [a1z (by omega),h];exact h2.append (List.Sublist.refl _)
    ·rw [a4p h];simp [h3]
   ·rw [a4Q h];rcases Nat.le_total (a2M a b i (k+1)) (a2M a b (i+1) k) with g|g
    ·obtain⟨c,h1,h2,h3⟩:=a4I n (i+1) k (by omega) hi (by omega);refine⟨c,h1,?_,by omega⟩;rw [a1z (by omega)];exact h2.trans (List.sublist_append_left _ _)
    ·obtain⟨c,h1,h2,h3⟩:=a4I n i (k+1) (by omega) (by omega) hk;refine⟨c,?_,h2,by omega⟩;rw [a1z (by omega)];exact h1.trans (List.sublist_append_left _ _)
end
def a3t (a b:List Int):Nat:=a2M a b a.length b.length
theorem a5e {a b c:List Int} (h1:c.Sublist a) (h2:c.Sublist b):c.length<=a3t a b:=
 a6h _ _ _ (nLR _) (nLR _) (nLR _) c (by simpa using h1) (by simpa using h2)
theorem a2N (a b:List Int):∃ c:List Int,c.Sublist a/\c.Sublist b/\c.length=a3t a b:=by
 obtain⟨c,h1,h2,h3⟩:=a4I (a:=a) (b:=b) _ _ _ (nLR _) (nLR _) (nLR _);exact⟨c,by simpa using h1,by simpa using h2,h3⟩
theorem a5R {a b:List Int} {v:Nat} (h:∃ c:List Int,c.Sublist a/\c.Sublist b/\c.length=v) (k:∀ c:List Int,c.Sublist a->c.Sublist b->c.length<=v):a3t a b=v:=by
 obtain⟨c,h1,h2,h3⟩:=h;obtain⟨e,g1,g2,g3⟩:=a2N a b;have:=a5e h1 h2;have:=k e g1 g2;omega
theorem c3p {a b:List Int} {i k:Nat} (hi:i<=a.length) (hk:k<=b.length):a2M a b i k=a3t (a.take i) (b.take k):=by
 refine (a5R ?_ ?_).symm
 ·exact a4I _ _ _ (nLR _) hi hk
 ·exact a6h _ _ _ (nLR _) hi hk
theorem b8N (a b:List Int):a3t a b=a3t b a:=by
 obtain⟨c,h1,h2,h3⟩:=a2N b a;refine a5R ⟨c,h2,h1,h3⟩ fun c h1 h2=>a5e h2 h1
theorem a73 (a b:List Int):a3t a.reverse b.reverse=a3t a b:=by
 obtain⟨c,h1,h2,h3⟩:=a2N a b;refine a5R ⟨c.reverse,h1.reverse,h2.reverse,by simpa using h3⟩ fun c h1 h2=>?_
 have:=a5e (c:=c.reverse) (by simpa using h1.reverse) (by simpa using h2.reverse);simpa using this
theorem a5G (a a' b b':List Int):a3t a b+a3t a' b'<=a3t (a++a') (b++b'):=by
 obtain⟨c,h1,h2,h3⟩:=a2N a b;obtain⟨d,g1,g2,g3⟩:=a2N a' b';have:=a5e (h1.append g1) (h2.append g2);simp at this;omega
theorem b1C (b:List Int):a3t [] b=0:=by
 refine a5R ⟨[],by simp,by simp,rfl⟩ fun c h1 _=>?_
 have:=h1.length_le;simpa using this
theorem c0D (b:List Int):a3t b []=0:=by rw [b8N,b1C]
theorem c1r (a:List Int):a3t a a=a.length:=
 a5R ⟨a,List.Sublist.refl _,List.Sublist.refl _,rfl⟩ fun c h _=>h.length_le
theorem a2W (a b:List Int):a3t a b<=a.length/\a3t a b<=b.length:=b0K _ _
theorem c0T (x:Int) (a b:List Int):a3t (x::a) (x::b)=a3t a b+1:=by
 obtain⟨c,h1,h2,h3⟩:=a2N a b;refine a5R ⟨x::c,h1.cons_cons x,h2.cons_cons x,by simp [h3]⟩ fun c h1 h2=>?_
 have t1:c.tail.Sublist a:=by
  cases c with
  | nil=>simp
  | cons y c=>
    rcases List.sublist_cons_iff.1 h1 with h|⟨r,e,h⟩
    ·exact (List.tail_sublist _).trans h
    ·injection e with _ e;subst e;exact h
 have t2:c.tail.Sublist b:=by
  cases c with
  | nil=>simp
  | cons y c=>
    rcases List.sublist_cons_iff.1 h2 with h|⟨r,e,h⟩
    ·exact (List.tail_sublist _).trans h
    ·injection e with _ e;subst e;exact h
 have:=a5e t1 t2;simp at this;omega
theorem a9V (p a b:List Int):a3t (p++a) (p++b)=p.length+a3t a b:=by
 induction p with
 | nil=>simp
 | cons x p ih=>simp only [List.cons_append,c0T,ih,lCo];omega
theorem a9e (p a b:List Int):a3t (a++p) (b++p)=a3t a b+p.length:=by
 rw [<-a73,List.reverse_append,List.reverse_append,a9V,a73];simp;omega
end
section
section
variable (a b:List Int)
def dst (x y:Nat):Int:=(x:Int)+y-2*a2M a b x y
def onD (e:Nat) (k:Int) (x:Int):Prop:=0<=x/\k<=x/\x<=a.length/\x-k<=b.length/\dst a b x.toNat (x-k).toNat<e
def a9Z (e:Nat) (k:Int) (v:Int):Prop:=(v=-1/\∀ x,¬onD a b e k x)\/(onD a b e k v/\∀ x,onD a b e k x->x<=v)
end
section
variable {a b:List Int}
theorem b2O (x y:Nat):dst a b (x+1) y<=dst a b x y+1/\dst a b x y<=dst a b (x+1) y+1:=by
 have:=a7b (a:=a) (b:=b) x y;simp only [dst];omega
theorem b54 (x y:Nat):dst a b x (y+1)<=dst a b x y+1/\dst a b x y<=dst a b x (y+1)+1:=by
 have:=a8J (a:=a) (b:=b) x y;simp only [dst];omega
theorem c4T (x y:Nat):dst a b x y<=dst a b (x+1) (y+1):=by
 have:=b9O (a:=a) (b:=b) x y;simp only [dst];omega
theorem c6W {x y:Nat} (h:a.getD x 0=b.getD y 0):dst a b (x+1) (y+1)=dst a b x y:=by
 simp only [dst,a4p h];omega
theorem c5T {x y:Nat} (h:a.getD x 0≠b.getD y 0):dst a b (x+1) (y+1)=dst a b x (y+1)+1\/dst a b (x+1) (y+1)=dst a b (x+1) y+1:=by
 simp only [dst,a4Q h];omega
theorem a9H (x y:Nat):0<=dst a b x y:=by
 have:=b0K (a:=a) (b:=b) x y;simp only [dst];omega
theorem b9W (x y:Nat):(x:Int)-y<=dst a b x y/\(y:Int)-x<=dst a b x y:=by
 have:=b0K (a:=a) (b:=b) x y;simp only [dst];omega
theorem c8i (y:Nat):dst a b 0 y=y:=by simp [dst,a9O]
theorem c0P (x:Nat):dst a b x 0=x:=by simp [dst,a5H]
theorem c3U {e:Nat} {k x:Int} (h:onD a b e k (x+1)) (h0:0<=x) (hk:k<=x):onD a b e k x:=by
 obtain⟨h1,h2,h3,h4,h5⟩:=h;refine⟨h0,hk,by omega,by omega,?_⟩;have e1:(x+1).toNat=x.toNat+1:=by omega
 have e2:(x+1-k).toNat=(x-k).toNat+1:=by omega
 rw [e1,e2] at h5;have:=c4T (a:=a) (b:=b) x.toNat (x-k).toNat;omega
theorem b6n {e:Nat} {k:Int}:∀ (n:Nat) (x y:Int),(x-y).toNat<=n->y<=x->onD a b e k x->0<=y->k<=y->onD a b e k y
 | 0,x,y,hn,hy,h,_,_=>by
   have:y=x:=by omega
   subst this;exact h
 | n+1,x,y,hn,hy,h,h0,hk=>by
   rcases Int.lt_or_eq_of_le hy with g|g
   ·exact b6n n (x-1) y (by omega) (by omega) (c3U (by simpa using h) (by omega) (by omega)) h0 hk
   ·subst g;exact h
theorem c68 {e:Nat} {k x y:Int} (hy:y<=x) (h:onD a b e k x) (h0:0<=y) (hk:k<=y):onD a b e k y:=b6n _ x y (nLR _) hy h h0 hk
theorem a8G {e:Nat} {k v x:Int} (h:a9Z a b e k v) (hx:onD a b e k x):x<=v:=by
 rcases h with⟨_,h⟩|⟨_,h⟩
 ·exact absurd hx (h x)
 ·exact h x hx
theorem b0G {e:Nat} {k v:Int} (h:a9Z a b e k v) (hv:0<=v):onD a b e k v:=by
 rcases h with⟨h,_⟩|⟨h,_⟩
 ·omega
 ·exact h
theorem c0C {e:Nat} {k v:Int} (h:a9Z a b e k v):-1<=v:=by
 rcases h with⟨h,_⟩|⟨h,_⟩
 ·omega
 ·have:=h.1;omega
def a0S (a b:List Int) (u v k:Int):Int:=min (min (max (u+1) v) a.length) (b.length+k)
theorem b5n {d:Nat} {k u v:Int} (hk:-(b.length:Int)<=k/\k<=a.length) (hd:-(d:Int)<=k/\k<=d) (hu:a9Z a b d (k-1) u) (hv:a9Z a b d (k+1) v) :
  0<=a0S a b u v k/\k<=a0S a b u v k/\a0S a b u v k<=a.length/\a0S a b u v k-k<=b.length/\onD a b (d+1) k (a0S a b u v k):=by
 have hu1:=c0C hu;have hv1:=c0C hv
 have hup:0<k->k-1<=u:=fun h=>by
  refine a8G hu ⟨by omega,by omega,by omega,by omega,?_⟩;have e:(k-1-(k-1)).toNat=0:=by omega
  rw [e,c0P];omega
 have h0:0<=a0S a b u v k:=by unfold a0S;omega
 have h1:k<=a0S a b u v k:=by
  rcases Int.lt_or_le 0 k with h|h
  ·have:=hup h;unfold a0S;omega
  ·omega
 have h2:a0S a b u v k<=a.length:=by unfold a0S;omega
 have h3:a0S a b u v k-k<=b.length:=by unfold a0S;omega
 refine⟨h0,h1,h2,h3,h0,h1,h2,h3,?_⟩;rcases Int.le_total v (u+1) with hw|hw
 ·
  rcases Int.lt_or_le u 0 with hu0|hu0
  ·have hk0:k<=0:=by
    rcases Int.lt_or_le 0 k with h|h
    ·have:=hup h;omega
    ·exact h
   have e:a0S a b u v k=0:=by unfold a0S;omega
   rw [e];show dst a b 0 _<_;rw [c8i];omega
  ·obtain⟨g1,g2,g3,g4,g5⟩:=b0G hu hu0;rcases Int.lt_or_le u a.length with hn|hn
   ·have e:a0S a b u v k=u+1:=by unfold a0S;omega
    have e1:(u+1).toNat=u.toNat+1:=by omega
    have e2:(u+1-k).toNat=(u-(k-1)).toNat:=by omega
    rw [e,e1,e2];have:=(b2O (a:=a) (b:=b) u.toNat (u-(k-1)).toNat).1;omega
   ·have e:a0S a b u v k=u:=by unfold a0S;omega
    have e2:(u-(k-1)).toNat=(u-k).toNat+1:=by omega
    rw [e];rw [e2] at g5;have:=(b54 (a:=a) (b:=b) u.toNat (u-k).toNat).2;omega
 ·
  obtain⟨g1,g2,g3,g4,g5⟩:=b0G hv (by omega);rcases Int.lt_or_le (v-k) (b.length+1) with hm|hm
  ·have e:a0S a b u v k=v:=by unfold a0S;omega
   have e2:(v-k).toNat=(v-(k+1)).toNat+1:=by omega
   rw [e,e2];have:=(b54 (a:=a) (b:=b) v.toNat (v-(k+1)).toNat).1;omega
  ·have e:a0S a b u v k=v-1:=by unfold a0S;omega
   have e1:v.toNat=(v-1).toNat+1:=by omega
   have e2:(v-1-k).toNat=(v-(k+1)).toNat:=by omega
   rw [e,e2];rw [e1] at g5;have:=(b2O (a:=a) (b:=b) (v-1).toNat (v-(k+1)).toNat).2;omega
theorem b2r {e:Nat} {k x:Int} (h:onD a b e k x):∀ n:Nat,n<=ahd (a.drop x.toNat) (b.drop (x-k).toNat)->onD a b e k (x+n)
 | 0,_=>by simpa using h
 | n+1,hn=>by
   obtain⟨h1,h2,h3,h4,h5⟩:=b2r h n (by omega);have hs:=(a26 (0:Int) (a.drop x.toNat) (b.drop (x-k).toNat)).1 n (by omega);have hl:=a5B (a.drop x.toNat) (b.drop (x-k).toNat);simp only [List.length_drop] at hl;have hx:=h.1;have hxk:=h.2.1;have e0:((n+1:Nat):Int)=(n:Int)+1:=by omega
   have e1:(x+(n+1:Nat)).toNat=(x+n).toNat+1:=by omega
   have e2:(x+(n+1:Nat)-k).toNat=(x+n-k).toNat+1:=by omega
   refine⟨by omega,by omega,by omega,by omega,?_⟩;rw [e1,e2,c6W]
   ·exact h5
   ·have g1:(a.drop x.toNat).getD n 0=a.getD (x+n).toNat 0:=by
     have:(x+n).toNat=x.toNat+n:=by omega
     simp [List.getD,this]
    have g2:(b.drop (x-k).toNat).getD n 0=b.getD (x+n-k).toNat 0:=by
     have:(x+n-k).toNat=(x-k).toNat+n:=by omega
     simp [List.getD,this]
    rw [<-g1,<-g2];exact hs
theorem c8o {d:Nat} {k u v:Int} (hk:-(b.length:Int)<=k/\k<=a.length) (hd:-(d:Int)<=k/\k<=d) (hu:a9Z a b d (k-1) u) (hv:a9Z a b d (k+1) v) :
  a9Z a b (d+1) k (a0S a b u v k+ahd (a.drop (a0S a b u v k).toNat) (b.drop (a0S a b u v k-k).toNat)):=by
 obtain⟨h0,h1,h2,h3,h4⟩:=b5n hk hd hu hv;have hge:∀ x:Int,x<=a.length->x-k<=b.length->x<=u+1\/x<=v->x<=a0S a b u v k:=fun x g1 g2 g3=>by unfold a0S;omega
 generalize a0S a b u v k=x1 at *
 have hs:=b2r h4 _ (nLR _);have hstop:=(a26 (0:Int) (a.drop x1.toNat) (b.drop (x1-k).toNat)).2;simp only [List.length_drop] at hstop;generalize hsn:ahd (a.drop x1.toNat) (b.drop (x1-k).toNat)=s at *
 refine .inr ⟨hs,fun x hx=>?_⟩;rcases Int.lt_or_le (x1+s) x with g|g
 ·exfalso;have hn:=c68 (y:=x1+s+1) (by omega) hx (by omega) (by omega);obtain⟨p1,p2,p3,p4,p5⟩:=hn
  have hne:a.getD (x1+s).toNat 0≠b.getD (x1+s-k).toNat 0:=by
   have:=hstop (by omega) (by omega)
   have g1:(a.drop x1.toNat).getD s 0=a.getD (x1+s).toNat 0:=by
    have:(x1+s).toNat=x1.toNat+s:=by omega
    simp [List.getD,this]
   have g2:(b.drop (x1-k).toNat).getD s 0=b.getD (x1+s-k).toNat 0:=by
    have:(x1+s-k).toNat=(x1-k).toNat+s:=by omega
    simp [List.getD,this]
   rwa [g1,g2] at this
  have e1:(x1+s+1).toNat=(x1+s).toNat+1:=by omega
  have e2:(x1+s+1-k).toNat=(x1+s-k).toNat+1:=by omega
  rw [e1,e2] at p5;rcases c5T hne with q|q
  ·have:onD a b d (k-1) (x1+s):=⟨by omega,by omega,by omega,by omega,by
    have e3:(x1+s-(k-1)).toNat=(x1+s-k).toNat+1:=by omega
    rw [e3];omega⟩
   have:=a8G hu this;have:=hge (x1+s+1) (by omega) (by omega) (.inl (by omega));omega
  ·have:onD a b d (k+1) (x1+s+1):=⟨by omega,by omega,by omega,by omega,by
    have e3:(x1+s+1-(k+1)).toNat=(x1+s-k).toNat:=by omega
    rw [e3,e1];omega⟩
   have:=a8G hv this;have:=hge (x1+s+1) (by omega) (by omega) (.inr (by omega));omega
 ·exact g
theorem b7n {e:Nat} {k v:Int} (h:a9Z a b e k v) (hp:(k-e) % 2≠0):a9Z a b (e+1) k v:=by
 have key:∀ x,onD a b (e+1) k x->onD a b e k x:=by
  rintro x ⟨h1,h2,h3,h4,h5⟩;refine⟨h1,h2,h3,h4,?_⟩;have:dst a b x.toNat (x-k).toNat=2*x-k-2*a2M a b x.toNat (x-k).toNat:=by simp only [dst];omega
  omega
 rcases h with⟨h,g⟩|⟨h,g⟩
 ·exact .inl ⟨h,fun x hx=>g x (key x hx)⟩
 ·obtain⟨h1,h2,h3,h4,h5⟩:=h;exact .inr ⟨⟨h1,h2,h3,h4,by omega⟩,fun x hx=>g x (key x hx)⟩
theorem a6S {e:Nat} {k:Int} (h:k < -(b.length:Int)\/(a.length:Int)<k\/(e:Int)<=k\/(e:Int)<=-k):a9Z a b e k (-1):=by
 refine .inl ⟨rfl,?_⟩;rintro x ⟨h1,h2,h3,h4,h5⟩;have:=b9W (a:=a) (b:=b) x.toNat (x-k).toNat;omega
end
end
section
def rch (m:Nat) (far:List Int) (k:Int):Int:=far.getD (k+m+1).toNat 0
def c2o (a b far:List Int) (k:Int):Option (Int×List Int):=
 if 0<=a0S a b (rch b.length far (k-1)) (rch b.length far (k+1)) k/\k<=a0S a b (rch b.length far (k-1)) (rch b.length far (k+1)) k/\-(b.length:Int)<=k/\k<=a.length/\far.length=a.length+b.length+3 then
  some (a0S a b (rch b.length far (k-1)) (rch b.length far (k+1)) k+ahd (a.drop (a0S a b (rch b.length far (k-1)) (rch b.length far (k+1)) k).toNat) (b.drop (a0S a b (rch b.length far (k-1)) (rch b.length far (k+1)) k-k).toNat),
   far.set (k+b.length+1).toNat (a0S a b (rch b.length far (k-1)) (rch b.length far (k+1)) k+ahd (a.drop (a0S a b (rch b.length far (k-1)) (rch b.length far (k+1)) k).toNat) (b.drop (a0S a b (rch b.length far (k-1)) (rch b.length far (k+1)) k-k).toNat)))
 else none
def a4s (a b:List Int) (chk:Bool) (other:List Int) (high:Int):Nat->Int->List Int->Option (Sum (Int×Int) (List Int))
 | 0,_,_=>none
 | f+1,k,far=>if k<=high then
     match c2o a b far k with
     | none=>none
     | some (x,far')=>if chk=true/\(a.length:Int)<=x+rch b.length other (a.length-b.length-k) then some (.inl (x,x-k)) else a4s a b chk other high f (k+2) far'
   else some (.inr far)
def a7G (d:Nat) (m:Nat):Int:=if (d:Int) > m then -(m:Int)+((d:Int)-m).tmod 2 else -(d:Int)
def a2d (d:Nat) (n:Nat):Int:=if (d:Int) > n then (n:Int)-((d:Int)-n).tmod 2 else d
def a9v (n m:Nat):Bool:=decide (((n:Int)-m).tmod 2≠0)
def c6h (a b:List Int):Nat->Nat->List Int->List Int->Option (Int×Int)
 | 0,_,_,_=>none
 | f+1,d,fwd,bwd=>match a4s a b (a9v a.length b.length) bwd (a2d d a.length) (a.length+b.length+3) (a7G d b.length) fwd with
   | none=>none
   | some (.inl p)=>some p
   | some (.inr fwd')=>match a4s a.reverse b.reverse (!a9v a.length b.length) fwd' (a2d d a.length) (a.length+b.length+3) (a7G d b.length) bwd with
     | none=>none
     | some (.inl p)=>some (a.length-p.1,b.length-p.2)
     | some (.inr bwd')=>c6h a b f (d+1) fwd' bwd'
section
variable {a b:List Int}
theorem b4B {far:List Int} {m:Nat} {k k' x:Int} (hl:(k+m+1).toNat<far.length) (h0:0<=k+m+1) (h1:0<=k'+m+1):rch m (far.set (k+m+1).toNat x) k'=if k'=k then x else rch m far k':=by
 unfold rch;by_cases h:k'=k
 ·subst h;simp [List.getD,hl]
 ·rw [if_neg h];have:(k+m+1).toNat≠(k'+m+1).toNat:=by omega
  simp [List.getD,List.getElem?_set_ne this]
def b6E (a b:List Int) (d:Nat) (k:Int) (far:List Int):Prop:=
 far.length=a.length+b.length+3/\∀ k',-(b.length:Int)-1<=k'->k'<=a.length+1->a9Z a b (if (k'-d) % 2=0/\k'<k then d+1 else d) k' (rch b.length far k')
def a6n (a b:List Int) (e:Nat) (far:List Int):Prop:=
 far.length=a.length+b.length+3/\∀ k',-(b.length:Int)-1<=k'->k'<=a.length+1->a9Z a b e k' (rch b.length far k')
theorem c1A (n:Int) (h:0<=n):n.tmod 2=n % 2:=by rw [Int.tmod_eq_emod_of_nonneg h]
theorem a3T (d m:Nat):-(d:Int)<=a7G d m/\-(m:Int)<=a7G d m/\(a7G d m-d) % 2=0/\(∀ k:Int,(k-d) % 2=0->-(d:Int)<=k->-(m:Int)<=k->a7G d m<=k)/\a7G d m<=1:=by
 unfold a7G;split
 ·rw [c1A _ (by omega)];refine⟨by omega,by omega,by omega,fun k h1 h2 h3=>by omega,by omega⟩
 ·refine⟨by omega,by omega,by omega,fun k h1 h2 h3=>by omega,by omega⟩
theorem a3Z (d n:Nat):a2d d n<=d/\a2d d n<=n/\(a2d d n-d) % 2=0/\(∀ k:Int,(k-d) % 2=0->k<=d->k<=n->k<=a2d d n):=by
 unfold a2d;split
 ·rw [c1A _ (by omega)];refine⟨by omega,by omega,by omega,fun k h1 h2 h3=>by omega⟩
 ·refine⟨by omega,by omega,by omega,fun k h1 h2 h3=>by omega⟩
theorem b0X {e:Nat} {k u v:Int} (h:a9Z a b e k u) (g:a9Z a b e k v):u=v:=by
 rcases h with⟨h1,h2⟩|⟨h1,h2⟩
 ·rcases g with⟨g1,g2⟩|⟨g1,g2⟩
  ·omega
  ·exact absurd g1 (h2 v)
 ·rcases g with⟨g1,g2⟩|⟨g1,g2⟩
  ·exact absurd h1 (g2 u)
  ·have:=h2 v g1;have:=g2 u h1;omega
theorem c38 {d:Nat} {k:Int} {far:List Int} (h:b6E a b d k far) (hp:(k-d) % 2=0) (h1:-(d:Int)<=k/\k<=d) (h2:-(b.length:Int)<=k/\k<=a.length) :
  ∃ x far',c2o a b far k=some (x,far')/\a9Z a b (d+1) k x/\0<=x/\b6E a b d (k+2) far'/\rch b.length far' k=x:=by
 obtain⟨hl,ht⟩:=h;have hu:=ht (k-1) (by omega) (by omega);rw [if_neg (by omega)] at hu;have hv:=ht (k+1) (by omega) (by omega);rw [if_neg (by omega)] at hv;obtain⟨s0,s1,_,_,_⟩:=b5n h2 h1 hu hv;have hx:=c8o h2 h1 hu hv;refine⟨_,_,if_pos ⟨s0,s1,h2.1,h2.2,hl⟩,hx,by omega,⟨by simpa using hl,fun k' g1 g2=>?_⟩,?_⟩
 ·rw [b4B (by omega) (by omega) (by omega)];by_cases e:k'=k
  ·subst e;rw [if_pos rfl,if_pos ⟨hp,by omega⟩];exact hx
  ·rw [if_neg e];have:=ht k' g1 g2;by_cases c:(k'-d) % 2=0/\k'<k
   ·rw [if_pos c] at this;rw [if_pos ⟨c.1,by omega⟩];exact this
   ·rw [if_neg c] at this;rw [if_neg (by omega)];exact this
 ·rw [b4B (by omega) (by omega) (by omega),if_pos rfl]
theorem a8C {d:Nat} {chk:Bool} {other:List Int}:∀ (f:Nat) (k:Int) (far:List Int),b6E a b d k far->(k-d) % 2=0->-(d:Int)<=k->-(b.length:Int)<=k->a2d d a.length-k+3<=f->k<=a2d d a.length+2->
  (∀ k':Int,(k'-d) % 2=0->a7G d b.length<=k'->k'<k->chk=true->¬((a.length:Int)<=rch b.length far k'+rch b.length other (a.length-b.length-k')))->
  (∃ x k',a4s a b chk other (a2d d a.length) f k far=some (.inl (x,x-k'))/\chk=true/\a9Z a b (d+1) k' x/\0<=x/\-(b.length:Int)<=k'/\k'<=a.length/\(a.length:Int)<=x+rch b.length other (a.length-b.length-k'))\/
  (∃ far',a4s a b chk other (a2d d a.length) f k far=some (.inr far')/\a6n a b (d+1) far'/\
   ∀ k':Int,(k'-d) % 2=0->a7G d b.length<=k'->k'<=a2d d a.length->chk=true->¬((a.length:Int)<=rch b.length far' k'+rch b.length other (a.length-b.length-k')))
 | 0,k,far,h,hp,h1,h2,hf,hf2,hno=>by omega
 | f+1,k,far,h,hp,h1,h2,hf,hf2,hno=>by
   obtain⟨g1,g2,g3,g4⟩:=a3Z d a.length;by_cases hk:k<=a2d d a.length
   ·obtain⟨x,far',e,hx,hx0,hm,hr⟩:=c38 h hp ⟨h1,by omega⟩ ⟨h2,by omega⟩
    have hstep:a4s a b chk other (a2d d a.length) (f+1) k far=if chk=true/\(a.length:Int)<=x+rch b.length other (a.length-b.length-k) then some (.inl (x,x-k)) else a4s a b chk other (a2d d a.length) f (k+2) far':=by
     rw [a4s,if_pos hk,e]
    by_cases hc:chk=true/\(a.length:Int)<=x+rch b.length other (a.length-b.length-k)
    ·rw [hstep,if_pos hc];exact .inl ⟨x,k,rfl,hc.1,hx,hx0,h2,by omega,hc.2⟩
    ·rw [hstep,if_neg hc];refine a8C f (k+2) far' hm (by omega) (by omega) (by omega) (by omega) (by omega) fun k' p1 p2 p3 p4=>?_
     rcases Int.lt_or_le k' k with q|q
     ·have hl:=h.1
      have hr':rch b.length far' k'=rch b.length far k':=by
       unfold c2o at e;split at e
       ·simp only [oSI,pMI] at e;obtain⟨_,rfl⟩:=e;have:=a3T d b.length;rw [b4B (by omega) (by omega) (by omega),if_neg (by omega)]
       ·cases e
      rw [hr'];exact hno k' p1 p2 q p4
     ·have:k'=k:=by omega
      subst this;rw [hr];exact fun hh=>hc ⟨p4,hh⟩
   ·have hstep:a4s a b chk other (a2d d a.length) (f+1) k far=some (.inr far):=by rw [a4s,if_neg hk]
    refine .inr ⟨far,hstep,⟨h.1,fun k' p1 p2=>?_⟩,fun k' p1 p2 p3 p4=>hno k' p1 p2 (by omega) p4⟩;have:=h.2 k' p1 p2;by_cases c:(k'-d) % 2=0/\k'<k
    ·rw [if_pos c] at this;exact this
    ·rw [if_neg c] at this;by_cases c1:(k'-d) % 2=0
     ·
      have hge:k<=k':=by omega
      have hout:(d:Int)<k'\/(a.length:Int)<k':=by
       rcases Int.lt_or_le (d:Int) k' with q|q
       ·exact .inl q
       ·rcases Int.lt_or_le (a.length:Int) k' with q2|q2
        ·exact .inr q2
        ·have:=g4 k' c1 q q2;omega
      have e1:=b0X this (a6S (a:=a) (b:=b) (by omega));rw [e1];exact a6S (by omega)
     ·exact b7n this c1
theorem a00 (l:List Int):l.reverse.length=l.length:=List.length_reverse
def b5g (a b:List Int) (x y:Nat):Int:=dst a.reverse b.reverse (a.length-x) (b.length-y)
theorem a6Q {x y:Nat} (hx:x<=a.length) (hy:y<=b.length):dst a b x y=(x:Int)+y-2*a3t (a.take x) (b.take y):=by rw [dst,c3p hx hy]
theorem a7M {x y:Nat} (hx:x<=a.length) (hy:y<=b.length):b5g a b x y=((a.length:Int)-x)+(b.length-y)-2*a3t (a.drop x) (b.drop y):=by
 unfold b5g;rw [a6Q (by simp) (by simp),List.take_reverse,List.take_reverse,a73];have e1:a.length-(a.length-x)=x:=by omega
 have e2:b.length-(b.length-y)=y:=by omega
 rw [e1,e2];omega
theorem b3X {x y:Nat} (hx:x<=a.length) (hy:y<=b.length):dst a b a.length b.length<=dst a b x y+b5g a b x y:=by
 rw [a6Q (nLR _) (nLR _),a6Q hx hy,a7M hx hy];have:=a5G (a.take x) (a.drop x) (b.take y) (b.drop y);simp only [List.take_append_drop,List.take_length] at this ⊢;omega
theorem a58:∀ (n i k:Nat),i+k<=n->i<=a.length->k<=b.length->∀ t:Nat,(t:Int)<=dst a b i k->∃ x y,x<=i/\y<=k/\dst a b x y=t/\a3t ((a.take i).drop x) ((b.take k).drop y)+a2M a b x y≥a2M a b i k
 | n,0,k,hn,hi,hk,t,ht=>by
   rw [c8i] at ht;exact⟨0,t,nLR _,by omega,c8i _,by simp [a9O]⟩
 | n,i+1,0,hn,hi,hk,t,ht=>by
   rw [c0P] at ht;exact⟨t,0,by omega,nLR _,c0P _,by simp [a5H]⟩
 | 0,i+1,k+1,hn,_,_,_,_=>by omega
 | n+1,i+1,k+1,hn,hi,hk,t,ht=>by
   rcases Int.lt_or_eq_of_le ht with hlt|heq
   ·by_cases h:a.getD i 0=b.getD k 0
    ·rw [c6W h] at ht hlt;obtain⟨x,y,hx,hy,h1,h2⟩:=a58 n i k (by omega) (by omega) (by omega) t ht;refine⟨x,y,by omega,by omega,h1,?_⟩;rw [a4p h,a1z (by omega),a1z (by omega),List.drop_append_of_le_length (by simp;omega),List.drop_append_of_le_length (by simp;omega),h,a9e];simp only [lCo,List.length_nil];omega
    ·rcases c5T h with e|e
     ·rw [e] at hlt;obtain⟨x,y,hx,hy,h1,h2⟩:=a58 n i (k+1) (by omega) (by omega) hk t (by omega);refine⟨x,y,by omega,hy,h1,?_⟩;have e2:a2M a b (i+1) (k+1)=a2M a b i (k+1):=by simp only [dst] at e;omega
      rw [e2,a1z (l:=a) (by omega),List.drop_append_of_le_length (by simp;omega)];have:=a5G ((a.take i).drop x) [a.getD i 0] ((b.take (k+1)).drop y) [];simp only [List.append_nil,c0D] at this;omega
     ·rw [e] at hlt;obtain⟨x,y,hx,hy,h1,h2⟩:=a58 n (i+1) k (by omega) hi (by omega) t (by omega);refine⟨x,y,hx,by omega,h1,?_⟩;have e2:a2M a b (i+1) (k+1)=a2M a b (i+1) k:=by simp only [dst] at e;omega
      rw [e2,a1z (l:=b) (by omega),List.drop_append_of_le_length (l₁:=b.take k) (by simp;omega)];have:=a5G ((a.take (i+1)).drop x) [] ((b.take k).drop y) [b.getD k 0];simp only [List.append_nil,b1C] at this;omega
   ·refine⟨i+1,k+1,nLR _,nLR _,heq.symm,?_⟩;omega
theorem d1Z (t:Nat) (ht:(t:Int)<=dst a b a.length b.length):∃ x y,x<=a.length/\y<=b.length/\dst a b x y=t/\dst a b x y+b5g a b x y=dst a b a.length b.length:=by
 obtain⟨x,y,hx,hy,h1,h2⟩:=a58 _ a.length b.length (nLR _) (nLR _) (nLR _) t ht;refine⟨x,y,hx,hy,h1,?_⟩;have:=b3X hx hy;rw [a7M hx hy];rw [a7M hx hy] at this;simp only [List.take_length] at h2;simp only [dst] at this ⊢;omega
theorem b89 {e1 e2:Nat} {k x x':Int} (h1:a9Z a b e1 k x) (h2:a9Z a.reverse b.reverse e2 (a.length-b.length-k) x') (hx:0<=x) (hm:(a.length:Int)<=x+x') :
  ∃ p q:Nat,(p:Int)=x/\(q:Int)=x-k/\p<=a.length/\q<=b.length/\dst a b p q<e1/\b5g a b p q<e2:=by
 obtain⟨g1,g2,g3,g4,g5⟩:=b0G h1 hx;have hb:=b0G h2 (by omega);have hb2:=c68 (y:=a.length-x) (by omega) hb (by omega) (by omega);obtain⟨_,_,_,_,q5⟩:=hb2;refine⟨x.toNat,(x-k).toNat,by omega,by omega,by omega,by omega,g5,?_⟩;unfold b5g;have e3:((a.length:Int)-x).toNat=a.length-x.toNat:=by omega
 have e4:((a.length:Int)-x-(a.length-b.length-k)).toNat=b.length-(x-k).toNat:=by omega
 rw [e3,e4] at q5;exact q5
theorem c16 {d e2:Nat} {far other:List Int} (hd:a6n a b (d+1) far) (ho:a6n a.reverse b.reverse e2 other)
  (hno:∀ k':Int,(k'-d) % 2=0->a7G d b.length<=k'->k'<=a2d d a.length->¬((a.length:Int)<=rch b.length far k'+rch b.length other (a.length-b.length-k'))) (he:e2=d\/e2=d+1) :
  dst a b a.length b.length≠d+e2-1:=by
 intro h;have hn:=a9H (a:=a) (b:=b) a.length b.length;obtain⟨x,y,hx,hy,h1,h2⟩:=d1Z (a:=a) (b:=b) d (by omega);have hab:=b9W (a:=a) (b:=b) x y;have hpar:((x:Int)-y-d) % 2=0:=by simp only [dst] at h1;omega
 have hlo:=(a3T d b.length).2.2.2.1 (x-y) hpar (by omega) (by omega);have hhi:=(a3Z d a.length).2.2.2 (x-y) hpar (by omega) (by omega);refine hno (x-y) hpar hlo hhi ?_
 have t1:=a8G (hd.2 (x-y) (by omega) (by omega)) (x:=x) ⟨by omega,by omega,by omega,by omega,by
  have e1:(x:Int).toNat=x:=by omega
  have e2:((x:Int)-(x-y)).toNat=y:=by omega
  rw [e1,e2];omega⟩
 have ho2:=ho.2 (a.length-b.length-(x-y)) (by simp only [a00];omega) (by simp only [a00];omega);simp only [a00] at ho2
 have t2:=a8G ho2 (x:=a.length-x) ⟨by omega,by omega,by simp only [a00];omega,by simp only [a00];omega,by
  have e3:((a.length:Int)-x).toNat=a.length-x:=by omega
  have e4:((a.length:Int)-x-(a.length-b.length-(x-y))).toNat=b.length-y:=by omega
  rw [e3,e4];have:b5g a b x y=dst a.reverse b.reverse (a.length-x) (b.length-y):=rfl
  omega⟩
 omega
end
end
end Go.Proofs.YthpjjjnbkfnghaaGreatDoor
