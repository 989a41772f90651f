/-
  Part 6 of what the proof rests on: values that are told, code that is walked, what comes out.
-/
import Derived.Test.YthpjjjnbkfnghaaGreatDoorMk5
import Derived.Laws.CopyRow
set_option maxRecDepth 100000
set_option linter.all false
namespace Go.Proofs.YthpjjjnbkfnghaaGreatDoor
section
open Go
def obS (v k n:Nat):AV:=.ob fun η u=>∃ g cap,η v=some (some g,cap)/\u=.slice (some ⟨g,k,none⟩) (n-k) (cap-k)
def cpC (cc:Nat->Nat->AV) (k m:Nat) (dd:Nat->Nat->AV):Nat->Nat->AV:=fun i j=>if k<=i/\i<k+m then dd (i-k) j else cc i j
section
variable {P:Program} {st:AS} {o:Oper} {K:AS->Prop}
theorem c6F {t e:TypeId} {x y:Operand} {p v n:Nat} {k:Int} (ho:o.op=.slice t x (some y) none none) (ht:P.underlying t=some (.slice e)) (hs:P.cellsOf e=1) (hx:st.ev x=.ow p v n) (hy:st.ev y=.val (.int .i64 k)) (h0:0<=k) (hn:k<n) (hd:a0S st.sz o.dst)
  (hK:K ⟨a2k st.fr o.dst (obS v k.toNat n),st.hp,st.sz,st.top,st.nx,st.df⟩):OpM P o st K:=by
 intro fr' hl;have ex:=hl x (by rw [ho];simp [Op.operands]);have ey:=hl y (by rw [ho];simp [Op.operands]);refine a7n (z:=obS v k.toNat n) hd (fun c η a w hsr=>?_) ⟨_,rfl,rfl,hK⟩;have hev:∀ x,Rep w η (a05 c η st.hp) (a9d fr' x) (a.eval x):=a10 hsr.slots;have hxv:=hev x;have hyv:=hev y;rw [ex,show a9d st.fr x=_ from hx] at hxv;rw [ey,show a9d st.fr y=_ from hy] at hyv;obtain⟨g,cap,hη,hv⟩:=hxv;have hyv:a.eval y=.int .i64 k:=hyv;cases g with
 | none=>obtain⟨hv,_⟩:=hv;omega
 | some g=>
   obtain⟨hv,hcap⟩:=hv;refine⟨.slice (some ⟨g,k.toNat,none⟩) (n-k.toNat) (cap-k.toNat),?_,η,fun _ _ h=>h,g,cap,hη,rfl⟩;have hb:=a39 (P:=P) (w:=w) (η:=η) (L:=fun _=>False) (isS:=true) (len:=n) (cap:=cap) (lo:=some (.val (.int .i64 k))) (hi:=none) (vlo:=some (.int .i64 k)) (vhi:=none) (a:=k) (b:=n) rfl rfl h0 (by omega) (by omega) (.some rfl) .none;unfold execOp;rw [ho];simp [Instr.sliceAt,run_underlying ht,Instr.slice,hb,a0U (P:=P) (w:=w) hs Nat.one_pos,hv,hyv];rw [if_neg (by omega)];simp [a3T]
theorem c3C {t t' e:TypeId} {x y:Operand} {p v n k m:Nat} {cc dd:Nat->Nat->AV} (ho:o.op=.call ⟨.builtin .copy,⟨[x,y]⟩,⟨[t,t']⟩⟩) (ht:P.underlying t=some (.slice e)) (hs:(P.info? e).map (·.size)=some 1) (hrow:st.hp p=.sl v e 1 n cc) (hd:a0S st.sz o.dst)
  (h:∀ (c:Ctx) (η:Env) (a:Act) (w:World),SR c st η a w->∃ g cap dl dc,η v=some (some g,cap)/\a.eval x=.slice (some ⟨g,k,none⟩) dl dc/\k+dl<=n/\∃ ad sl sc,a.eval y=.slice (some ad) sl sc/\m=Nat.min sl dl/\
   ∀ i,i<m->∃ u,w.cell? (ad.add i)=some u/\u.oneCell'=true/\Rep w η (a05 c η st.hp) (dd i 0) u)
  (hK:K ⟨a2k st.fr o.dst (.val (.int .i64 m)),a0X st.hp p (.sl v e 1 n (cpC cc k m dd)),st.sz,st.top,st.nx,st.df⟩):OpW P o st K:=by
 intro c η a w next Q hsr hnext
 obtain⟨g,cap,dl,dc,hη,hxv,hkd,ad,sl,sc,hyv,hm,hcell⟩:=h c η a w hsr;have hr:=hsr.hs.rows p;rw [hrow] at hr;obtain⟨cur,hh,hsz,hnc,hcm,hc⟩:=hr _ _ hη;have hmd:m<=dl:=by rw [hm];exact Nat.min_le_right _ _
 obtain⟨cs,hcl,hcs⟩:∃ cs:List Value,cs.length=m/\∀ i,i<m->w.cell? (ad.add i)=cs[i]?/\∃ u,cs[i]?=some u/\u.oneCell'=true/\Rep w η (a05 c η st.hp) (dd i 0) u:=by
  refine⟨(List.range m).map fun i=>(w.cell? (ad.add i)).getD undef,by simp,fun i hi=>?_⟩;obtain⟨u,hu,h1,h2⟩:=hcell i hi;have:((List.range m).map fun i=>(w.cell? (ad.add i)).getD undef)[i]?=some u:=by simp [hi,hu]
  rw [this,hu];exact⟨rfl,u,rfl,h1,h2⟩
 have hblk:(st.hp p).blk η=some g:=by rw [hrow];simp [Row.blk,Row.ver,hη]
 have hf:=a6p w g (cur.toList.take k++cs++cur.toList.drop (k+cs.length)).toArray;have hO:∀ k,k<w.heap.size->k=g->a05 c η st.hp k:=fun k _ e=>.inr ⟨p,by rw [e];exact hblk⟩
 have hcur:cur.size=cap:=by rw [hsz,Nat.mul_one]
 have hrun:=run_copy_row P w t t' o.type e g k dl dc ad sl sc cur e cs ht hs hh (by rw [hcl,hm]) (fun j u hj=>by
   have hj':j<m:=by rw [<-hcl];exact (List.getElem?_eq_some_iff.1 hj).1
   rw [(hcs j hj').1,hj]) (by rw [hcl];omega) (fun u hu=>by
   obtain⟨j,hj,rfl⟩:=List.getElem_of_mem hu;obtain⟨_,u,h1,h2,_⟩:=hcs j (by omega);rw [List.getElem?_eq_getElem hj] at h1;rw [oJI h1]
   exact h2)
 rw [hcl] at hrun
 have hwr:=hsr.hs.write (row:=.sl v e 1 n (cpC cc k m dd)) hblk (by rw [hrow];rfl) hf (by
  intro g' cap' he;rw [hη] at he;simp only [oSI,pMI] at he;obtain⟨rfl,rfl⟩:=he;refine⟨_,setRow_heap w g cur _ e (0,0) hh,by simp [hcl];omega,hnc,hcm,fun i hi j hj=>?_⟩;obtain rfl:j=0:=by omega
  rw [b0h cur cs k _ (by omega)];unfold cpC;by_cases hki:k<=i/\i<k+m
  ·rw [if_pos (by omega),if_pos hki];obtain⟨_,u,h1,h2,h3⟩:=hcs (i-k) (by omega);exact⟨u,by rw [show i*1+0-k=i-k by omega];exact h1,h2,Rep.keep hf hO (fun _ _ h=>h) _ _ _ _ (Env.le_refl _) h3⟩
  ·rw [if_neg (by omega),if_neg hki];obtain⟨u,hu,h1,hrep⟩:=hc i hi 0 hj
   exact⟨u,hu,h1,Rep.keep hf hO (fun _ _ h=>h) _ _ _ _ (Env.le_refl _) hrep⟩)
 unfold Oper.wp
 have:(execOp a.eval o).run P w=.ok (.value (.int .i64 m)) (w.setRow g (cur.toList.take k++cs++cur.toList.drop (k+cs.length)).toArray):=by
  unfold execOp;rw [ho];simp only [resolve,invoke,builtin,hxv,hyv,List.map_cons,List.map_nil];simp [hxv,hyv,hrun,goInt,hcl]
 rw [this];refine hnext _ η _ _ (hsr.put (z:=.val (.int .i64 m)) hd hwr.1 (fun q hq=>?_) hwr.2 rfl) hK;by_cases e:q=p
 ·subst e;rw [hsr.dead q hq] at hrow;cases hrow
 ·rw [a0d _ _ e];exact hsr.dead q hq
theorem d1d {t t' e:TypeId} {x y:Operand} {p q v n k l:Nat} {cc:Nat->Nat->AV} (ho:o.op=.call ⟨.builtin .copy,⟨[x,y]⟩,⟨[t,t']⟩⟩) (ht:P.underlying t=some (.slice e)) (hs:(P.info? e).map (·.size)=some 1) (hx:st.ev x=obS v k n) (hy:st.ev y=.ow q v l) (hl:l<=n) (hk:k<=n)
  (hrow:st.hp p=.sl v e 1 n cc) (hd:a0S st.sz o.dst)
  (hK:K ⟨a2k st.fr o.dst (.val (.int .i64 (Nat.min l (n-k):Nat))),a0X st.hp p (.sl v e 1 n (cpC cc k (Nat.min l (n-k)) cc)),st.sz,st.top,st.nx,st.df⟩):OpM P o st K:=by
 intro fr' hlk;have ex:=hlk x (by rw [ho];simp [Op.operands,Call.operands]);have ey:=hlk y (by rw [ho];simp [Op.operands,Call.operands]);refine c3C (st:=⟨fr',st.hp,st.sz,st.top,st.nx,st.df⟩) ho ht hs hrow hd (k:=k) (m:=Nat.min l (n-k)) (dd:=cc) (fun c η a w hsr=>?_) ⟨_,rfl,rfl,hK⟩;have hev:∀ x,Rep w η (a05 c η st.hp) (a9d fr' x) (a.eval x):=a10 hsr.slots;have hxv:=hev x;have hyv:=hev y;rw [ex,show a9d st.fr x=_ from hx] at hxv;rw [ey,show a9d st.fr y=_ from hy] at hyv;obtain⟨η0,hle,g,cap,hη,hxv⟩:=hxv;have hη:=hle _ _ hη;obtain⟨g',cap',hη',hyv⟩:=hyv;rw [hη] at hη';simp only [oSI,pMI] at hη';obtain⟨rfl,rfl⟩:=hη';obtain⟨hyv,hlc⟩:=hyv;have hr:=hsr.hs.rows p;rw [show (⟨fr',st.hp,st.sz,st.top,st.nx,st.df⟩:AS).hp p=_ from hrow] at hr;obtain⟨cur,hh,hsz,hnc,hcm,hc⟩:=hr _ _ hη;have hmin:Nat.min l (n-k)<=n:=Nat.le_trans (Nat.min_le_left _ _) hl;refine⟨g,cap,n-k,cap-k,hη,hxv,by omega,⟨g,0,none⟩,l,cap,hyv,rfl,fun i hi=>?_⟩;obtain⟨u,hu,h1,h2⟩:=hc i (by omega) 0 Nat.one_pos;exact⟨u,by rw [a3T,a06 hh,<-hu];congr 1,h1,h2⟩
theorem d0J {t t' e:TypeId} {x y:Operand} {p v n l:Nat} {cc dd:Nat->Nat->AV} (ho:o.op=.call ⟨.builtin .copy,⟨[x,y]⟩,⟨[t,t']⟩⟩) (ht:P.underlying t=some (.slice e)) (hs:(P.info? e).map (·.size)=some 1) (hx:st.ev x=.ow p v n) (hy:st.ev y=.sn l 1 dd) (hn:0<n) (hl:0<l)
  (hrow:st.hp p=.sl v e 1 n cc) (hd:a0S st.sz o.dst)
  (hK:K ⟨a2k st.fr o.dst (.val (.int .i64 (Nat.min l n:Nat))),a0X st.hp p (.sl v e 1 n (cpC cc 0 (Nat.min l n) dd)),st.sz,st.top,st.nx,st.df⟩):OpW P o st K:=by
 refine c3C ho ht hs hrow hd (k:=0) (m:=Nat.min l n) (dd:=dd) (fun c η a w hsr=>?_) hK;have hxv:=a10 hsr.slots x;have hyv:=a10 hsr.slots y;rw [show a9d st.fr x=_ from hx] at hxv;rw [show a9d st.fr y=_ from hy] at hyv;obtain⟨g,cap,hη,hxv⟩:=hxv;obtain⟨ad,cap',hyv,_,hc⟩:=hyv;obtain⟨b,off,rfl,_,hc⟩:=hc hl Nat.one_pos;cases g with
 | none=>obtain⟨h,_⟩:=hxv;omega
 | some g=>
   obtain⟨hxv,hcap⟩:=hxv;refine⟨g,cap,n,cap,hη,hxv,by omega,_,l,cap',hyv,rfl,fun i hi=>?_⟩;have:Nat.min l n<=l:=Nat.min_le_left _ _;obtain⟨u,hu,h1,h2⟩:=hc i (by omega) 0 Nat.one_pos;exact⟨u,by rw [a3T,<-hu];congr 2;omega,h1,h2.up⟩
theorem c6L {t t' e:TypeId} {x y:Operand} (ho:o.op=.call ⟨.builtin .copy,⟨[x,y]⟩,⟨[t,t']⟩⟩) (ht:P.underlying t=some (.slice e)) (hs:(P.info? e).map (·.size)=some 1) (hd:a0S st.sz o.dst)
  (h:∀ (c:Ctx) (η:Env) (a:Act) (w:World),SR c st η a w->∃ d dl dc s sl sc,a.eval x=.slice d dl dc/\a.eval y=.slice s sl sc/\Nat.min sl dl=0)
  (hK:K ⟨a2k st.fr o.dst (.val (.int .i64 0)),st.hp,st.sz,st.top,st.nx,st.df⟩):OpW P o st K:=by
 refine a7n hd (fun c η a w hsr=>?_) hK;obtain⟨d,dl,dc,s,sl,sc,hxv,hyv,h0⟩:=h c η a w hsr;refine⟨.int .i64 0,?_,rfl⟩;have hrun:=run_copy_none (P:=P) w t t' o.type e d s dl dc sl sc ht hs h0;unfold execOp;rw [ho];simp [resolve,invoke,builtin,hxv,hyv,hrun,goInt]
theorem c0P {t t' e:TypeId} {x y:Operand} {p v l:Nat} {dd:Nat->Nat->AV} (ho:o.op=.call ⟨.builtin .copy,⟨[x,y]⟩,⟨[t,t']⟩⟩) (ht:P.underlying t=some (.slice e)) (hs:(P.info? e).map (·.size)=some 1) (hx:st.ev x=.ow p v 0) (hy:st.ev y=.sn l 1 dd)
  (hd:a0S st.sz o.dst) (hK:K ⟨a2k st.fr o.dst (.val (.int .i64 0)),st.hp,st.sz,st.top,st.nx,st.df⟩):OpW P o st K:=by
 refine c6L ho ht hs hd (fun c η a w hsr=>?_) hK;have hxv:=a10 hsr.slots x;have hyv:=a10 hsr.slots y;rw [show a9d st.fr x=_ from hx] at hxv;rw [show a9d st.fr y=_ from hy] at hyv;obtain⟨g,cap,hη,hxv⟩:=hxv;obtain⟨ad,cap',hyv,_,hc⟩:=hyv;cases g with
 | none=>
   obtain⟨_,d,hxv⟩:=hxv;exact⟨_,_,_,_,_,_,hxv,hyv,Nat.min_zero _⟩
 | some g=>
   obtain⟨hxv,hcap⟩:=hxv;exact⟨_,_,_,_,_,_,hxv,hyv,Nat.min_zero _⟩
end
end
set_option maxHeartbeats 2000000
section
open Go
attribute [local irreducible] AW a0k a1k a0c
def kU6:Kd Int:=⟨fun n=>.val (.int .u64 n),AV.int,fun _=>rfl⟩
@[go_sem] theorem d8g (n:Int):kU6.ok (.val (.int .u64 n))=True:=eq_true (kU6.ok_enc n)
@[go_sem] theorem d5O (n:Int):kU6.dec (.val (.int .u64 n))=n:=rfl
@[go_sem] theorem d6A (n:Int):kU6.enc n=.val (.int .u64 n):=rfl
def b6c:a0r:=a0r.f2 kU6 kU6 (fun a b=>a=1/\0<=b/\b<=100000000) (fun _ b=>tu2 (kU6.enc 0) (kU6.enc b))
theorem d58:a0b Tryz.prog 177 b6c:=by
 refine a0b.raw Tryz.func177 rfl (by decide) ?_;intro args hp w L vs hL ha
 match args,hp with
 | [x,y],hp=>
   obtain⟨h1,h2,h3,h4,h5⟩:=hp;cases ha with
   | cons hx hr=>cases hr with
     | cons hy hr=>cases hr with
       | nil=>
         have ex:=b1e h1 hx;have ey:=b1e h2 hy;obtain rfl:=ex;obtain rfl:=ey;obtain⟨b,hb⟩:∃ b:Nat,kU6.dec y=(b:Int):=⟨(kU6.dec y).toNat,by omega⟩;rw [h3,hb];refine (Calls.mono (Tryz.bits_Mul 1 b (by omega) (by omega) w) ?_);rintro e w' ⟨rfl,rfl⟩;refine⟨_,rfl,Fr.refl _ _,?_⟩;show Rep w' a1p L (tu2 (kU6.enc 0) (kU6.enc (kU6.dec y))) _;rw [hb,show 1*b / 18446744073709551616=0 by omega,show 1*b % 18446744073709551616=b by omega];refine⟨_,rfl,rfl,fun j hj=>?_⟩
         match j,hj with
         | 0,_=>exact⟨_,rfl,rfl⟩
         | 1,_=>exact⟨_,rfl,rfl⟩
def b3e (n k:Nat) (a:Int):List Int:=List.replicate k a++List.replicate (n-k) 0
theorem b0b {n k i:Nat} (a:Int) (hk:k<=n) (hi:i<n):(b3e n k a).getD i 0=if i<k then a else 0:=by
 unfold b3e;by_cases h:i<k
 ·rw [if_pos h];simp [List.getD,List.getElem?_append,h]
 ·rw [if_neg h];simp [List.getD,List.getElem?_append,h,show i-k<n-k by omega]
def d4c (n k:Nat) (a:Int):Row:=.sl 0 3 1 n fun i=>eI.enc ((b3e n k a).getD i 0)
theorem c3b {n k m:Nat} {a:Int} {cc dd:Nat->Nat->AV} (hk:k+m<=n) (hc:∀ i,i<n->cc i 0=.val (.int .i64 (if i<k then a else 0))) (hd:∀ i,i<m->dd i 0=.val (.int .i64 a)):a0c (.sl 0 3 1 n (cpC cc k m dd)) (d4c n (k+m) a):=by
 refine a0c.sl rfl fun i hi j hj=>a0k.of_eq ?_
 obtain rfl:j=0:=by omega
 show _=AV.val (.int .i64 ((b3e n (k+m) a).getD i 0));rw [b0b a hk hi];unfold cpC;by_cases h:k<=i/\i<k+m
 ·rw [if_pos h,if_pos h.2,hd _ (by omega)]
 ·rw [if_neg h,hc i hi];by_cases h2:i<k
  ·rw [if_pos h2,if_pos (by omega)]
  ·rw [if_neg h2,if_neg (by omega)]
theorem b3p:(Tryz.prog.info? 3).map (·.size)=some 1:=by kernel_rfl
def c0x:a0r:=a0r.f2 (kL eI) kI (fun x n=>x.length=1/\0<=n/\n<=100000000) (fun x n=>sL eI (List.replicate n.toNat (x.getD 0 0)))
theorem d2Q:a0b Tryz.prog 130 c0x:=by
 refine a0b.f2 Tryz.func130 rfl (by decide) Tryz.results130 Tryz.ntmps130 (by decide) fun x n ⟨hx,hn0,hn1⟩=>?_
 have hΓ:GOK Tryz.prog (gam [(177,b6c)]):=(.cons d58 .nil);obtain⟨n,rfl⟩:∃ k:Nat,n=k:=⟨n.toNat,by omega⟩;have hw1:IntKind.u64.wrap (n:Int)=n:=by rw [IntKind.wrap_u64];omega
 have hw2:IntKind.u64.wrap 1=1:=by decide
 refine awL hΓ [6,99999,200009] rfl ?_;simp only [go_sem,b6c,hx,hw1,hw2];refine⟨fun h=>absurd h (by omega),fun _=>⟨⟨hn0,hn1⟩,fun h=>?_,fun h=>?_⟩⟩
 ·exact absurd h (by omega)
 refine⟨by omega,by omega,?_⟩;obtain⟨a,rfl⟩:∃ a,x=[a]:=List.length_eq_one_iff.1 hx;refine AW.cut ⟨[(0,sL eI [a]),(7,.ow 0 0 n)],[(0,d4c n 0 a)],48,1,1,[]⟩ ?_ ?_
 ·simp only [go_sem,b6c];refine a0c.sl rfl fun i hi j hj=>a0k.of_eq ?_
  obtain rfl:j=0:=by omega
  show _=AV.val (.int .i64 ((b3e n 0 a).getD i 0));rw [b0b a (nZL _) hi];rfl
 refine AW.seqTo (fun _:Unit=>Sh.st ⟨[(7,.ow 0 0 n),(8,.val (.int .i64 (min 1 n:Nat)))],[(0,d4c n (min 1 n) a)],48,1,1,[]⟩) ?_ fun _=>?_
 ·refine AW.regionO hΓ [false,false,true] ?_;simp only [go_sem,b6c];rcases Nat.eq_zero_or_pos n with rfl|hn
  ·refine c0P rfl Tryz.underlying63 b3p rfl rfl (by decide:33<48) ?_;simp only [go_sem,b6c]
   exact⟨(),a17 (by
    simp only [go_sem,b6c]
    exact⟨rfl,rlR⟩)⟩
  ·refine d0J rfl Tryz.underlying63 b3p rfl rfl hn (by simp) rfl (by decide:33<48) ?_;have e:Nat.min [a].length n=1:=Nat.min_eq_left hn;have e2:min 1 n=1:=Nat.min_eq_left hn;rw [e,e2];simp only [go_sem,b6c]
   exact⟨(),a17 (by
    simp only [go_sem,b6c]
    exact c3b (k:=0) (m:=1) (by omega) (fun i hi=>by rw [b0b a (nZL _) hi];rfl) (fun i hi=>by
     obtain rfl:i=0:=by omega
     rfl))⟩
 refine awL hΓ [200009] rfl ?_;simp only [go_sem,b6c];refine AW.round (α:={ k:Nat // k<=n/\(0<n->0<k) }) (fun k=>⟨[(7,.ow 0 0 n),(8,.val (.int .i64 k.1))],[(0,d4c n k.1 a)],48,1,1,[]⟩) (fun k=>n-k.1) ⟨min 1 n,by omega,by omega⟩ ?_ ?_
 ·simp only [go_sem,b6c];exact rlR
 ·rintro⟨k,hk,hk0⟩;refine awL hΓ [99999,200009] rfl ?_;simp only [go_sem,b6c];refine⟨fun hlt=>?_,fun hge=>?_⟩
  ·refine AW.drawZ hΓ mixed 3 [4,5,6] [6] [] (by kernel_rfl) ?_;simp only [go_sem,b6c];refine⟨by omega,c6F (n:=n) (k:=k) (by rfl) Tryz.underlying63 cells3 (by rfl) (by rfl) (by omega) (by omega) (by exact (by decide:41<48)) ?_⟩;simp only [go_sem,b6c];refine d1d (k:=k) (l:=k) (n:=n) (p:=0) (v:=0) (q:=0) (by rfl) Tryz.underlying63 b3p (by rfl) (by rfl) hk hk (by rfl) (by exact (by decide:45<48)) ?_;simp only [go_sem,b6c];have hm:k.min (n-k)<=k:=Nat.min_le_left _ _;have hm2:k.min (n-k)<=n-k:=Nat.min_le_right _ _
   have hm3:0<k.min (n-k):=by
    rcases Nat.le_total k (n-k) with h|h
    ·rw [show k.min (n-k)=k from Nat.min_eq_left h];omega
    ·rw [show k.min (n-k)=n-k from Nat.min_eq_right h];omega
   refine⟨by omega,⟨k+k.min (n-k),by omega,by omega⟩,⟨by dsimp only;omega,c3b (by omega) (fun i hi=>?_) (fun i hi=>?_)⟩,by dsimp only;omega⟩
   ·show AV.val (.int .i64 ((b3e n k a).getD i 0))=_;rw [b0b a hk hi]
   ·show AV.val (.int .i64 ((b3e n k a).getD i 0))=_;rw [b0b a hk (by omega),if_pos (by omega)]
  ·obtain rfl:k=n:=by omega
   have e:b3e k k a=List.replicate k a:=by simp [b3e]
   simp only [d4c,e];exact⟨⟨trivial,nLR _,fun i _ j _=>rfl⟩,a4p (E:=eI) rfl rfl (by simp)⟩
def a8o:a0r:=a0r.f2 (kL ePt) kI (fun d _=>d.length<100000000/\(∀ p∈d,b8f p)/\a7z d<=90000000000) (fun d n=>tu2 (kS.enc (b4h d n).1) (kI.enc (b4h d n).2))
theorem d3T:a0b Tryz.prog 76 a8o:=by
 refine a0b.f2 Tryz.func76 rfl (by decide) Tryz.results76 Tryz.ntmps76 (by decide) fun d n ⟨hd,hp,hw⟩=>?_
 have hΓ:GOK Tryz.prog (gam [(125,a03),(128,a4i),(78,a08),(130,c0x),(129,b3K)]):=(.cons b2P (.cons b73 (.cons b3c (.cons d2Q (.cons c81 .nil)))));have hcl:=a5B d;unfold b4h;by_cases hr:a3g d=false
 ·rw [if_pos hr];refine awZ hΓ rfl ?_;simp only [go_sem,a03,a4i,a08,c0x,b3K,hr];exact⟨hd,hp⟩
 have hr':a3g d=true:=by simpa using hr
 rw [if_neg hr];by_cases hs:b0E n=false
 ·rw [if_pos hs];refine awZ hΓ rfl ?_;simp only [go_sem,a03,a4i,a08,c0x,b3K,hr',hs];exact⟨hd,hp⟩
 ·rw [if_neg hs];have hs':b0E n=true:=by simpa using hs
  refine awZ hΓ rfl ?_;simp only [go_sem,a03,a4i,a08,c0x,b3K,hr',hs'];exact⟨⟨hd,hp⟩,hd,⟨by omega,by omega⟩,hd,by omega,hw⟩
end
set_option maxHeartbeats 8000000
section
open Go
attribute [local irreducible] AW a0k a1k a0c a6H
theorem c0U (p:Pt) (n:Int):0<=(ofS p n).2/\(ofS p n).2<14:=by
 unfold ofS
 repeat' split
 all_goals exact⟨by dsimp only;omega,by dsimp only;omega⟩
theorem b3s:∀ (d:List Pt) (ss:List Int) (acc:List UInt8),(a56 d ss acc).1.length<=acc.length+a7z d/\0<=(a56 d ss acc).2/\(a56 d ss acc).2<14
 | [],_,acc=>⟨Nat.le_add_right _ _,by rw [a56];dsimp only;omega,by rw [a56];dsimp only;omega⟩
 | p::d,ss,acc=>by
   have e2:a7z (p::d)=b4P p+a7z d:=by
    unfold a7z;rw [List.map_cons,List.sum_cons]
   have hl:=b3l p (ss.getD 0 0);have he:=c0U p (ss.getD 0 0);have h1:=b3s d ss.tail (acc++(ofS p (ss.getD 0 0)).1);have h2:=b3s d ss (acc++p.2.2.2.2.1);rw [lAp] at h1 h2;unfold b4P at e2;rw [a56,e2];split
   ·split
    ·exact⟨by simp,he⟩
    ·exact⟨by omega,h1.2⟩
   ·exact⟨by omega,h2.2⟩
theorem c8h (d:List Pt) (n:Int):(b4h d n).1.length<=a7z d/\0<=(b4h d n).2/\(b4h d n).2<14:=by
 unfold b4h;split
 ·exact⟨by simp,by dsimp only;omega,by dsimp only;omega⟩
 ·split
  ·exact⟨by simp,by dsimp only;omega,by dsimp only;omega⟩
  ·have:=b3s d (List.replicate (a0x d) n) [];exact⟨by simpa using this.1,this.2⟩
abbrev a7L:List UInt8:=[110,111,32,100,111,99]
def d6v (m:Mg):Prop:=m.1.length<100000000/\(∀ p∈m.1,b8f p)/\a7z m.1<=100000000
def a4M (line:List UInt8) (a:Ss):List UInt8:=if (wdL line).length=2/\(a3A ((wdL line).getD 1 [])).2=true then match a.2.2 with
 | none=>a7L
 | some m=>a3a (b4h m.1 (a3A ((wdL line).getD 1 [])).1).1 (b4h m.1 (a3A ((wdL line).getD 1 [])).1).2 else a00
def c7Z (xs:List AV) (a:Ss) (r:AV) (b:Ss):Prop:=∃ line:List UInt8,xs=[sL eS (wdL line).tail]/\line.length<=1000/\c7E a/\(∀ m,a.2.2=some m->d6v m)/\r=.st (a4M line a)/\b=a
def c7w:a0O:=sSh c7Z
theorem c8o:a0g Tryz.prog 62 c7w:=by
 refine a0g.mk Tryz.func62 rfl (by decide) Tryz.results62 Tryz.ntmps62 ?_;rintro args hp top nx K ⟨v,v1,v2,v3,v4,xs,a,r,b,rfl,⟨line,rfl,hl,hs,hm,rfl,rfl⟩,rfl,rfl,hK⟩;have hΓ:GOK Tryz.prog (gam [(121,a1S),(76,a8o),(120,a0m)]):=(.cons c2Q (.cons d3T (.cons b2D .nil)));refine⟨Nat.le_of_ble_eq_true rfl,AW.late ?_⟩;have hk:=a0Z hK rfl;by_cases h2:(wdL line).length=2
 ·have hI:((wdL line).tail.length:Int)=1:=by rw [List.length_tail];omega
  cases hsd:(a3A ((wdL line).getD 1 [])).2 with
  | false=>
    have e:a4M line b=a00:=by unfold a4M;rw [if_neg fun h=>by rw [hsd] at h;exact absurd h.2 (by decide)]
    rw [e] at hk;refine awN hΓ rfl ?_;simp only [go_sem,a1S,a8o,a0m,hI,a1r,hsd];refine⟨_,a0e (fun p=>p) (l:=[(4,.st a00)]) (r:=[(0,.box v 106 10 (shC 1 2 3 4 v1 v2 v3 v4 b)),(1,a0l v1 b.1.1),(2,a0l v2 b.1.2.1),(3,a0l v3 b.1.2.2),(4,mgR v4 b.2.2)]) (sz:=36) (top:=5) (nx:=nx) (df:=[]) ?_,?_⟩
    ·simp only [go_sem,a1S,a8o,a0m];exact⟨rlR,rlR,rlR,rlR,rlR⟩
    ·simp only [go_sem,a1S,a8o,a0m];exact hk v1 v2 v3 nx (.inl rfl) (.inl rfl) (.inl rfl) (nLR _)
  | true=>
    cases hb:b.2.2 with
    | none=>
      have e:a4M line b=a7L:=by unfold a4M;rw [if_pos ⟨h2,hsd⟩,hb]
      rw [e] at hk;refine awN hΓ rfl ?_;simp only [go_sem,a1S,a8o,a0m,hI,a1r,hsd,b9E,hb];refine⟨_,a0e (fun p=>p) (l:=[(4,.st a7L)]) (r:=[(0,.box v 106 10 (shC 1 2 3 4 v1 v2 v3 v4 b)),(1,a0l v1 b.1.1),(2,a0l v2 b.1.2.1),(3,a0l v3 b.1.2.2),(4,mgR v4 b.2.2)]) (sz:=36) (top:=5) (nx:=nx) (df:=[]) ?_,?_⟩
      ·simp only [go_sem,a1S,a8o,a0m];exact⟨rlR,rlR,rlR,rlR,by rw [hb];exact rlR⟩
      ·simp only [go_sem,a1S,a8o,a0m];exact hk v1 v2 v3 nx (.inl rfl) (.inl rfl) (.inl rfl) (nLR _)
    | some m=>
      have e:a4M line b=a3a (b4h m.1 (a3A ((wdL line).getD 1 [])).1).1 (b4h m.1 (a3A ((wdL line).getD 1 [])).1).2:=by unfold a4M;rw [if_pos ⟨h2,hsd⟩,hb]
      rw [e] at hk;refine awN hΓ rfl ?_;simp only [go_sem,a1S,a8o,a0m,hI,a1r,hsd,b9E,hb,mgR];obtain⟨m1,m2,m3⟩:=hm m hb;have hin:=c8h m.1 (a3A ((wdL line).getD 1 [])).1;refine⟨⟨m1,m2,by omega⟩,⟨by omega,hin.2⟩,?_⟩;refine⟨_,a0e (fun p=>p) (l:=[(4,.st (a3a (b4h m.1 (a3A ((wdL line).getD 1 [])).1).1 (b4h m.1 (a3A ((wdL line).getD 1 [])).1).2))]) (r:=[(0,.box v 106 10 (shC 1 2 3 4 v1 v2 v3 v4 b)),(1,a0l v1 b.1.1),(2,a0l v2 b.1.2.1),(3,a0l v3 b.1.2.2),(4,mgR v4 b.2.2)]) (sz:=36) (top:=5) (nx:=nx) (df:=[]) ?_,?_⟩
      ·simp only [go_sem,a1S,a8o,a0m];exact⟨rlR,rlR,rlR,rlR,by rw [hb];exact rlR⟩
      ·simp only [go_sem,a1S,a8o,a0m];exact hk v1 v2 v3 nx (.inl rfl) (.inl rfl) (.inl rfl) (nLR _)
 ·have hI:(((wdL line).tail.length:Int)=1)=False:=eq_false (by rw [List.length_tail];have:=List.length_pos_iff.2 (a6m line);omega);have e:a4M line b=a00:=by unfold a4M;rw [if_neg fun h=>h2 h.1]
  rw [e] at hk;refine awN hΓ rfl ?_;simp only [go_sem,a1S,a8o,a0m,hI];refine⟨_,a0e (fun p=>p) (l:=[(4,.st a00)]) (r:=[(0,.box v 106 10 (shC 1 2 3 4 v1 v2 v3 v4 b)),(1,a0l v1 b.1.1),(2,a0l v2 b.1.2.1),(3,a0l v3 b.1.2.2),(4,mgR v4 b.2.2)]) (sz:=36) (top:=5) (nx:=nx) (df:=[]) ?_,?_⟩
  ·simp only [go_sem,a1S,a8o,a0m];exact⟨rlR,rlR,rlR,rlR,rlR⟩
  ·simp only [go_sem,a1S,a8o,a0m];exact hk v1 v2 v3 nx (.inl rfl) (.inl rfl) (.inl rfl) (nLR _)
def a0C:a0O:=a1I c7w
theorem c0J:a0g Tryz.prog 62 a0C:=c8o.frame
end
section
open Go
attribute [local irreducible] AW a0k a1k a0c a6H
theorem c8x (d:List Pt) (n s:Int):0<=(a9t d n s).2/\(a9t d n s).2<14:=by
 have he:=c0U (d.getD (a2g d 0 n).toNat ePt.dflt) s;unfold a9t
 repeat' split
 all_goals first|exact he|exact⟨by dsimp only;omega,by dsimp only;omega⟩
theorem b7y (d:List Pt) (n s:Int):(a9t d n s).1.length<=d.length:=by
 unfold a9t
 repeat' split
 all_goals first|exact nZL _|skip
 exact Nat.le_trans (b4Y _).2 (by rw [List.length_set];exact nLR _)
noncomputable def a1X (line:List UInt8) (a:Ss):List UInt8×Ss:=if (wdL line).length=3/\(a6H ((wdL line).getD 1 [])).isSome=true/\(a3A ((wdL line).getD 2 [])).2=true then match a.2.2 with
 | none=>(a7L,a)
 | some m=>if (a9t m.1 (b1N ((wdL line).getD 1 [])) (a3A ((wdL line).getD 2 [])).1).2=0 then (Lib.itoa (a0x (a9t m.1 (b1N ((wdL line).getD 1 [])) (a3A ((wdL line).getD 2 [])).1).1:Nat),(a.1,a.2.1,some ((a9t m.1 (b1N ((wdL line).getD 1 [])) (a3A ((wdL line).getD 2 [])).1).1,m.2))) else (b8K (a9t m.1 (b1N ((wdL line).getD 1 [])) (a3A ((wdL line).getD 2 [])).1).2,a)
 else (a00,a)
def b97 (xs:List AV) (a:Ss) (r:AV) (b:Ss):Prop:=∃ line:List UInt8,xs=[sL eS (wdL line).tail]/\line.length<=1000/\c7E a/\(∀ m,a.2.2=some m->d6v m)/\r=.st (a1X line a).1/\b=(a1X line a).2
def c0S:a0O:=sSh b97
theorem c6Q:a0g Tryz.prog 63 c0S:=by
 refine a0g.mk Tryz.func63 rfl (by decide) Tryz.results63 Tryz.ntmps63 ?_;rintro args hp top nx K ⟨v,v1,v2,v3,v4,xs,a,r,b,rfl,⟨line,rfl,hl,hs,hm,rfl,rfl⟩,rfl,rfl,hK⟩;have hΓ:GOK Tryz.prog (gam [(114,a0f),(121,a1S),(77,a5r),(116,a0N),(78,a08),(117,a0s)]):=(.cons a77 (.cons c2Q (.cons d4i (.cons a9R (.cons b3c (.cons b0G .nil))))));refine⟨Nat.le_of_ble_eq_true rfl,AW.late ?_⟩;have hg:=b6b line 1;by_cases h2:(wdL line).length=3
 ·have hI:((wdL line).tail.length:Int)=2:=by rw [List.length_tail];omega
  cases hn:a6H ((wdL line).getD 1 []) with
  | none=>
    have e:a1X line a=(a00,a):=by unfold a1X;rw [if_neg fun h=>by rw [hn] at h;exact absurd h.2.1 (by decide)]
    rw [e] at hK;have hk:=a0Z hK rfl;refine awN hΓ rfl ?_;simp only [go_sem,a0f,a1S,a5r,a0N,a08,a0s,hI,a1r,hn,nuO];refine⟨by omega,?_⟩;refine⟨_,a0e (fun p=>p) (l:=[(4,.st a00)]) (r:=[(0,.box v 106 10 (shC 1 2 3 4 v1 v2 v3 v4 a)),(1,a0l v1 a.1.1),(2,a0l v2 a.1.2.1),(3,a0l v3 a.1.2.2),(4,mgR v4 a.2.2)]) (sz:=66) (top:=5) (nx:=nx) (df:=[]) ?_,?_⟩
    ·simp only [go_sem,a0f,a1S,a5r,a0N,a08,a0s];exact⟨rlR,rlR,rlR,rlR,rlR⟩
    ·simp only [go_sem,a0f,a1S,a5r,a0N,a08,a0s];exact hk v1 v2 v3 nx (.inl rfl) (.inl rfl) (.inl rfl) (nLR _)
  | some n=>
    cases hsd:(a3A ((wdL line).getD 2 [])).2 with
    | false=>
      have e:a1X line a=(a00,a):=by unfold a1X;rw [if_neg fun h=>by rw [hsd] at h;exact absurd h.2.2 (by decide)]
      rw [e] at hK;have hk:=a0Z hK rfl;refine awN hΓ rfl ?_;simp only [go_sem,a0f,a1S,a5r,a0N,a08,a0s,hI,a1r,hn,nuO,hsd];refine⟨by omega,?_⟩;refine⟨_,a0e (fun p=>p) (l:=[(4,.st a00)]) (r:=[(0,.box v 106 10 (shC 1 2 3 4 v1 v2 v3 v4 a)),(1,a0l v1 a.1.1),(2,a0l v2 a.1.2.1),(3,a0l v3 a.1.2.2),(4,mgR v4 a.2.2)]) (sz:=66) (top:=5) (nx:=nx) (df:=[]) ?_,?_⟩
      ·simp only [go_sem,a0f,a1S,a5r,a0N,a08,a0s];exact⟨rlR,rlR,rlR,rlR,rlR⟩
      ·simp only [go_sem,a0f,a1S,a5r,a0N,a08,a0s];exact hk v1 v2 v3 nx (.inl rfl) (.inl rfl) (.inl rfl) (nLR _)
    | true=>
      cases hb:a.2.2 with
      | none=>
        have e:a1X line a=(a7L,a):=by unfold a1X;rw [if_pos ⟨h2,by rw [hn];rfl,hsd⟩,hb]
        rw [e] at hK;have hk:=a0Z hK rfl;refine awN hΓ rfl ?_;simp only [go_sem,a0f,a1S,a5r,a0N,a08,a0s,hI,a1r,hn,nuO,hsd,b9E,hb];refine⟨by omega,?_⟩;refine⟨_,a0e (fun p=>p) (l:=[(4,.st a7L)]) (r:=[(0,.box v 106 10 (shC 1 2 3 4 v1 v2 v3 v4 a)),(1,a0l v1 a.1.1),(2,a0l v2 a.1.2.1),(3,a0l v3 a.1.2.2),(4,mgR v4 a.2.2)]) (sz:=66) (top:=5) (nx:=nx) (df:=[]) ?_,?_⟩
        ·simp only [go_sem,a0f,a1S,a5r,a0N,a08,a0s];exact⟨rlR,rlR,rlR,rlR,by rw [hb];exact rlR⟩
        ·simp only [go_sem,a0f,a1S,a5r,a0N,a08,a0s];exact hk v1 v2 v3 nx (.inl rfl) (.inl rfl) (.inl rfl) (nLR _)
      | some m=>
        obtain⟨m1,m2,m3⟩:=hm m hb
        have gN:gI (n:Int):=by
         have ht:=a6u ((wdL line).getD 1 []);rw [hn] at ht;rcases ht with⟨k,h1,h4,h3⟩|⟨h4,h3⟩
         ·have:=oJI h3;unfold gI;omega
         ·cases h3
        have hin:=c8x m.1 n (a3A ((wdL line).getD 2 [])).1;refine awN hΓ rfl ?_;simp only [go_sem,a0f,a1S,a5r,a0N,a08,a0s,hI,a1r,hn,nuO,hsd,b9E,hb,mgR];refine⟨by omega,⟨m1,m2,m3,gN⟩,fun hx=>⟨hin,?_⟩,fun hx=>?_⟩
        ·have e:a1X line a=(b8K (a9t m.1 n (a3A ((wdL line).getD 2 [])).1).2,a):=by
          unfold a1X;rw [if_pos ⟨h2,by rw [hn];rfl,hsd⟩,hb];dsimp only;rw [a3w hn,if_neg hx]
         rw [e] at hK;have hk:=a0Z hK rfl;refine⟨_,a0e (fun p=>p) (l:=[(4,.st (b8K (a9t m.1 n (a3A ((wdL line).getD 2 [])).1).2))]) (r:=[(0,.box v 106 10 (shC 1 2 3 4 v1 v2 v3 v4 a)),(1,a0l v1 a.1.1),(2,a0l v2 a.1.2.1),(3,a0l v3 a.1.2.2),(4,mgR v4 a.2.2)]) (sz:=66) (top:=5) (nx:=nx) (df:=[]) ?_,?_⟩
         ·simp only [go_sem,a0f,a1S,a5r,a0N,a08,a0s];exact⟨rlR,rlR,rlR,rlR,by rw [hb];exact rlR⟩
         ·simp only [go_sem,a0f,a1S,a5r,a0N,a08,a0s];exact hk v1 v2 v3 nx (.inl rfl) (.inl rfl) (.inl rfl) (nLR _)
        ·have hx:=Decidable.not_not.1 hx;have hol:=b7y m.1 n (a3A ((wdL line).getD 2 [])).1;have hcl:=a5B (a9t m.1 n (a3A ((wdL line).getD 2 [])).1).1
         have e:a1X line a=(Lib.itoa (a0x (a9t m.1 n (a3A ((wdL line).getD 2 [])).1).1:Nat),(a.1,a.2.1,some ((a9t m.1 n (a3A ((wdL line).getD 2 [])).1).1,m.2))):=by
          unfold a1X;rw [if_pos ⟨h2,by rw [hn];rfl,hsd⟩,hb];dsimp only;rw [a3w hn,if_pos hx]
         rw [e] at hK;refine⟨by omega,⟨by omega,by omega⟩,?_⟩;refine⟨_,a0e (fun p=>p) (l:=[(4,.st (Lib.itoa (a0x (a9t m.1 n (a3A ((wdL line).getD 2 [])).1).1:Nat)))]) (r:=[(0,.box v 106 10 (shC 1 2 3 4 v1 v2 v3 v4 (a.1,a.2.1,some ((a9t m.1 n (a3A ((wdL line).getD 2 [])).1).1,m.2)))),(1,a0l v1 a.1.1),(2,a0l v2 a.1.2.1),(3,a0l v3 a.1.2.2),(4,mgR v4 (some ((a9t m.1 n (a3A ((wdL line).getD 2 [])).1).1,m.2)))]) (sz:=66) (top:=5) (nx:=nx) (df:=[]) ?_,?_⟩
         ·simp only [go_sem,a0f,a1S,a5r,a0N,a08,a0s];refine⟨c1L fun j hj=>?_,rlR,rlR,rlR,a0c.box fun j hj=>?_⟩
          ·have hc:j=0\/j=1\/j=2\/j=3\/j=4\/j=5\/j=6\/j=7\/j=8\/j=9:=by omega
           rcases hc with rfl|rfl|rfl|rfl|rfl|rfl|rfl|rfl|rfl|rfl
           case inr.inr.inr.inr.inr.inr.inr.inr.inr=>rw [b9E,b9E,hb];rfl
           all_goals rfl
          ·match j,hj with
           | 0,_=>exact avR
           | 1,_=>exact avR
           | 2,_=>exact avR
           | 3,_=>exact avR
         ·simp only [go_sem,a0f,a1S,a5r,a0N,a08,a0s];exact hK v1 v2 v3 v4 nx (.inl rfl) (.inl rfl) (.inl rfl) (.inl ⟨by rw [hb];rfl,rfl⟩) (nLR _)
 ·have hI:(((wdL line).tail.length:Int)=2)=False:=eq_false (by rw [List.length_tail];have:=List.length_pos_iff.2 (a6m line);omega);have e:a1X line a=(a00,a):=by unfold a1X;rw [if_neg fun h=>h2 h.1]
  rw [e] at hK;have hk:=a0Z hK rfl;refine awN hΓ rfl ?_;simp only [go_sem,a0f,a1S,a5r,a0N,a08,a0s,hI];refine⟨_,a0e (fun p=>p) (l:=[(4,.st a00)]) (r:=[(0,.box v 106 10 (shC 1 2 3 4 v1 v2 v3 v4 a)),(1,a0l v1 a.1.1),(2,a0l v2 a.1.2.1),(3,a0l v3 a.1.2.2),(4,mgR v4 a.2.2)]) (sz:=66) (top:=5) (nx:=nx) (df:=[]) ?_,?_⟩
  ·simp only [go_sem,a0f,a1S,a5r,a0N,a08,a0s];exact⟨rlR,rlR,rlR,rlR,rlR⟩
  ·simp only [go_sem,a0f,a1S,a5r,a0N,a08,a0s];exact hk v1 v2 v3 nx (.inl rfl) (.inl rfl) (.inl rfl) (nLR _)
noncomputable def a0o:a0O:=a1I c0S
theorem b7Z:a0g Tryz.prog 63 a0o:=c6Q.frame
end
section
open Go
theorem d0u (a:Int) (now:BS) (c:Pt) (ps:List Pt) (m:Mk):(0<=(a1D a now c ps m).1/\(a1D a now c ps m).1<14)/\(a1D a now c ps m).2.2.2.length<=ps.length+1:=by
 unfold a1D;split
 ·exact⟨⟨by dsimp only;omega,by dsimp only;omega⟩,by dsimp only;omega⟩
 ·split
  ·exact⟨⟨by dsimp only;omega,by dsimp only;omega⟩,by dsimp only;omega⟩
  ·split
   ·exact⟨⟨by dsimp only;omega,by dsimp only;omega⟩,by dsimp only;omega⟩
   ·refine⟨⟨by dsimp only;omega,by dsimp only;omega⟩,?_⟩;dsimp only;unfold a7p
    repeat' split
    all_goals simp
theorem c4R (l:BS) (w:Int):0<=(a1j l w).2.2/\(a1j l w).2.2<14:=by
 unfold a1j
 repeat' split
 all_goals exact⟨by dsimp only;omega,by dsimp only;omega⟩
theorem b5b (w:Int):∀ (ls:List BS) (a:Int) (now:BS) (c:Pt) (ps:List Pt) (i:Nat),(0<=(a86 w ls a now c ps i).2.1/\(a86 w ls a now c ps i).2.1<14)/\(0<=(a86 w ls a now c ps i).2.2/\(a86 w ls a now c ps i).2.2<=i+ls.length+1)/\(a86 w ls a now c ps i).1.length<=ps.length+ls.length+1
 | [],a,now,c,ps,i=>by
   rw [a86];split
   ·exact⟨⟨by dsimp only;omega,by dsimp only;omega⟩,⟨by dsimp only;omega,by dsimp only [List.length_nil];omega⟩,nZL _⟩
   ·refine⟨⟨by dsimp only;omega,by dsimp only;omega⟩,⟨by dsimp only;omega,by dsimp only;omega⟩,?_⟩;exact Nat.le_trans (b4Y _).2 (by simp)
 | l::ls,a,now,c,ps,i=>by
   have ht:=d0u a now c ps (a1j l w).1;have hr:=c4R l w;rw [a86,lCo];split
   ·split
    ·exact⟨ht.1,⟨by dsimp only;omega,by dsimp only;omega⟩,nZL _⟩
    ·have:=b5b w ls (a1D a now c ps (a1j l w).1).2.1 [] (a1D a now c ps (a1j l w).1).2.2.1 (a1D a now c ps (a1j l w).1).2.2.2 (i+1);exact⟨this.1,⟨this.2.1.1,by omega⟩,by omega⟩
   ·split
    ·exact⟨hr,⟨by dsimp only;omega,by dsimp only;omega⟩,nZL _⟩
    ·have:=b5b w ls a (now++l) c ps (i+1);exact⟨this.1,⟨this.2.1.1,by omega⟩,by omega⟩
theorem b6p (s:BS) (w:Int):(0<=(a2R s w).2.1/\(a2R s w).2.1<14)/\(0<=(a2R s w).2.2/\(a2R s w).2.2<=(a0a s).length+1)/\(a2R s w).1.length<=(a0a s).length+1:=by
 unfold a2R;split
 ·exact⟨⟨by dsimp only;omega,by dsimp only;omega⟩,⟨by dsimp only;omega,by dsimp only;omega⟩,nZL _⟩
 ·have:=b5b w (a0a s) 0 [] ePt.dflt [] 0;exact⟨this.1,⟨this.2.1.1,by have:=this.2.1.2;omega⟩,by have:=this.2.2;simpa using this⟩
end
set_option maxHeartbeats 2000000
section
open Go
attribute [local irreducible] AW a0k a1k a0c
theorem c38 (d:List Pt):a7z d<=a3u d:=by
 induction d with
 | nil=>exact nLR _
 | cons p d ih=>
   have e1:a7z (p::d)=b4P p+a7z d:=by unfold a7z;rw [List.map_cons,List.sum_cons]
   have e2:a3u (p::d)=a3X p+a3u d:=by simp [a3u]
   have:b4P p<=a3X p:=by unfold b4P a3X;omega
   omega
end
section
open Go
theorem c97 {r:BS} {f:Bool} {l:BS} (h:rdT r=some (f,l)):l.length<=r.length:=by
 unfold rdT at h;dsimp only at h;generalize hr:(if decide (r.getD 0 0=33)=true then r.drop 1 else r)=r1 at h
 have h1:r1.length<=r.length:=by
  rw [<-hr];split
  ·rw [List.length_drop];omega
  ·omega
 generalize hl:(if 1<r1.length/\r1.getD 0 0=32 then (r1.take (r1.length-1)).drop 1 else [])=x at h
 have h2:x.length<=r1.length:=by
  rw [<-hl];split
  ·simp only [List.length_drop,List.length_take];omega
  ·simp
 split at h
 ·injection h with h
  injection h with _ h
  rw [<-h];omega
 ·cases h
theorem c07 (l:BS) (w:Int):(a1j l w).1.2.2.length<=l.length:=by
 unfold a1j;split
 ·exact nZL _
 ·split
  ·exact nZL _
  ·split
   ·rename_i f x h;have:=c97 h;rw [List.length_drop] at this;split
    ·show x.length<=_;omega
    ·exact nZL _
   ·exact nZL _
theorem b2p (s:BS):(a3Q s).length<=s.length:=by
 unfold a3Q;split
 ·rw [List.length_take];omega
 ·omega
theorem c1d {m:Mk} {now sd:BS} (h:b3i m now=some sd):sd.length<=now.length:=by
 unfold b3i at h;split at h
 ·split at h
  ·cases h
  ·injection h with h
   rw [<-h];exact b2p now
 ·injection h with h
  rw [h];exact nLR _
theorem a8G (t:BS):a3X (a1b t)=t.length:=by simp [a3X,a1b]
theorem c4T (a:Int) (sd:BS) (c:Pt):a3X (b4u a sd c)<=a3X c+sd.length:=by
 obtain⟨ll,bl,rl,h,t,l,b,r,hb⟩:=c;unfold b4u;split
 ·simp only [a3X,b9O];omega
 ·split
  ·simp only [a3X,c1h];omega
  ·split
   ·simp only [a3X,b7R];omega
   ·omega
theorem c3c (c:Pt) (s:BS):a3X (b9H c s)<=a3X c+s.length:=by
 obtain⟨ll,bl,rl,h,t,l,b,r,hb⟩:=c;simp only [a3X,b9H];omega
theorem c02 (c:Pt) (s:BS):a3X (b3Q c s)<=a3X c+s.length:=by
 obtain⟨ll,bl,rl,h,t,l,b,r,hb⟩:=c;simp only [a3X,b3Q];omega
def c6V (a:Int) (c:Pt):Nat:=if a=0 then 0 else a3X c
theorem b91 (a:Int) (c:Pt):c6V a c<=a3X c:=by
 unfold c6V;split
 ·exact nZL _
 ·exact nLR _
theorem c5K {a:Int} {now:BS} {c:Pt} {ps:List Pt} {m:Mk} (h:(a1D a now c ps m).1=0) :
  a3u (a1D a now c ps m).2.2.2+c6V (a1D a now c ps m).2.1 (a1D a now c ps m).2.2.1<=a3u ps+c6V a c+now.length+m.2.2.length:=by
 unfold a1D at h ⊢;split at h
 ·exact absurd h (show ¬(7:Int)=0 by decide)
 ·rename_i h1;rw [if_neg h1];split at h
  ·exact absurd h (show ¬(8:Int)=0 by decide)
  ·rename_i h2;rw [if_neg h2];split at h
   ·exact absurd h (show ¬(9:Int)=0 by decide)
   ·rename_i sd hs;have hl:=c1d hs;dsimp only;have hS:=c4T a sd c;have hB:=c3c (b4u a sd c) m.2.2;have hR:=c02 (b4u a sd c) m.2.2;by_cases k1:m.1=60
    ·have ea:a=0:=by
      by_cases e:a=0
      ·exact e
      ·exact absurd ⟨k1,e⟩ h1
     have o1:=b91 (if m.1=62 then 0 else m.1) (b1H a m sd c);have e1:b1H a m sd c=(m.2.2,[],[],true,[],[],[],[],false):=by unfold b1H;rw [if_pos k1]
     have e2:a7p a m now sd c ps=ps++[a1b now]:=by unfold a7p;rw [if_pos k1]
     rw [e2,b0Q,a8G];have e3:a3X (b1H a m sd c)=m.2.2.length:=by rw [e1];simp [a3X]
     omega
    ·have ea:c6V a c=a3X c:=by
      unfold c6V;rw [if_neg];rintro rfl;apply h2;unfold a6S;rw [if_neg k1];split
      ·rfl
      ·split<;>rfl
     have o1:=b91 (if m.1=62 then 0 else m.1) (b1H a m sd c);by_cases k2:m.1=62
     ·have e1:b1H a m sd c=b3Q (b4u a sd c) m.2.2:=by unfold b1H;rw [if_neg k1,if_neg (by omega),if_pos k2]
      have e2:a7p a m now sd c ps=ps++[b1H a m sd c]:=by unfold a7p;rw [if_neg k1,if_pos k2]
      have e3:c6V (if m.1=62 then 0 else m.1) (b1H a m sd c)=0:=by rw [if_pos k2];rfl
      rw [e2,b0Q,e3,e1];omega
     ·have e2:a7p a m now sd c ps=ps:=by unfold a7p;rw [if_neg k1,if_neg k2]
      have e3:a3X (b1H a m sd c)<=a3X c+sd.length+m.2.2.length:=by
       unfold b1H;rw [if_neg k1];split
       ·omega
       ·first|omega|(rw [if_neg k2];omega)
      rw [e2];omega
theorem b3n (w:Int):∀ (ls:List BS) (a:Int) (now:BS) (c:Pt) (ps:List Pt) (i:Nat),a3u (a86 w ls a now c ps i).1<=a3u ps+c6V a c+now.length+ls.flatten.length
 | [],a,now,c,ps,i=>by
   rw [a86];split
   ·exact nZL _
   ·have:=b5J (ps++[a1b now]);rw [b0Q,a8G] at this;dsimp only;omega
 | l::ls,a,now,c,ps,i=>by
   have hr:=c07 l w;rw [a86,List.flatten_cons,lAp];split
   ·split
    ·exact nZL _
    ·rename_i h;have ht:=c5K (Decidable.not_not.1 h);have:=b3n w ls (a1D a now c ps (a1j l w).1).2.1 [] (a1D a now c ps (a1j l w).1).2.2.1 (a1D a now c ps (a1j l w).1).2.2.2 (i+1);rw [List.length_nil] at this;omega
   ·split
    ·exact nZL _
    ·have:=b3n w ls a (now++l) c ps (i+1);rw [lAp] at this;omega
theorem c1T (s:BS) (w:Int):a3u (a2R s w).1<=s.length:=by
 unfold a2R;split
 ·exact nZL _
 ·have:=b3n w (a0a s) 0 [] ePt.dflt [] 0;rw [a04] at this;have e:a3u ([]:List Pt)=0:=rfl;have e2:c6V 0 ePt.dflt=0:=rfl;rw [e,e2,List.length_nil] at this;omega
theorem c4o {d:List Pt} {k:Nat} {t:BS} (h:t.length<=a3X (d.getD k ePt.dflt)):a3u (d.set k (a1b t))<=a3u d:=by
 induction d generalizing k with
 | nil=>simp
 | cons p d ih=>
   have e:∀ (q:Pt) (l:List Pt),a3u (q::l)=a3X q+a3u l:=fun q l=>by simp [a3u]
   cases k with
   | zero=>
     rw [List.set_cons_zero,e,e,a8G];have:t.length<=a3X p:=h;omega
   | succ k=>
     rw [List.set_cons_succ,e,e];have:=ih (k:=k) h;omega
theorem c4b (d:List Pt) (n s:Int):a3u (a9t d n s).1<=a3u d:=by
 unfold a9t
 repeat' split
 all_goals first|exact nZL _|skip
 refine Nat.le_trans (b5J _) (c4o ?_);have:=b3l (d.getD (a2g d 0 n).toNat ePt.dflt) s;unfold a3X;omega
theorem b0Z (w:Int):∀ (d:List Pt),(a1x w d).length<=a0x d*(4*w.toNat+15)+a3u d
 | []=>by simp [a1x]
 | p::d=>by
   have h1:=b0Z w d;have h2:=b1A w p;have e:a3u (p::d)=a3X p+a3u d:=by simp [a3u]
   have e2:a1x w (p::d)=a4S w p++a1x w d:=by simp [a1x]
   rw [e2,lAp,e,a2W];by_cases hh:hkP p=true
   ·rw [if_pos hh,Nat.add_mul,Nat.one_mul];omega
   ·rw [if_neg hh,Nat.zero_add];have e3:a4S w p=txP p:=by unfold a4S;rw [if_neg hh]
    have e4:(txP p).length<=a3X p:=by unfold a3X txP;omega
    rw [e3];omega
theorem b8E {l:BS} {w:Int} (h:(a1j l w).2.1=true):w.toNat<=l.length:=by
 unfold a1j at h;split at h
 ·cases h
 ·split at h
  ·cases h
  ·have:=b2h l;omega
theorem b8H {a:Int} {now:BS} {c:Pt} {ps:List Pt} {m:Mk}:a0x (a1D a now c ps m).2.2.2<=a0x ps+1:=by
 unfold a1D;split
 ·exact Nat.le_succ _
 ·split
  ·exact Nat.le_succ _
  ·split
   ·exact Nat.le_succ _
   ·dsimp only;unfold a7p;split
    ·rw [a6C];split<;>omega
    ·split
     ·rw [a6C];split<;>omega
     ·exact Nat.le_succ _
theorem a8y (w:Int):∀ (ls:List BS) (a:Int) (now:BS) (c:Pt) (ps:List Pt) (i:Nat),a0x (a86 w ls a now c ps i).1*w.toNat<=a0x ps*w.toNat+ls.flatten.length
 | [],a,now,c,ps,i=>by
   rw [a86];split
   ·simp [a0x]
   ·dsimp only;rw [b3y,a6C];simp [a1b]
 | l::ls,a,now,c,ps,i=>by
   rw [a86,List.flatten_cons,lAp];split
   ·rename_i hr;have hw:=b8E hr;split
    ·simp [a0x]
    ·have ht:a0x (a1D a now c ps (a1j l w).1).2.2.2*w.toNat<=(a0x ps+1)*w.toNat:=Nat.mul_le_mul_right _ b8H;have:=a8y w ls (a1D a now c ps (a1j l w).1).2.1 [] (a1D a now c ps (a1j l w).1).2.2.1 (a1D a now c ps (a1j l w).1).2.2.2 (i+1);rw [Nat.add_mul,Nat.one_mul] at ht;omega
   ·split
    ·simp [a0x]
    ·have:=a8y w ls a (now++l) c ps (i+1);omega
theorem b53 (s:BS) (w:Int):a0x (a2R s w).1*w.toNat<=s.length:=by
 unfold a2R;split
 ·simp [a0x]
 ·have:=a8y w (a0a s) 0 [] ePt.dflt [] 0;rw [a04] at this;simpa [a0x] using this
theorem c16 {d:List Pt} {k:Nat} {t:BS}:a0x (d.set k (a1b t))<=a0x d:=by
 induction d generalizing k with
 | nil=>simp
 | cons p d ih=>
   cases k with
   | zero=>rw [List.set_cons_zero,a2W,a2W];simp [a1b]
   | succ k=>
     rw [List.set_cons_succ,a2W,a2W];have:=ih (k:=k);omega
theorem b83 (d:List Pt) (n s:Int):a0x (a9t d n s).1<=a0x d:=by
 unfold a9t
 repeat' split
 all_goals first|exact nZL _|skip
 rw [b3y];exact c16
def c6C (l:List Ck):Prop:=l.length<=20000/\∀ c∈l,((0<=c.2.1.1/\c.2.1.1<=1000000)/\0<=c.2.1.2/\c.2.1.2<=1000000)/\((0<=c.2.2.1.1/\c.2.2.1.1<=1000000)/\0<=c.2.2.1.2/\c.2.2.1.2<=1000000)/\(0<=c.2.2.2.1/\c.2.2.2.1<=1000000)/\0<=c.2.2.2.2/\c.2.2.2.2<=1000000
theorem c8U {f:Fl} (h1:f.1.length<=1000000) (h2:f.2.1.length<=1000000) (h3:f.2.2.length<=1000000) (hl:(a5C f).length<=20000):c6C (a5C f):=by
 refine⟨hl,fun c hc=>?_⟩;obtain⟨⟨g1,g2,g3⟩,⟨g4,g5,g6⟩,g7,g8,g9⟩:=c4J (b1C f) c hc;obtain⟨b,⟨x1,x2⟩,⟨y1,y2⟩,z1,z2⟩:=c;simp only [a3P,toP,c7v] at g1 g2 g3 g4 g5 g6 g7 g8 g9;dsimp only;refine⟨⟨⟨?_,?_⟩,?_,?_⟩,⟨⟨?_,?_⟩,?_,?_⟩,⟨?_,?_⟩,?_,?_⟩<;>omega
structure b8S (m:Mg):Prop where
 len:m.1.length<=30000
 sum:a3u m.1<=40000000
 w0:0<=m.2.2.1
 w1:m.2.2.1<=3000001
 pr:a0x m.1*(4*m.2.2.1.toNat+15)<=2000000000
 txt:m.2.1.length<=3000000000
 cks:c6C m.2.2.2
theorem b8S.ok {m:Mg} (h:b8S m):d6v m:=⟨Nat.lt_of_le_of_lt h.len (by decide),b78 (Nat.le_trans h.sum (by decide)),Nat.le_trans (c38 m.1) (Nat.le_trans h.sum (by decide))⟩
theorem b8S.print {m:Mg} (h:b8S m):(a1x m.2.2.1 m.1).length<=3000000000:=by
 have h1:=b0Z m.2.2.1 m.1;have h2:=h.pr;have h3:=h.sum;omega
theorem b8S.printR {m:Mg} (h:b8S m):(printR m.1 m.2.2.1).1.length<=3000000000/\0<=(printR m.1 m.2.2.1).2/\(printR m.1 m.2.2.1).2<14:=by
 have:=h.print;unfold Go.Proofs.YthpjjjnbkfnghaaGreatDoor.printR
 repeat' split
 all_goals exact⟨by first|exact this|exact nZL _,by dsimp only;omega,by dsimp only;omega⟩
theorem b8S.pick {m:Mg} (h:b8S m) (n s:Int):b8S ((a9t m.1 n s).1,m.2):=by
 have h1:=b7y m.1 n s;have h2:=c4b m.1 n s;have h3:=h.len;have h4:=h.sum;exact⟨Nat.le_trans h1 h3,Nat.le_trans h2 h4,h.w0,h.w1,Nat.le_trans (Nat.mul_le_mul_right _ (b83 m.1 n s)) h.pr,h.txt,h.cks⟩
theorem b8W {s:BS} (hs:s.length<=9500) {w:Nat} (hw:w<=1000000):b8S ((a2R s w).1,s,(w:Int),[]):=by
 have h1:=(b6p s w).2.2;have h2:=a0K s;have h3:=c1T s w;have h4:(a2R s w).1.length<=9501:=by omega
 refine⟨?_,?_,?_,?_,?_,?_,?_,?_⟩
 ·dsimp only;omega
 ·dsimp only;omega
 ·dsimp only;omega
 ·dsimp only;omega
 ·dsimp only;have h5:=b53 s w;have h6:=a5B (a2R s w).1;rw [Int.toNat_natCast] at h5 ⊢;rw [Nat.mul_add,Nat.mul_left_comm];omega
 ·dsimp only;omega
 ·exact nZL _
 ·intro c hc;cases hc
def mgT (r:Rt):Mg:=(r.1,r.2.2.2.2.1,r.2.2.2.2.2.1,r.2.2.2.1)
theorem a8f {a b c:BS} (h:a.length+b.length+c.length<=9400):okM a b c:=by
 have h1:=a0K a;have h2:=a0K b;refine .inr ⟨by omega,by omega,by omega,?_⟩;rcases Nat.lt_or_ge 4700 (a0a a).length with g|g
 ·exact .inr (by omega)
 ·exact .inl g
theorem b9l {a b c:BS} (h:a.length+b.length+c.length<=9400) {o:Op} (ho:a9Q o=0) (hl:lbN o.1<=3000):b8S (mgT (b2U a b c o)):=by
 have hM:=a8f h;obtain⟨p1,p2,p3⟩:=c4Z ho;have hF:=a7J (a:=a) (b:=b) (c:=c) hM p2 o.2.1 hl p1 o.2.2.2;have e:b2U a b c o=c4F a b c o.2.2.1 o.2.1 o.1 o.2.2.2:=by unfold b2U;rw [if_pos ho]
 have hW:a66 o.2.2.1 a b c<=9501/\7<=a66 o.2.2.1 a b c:=by
  have:=a7S (a:=a) (b:=b) (c:=c) (n:=9400) (by omega) (by omega) (by omega);unfold a66;omega
 rw [e];have s1:=a0K a;have s2:=a0K b;have s3:=a0K c;have k1:=hF.dlen;have k2:=hF.sump;refine⟨Nat.le_trans hF.dlen (by decide),hF.sump,?_,?_,?_,?_,c8U ?_ ?_ ?_ (Nat.le_trans hF.len (by decide))⟩
 ·show 0<=a66 o.2.2.1 a b c;omega
 ·show a66 o.2.2.1 a b c<=_;omega
 ·show a0x (a7s a b c o.2.1 o.1 o.2.2.2)*(4*(a66 o.2.2.1 a b c).toNat+15)<=_;exact Nat.le_trans (Nat.mul_le_mul (Nat.le_trans (a5B _) k1) (by omega:4*(a66 o.2.2.1 a b c).toNat+15<=38100)) (by decide)
 ·show (a1x (a66 o.2.2.1 a b c) (a7s a b c o.2.1 o.1 o.2.2.2)).length<=_;have g1:=a8O (a66 o.2.2.1 a b c) (a7s a b c o.2.1 o.1 o.2.2.2);have g2:=Nat.mul_le_mul k1 (by omega:4*(a66 o.2.2.1 a b c).toNat+15<=38100);omega
 ·show (a0a a).length<=_;omega
 ·show (a0a b).length<=_;omega
 ·show (a0a c).length<=_;omega
end
set_option maxHeartbeats 8000000
section
open Go
attribute [local irreducible] AW a0k a1k a0c a6H
def a0M:a0r:=a0r.f2 (kL eS) kS (fun l b=>l.length<=100000000/\(Lib.join l b).length<=100000000000) (fun l b=>kS.enc (Lib.join l b))
theorem c8V:a0b Tryz.prog 110 a0M:=by
 refine a0b.raw Tryz.func110 rfl (by decide) fun args hp w L vs hL ha=>?_
 match args,hp with
 | [x,y],hp=>
   obtain⟨h1,h2,h3,h4⟩:=hp;cases ha with
   | cons hx hr=>cases hr with
     | cons hy hr=>cases hr with
       | nil=>
         have ex:=b1e h1 hx;have ey:=b1e h2 hy;show Calls _ _ _ _ fun e w'=>∃ v,e=.returned v/\Fr (fun _=>False) w w'/\Rep w' a1p L (kS.enc (Lib.join ((kL eS).dec x) (kS.dec y))) v
         generalize (kL eS).dec x=l at *
         generalize kS.dec y=sp at *
         obtain⟨a,cap,rfl,hcap,hc⟩:=ex;obtain rfl:=ey;rcases Nat.eq_zero_or_pos l.length with h0|h0
         ·rw [h0];refine (Tryz.strings_Join_none a cap ⟨sp.toArray⟩ w).mono ?_;rintro e w' ⟨rfl,rfl⟩;have:l=[]:=List.length_eq_zero_iff.1 h0;subst this;exact⟨_,rfl,Fr.refl _ _,rfl⟩
         ·obtain⟨b,off,rfl,hb,hcells⟩:=hc h0 (by decide)
          have hget:∀ (j:Nat) y,(l.map fun y=>(⟨y.toArray⟩:ByteArray))[j]?=some y->w.cell? ⟨b,off+j,none⟩=some (.string y):=fun j y hj=>by
           rw [List.getElem?_map] at hj;cases hl:l[j]? with
           | none=>rw [hl] at hj;cases hj
           | some z=>
             rw [hl] at hj;simp only [Option.map_some,oSI] at hj;subst hj;obtain⟨hlt,_⟩:=List.getElem?_eq_some_iff.1 hl;obtain⟨u,hu,_,hrep⟩:=hcells j hlt 0 (by decide);have e:l.getD j eS.dflt=z:=by simp [List.getD,hl]
             have hrep:Rep w a1p L (eS.enc (l.getD j eS.dflt) 0) u:=hrep;rw [e] at hrep;have:u=.string ⟨z.toArray⟩:=hrep;subst this;simpa [d2o] using hu
          have e1:(l.map fun y=>(⟨y.toArray⟩:ByteArray)).map (·.data.toList)=l:=by simp [Function.comp_def]
          have hbs:b<w.heap.size:=by
           obtain⟨u,hu,_⟩:=hcells 0 h0 0 (by decide);exact World.block_lt_of_cell? w _ hu
          have hJ:=Tryz.strings_Join b off cap (l.map fun y=>⟨y.toArray⟩) ⟨sp.toArray⟩ w hget hbs (by simp;omega) (by simpa using hcap) (by rw [e1];show (Lib.join l sp).length<=_;omega);rw [e1,List.length_map] at hJ;refine hJ.mono ?_;rintro e w' ⟨rfl,hbel⟩;exact⟨_,rfl,Fr.of_below hbel _,rfl⟩
theorem b0m (sp:List UInt8) {k:Nat}:∀ {l:List (List UInt8)},(∀ x∈l,x.length<=k)->(Lib.joinTail sp l).length<=l.length*(k+sp.length)
 | [],_=>nZL _
 | x::l,h=>by
   have h1:=h x (List.mem_cons_self ..);have h2:=b0m sp fun y hy=>h y (List.mem_cons_of_mem x hy)
   have e:Lib.joinTail sp (x::l)=sp++x++Lib.joinTail sp l:=by simp [Lib.joinTail]
   rw [e,lAp,lAp,lCo,Nat.succ_mul];omega
theorem c2e (sp:List UInt8) {k:Nat} {l:List (List UInt8)} (h:∀ x∈l,x.length<=k):(Lib.join l sp).length<=l.length*(k+sp.length):=by
 cases l with
 | nil=>exact nZL _
 | cons x l=>
   have h1:=h x (List.mem_cons_self ..);have h2:=b0m sp fun y hy=>h y (List.mem_cons_of_mem x hy)
   rw [Lib.join_cons,lAp,lCo,Nat.succ_mul];omega
abbrev d6s:List UInt8:=[110,111,110,101]
def stW (b:Bool):List UInt8:=if b=true then [115] else [99]
def b1b (c:Ck):List UInt8:=Lib.join [stW c.1,Lib.itoa c.2.1.1,Lib.itoa c.2.1.2,Lib.itoa c.2.2.1.1,Lib.itoa c.2.2.1.2,Lib.itoa c.2.2.2.1,Lib.itoa c.2.2.2.2] [32]
def c3y (l:List Ck):List UInt8:=if l=[] then d6s else Lib.join (l.map b1b) [59]
theorem a49 {n:Int} (h:0<=n/\n<=1000000):(Lib.itoa n).length<=7:=by
 obtain⟨k,rfl⟩:=Int.eq_ofNat_of_zero_le h.1;exact b4z (by omega)
theorem c92 (b:Bool):(stW b).length=1:=by cases b<;>rfl
theorem b6q {c:Ck} (h:((0<=c.2.1.1/\c.2.1.1<=1000000)/\0<=c.2.1.2/\c.2.1.2<=1000000)/\((0<=c.2.2.1.1/\c.2.2.1.1<=1000000)/\0<=c.2.2.1.2/\c.2.2.1.2<=1000000)/\(0<=c.2.2.2.1/\c.2.2.2.1<=1000000)/\0<=c.2.2.2.2/\c.2.2.2.2<=1000000):(b1b c).length<=56:=by
 obtain⟨⟨h1,h2⟩,⟨h3,h4⟩,h5,h6⟩:=h;refine Nat.le_trans (c2e (k:=7) [32] fun x hx=>?_) (nLR _);simp only [List.mem_cons,List.not_mem_nil,or_false] at hx;rcases hx with rfl|rfl|rfl|rfl|rfl|rfl|rfl
 ·rw [c92];omega
 all_goals first|exact a49 h1|exact a49 h2|exact a49 h3|exact a49 h4|exact a49 h5|exact a49 h6
theorem b3u {l:List Ck} (h:c6C l):(Lib.join (l.map b1b) [59]).length<=2000000:=by
 obtain⟨h1,h2⟩:=h
 have:=c2e (k:=56) [59] (l:=l.map b1b) fun x hx=>by
  obtain⟨c,hc,rfl⟩:=List.mem_map.1 hx;exact b6q (h2 c hc)
 rw [List.length_map] at this;have h3:=Nat.mul_le_mul_right 57 h1;simp only [lCo,List.length_nil] at this;omega
theorem b1V {P:Program} {st:AS} {K:AS->Prop} {o:Oper} {t e:TypeId} {x i:Operand} {n m sz:Nat} {k:Int} {c:Nat->AV} (ho:o.op=.index t x i) (hu:P.underlying t=some (.array n e)) (ha:a4X P e=some true) (hs:P.cellsOf e=sz) (h0:0<sz)
  (hx:st.ev x=.ag m c) (hi:st.ev i=.val (.int .i64 k)) (hk:0<=k/\k<n) (hm:k.toNat*sz+sz<=m) (hd:a0S st.sz o.dst)
  (hK:K ⟨a2k st.fr o.dst (.ag sz fun j=>c (k.toNat*sz+j)),st.hp,st.sz,st.top,st.nx,st.df⟩):OpW P o st K:=by
 refine a7n hd (fun c' η a w hsr=>?_) hK;have hv:=a10 hsr.slots x;have hw:=a10 hsr.slots i;unfold AS.ev at hx hi;rw [hx] at hv;rw [hi] at hw;obtain⟨cs,hv,hcm,hc⟩:=hv;have hw:a.eval i=.int .i64 k:=hw;refine⟨.agg (cs.extract (k.toNat*sz) (k.toNat*sz+sz)),?_,cs.extract (k.toNat*sz) (k.toNat*sz+sz),rfl,by simp;omega,fun j hj=>?_⟩
 ·unfold execOp;rw [ho];simp [hv,hw,Instr.index,asIntOf,run_underlying hu,hk,part,a4z ha,a0U (P:=P) (w:=w) hs h0]
 ·obtain⟨r,hr,hrep⟩:=hc (k.toNat*sz+j) (by omega);exact⟨r,by rw [Array.getElem?_extract];simpa [show j<min (k.toNat*sz+sz) cs.size-k.toNat*sz by omega] using hr,hrep⟩
theorem b6A {α:Type} (l:List α) (d:α):(List.range l.length).map (fun i=>l.getD i d)=l:=by
 refine List.ext_getElem (by simp) fun i h1 h2=>?_
 simp only [List.getElem_map,List.getElem_range];exact a1q l d h2
theorem b9M {α:Type} {n:Nat} (l:List α) (d:α) (h:n=l.length):(List.range n).map (fun i=>l.getD i d)=l:=by rw [h];exact b6A l d
def a3d:a0r:=a0r.f1 (kL eCk) c6C (fun l=>kS.enc (c3y l))
theorem c8z:a0b Tryz.prog 119 a3d:=by
 refine a0b.f1 Tryz.func119 rfl (by decide) Tryz.results119 Tryz.ntmps119 (by decide) fun l hok=>?_
 have hΓ:GOK Tryz.prog (gam [(117,a0s),(110,a0M)]):=(.cons b0G (.cons c8V .nil));by_cases h0:l=[]
 ·subst h0;refine awN hΓ rfl ?_;simp only [go_sem,a0s,a0M];rfl
 have hp:0<l.length:=List.length_pos_iff.2 h0;have hI:((l.length:Int)=0)=False:=eq_false (by omega);refine awZ hΓ rfl ?_;simp only [go_sem,a0s,a0M,hI];refine AW.adopt 3 9 1 (fun _ _=>.any) rfl ?_;refine AW.round (α:={ x:Nat×Nat×Nat // x.1<=l.length }) (fun x=>⟨[(3,.ow 0 x.1.2.1 x.1.1),(12,sL eCk l),(13,.val (.int .i64 l.length)),(14,.val (.int .i64 x.1.1))],[(0,a1a x.1.2.1 9 eS ((l.take x.1.1).map b1b))],51,1,x.1.2.2,[]⟩) (fun x=>l.length-x.1.1) ⟨(0,0,1),nZL _⟩ ?_ ?_
 ·simp only [go_sem,a0s,a0M];exact a8z rfl
 rintro⟨⟨i,u,nx⟩,hi⟩;dsimp only at hi;rcases Nat.lt_or_ge i l.length with hlt|hge
 ·have hlI:((i:Int)<(l.length:Nat))=True:=eq_true (by omega);obtain⟨⟨cs,⟨x1,x2⟩,⟨y1,y2⟩,z1,z2⟩,hg⟩:∃ c,l.getD i eCk.dflt=c:=⟨_,rfl⟩;have hc:=hok.2 _ (hg▸a1q l eCk.dflt hlt▸List.getElem_mem hlt);have hw:=b6q hc;dsimp only at hc;obtain⟨⟨⟨c1,c1'⟩,c2,c2'⟩,⟨⟨c3,c3'⟩,c4,c4'⟩,⟨c5,c5'⟩,c6,c6'⟩:=hc;have hall:∀ ws:List BS,ws=[stW cs,Lib.itoa x1,Lib.itoa x2,Lib.itoa y1,Lib.itoa y2,Lib.itoa z1,Lib.itoa z2]->Lib.join ws [32]=b1b (cs,(x1,x2),(y1,y2),z1,z2):=fun ws h=>by rw [h];rfl
  cases cs with
  | true=>
    refine awL hΓ [6] rfl ?_;simp only [go_sem,a0s,a0M,hlI,hg];refine⟨by omega,AW.fork (AW.regionO hΓ [true] ?_)⟩;simp only [go_sem,a0s,a0M];refine a9x rfl ?_;simp only [go_sem,a0s,a0M];refine awZ hΓ rfl ?_;simp only [go_sem,a0s,a0M];refine AW.fork ?_;refine awZ hΓ rfl ?_;simp only [go_sem,a0s,a0M];refine AW.seqTo (fun x:Nat×Nat=>Sh.st ⟨[(3,.ow 0 u i),(6,.ow 2 x.1 7),(12,sL eCk l),(13,.val (.int .i64 l.length)),(14,.val (.int .i64 i))],[(0,a1a u 9 eS ((l.take i).map b1b)),(2,a1a x.1 9 eS [stW true,Lib.itoa x1,Lib.itoa x2,Lib.itoa y1,Lib.itoa y2,Lib.itoa z1,Lib.itoa z2])],51,3,x.2,[]⟩) ?_ fun⟨u2,nx2⟩=>?_
    ·refine awZ hΓ rfl ?_;simp only [go_sem,a0s,a0M];refine AW.round (α:={ x:Nat×Nat×Nat // x.1<=3 }) (fun x=>⟨[(3,.ow 0 u i),(6,.ow 2 x.1.2.1 (1+2*x.1.1)),(12,sL eCk l),(13,.val (.int .i64 l.length)),(14,.val (.int .i64 i)),(29,.ag 6 ((eP eSp (eP eSp eSp)).enc ((x1,x2),(y1,y2),z1,z2))),(30,.val (.int .i64 x.1.1))],[(0,a1a u 9 eS ((l.take i).map b1b)),(2,a1a x.1.2.1 9 eS ([stW true,Lib.itoa x1,Lib.itoa x2,Lib.itoa y1,Lib.itoa y2,Lib.itoa z1,Lib.itoa z2].take (1+2*x.1.1)))],51,3,x.1.2.2,[]⟩) (fun x=>3-x.1.1) ⟨(0,nx+1,nx+2),nZL _⟩ ?_ ?_
     ·simp only [go_sem,a0s,a0M];refine⟨a0k.ag fun j hj=>?_,rlR,a0c.sl rfl fun i hi j hj=>?_⟩
      ·have hc:j=0\/j=1\/j=2\/j=3\/j=4\/j=5:=by omega
       rcases hc with rfl|rfl|rfl|rfl|rfl|rfl<;>exact avR
      ·obtain rfl:j=0:=by omega
       obtain rfl:i=0:=by omega
       exact avR
     ·rintro⟨⟨k,u2,nx2⟩,hk⟩;have hc:k=0\/k=1\/k=2\/k=3:=by dsimp only at hk;omega
      rcases hc with rfl|rfl|rfl|rfl
      ·refine awL hΓ [11] rfl ?_;simp only [go_sem,a0s,a0M];refine AW.fork ?_;refine awL hΓ [11] rfl ?_;simp only [go_sem,a0s,a0M];refine AW.fork (AW.block (AW.fork (AW.regionO hΓ [true] ?_)));simp only [go_sem,a0s,a0M];refine b1V rfl Tryz.underlying230 b1D a6D (by decide) rfl rfl (by decide) (by decide) (by exact (by decide:32<51)) ?_;simp only [go_sem,a0s,a0M];refine AW.drawZ hΓ mixed 7 [] [] [] (by kernel_rfl) ?_;simp only [go_sem,a0s,a0M];refine⟨⟨by omega,by omega⟩,⟨by omega,by omega⟩,rfl,?_⟩;refine awN hΓ rfl ?_;simp only [go_sem,a0s,a0M];refine⟨⟨(1,nx2+1,nx2+1+1),by dsimp only;omega⟩,⟨nLR _,⟨⟨rfl,rfl⟩,rfl⟩,rlR,a0c.sl rfl fun i hi j hj=>?_⟩,by dsimp only;omega⟩;obtain rfl:j=0:=by omega
       have hc:i=0\/i=1\/i=2:=by omega
       rcases hc with rfl|rfl|rfl<;>exact avR
      ·refine awL hΓ [11] rfl ?_;simp only [go_sem,a0s,a0M];refine AW.fork ?_;refine awL hΓ [11] rfl ?_;simp only [go_sem,a0s,a0M];refine AW.fork (AW.block (AW.fork (AW.regionO hΓ [true] ?_)));simp only [go_sem,a0s,a0M];refine b1V rfl Tryz.underlying230 b1D a6D (by decide) rfl rfl (by decide) (by decide) (by exact (by decide:32<51)) ?_;simp only [go_sem,a0s,a0M];refine AW.drawZ hΓ mixed 7 [] [] [] (by kernel_rfl) ?_;simp only [go_sem,a0s,a0M];refine⟨⟨by omega,by omega⟩,⟨by omega,by omega⟩,rfl,?_⟩;refine awN hΓ rfl ?_;simp only [go_sem,a0s,a0M];refine⟨⟨(2,nx2+1,nx2+1+1),by dsimp only;omega⟩,⟨nLR _,⟨⟨rfl,rfl⟩,rfl⟩,rlR,a0c.sl rfl fun i hi j hj=>?_⟩,by dsimp only;omega⟩;obtain rfl:j=0:=by omega
       have hc:i=0\/i=1\/i=2\/i=3\/i=4:=by omega
       rcases hc with rfl|rfl|rfl|rfl|rfl<;>exact avR
      ·refine awL hΓ [11] rfl ?_;simp only [go_sem,a0s,a0M];refine AW.fork ?_;refine awL hΓ [11] rfl ?_;simp only [go_sem,a0s,a0M];refine AW.fork (AW.block (AW.fork (AW.regionO hΓ [true] ?_)));simp only [go_sem,a0s,a0M];refine b1V rfl Tryz.underlying230 b1D a6D (by decide) rfl rfl (by decide) (by decide) (by exact (by decide:32<51)) ?_;simp only [go_sem,a0s,a0M];refine AW.drawZ hΓ mixed 7 [] [] [] (by kernel_rfl) ?_;simp only [go_sem,a0s,a0M];refine⟨⟨by omega,by omega⟩,⟨by omega,by omega⟩,rfl,?_⟩;refine awN hΓ rfl ?_;simp only [go_sem,a0s,a0M];refine⟨⟨(3,nx2+1,nx2+1+1),by dsimp only;omega⟩,⟨nLR _,⟨⟨rfl,rfl⟩,rfl⟩,rlR,a0c.sl rfl fun i hi j hj=>?_⟩,by dsimp only;omega⟩;obtain rfl:j=0:=by omega
       have hc:i=0\/i=1\/i=2\/i=3\/i=4\/i=5\/i=6:=by omega
       rcases hc with rfl|rfl|rfl|rfl|rfl|rfl|rfl<;>exact avR
      ·refine awN hΓ rfl ?_;simp only [go_sem,a0s,a0M];refine⟨(u2,nx2),a17 ?_⟩;simp only [go_sem,a0s,a0M];exact⟨rlR,rlR⟩
    ·refine awN hΓ rfl ?_;simp only [go_sem,a0s,a0M];have hj:=hall _ rfl;rw [show List.range 0++[0]++[1]++[2]++[3]++[4]++[5]++[6]=[0,1,2,3,4,5,6] from rfl];simp only [List.map_cons,List.map_nil,List.getD_cons_zero,List.getD_cons_succ];rw [hj];have hn:=hok.1;refine⟨⟨by decide,by omega⟩,⟨by omega,by omega⟩,⟨by omega,by omega⟩,⟨(i+1,nx2,nx2+1),hlt⟩,⟨nLR _,⟨⟨rfl,rfl⟩,rfl⟩,?_⟩,by dsimp only;omega⟩;dsimp only;have e:=a1F (E:=eS) (v:=nx2) (e:=9) (s:=1) (d:=[]) (l:=(l.take i).map b1b) (l':=(l.take (i+1)).map b1b) (n:=i) (n':=i+1) (m:=((l.take (i+1)).map b1b).length) (dd:=fun i=>([fun x=>AV.st (b1b (true,(x1,x2),(y1,y2),z1,z2))]:List (Nat->AV)).getD i fun _=>.any) (x:=b1b (true,(x1,x2),(y1,y2),z1,z2)) rfl (by rw [a1T l eCk.dflt hlt,hg,List.map_append];rfl) (by rw [List.length_map,List.length_take];omega) rfl rfl fun _ _=>avR
     rw [List.length_map,List.length_take] at e;exact e
  | false=>
    refine awL hΓ [6] rfl ?_;simp only [go_sem,a0s,a0M,hlI,hg];refine⟨by omega,AW.fork (AW.regionO hΓ [true] ?_)⟩;simp only [go_sem,a0s,a0M];refine a9x rfl ?_;simp only [go_sem,a0s,a0M];refine awZ hΓ rfl ?_;simp only [go_sem,a0s,a0M];refine AW.fork ?_;refine awZ hΓ rfl ?_;simp only [go_sem,a0s,a0M];refine AW.seqTo (fun x:Nat×Nat=>Sh.st ⟨[(3,.ow 0 u i),(6,.ow 2 x.1 7),(12,sL eCk l),(13,.val (.int .i64 l.length)),(14,.val (.int .i64 i))],[(0,a1a u 9 eS ((l.take i).map b1b)),(2,a1a x.1 9 eS [stW false,Lib.itoa x1,Lib.itoa x2,Lib.itoa y1,Lib.itoa y2,Lib.itoa z1,Lib.itoa z2])],51,3,x.2,[]⟩) ?_ fun⟨u2,nx2⟩=>?_
    ·refine awZ hΓ rfl ?_;simp only [go_sem,a0s,a0M];refine AW.round (α:={ x:Nat×Nat×Nat // x.1<=3 }) (fun x=>⟨[(3,.ow 0 u i),(6,.ow 2 x.1.2.1 (1+2*x.1.1)),(12,sL eCk l),(13,.val (.int .i64 l.length)),(14,.val (.int .i64 i)),(29,.ag 6 ((eP eSp (eP eSp eSp)).enc ((x1,x2),(y1,y2),z1,z2))),(30,.val (.int .i64 x.1.1))],[(0,a1a u 9 eS ((l.take i).map b1b)),(2,a1a x.1.2.1 9 eS ([stW false,Lib.itoa x1,Lib.itoa x2,Lib.itoa y1,Lib.itoa y2,Lib.itoa z1,Lib.itoa z2].take (1+2*x.1.1)))],51,3,x.1.2.2,[]⟩) (fun x=>3-x.1.1) ⟨(0,nx+1,nx+2),nZL _⟩ ?_ ?_
     ·simp only [go_sem,a0s,a0M];refine⟨a0k.ag fun j hj=>?_,rlR,a0c.sl rfl fun i hi j hj=>?_⟩
      ·have hc:j=0\/j=1\/j=2\/j=3\/j=4\/j=5:=by omega
       rcases hc with rfl|rfl|rfl|rfl|rfl|rfl<;>exact avR
      ·obtain rfl:j=0:=by omega
       obtain rfl:i=0:=by omega
       exact avR
     ·rintro⟨⟨k,u2,nx2⟩,hk⟩;have hc:k=0\/k=1\/k=2\/k=3:=by dsimp only at hk;omega
      rcases hc with rfl|rfl|rfl|rfl
      ·refine awL hΓ [11] rfl ?_;simp only [go_sem,a0s,a0M];refine AW.fork ?_;refine awL hΓ [11] rfl ?_;simp only [go_sem,a0s,a0M];refine AW.fork (AW.block (AW.fork (AW.regionO hΓ [true] ?_)));simp only [go_sem,a0s,a0M];refine b1V rfl Tryz.underlying230 b1D a6D (by decide) rfl rfl (by decide) (by decide) (by exact (by decide:32<51)) ?_;simp only [go_sem,a0s,a0M];refine AW.drawZ hΓ mixed 7 [] [] [] (by kernel_rfl) ?_;simp only [go_sem,a0s,a0M];refine⟨⟨by omega,by omega⟩,⟨by omega,by omega⟩,rfl,?_⟩;refine awN hΓ rfl ?_;simp only [go_sem,a0s,a0M];refine⟨⟨(1,nx2+1,nx2+1+1),by dsimp only;omega⟩,⟨nLR _,⟨⟨rfl,rfl⟩,rfl⟩,rlR,a0c.sl rfl fun i hi j hj=>?_⟩,by dsimp only;omega⟩;obtain rfl:j=0:=by omega
       have hc:i=0\/i=1\/i=2:=by omega
       rcases hc with rfl|rfl|rfl<;>exact avR
      ·refine awL hΓ [11] rfl ?_;simp only [go_sem,a0s,a0M];refine AW.fork ?_;refine awL hΓ [11] rfl ?_;simp only [go_sem,a0s,a0M];refine AW.fork (AW.block (AW.fork (AW.regionO hΓ [true] ?_)));simp only [go_sem,a0s,a0M];refine b1V rfl Tryz.underlying230 b1D a6D (by decide) rfl rfl (by decide) (by decide) (by exact (by decide:32<51)) ?_;simp only [go_sem,a0s,a0M];refine AW.drawZ hΓ mixed 7 [] [] [] (by kernel_rfl) ?_;simp only [go_sem,a0s,a0M];refine⟨⟨by omega,by omega⟩,⟨by omega,by omega⟩,rfl,?_⟩;refine awN hΓ rfl ?_;simp only [go_sem,a0s,a0M];refine⟨⟨(2,nx2+1,nx2+1+1),by dsimp only;omega⟩,⟨nLR _,⟨⟨rfl,rfl⟩,rfl⟩,rlR,a0c.sl rfl fun i hi j hj=>?_⟩,by dsimp only;omega⟩;obtain rfl:j=0:=by omega
       have hc:i=0\/i=1\/i=2\/i=3\/i=4:=by omega
       rcases hc with rfl|rfl|rfl|rfl|rfl<;>exact avR
      ·refine awL hΓ [11] rfl ?_;simp only [go_sem,a0s,a0M];refine AW.fork ?_;refine awL hΓ [11] rfl ?_;simp only [go_sem,a0s,a0M];refine AW.fork (AW.block (AW.fork (AW.regionO hΓ [true] ?_)));simp only [go_sem,a0s,a0M];refine b1V rfl Tryz.underlying230 b1D a6D (by decide) rfl rfl (by decide) (by decide) (by exact (by decide:32<51)) ?_;simp only [go_sem,a0s,a0M];refine AW.drawZ hΓ mixed 7 [] [] [] (by kernel_rfl) ?_;simp only [go_sem,a0s,a0M];refine⟨⟨by omega,by omega⟩,⟨by omega,by omega⟩,rfl,?_⟩;refine awN hΓ rfl ?_;simp only [go_sem,a0s,a0M];refine⟨⟨(3,nx2+1,nx2+1+1),by dsimp only;omega⟩,⟨nLR _,⟨⟨rfl,rfl⟩,rfl⟩,rlR,a0c.sl rfl fun i hi j hj=>?_⟩,by dsimp only;omega⟩;obtain rfl:j=0:=by omega
       have hc:i=0\/i=1\/i=2\/i=3\/i=4\/i=5\/i=6:=by omega
       rcases hc with rfl|rfl|rfl|rfl|rfl|rfl|rfl<;>exact avR
      ·refine awN hΓ rfl ?_;simp only [go_sem,a0s,a0M];refine⟨(u2,nx2),a17 ?_⟩;simp only [go_sem,a0s,a0M];exact⟨rlR,rlR⟩
    ·refine awN hΓ rfl ?_;simp only [go_sem,a0s,a0M];have hj:=hall _ rfl;rw [show List.range 0++[0]++[1]++[2]++[3]++[4]++[5]++[6]=[0,1,2,3,4,5,6] from rfl];simp only [List.map_cons,List.map_nil,List.getD_cons_zero,List.getD_cons_succ];rw [hj];have hn:=hok.1;refine⟨⟨by decide,by omega⟩,⟨by omega,by omega⟩,⟨by omega,by omega⟩,⟨(i+1,nx2,nx2+1),hlt⟩,⟨nLR _,⟨⟨rfl,rfl⟩,rfl⟩,?_⟩,by dsimp only;omega⟩;dsimp only;have e:=a1F (E:=eS) (v:=nx2) (e:=9) (s:=1) (d:=[]) (l:=(l.take i).map b1b) (l':=(l.take (i+1)).map b1b) (n:=i) (n':=i+1) (m:=((l.take (i+1)).map b1b).length) (dd:=fun i=>([fun x=>AV.st (b1b (false,(x1,x2),(y1,y2),z1,z2))]:List (Nat->AV)).getD i fun _=>.any) (x:=b1b (false,(x1,x2),(y1,y2),z1,z2)) rfl (by rw [a1T l eCk.dflt hlt,hg,List.map_append];rfl) (by rw [List.length_map,List.length_take];omega) rfl rfl fun _ _=>avR
     rw [List.length_map,List.length_take] at e;exact e
 ·obtain rfl:i=l.length:=by omega
  have hlI:((l.length:Int)<(l.length:Nat))=False:=eq_false (by omega);refine awN hΓ rfl ?_;simp only [go_sem,a0s,a0M,hlI];have e:=b9M (n:=l.length) (List.map b1b l) [] (by rw [List.length_map]);have hj:=b3u hok;have h1:=hok.1;rw [e,List.length_range];exact⟨⟨by omega,by omega⟩,by unfold c3y;rw [if_neg h0]⟩
end
section
open Go
attribute [local irreducible] AW a0k a1k a0c a6H
abbrev d6l:List UInt8:=[116,101,120,116]
abbrev d5S:List UInt8:=[119,105,100,101]
abbrev c90:List UInt8:=[99,104,117,110,107,115]
def b5d (verb:List UInt8) (m:Mg):List UInt8:=if verb=d6l then a4j m.2.1 else if verb=d5S then Lib.itoa m.2.2.1 else if verb=c90 then c3y m.2.2.2 else a3a (printR m.1 m.2.2.1).1 (printR m.1 m.2.2.1).2
def a12 (verb line:List UInt8) (a:Ss):List UInt8:=if (wdL line).length=1 then match a.2.2 with
 | none=>a7L
 | some m=>b5d verb m else a00
def a95 (xs:List AV) (a:Ss) (r:AV) (b:Ss):Prop:=∃ verb line:List UInt8,xs=[.st verb,sL eS (wdL line).tail]/\line.length<=1000/\(∀ m,a.2.2=some m->b8S m)/\r=.st (a12 verb line a)/\b=a
def c2J:a0O:=sSh a95
theorem c6r:a0g Tryz.prog 61 c2J:=by
 refine a0g.mk Tryz.func61 rfl (by decide) Tryz.results61 Tryz.ntmps61 ?_;rintro args hp top nx K ⟨v,v1,v2,v3,v4,xs,a,r,b,rfl,⟨verb,line,rfl,hl,hm,rfl,rfl⟩,rfl,rfl,hK⟩;have hΓ:GOK Tryz.prog (gam [(118,a2T),(117,a0s),(119,a3d),(75,a1v),(120,a0m)]):=(.cons b99 (.cons b0G (.cons c8z (.cons b6l (.cons b2D .nil)))));refine⟨Nat.le_of_ble_eq_true rfl,AW.late ?_⟩;have hk:=a0Z hK rfl;by_cases h2:(wdL line).length=1
 ·have hI:((wdL line).tail.length:Int)=0:=by rw [List.length_tail];omega
  cases hb:b.2.2 with
  | none=>
    have e:a12 verb line b=a7L:=by unfold a12;rw [if_pos h2,hb]
    rw [e] at hk;refine awN hΓ rfl ?_;simp only [go_sem,a2T,a0s,a3d,a1v,a0m,hI,b9E,hb];refine⟨_,a0e (fun p=>p) (l:=[(6,.st a7L)]) (r:=[(0,.box v 106 10 (shC 1 2 3 4 v1 v2 v3 v4 b)),(1,a0l v1 b.1.1),(2,a0l v2 b.1.2.1),(3,a0l v3 b.1.2.2),(4,mgR v4 b.2.2)]) (sz:=64) (top:=5) (nx:=nx) (df:=[]) ?_,?_⟩
    ·simp only [go_sem,a2T,a0s,a3d,a1v,a0m];exact⟨rlR,rlR,rlR,rlR,by rw [hb];exact rlR⟩
    ·simp only [go_sem,a2T,a0s,a3d,a1v,a0m];exact hk v1 v2 v3 nx (.inl rfl) (.inl rfl) (.inl rfl) (nLR _)
  | some m=>
    have hmm:=hm m hb;have e:a12 verb line b=b5d verb m:=by unfold a12;rw [if_pos h2,hb]
    rw [e] at hk;by_cases g1:verb=[116,101,120,116]
    ·subst g1;have e2:b5d [116,101,120,116] m=a4j m.2.1:=rfl;rw [e2] at hk;have ht:=hmm.txt;refine awN hΓ rfl ?_;simp only [go_sem,a2T,a0s,a3d,a1v,a0m,hI,b9E,hb,mgR];refine⟨by omega,?_⟩;refine⟨_,a0e (fun p=>p) (l:=[(6,.st (a4j m.2.1))]) (r:=[(0,.box v 106 10 (shC 1 2 3 4 v1 v2 v3 v4 b)),(1,a0l v1 b.1.1),(2,a0l v2 b.1.2.1),(3,a0l v3 b.1.2.2),(4,mgR v4 b.2.2)]) (sz:=64) (top:=5) (nx:=nx) (df:=[]) ?_,?_⟩
     ·simp only [go_sem,a2T,a0s,a3d,a1v,a0m];exact⟨rlR,rlR,rlR,rlR,by rw [hb];exact rlR⟩
     ·simp only [go_sem,a2T,a0s,a3d,a1v,a0m];exact hk v1 v2 v3 nx (.inl rfl) (.inl rfl) (.inl rfl) (nLR _)
    by_cases g2:verb=[119,105,100,101]
    ·subst g2;have e2:b5d [119,105,100,101] m=Lib.itoa m.2.2.1:=rfl;rw [e2] at hk;have ht:=hmm.w0;have ht1:=hmm.w1;refine awN hΓ rfl ?_;simp only [go_sem,a2T,a0s,a3d,a1v,a0m,hI,b9E,hb,mgR];refine⟨fun h=>absurd h (by decide),fun _=>⟨⟨by omega,by omega⟩,?_⟩⟩;refine⟨_,a0e (fun p=>p) (l:=[(6,.st (Lib.itoa m.2.2.1))]) (r:=[(0,.box v 106 10 (shC 1 2 3 4 v1 v2 v3 v4 b)),(1,a0l v1 b.1.1),(2,a0l v2 b.1.2.1),(3,a0l v3 b.1.2.2),(4,mgR v4 b.2.2)]) (sz:=64) (top:=5) (nx:=nx) (df:=[]) ?_,?_⟩
     ·simp only [go_sem,a2T,a0s,a3d,a1v,a0m];exact⟨rlR,rlR,rlR,rlR,by rw [hb];exact rlR⟩
     ·simp only [go_sem,a2T,a0s,a3d,a1v,a0m];exact hk v1 v2 v3 nx (.inl rfl) (.inl rfl) (.inl rfl) (nLR _)
    by_cases g3:verb=[99,104,117,110,107,115]
    ·subst g3;have e2:b5d [99,104,117,110,107,115] m=c3y m.2.2.2:=rfl;rw [e2] at hk;refine awN hΓ rfl ?_;simp only [go_sem,a2T,a0s,a3d,a1v,a0m,hI,b9E,hb,mgR];refine⟨fun h=>absurd h (by decide),fun _=>⟨fun h=>absurd h (by decide),fun _=>⟨hmm.cks,?_⟩⟩⟩;refine⟨_,a0e (fun p=>p) (l:=[(6,.st (c3y m.2.2.2))]) (r:=[(0,.box v 106 10 (shC 1 2 3 4 v1 v2 v3 v4 b)),(1,a0l v1 b.1.1),(2,a0l v2 b.1.2.1),(3,a0l v3 b.1.2.2),(4,mgR v4 b.2.2)]) (sz:=64) (top:=5) (nx:=nx) (df:=[]) ?_,?_⟩
     ·simp only [go_sem,a2T,a0s,a3d,a1v,a0m];exact⟨rlR,rlR,rlR,rlR,by rw [hb];exact rlR⟩
     ·simp only [go_sem,a2T,a0s,a3d,a1v,a0m];exact hk v1 v2 v3 nx (.inl rfl) (.inl rfl) (.inl rfl) (nLR _)
    ·refine awL hΓ [200006] rfl ?_;simp only [go_sem,a2T,a0s,a3d,a1v,a0m,hI,b9E,hb,mgR,g1,g2,g3];have e2:b5d verb m=a3a (printR m.1 m.2.2.1).1 (printR m.1 m.2.2.1).2:=by unfold b5d;rw [if_neg g1,if_neg g2,if_neg g3]
     rw [e2] at hk;have hpr:=hmm.printR;have hpl:=hmm.print;have hok:=hmm.ok;refine AW.drawK hΓ mixed 19 [] [] [] [0,4] (by decide +kernel) ?_;simp only [go_sem,a2T,a0s,a3d,a1v,a0m,b9E,hb,mgR];refine⟨⟨⟨hok.1,hok.2.1⟩,fun _=>by omega⟩,⟨by omega,hpr.2⟩,?_⟩;refine⟨_,a0e (fun p=>p) (l:=[(6,.st (a3a (printR m.1 m.2.2.1).1 (printR m.1 m.2.2.1).2))]) (r:=[(0,.box v 106 10 (shC 1 2 3 4 v1 v2 v3 v4 b)),(1,a0l v1 b.1.1),(2,a0l v2 b.1.2.1),(3,a0l v3 b.1.2.2),(4,mgR v4 b.2.2)]) (sz:=64) (top:=5) (nx:=nx) (df:=[]) ?_,?_⟩
     ·simp only [go_sem,a2T,a0s,a3d,a1v,a0m];exact⟨rlR,rlR,rlR,rlR,by rw [hb];exact rlR⟩
     ·simp only [go_sem,a2T,a0s,a3d,a1v,a0m];exact hk v1 v2 v3 nx (.inl rfl) (.inl rfl) (.inl rfl) (nLR _)
 ·have hI:(((wdL line).tail.length:Int)=0)=False:=eq_false (by rw [List.length_tail];have:=List.length_pos_iff.2 (a6m line);omega);have e:a12 verb line b=a00:=by unfold a12;rw [if_neg h2]
  rw [e] at hk;refine awN hΓ rfl ?_;simp only [go_sem,a2T,a0s,a3d,a1v,a0m,hI];refine⟨_,a0e (fun p=>p) (l:=[(6,.st a00)]) (r:=[(0,.box v 106 10 (shC 1 2 3 4 v1 v2 v3 v4 b)),(1,a0l v1 b.1.1),(2,a0l v2 b.1.2.1),(3,a0l v3 b.1.2.2),(4,mgR v4 b.2.2)]) (sz:=64) (top:=5) (nx:=nx) (df:=[]) ?_,?_⟩
  ·simp only [go_sem,a2T,a0s,a3d,a1v,a0m];exact⟨rlR,rlR,rlR,rlR,rlR⟩
  ·simp only [go_sem,a2T,a0s,a3d,a1v,a0m];exact hk v1 v2 v3 nx (.inl rfl) (.inl rfl) (.inl rfl) (nLR _)
def a0A:a0O:=a1I c2J
theorem c2j:a0g Tryz.prog 61 a0A:=c6r.frame
end
set_option maxHeartbeats 2000000
section
open Go
abbrev Rs:=BS×Nat×Nat×Int×Pt×List Pt
def rdC (x:Rs) (r u:Nat):Nat->AV:=fun j=>if j=0 then .st x.1 else if j=1 then .val (.int .i64 x.2.1) else if j=2 then .val (.int .i64 x.2.2.1) else if j=3 then .val (.int .u8 x.2.2.2.1) else if j<13 then ePt.enc x.2.2.2.2.1 (j-4) else .ow r u x.2.2.2.2.2.length
section
variable (x:Rs) (r u:Nat)
@[go_sem] theorem d9s:rdC x r u 0=.st x.1:=rfl
@[go_sem] theorem d9j:rdC x r u 1=.val (.int .i64 x.2.1):=rfl
@[go_sem] theorem d9m:rdC x r u 2=.val (.int .i64 x.2.2.1):=rfl
@[go_sem] theorem d9w:rdC x r u 3=.val (.int .u8 x.2.2.2.1):=rfl
@[go_sem] theorem d85:rdC x r u 13=.ow r u x.2.2.2.2.2.length:=rfl
@[go_sem] theorem d9v:rdC x r u 4=.st x.2.2.2.2.1.1:=rfl
@[go_sem] theorem d9M:rdC x r u 5=.st x.2.2.2.2.1.2.1:=rfl
@[go_sem] theorem d9J:rdC x r u 6=.st x.2.2.2.2.1.2.2.1:=rfl
@[go_sem] theorem d9H:rdC x r u 7=.val (.bool x.2.2.2.2.1.2.2.2.1):=rfl
@[go_sem] theorem d9n:rdC x r u 8=.st x.2.2.2.2.1.2.2.2.2.1:=rfl
@[go_sem] theorem d9z:rdC x r u 9=.st x.2.2.2.2.1.2.2.2.2.2.1:=rfl
@[go_sem] theorem d8O:rdC x r u 10=.st x.2.2.2.2.1.2.2.2.2.2.2.1:=rfl
@[go_sem] theorem d8A:rdC x r u 11=.st x.2.2.2.2.1.2.2.2.2.2.2.2.1:=rfl
@[go_sem] theorem d81:rdC x r u 12=.val (.bool x.2.2.2.2.1.2.2.2.2.2.2.2.2):=rfl
end
theorem a52 {v:Nat} {t:TypeId} {c:Nat->AV} {x:Rs} {r u:Nat} (h0:c 0=rdC x r u 0) (h1:c 1=rdC x r u 1) (h2:c 2=rdC x r u 2) (h3:c 3=rdC x r u 3) (h4:c 4=rdC x r u 4) (h5:c 5=rdC x r u 5) (h6:c 6=rdC x r u 6) (h7:c 7=rdC x r u 7)
  (h8:c 8=rdC x r u 8) (h9:c 9=rdC x r u 9) (h10:c 10=rdC x r u 10) (h11:c 11=rdC x r u 11) (h12:c 12=rdC x r u 12) (h13:c 13=rdC x r u 13):a0c (.box v t 14 c) (.box v t 14 (rdC x r u)):=a0c.box fun j hj=>a0k.of_eq (match j,hj with
 | 0,_=>h0
 | 1,_=>h1
 | 2,_=>h2
 | 3,_=>h3
 | 4,_=>h4
 | 5,_=>h5
 | 6,_=>h6
 | 7,_=>h7
 | 8,_=>h8
 | 9,_=>h9
 | 10,_=>h10
 | 11,_=>h11
 | 12,_=>h12
 | 13,_=>h13)
theorem c9O {u n:Nat} {t:TypeId} {l:List Pt} (h:l.length=n):a0c (.sl u t 9 l.length fun i=>ePt.enc (l.getD i ePt.dflt)) (.sl u t 9 n fun i=>ePt.enc (l.getD i ePt.dflt)):=by
 subst h;exact rlR
theorem d15 (x:Rs) (v r r' u:Nat):a0c (.box v 192 14 (rdC x r u)) (.box v 192 14 (rdC x r' u)):=a0c.box fun j hj=>by
 by_cases h:j<13
 ·refine a0k.of_eq ?_;unfold rdC;simp only [h,if_true]
 ·obtain rfl:j=13:=by omega
  exact a0k.ow
def sRd (R:List AV->Rs->AV->Rs->Prop):a0O:=fun args hp top nx K=>∃ (v u:Nat) (xs:List AV) (a:Rs) (r:AV) (b:Rs),args=.pt 0 v 0::xs/\R xs a r b/\
 hp=rws [(0,.box v 192 14 (rdC a 1 u)),(1,a1a u 179 ePt a.2.2.2.2.2)]/\top=2/\
 ∀ u' nx',(u'=u\/nx<=u')->nx<=nx'->K r (rws [(0,.box v 192 14 (rdC b 1 u')),(1,a1a u' 179 ePt b.2.2.2.2.2)]) 2 nx'
theorem c4B {R:List AV->Rs->AV->Rs->Prop} {xs:List AV} {a b:Rs} {z:AV} {p q v u:Nat} {hp:Nat->Row} {top nx:Nat} {K:AV->(Nat->Row)->Nat->Nat->Prop} (hd:R xs a z b) (hpq:p≠q)
  (hr:a0c (hp p) (.box v 192 14 (rdC a q u))) (hr2:a0c (hp q) (a1a u 179 ePt a.2.2.2.2.2)) (ht:p<top/\q<top)
  (hK:∀ u' nx',(u'=u\/nx<=u')->nx<=nx'->K z (a0X (a0X hp p (.box v 192 14 (rdC b q u'))) q (a1a u' 179 ePt b.2.2.2.2.2)) top nx') :
  a1I (sRd R) (.pt p v 0::xs) hp top nx K:=by
 have e1:(hp p).ver=some v:=hr.vers.symm;have e2:(hp q).ver=some u:=hr2.vers.symm;refine⟨[p,q],.pt 0 v 0::xs,rws [(0,.box v 192 14 (rdC a 1 u)),(1,a1a u 179 ePt a.2.2.2.2.2)],by simp [hpq],by simp;omega,.cons a0k.pt (a4I.same xs),b3N (hr.trans (d15 a v q 1 u)) hr2,fun i hi=>a13 (top:=2) (by simp) i (by simpa using hi),v,u,xs,a,z,b,rfl,hd,rfl,rfl,fun u' nx' h1 h3=>?_⟩;refine⟨_,_,avR,fun i o ho=>?_,fun o ho=>?_,fun o ho w hv=>?_,hK u' nx' h1 h3⟩
 ·match i with
  | 0=>
    simp only [gCZ,oSI] at ho;subst ho;rw [a0d _ _ hpq,a0i];exact d15 b v 1 q u'
  | 1=>
    simp only [gCS,gCZ,oSI] at ho;subst ho;rw [a0i];exact rlR
  | i+2=>simp at ho
 ·simp only [List.mem_cons,List.not_mem_nil,or_false,not_or] at ho;rw [a0d _ _ ho.2,a0d _ _ ho.1]
 ·simp only [List.mem_cons,List.not_mem_nil,or_false] at ho;rcases ho with rfl|rfl
  ·rw [a0d _ _ hpq,a0i] at hv;have:some v=some w:=hv;obtain rfl:=oJI this;exact .inl e1
  ·rw [a0i] at hv;have:some u'=some w:=hv;obtain rfl:=oJI this;rcases h1 with rfl|h1
   ·exact .inl e2
   ·exact .inr h1
attribute [local irreducible] AW a0k a1k a0c
def a0W:a0r:=a0r.f2 kU kU (fun _ _=>True) (fun a k=>kB.enc (a6S a k))
theorem b80:a0b Tryz.prog 183 a0W:=by
 refine a0b.f2 Tryz.func183 rfl (by decide) Tryz.results183 Tryz.ntmps183 (by decide) fun a k _=>?_
 have hΓ:GOK Tryz.prog (gam []):=GOK.nil;by_cases h1:k=60
 ·subst h1;refine awZ hΓ rfl ?_;simp only [go_sem];rfl
 by_cases h2:k=124
 ·subst h2;refine awZ hΓ rfl ?_;simp only [go_sem];rfl
 by_cases h3:k=61
 ·subst h3;refine awZ hΓ rfl ?_;simp only [go_sem];exact⟨fun h=>by rw [decide_eq_false h];rfl,rfl⟩
 ·refine awZ hΓ rfl ?_;simp only [go_sem,h1,h2,h3];simp [a6S,h1,h2,h3]
def c0g:a0r:=a0r.f2 kS kS (fun a b=>a.length<=100000000000/\b=[10]) (fun a _=>kS.enc (a3Q a))
theorem c9S:a0b Tryz.prog 190 c0g:=by
 refine a0b.f2 Tryz.func190 rfl (by decide) Tryz.results190 Tryz.ntmps190 (by decide) fun a b ⟨ha,h⟩=>?_
 have hΓ:GOK Tryz.prog (gam [(149,a5D)]):=(.cons b0J .nil);subst h;unfold a3Q;refine awZ hΓ rfl ?_;simp only [go_sem,a5D]
 have hp:a1c a=true->0<a.length:=fun h=>by
  cases a with
  | nil=>cases h
  | cons _ _=>simp
 refine⟨ha,fun h=>?_,fun h=>?_⟩
 ·have:=hp h;refine⟨by omega,by omega,?_⟩;rw [if_pos h]
  congr 1
  omega
 ·rw [if_neg (by simp [h])]
def a2i:a0r:=a0r.f2 kS kS (fun a b=>a.length<=100000000000/\b=[10]) (fun a _=>kS.enc (a3Q a))
theorem c9c:a0b Tryz.prog 141 a2i:=by
 refine a0b.f2 Tryz.func141 rfl (by decide) Tryz.results141 Tryz.ntmps141 (by decide) fun a b ⟨ha,h⟩=>?_
 have hΓ:GOK Tryz.prog (gam [(190,c0g)]):=(.cons c9S .nil);subst h;refine awZ hΓ rfl ?_;simp only [go_sem,c0g];exact ha
def a6c (a:Rs):BS:=(a.1.take a.2.2.1).drop a.2.1
def c8I (a:Rs):Prop:=a.2.1<=a.2.2.1/\a.2.2.1<=a.1.length/\a.1.length<=100000000/\a.2.2.2.2.2.length<1000000000
def b0j (a:Rs) (ps:List Pt):Rs:=(a.1,a.2.1,a.2.2.1,a.2.2.2.1,a.2.2.2.2.1,ps)
def c7t:a0O:=sRd fun xs a r b=>xs=[]/\r=.val (.tuple #[])/\c8I a/\b=b0j a (a.2.2.2.2.2++[a1b (a6c a)])
theorem c8S:a0g Tryz.prog 137 c7t:=by
 refine a0g.mk Tryz.func137 rfl (by decide) Tryz.results137 Tryz.ntmps137 ?_;rintro args hp top nx K ⟨v,u,xs,a,r,b,rfl,⟨rfl,rfl,⟨g1,g2,g3,g4⟩,rfl⟩,rfl,rfl,hK⟩;have hΓ:GOK Tryz.prog (gam []):=GOK.nil;refine⟨Nat.le_of_ble_eq_true rfl,AW.late ?_⟩;refine awL hΓ [200000] rfl ?_;simp only [go_sem];refine AW.drawT hΓ mixed 20 [] (by decide +kernel) ?_;simp only [go_sem];refine⟨⟨by omega,by omega,by omega⟩,by omega,_,a0e (fun p=>p) (l:=[]) (r:=[(0,.box v 192 14 (rdC (b0j a (a.2.2.2.2.2++[a1b (a6c a)])) 1 nx)),(1,a1a nx 179 ePt (a.2.2.2.2.2++[a1b (a6c a)]))]) (sz:=25) (top:=2) (nx:=nx+1) (df:=[]) ?_,?_⟩
 ·simp only [go_sem];refine⟨a52 rfl rfl rfl rfl rfl rfl rfl rfl rfl rfl rfl rfl rfl ?_,?_⟩
  ·exact congrArg (AV.ow 1 nx) (by simp [b0j])
  ·refine a1F (E:=ePt) rfl rfl rfl rfl (by simp) fun j hj=>?_
   match j,hj with
   | 0,_=>exact avR
   | 1,_=>exact avR
   | 2,_=>exact avR
   | 3,_=>exact avR
   | 4,_=>exact avR
   | 5,_=>exact avR
   | 6,_=>exact avR
   | 7,_=>exact avR
   | 8,_=>exact avR
 ·exact⟨rfl,hK nx (nx+1) (.inr (nLR _)) (by omega)⟩
def a2l:a0O:=a1I c7t
theorem c7V:a0g Tryz.prog 137 a2l:=c8S.frame
def c70:a0O:=sRd fun xs a r b=>∃ (m:Mk) (sd:BS),xs=[(kA eMk).enc m,.st sd]/\r=.val (.tuple #[])/\c8I a/\b9d m.1/\b=(a.1,a.2.1,a.2.2.1,a.2.2.2.1,b1H a.2.2.2.1 m sd a.2.2.2.2.1,a7p a.2.2.2.1 m (a6c a) sd a.2.2.2.2.1 a.2.2.2.2.2)
theorem c8Z:a0g Tryz.prog 184 c70:=by
 refine a0g.mk Tryz.func184 rfl (by decide) Tryz.results184 Tryz.ntmps184 ?_;rintro args hp top nx K ⟨v,u,xs,a,r,b,rfl,⟨m,sd,rfl,rfl,⟨g1,g2,g3,g4⟩,hsg,rfl⟩,rfl,rfl,hK⟩;have hΓ:GOK Tryz.prog (gam [(137,a2l)]):=(.cons c7V .nil);refine⟨Nat.le_of_ble_eq_true rfl,AW.late ?_⟩;obtain⟨s,fr,at_,af,c,ps⟩:=a;obtain⟨k,f,lab⟩:=m;simp only at g1 g2 g3 g4 hsg hK;refine awL hΓ [0,200014,200017] rfl ?_;simp only [go_sem,a2l];refine AW.cut ⟨[(0,.pt 0 v 0),(2,.st sd),(4,.pt 2 nx 0)],[(0,.box v 192 14 (rdC (s,fr,at_,af,c,ps) 1 u)),(1,a1a u 179 ePt ps),(2,.box nx 188 3 (eMk.enc (k,f,lab)))],83,3,nx+1,[]⟩ ?_ ?_
 ·simp only [go_sem,a2l];exact⟨rlR,rlR,rlR⟩
 refine AW.still 4 2 nx 188 3 _ rfl rfl (fun j hj=>match j,hj with|0,_=>rfl|1,_=>rfl|2,_=>rfl) ?_;refine AW.seqTo (fun _:Unit=>Sh.st ⟨[(0,.pt 0 v 0),(2,.st sd),(4,.ps 3 (eMk.enc (k,f,lab)))],[(0,.box v 192 14 (rdC (s,fr,at_,af,b4u af sd c,ps) 1 u)),(1,a1a u 179 ePt ps)],83,3,nx+1,[]⟩) ?_ fun _=>?_
 ·by_cases h1:af=60
  ·subst h1;refine awL hΓ [200014,200017] rfl ?_;simp only [go_sem,a2l];refine⟨(),a0e (fun p=>p) ?_⟩;simp only [go_sem,a2l];exact⟨a52 rfl rfl rfl rfl rfl rfl rfl rfl rfl rfl rfl rfl rfl rfl,rlR⟩
  by_cases h2:af=124
  ·subst h2;refine awL hΓ [200014,200017] rfl ?_;simp only [go_sem,a2l];refine⟨(),a0e (fun p=>p) ?_⟩;simp only [go_sem,a2l];exact⟨a52 rfl rfl rfl rfl rfl rfl rfl rfl rfl rfl rfl rfl rfl rfl,rlR⟩
  by_cases h3:af=61
  ·subst h3;refine awL hΓ [200014,200017] rfl ?_;simp only [go_sem,a2l];refine⟨(),a0e (fun p=>p) ?_⟩;simp only [go_sem,a2l];exact⟨a52 rfl rfl rfl rfl rfl rfl rfl rfl rfl rfl rfl rfl rfl rfl,rlR⟩
  ·refine awL hΓ [200014,200017] rfl ?_;simp only [go_sem,a2l,h1,h2,h3];refine⟨(),a0e (fun p=>p) ?_⟩
   have e:b4u af sd c=c:=by
    unfold b4u;rw [if_neg h1,if_neg h2,if_neg h3]
   simp only [go_sem,a2l,e];exact⟨rlR,rlR⟩
 have hpc:b1H af (k,f,lab) sd c=if k=60 then (lab,[],[],true,[],[],[],[],false) else if k=124 then b9H (b4u af sd c) lab else if k=62 then b3Q (b4u af sd c) lab else b4u af sd c:=rfl
 have hpl:a7p af (k,f,lab) (a6c (s,fr,at_,af,c,ps)) sd c ps=if k=60 then ps++[a1b ((s.take at_).drop fr)] else if k=62 then ps++[b1H af (k,f,lab) sd c] else ps:=rfl
 rw [hpl,hpc] at hK;generalize b4u af sd c=d at *
 rcases hsg with rfl|rfl|rfl|rfl
 ·rw [if_pos rfl,if_pos rfl] at hK;refine awL hΓ [200014,200017] rfl ?_;simp only [go_sem,a2l];refine c4B (a:=(s,fr,at_,af,d,ps)) ⟨rfl,rfl,⟨g1,g2,g3,g4⟩,rfl⟩ (by decide)  rlR   rlR  (by decide) fun u1 n1 q1 h1=>?_
  simp only [go_sem,a2l];refine⟨_,a0e (fun p=>p) (l:=[]) (r:=[(0,.box v 192 14 (rdC (s,fr,at_,af,(lab,[],[],true,[],[],[],[],false),ps++[a1b ((s.take at_).drop fr)]) 1 u1)),(1,a1a u1 179 ePt (ps++[a1b ((s.take at_).drop fr)]))]) (sz:=83) (top:=2) (nx:=n1) (df:=[]) ?_,?_⟩
  ·simp only [go_sem,a2l];exact⟨a52 rfl rfl rfl rfl rfl rfl rfl rfl rfl rfl rfl rfl rfl (congrArg (AV.ow 1 u1) (by simp [b0j])),c9O (by simp [b0j])⟩
  ·exact⟨rfl,hK u1 n1 (by omega) (by omega)⟩
 ·rw [if_neg (by decide),if_pos rfl,if_neg (by decide),if_neg (by decide)] at hK;refine awL hΓ [200014,200017] rfl ?_;simp only [go_sem,a2l];refine AW.drawZ hΓ mixed 7 [8,9,10,11] [2,3,8,9,10,11] [] (by decide +kernel) ?_;simp only [go_sem,a2l];refine⟨_,a0e (fun p=>p) (l:=[]) (r:=[(0,.box v 192 14 (rdC (s,fr,at_,af,b9H d lab,ps) 1 u)),(1,a1a u 179 ePt (ps))]) (sz:=83) (top:=2) (nx:=nx+1) (df:=[]) ?_,?_⟩
  ·simp only [go_sem,a2l];exact⟨a52 rfl rfl rfl rfl rfl rfl rfl rfl rfl rfl rfl rfl rfl rfl,rlR⟩
  ·exact⟨rfl,hK u (nx+1) (.inl rfl) (by omega)⟩
 ·rw [if_neg (by decide),if_neg (by decide),if_neg (by decide),if_neg (by decide),if_neg (by decide)] at hK;refine awL hΓ [200014,200017] rfl ?_;simp only [go_sem,a2l];refine⟨_,a0e (fun p=>p) (l:=[]) (r:=[(0,.box v 192 14 (rdC (s,fr,at_,af,d,ps) 1 u)),(1,a1a u 179 ePt (ps))]) (sz:=83) (top:=2) (nx:=nx+1) (df:=[]) ?_,?_⟩
  ·simp only [go_sem,a2l];exact⟨rlR,rlR⟩
  ·exact⟨rfl,hK u (nx+1) (.inl rfl) (by omega)⟩
 ·rw [if_neg (by decide),if_neg (by decide),if_pos rfl,if_neg (by decide),if_pos rfl] at hK;refine awL hΓ [200014,200017] rfl ?_;simp only [go_sem,a2l];refine AW.drawT hΓ mixed 10 [] (by decide +kernel) ?_;simp only [go_sem,a2l];refine⟨by omega,_,a0e (fun p=>p) (l:=[]) (r:=[(0,.box v 192 14 (rdC (s,fr,at_,af,b3Q d lab,ps++[b3Q d lab]) 1 (nx+1))),(1,a1a (nx+1) 179 ePt (ps++[b3Q d lab]))]) (sz:=83) (top:=2) (nx:=nx+2) (df:=[]) ?_,?_⟩
  ·simp only [go_sem,a2l];refine⟨a52 rfl rfl rfl rfl rfl rfl rfl rfl rfl rfl rfl rfl rfl (congrArg (AV.ow 1 (nx+1)) (by simp)),?_⟩;refine a1F (E:=ePt) rfl rfl rfl rfl (by simp) fun j hj=>?_
   match j,hj with
   | 0,_=>exact avR
   | 1,_=>exact avR
   | 2,_=>exact avR
   | 3,_=>exact avR
   | 4,_=>exact avR
   | 5,_=>exact avR
   | 6,_=>exact avR
   | 7,_=>exact avR
   | 8,_=>exact avR
  ·exact⟨rfl,hK (nx+1) (nx+2) (.inr (by omega)) (by omega)⟩
def a3D:a0O:=a1I c70
theorem d2i:a0g Tryz.prog 184 a3D:=c8Z.frame
def d0W (a:Rs) (m:Mk) (line:BS):Rs:=if (a1D a.2.2.2.1 (a6c a) a.2.2.2.2.1 a.2.2.2.2.2 m).1=0 then
    (a.1,a.2.2.1+line.length,a.2.2.1,(a1D a.2.2.2.1 (a6c a) a.2.2.2.2.1 a.2.2.2.2.2 m).2.1,(a1D a.2.2.2.1 (a6c a) a.2.2.2.2.1 a.2.2.2.2.2 m).2.2.1,(a1D a.2.2.2.1 (a6c a) a.2.2.2.2.1 a.2.2.2.2.2 m).2.2.2) else a
def c63:a0O:=sRd fun xs a r b=>∃ (m:Mk) (line:BS),xs=[(kA eMk).enc m,.st line]/\r=.val (.int .i64 (a1D a.2.2.2.1 (a6c a) a.2.2.2.2.1 a.2.2.2.2.2 m).1)/\c8I a/\b9d m.1/\line.length<=100000000/\b=d0W a m line
theorem c8A:a0g Tryz.prog 136 c63:=by
 refine a0g.mk Tryz.func136 rfl (by decide) Tryz.results136 Tryz.ntmps136 ?_;rintro args hp top nx K ⟨v,u,xs,a,r,b,rfl,⟨m,line,rfl,rfl,⟨g1,g2,g3,g4⟩,hsg,hll,rfl⟩,rfl,rfl,hK⟩;have hΓ:GOK Tryz.prog (gam [(183,a0W),(141,a2i),(91,a0G),(184,a3D)]):=(.cons b80 (.cons c9c (.cons a9O (.cons d2i .nil))));refine⟨Nat.le_of_ble_eq_true rfl,AW.late ?_⟩;obtain⟨s,fr,at_,af,c,ps⟩:=a;obtain⟨k,f,lab⟩:=m;simp only at g1 g2 g3 g4 hsg hK;generalize hnow:a6c (s,fr,at_,af,c,ps)=now at *
 have hnow':(s.take at_).drop fr=now:=hnow
 have hnl:now.length<=100000000:=by
  rw [<-hnow',List.length_drop,List.length_take];omega
 unfold d0W at hK;simp only [hnow] at hK;refine awL hΓ [0,200012] rfl ?_;simp only [go_sem,a0W,a2i,a0G,a3D];refine AW.cut ⟨[(0,.pt 0 v 0),(2,.st line),(4,.pt 2 nx 0)],[(0,.box v 192 14 (rdC (s,fr,at_,af,c,ps) 1 u)),(1,a1a u 179 ePt ps),(2,.box nx 188 3 (eMk.enc (k,f,lab)))],76,3,nx+1,[]⟩ ?_ ?_
 ·simp only [go_sem,a0W,a2i,a0G,a3D];exact⟨rlR,rlR,rlR⟩
 refine AW.still 4 2 nx 188 3 _ rfl rfl (fun j hj=>match j,hj with|0,_=>rfl|1,_=>rfl|2,_=>rfl) ?_
 have fin:∀ e:Int,(a1D af now c ps (k,f,lab)).1=e->e≠0->K (.val (.int .i64 e)) (rws [(0,.box v 192 14 (rdC (s,fr,at_,af,c,ps) 1 u)),(1,a1a u 179 ePt ps)]) 2 (nx+1):=fun e he h0=>by
  have:=hK u (nx+1) (.inl rfl) (by omega);rw [he,if_neg h0] at this;exact this
 by_cases hn:k=60/\af≠0
 ·have ht:(a1D af now c ps (k,f,lab)).1=7:=by
   unfold a1D;rw [if_pos hn]
  refine awL hΓ [200012] rfl ?_;simp only [go_sem,a0W,a2i,a0G,a3D,hn.1,hn.2];refine⟨_,a0e (fun p=>p) (l:=[(6,.val (.int .i64 7))]) (r:=[(0,.box v 192 14 (rdC (s,fr,at_,af,c,ps) 1 u)),(1,a1a u 179 ePt ps)]) (sz:=76) (top:=2) (nx:=nx+1) (df:=[]) ?_,?_⟩
  ·simp only [go_sem,a0W,a2i,a0G,a3D];exact⟨rlR,rlR⟩
  ·exact⟨rfl,trivial,fin 7 ht (by decide)⟩
 have hn1:(decide (k=60)&&decide (¬af=0))=false:=by
  by_cases h1:k=60
  ·rw [decide_eq_false (p:=¬af=0) fun h=>hn ⟨h1,h⟩,Bool.and_false]
  ·rw [decide_eq_false h1,Bool.false_and]
 by_cases hf:a6S af k=false
 ·have ht:(a1D af now c ps (k,f,lab)).1=8:=by
   unfold a1D;rw [if_neg hn,if_pos hf]
  refine awL hΓ [200012] rfl ?_;simp only [go_sem,a0W,a2i,a0G,a3D,hn1,hf];refine⟨_,a0e (fun p=>p) (l:=[(6,.val (.int .i64 8))]) (r:=[(0,.box v 192 14 (rdC (s,fr,at_,af,c,ps) 1 u)),(1,a1a u 179 ePt ps)]) (sz:=76) (top:=2) (nx:=nx+1) (df:=[]) ?_,?_⟩
  ·simp only [go_sem,a0W,a2i,a0G,a3D];exact⟨rlR,rlR⟩
  ·exact⟨rfl,trivial,fin 8 ht (by decide)⟩
 have hf':a6S af k=true:=by simpa using hf
 have htk:a1D af now c ps (k,f,lab)=(match b3i (k,f,lab) now with
  | none=>(9,af,c,ps)
  | some sd=>(0,if k=62 then 0 else k,b1H af (k,f,lab) sd c,a7p af (k,f,lab) now sd c ps)):=by
  unfold a1D;rw [if_neg hn,if_neg hf];rfl
 refine awL hΓ [5,200012] rfl ?_;simp only [go_sem,a0W,a2i,a0G,a3D,hn1,hf'];refine⟨⟨by omega,by omega,by omega⟩,?_⟩;refine AW.cut ⟨[(0,.pt 0 v 0),(2,.st line),(4,.ps 3 (eMk.enc (k,f,lab))),(7,.st now)],[(0,.box v 192 14 (rdC (s,fr,at_,af,c,ps) 1 u)),(1,a1a u 179 ePt ps)],76,3,nx+1,[]⟩ ?_ ?_
 ·rw [hnow'];simp only [go_sem,a0W,a2i,a0G,a3D];exact⟨rlR,rlR⟩
 by_cases hb:f=true/\(a3Q now=[]\/a1c (a3Q now)=true)
 ·obtain⟨rfl,hb⟩:=hb
  have ht:(a1D af now c ps (k,true,lab)).1=9:=by
   rw [htk];unfold b3i;rw [if_pos rfl,if_pos hb]
  have hb2:(decide (a3Q now=[])||a1c (a3Q now))=true:=by simpa using hb
  have hcl:=b5r now;refine AW.fork ?_;refine awL hΓ [200012] rfl ?_;simp only [go_sem,a0W,a2i,a0G,a3D,hb2];refine⟨by omega,fun _=>by omega,fun h=>by rw [decide_eq_false h];rfl,?_⟩;refine⟨_,a0e (fun p=>p) (l:=[(6,.val (.int .i64 9))]) (r:=[(0,.box v 192 14 (rdC (s,fr,at_,af,c,ps) 1 u)),(1,a1a u 179 ePt ps)]) (sz:=76) (top:=2) (nx:=nx+1) (df:=[]) ?_,?_⟩
  ·simp only [go_sem,a0W,a2i,a0G,a3D];exact⟨rlR,rlR⟩
  ·exact⟨rfl,trivial,fin 9 ht (by decide)⟩
 obtain⟨sd,hsd⟩:∃ sd,b3i (k,f,lab) now=some sd:=by
  unfold b3i;cases f with
  | false=>exact⟨now,rfl⟩
  | true=>
    refine⟨a3Q now,?_⟩;rw [if_pos rfl,if_neg fun h=>hb ⟨rfl,h⟩]
 rw [hsd] at htk;dsimp only at htk;rw [htk] at hK;refine AW.seqTo (fun _:Unit=>Sh.st ⟨[(0,.pt 0 v 0),(2,.st line),(4,.ps 3 (eMk.enc (k,f,lab))),(7,.st sd)],[(0,.box v 192 14 (rdC (s,fr,at_,af,c,ps) 1 u)),(1,a1a u 179 ePt ps)],76,3,nx+1,[]⟩) ?_ fun _=>?_
 ·have hcl:=b5r now;cases f with
  | false=>
    have e:sd=now:=by
     unfold b3i at hsd;rw [if_neg (by simp)] at hsd;exact (oJI hsd).symm
    subst e;refine awL hΓ [200012] rfl ?_;simp only [go_sem,a0W,a2i,a0G,a3D];refine⟨(),a0e (fun p=>p) ?_⟩;simp only [go_sem,a0W,a2i,a0G,a3D];exact⟨rlR,rlR⟩
  | true=>
    have hb3:¬(a3Q now=[]\/a1c (a3Q now)=true):=fun h=>hb ⟨rfl,h⟩
    have hb2:(decide (a3Q now=[])||a1c (a3Q now))=false:=by
     rw [decide_eq_false fun h=>hb3 (.inl h),Bool.false_or];cases h:a1c (a3Q now) with
     | false=>rfl
     | true=>exact absurd (.inr h) hb3
    have e:sd=a3Q now:=by
     unfold b3i at hsd;rw [if_pos rfl,if_neg hb3] at hsd;exact (oJI hsd).symm
    subst e;refine awL hΓ [200012] rfl ?_;simp only [go_sem,a0W,a2i,a0G,a3D,hb2];refine⟨by omega,fun _=>by omega,fun h=>by rw [decide_eq_false h];rfl,(),a0e (fun p=>p) ?_⟩;simp only [go_sem,a0W,a2i,a0G,a3D];exact⟨rlR,rlR⟩
 refine awL hΓ [200012] rfl ?_;simp only [go_sem,a0W,a2i,a0G,a3D];refine c4B (a:=(s,fr,at_,af,c,ps)) ⟨(k,f,lab),sd,rfl,rfl,⟨g1,g2,g3,g4⟩,hsg,rfl⟩ (by decide)  rlR   rlR  (by decide) fun u1 n1 q1 h1=>?_
 rw [hnow];dsimp only;generalize b1H af (k,f,lab) sd c=c1 at *
 generalize a7p af (k,f,lab) now sd c ps=ps1 at *
 simp only [go_sem,a0W,a2i,a0G,a3D];refine AW.drawZ hΓ mixed 13 [] [9,10] [] (by decide +kernel) ?_;simp only [go_sem,a0W,a2i,a0G,a3D];refine⟨by omega,?_⟩;have hK':∀ u' nx',(u'=u\/nx<=u')->nx<=nx'->K (.val (.int .i64 0)) (rws [(0,.box v 192 14 (rdC (s,at_+line.length,at_,if k=62 then 0 else k,c1,ps1) 1 u')),(1,a1a u' 179 ePt ps1)]) 2 nx':=hK;refine AW.cut ⟨[(0,.pt 0 v 0),(4,.ps 3 (eMk.enc (k,f,lab)))],[(0,.box v 192 14 (rdC (s,at_+line.length,at_,k,c1,ps1) 1 u1)),(1,a1a u1 179 ePt ps1)],76,3,n1,[]⟩ ?_ ?_
 ·simp only [go_sem,a0W,a2i,a0G,a3D];exact⟨a52 rfl rfl rfl rfl rfl rfl rfl rfl rfl rfl rfl rfl rfl rfl,rlR⟩
 by_cases hk:k=62
 ·subst hk;refine awZ hΓ rfl ?_;simp only [go_sem,a0W,a2i,a0G,a3D];refine AW.fork ?_;refine awZ hΓ rfl ?_;simp only [go_sem,a0W,a2i,a0G,a3D];refine awZ hΓ rfl ?_;simp only [go_sem,a0W,a2i,a0G,a3D];refine⟨_,a0e (fun p=>p) (l:=[(6,.val (.int .i64 0))]) (r:=[(0,.box v 192 14 (rdC (s,at_+line.length,at_,0,c1,ps1) 1 u1)),(1,a1a u1 179 ePt ps1)]) (sz:=76) (top:=2) (nx:=n1) (df:=[]) ?_,?_⟩
  ·simp only [go_sem,a0W,a2i,a0G,a3D];exact⟨a52 rfl rfl rfl rfl rfl rfl rfl rfl rfl rfl rfl rfl rfl rfl,rlR⟩
  ·exact⟨rfl,trivial,hK' u1 n1 (by omega) (by omega)⟩
 ·rw [if_neg hk] at hK';refine awZ hΓ rfl ?_;simp only [go_sem,a0W,a2i,a0G,a3D,hk];refine AW.fork ?_;refine awZ hΓ rfl ?_;simp only [go_sem,a0W,a2i,a0G,a3D,hk];refine awZ hΓ rfl ?_;simp only [go_sem,a0W,a2i,a0G,a3D];refine⟨_,a0e (fun p=>p) (l:=[(6,.val (.int .i64 0))]) (r:=[(0,.box v 192 14 (rdC (s,at_+line.length,at_,k,c1,ps1) 1 u1)),(1,a1a u1 179 ePt ps1)]) (sz:=76) (top:=2) (nx:=n1) (df:=[]) ?_,?_⟩
  ·simp only [go_sem,a0W,a2i,a0G,a3D];exact⟨rlR,rlR⟩
  ·exact⟨rfl,trivial,hK' u1 n1 (by omega) (by omega)⟩
def a5y:a0O:=a1I c63
theorem d3A:a0g Tryz.prog 136 a5y:=c8A.frame
end
section
open Go
attribute [local irreducible] AW a0k a1k a0c
def c7G (s:BS) (w:Int) (i fr at_:Nat) (af:Int) (c:Pt) (ps:List Pt):Prop:=
 i<=(a0a s).length/\((a0a s).take i).flatten=s.take at_/\at_<=s.length/\fr<=at_/\txP c=[]/\a3Z ps<=fr/\ps.length<=2*i/\
 a86 w (a0a s) 0 [] ePt.dflt [] 0=a86 w ((a0a s).drop i) af (a6c (s,fr,at_,af,c,ps)) c ps i
theorem b7Y (a:Int) (m:Mk) (sd:BS) {c:Pt} (h:txP c=[]):txP (b1H a m sd c)=[]:=by
 have hp:txP (b4u a sd c)=[]:=by
  unfold b4u;split
  ·exact h
  ·split
   ·exact h
   ·split
    ·exact h
    ·exact h
 unfold b1H;split
 ·rfl
 ·split
  ·exact hp
  ·split
   ·exact hp
   ·exact hp
theorem b3k {s:BS} {i at_:Nat} (h:((a0a s).take i).flatten=s.take at_) (ha:at_<=s.length) (hi:i<(a0a s).length) :
  at_+((a0a s).getD i []).length<=s.length/\s.take (at_+((a0a s).getD i []).length)=s.take at_++(a0a s).getD i []/\((a0a s).take (i+1)).flatten=s.take (at_+((a0a s).getD i []).length):=by
 have e1:((a0a s).take (i+1)).flatten=s.take at_++(a0a s).getD i []:=by
  rw [a2y _ [] hi,List.flatten_append,h];simp
 have e2:s=((a0a s).take (i+1)).flatten++((a0a s).drop (i+1)).flatten:=by
  rw [<-List.flatten_append,List.take_append_drop,a04]
 rw [e1] at e2;generalize (a0a s).getD i []=l at *
 generalize ((a0a s).drop (i+1)).flatten=r at *
 have hl:(s.take at_).length=at_:=by rw [List.length_take];omega
 have e3:=congrArg List.length e2;simp only [lAp,hl] at e3
 have e4:s.take (at_+l.length)=s.take at_++l:=by
  have h5:(s.take at_++l).length=at_+l.length:=by rw [lAp,hl]
  conv=>lhs;rw [e2]
  rw [<-h5,List.take_left]
 exact⟨by omega,e4,by rw [e1,e4]⟩
theorem c4V {s:BS} {fr at_ n:Nat} {l:BS} (h:s.take n=s.take at_++l) (hf:fr<=at_) (ha:at_<=s.length):(s.take n).drop fr=(s.take at_).drop fr++l:=by
 rw [h,List.drop_append_of_le_length (by rw [List.length_take];omega)]
theorem c4g {s:BS} {w:Int} {i fr at_:Nat} {af:Int} {c:Pt} {ps:List Pt} (h:c7G s w i fr at_ af c ps) (hi:i<(a0a s).length) (hr:(a1j ((a0a s).getD i []) w).2.1=false) (he:(a1j ((a0a s).getD i []) w).2.2=0) :
  c7G s w (i+1) fr (at_+((a0a s).getD i []).length) af c ps:=by
 obtain⟨h1,h2,h3,h4,h5,h6,h7,h8⟩:=h;obtain⟨t1,t2,t3⟩:=b3k h2 h3 hi;refine⟨hi,t3,t1,by omega,h5,h6,by omega,?_⟩;rw [h8,List.drop_eq_getElem_cons hi,<-a1q _ [] hi,a86,if_neg (by rw [hr];simp),if_neg (by rw [he];simp)]
 congr 1
 exact (c4V t2 h4 h3).symm
theorem c4k {s:BS} {w:Int} {i fr at_:Nat} {af:Int} {c:Pt} {ps:List Pt} (h:c7G s w i fr at_ af c ps) (hi:i<(a0a s).length) (hr:(a1j ((a0a s).getD i []) w).2.1=true)
  (he:(a1D af (a6c (s,fr,at_,af,c,ps)) c ps (a1j ((a0a s).getD i []) w).1).1=0) :
  c7G s w (i+1) (at_+((a0a s).getD i []).length) (at_+((a0a s).getD i []).length) (a1D af (a6c (s,fr,at_,af,c,ps)) c ps (a1j ((a0a s).getD i []) w).1).2.1
   (a1D af (a6c (s,fr,at_,af,c,ps)) c ps (a1j ((a0a s).getD i []) w).1).2.2.1 (a1D af (a6c (s,fr,at_,af,c,ps)) c ps (a1j ((a0a s).getD i []) w).1).2.2.2:=by
 obtain⟨h1,h2,h3,h4,h5,h6,h7,h8⟩:=h;obtain⟨t1,t2,t3⟩:=b3k h2 h3 hi
 have hnl:(a6c (s,fr,at_,af,c,ps)).length=at_-fr:=by
  unfold a6c;simp only [List.length_drop,List.length_take];omega
 have hk:txP (a1D af (a6c (s,fr,at_,af,c,ps)) c ps (a1j ((a0a s).getD i []) w).1).2.2.1=[]/\a3Z (a1D af (a6c (s,fr,at_,af,c,ps)) c ps (a1j ((a0a s).getD i []) w).1).2.2.2<=at_/\(a1D af (a6c (s,fr,at_,af,c,ps)) c ps (a1j ((a0a s).getD i []) w).1).2.2.2.length<=ps.length+1:=by
  generalize (a1j ((a0a s).getD i []) w).1=m;generalize a6c (s,fr,at_,af,c,ps)=now at *
  have h0:txP c=[]/\a3Z ps<=at_/\ps.length<=ps.length+1:=⟨h5,by omega,by omega⟩;unfold a1D;split
  ·exact h0
  ·split
   ·exact h0
   ·split
    ·exact h0
    ·rename_i sd _;refine⟨b7Y _ _ _ h5,?_,?_⟩
     ·dsimp only;unfold a7p;split
      ·rw [a2Z,a25];show a3Z ps+now.length<=at_;omega
      ·split
       ·rw [a2Z,a25,b7Y _ _ _ h5];simp;omega
       ·omega
     ·dsimp only;unfold a7p;split
      ·simp
      ·split
       ·simp
       ·omega
 refine⟨hi,t3,t1,nLR _,hk.1,by omega,by omega,?_⟩;rw [h8,List.drop_eq_getElem_cons hi,<-a1q _ [] hi,a86,if_pos hr,if_neg (by rw [he];simp)]
 congr 1
 unfold a6c;simp only;exact (List.drop_of_length_le (by rw [List.length_take];omega)).symm
theorem c47 {s:BS} {w:Int} {i fr at_:Nat} {af:Int} {c:Pt} {ps:List Pt} (h:c7G s w i fr at_ af c ps) (hi:i<(a0a s).length) (hr:(a1j ((a0a s).getD i []) w).2.1=false) (he:(a1j ((a0a s).getD i []) w).2.2≠0) :
  a86 w (a0a s) 0 [] ePt.dflt [] 0=([],(a1j ((a0a s).getD i []) w).2.2,(i:Int)+1):=by
 rw [h.2.2.2.2.2.2.2,List.drop_eq_getElem_cons hi,<-a1q _ [] hi,a86,if_neg (by rw [hr];simp),if_pos he]
theorem c33 {s:BS} {w:Int} {i fr at_:Nat} {af:Int} {c:Pt} {ps:List Pt} (h:c7G s w i fr at_ af c ps) (hi:i<(a0a s).length) (hr:(a1j ((a0a s).getD i []) w).2.1=true)
  (he:(a1D af (a6c (s,fr,at_,af,c,ps)) c ps (a1j ((a0a s).getD i []) w).1).1≠0) :
  a86 w (a0a s) 0 [] ePt.dflt [] 0=([],(a1D af (a6c (s,fr,at_,af,c,ps)) c ps (a1j ((a0a s).getD i []) w).1).1,(i:Int)+1):=by
 rw [h.2.2.2.2.2.2.2,List.drop_eq_getElem_cons hi,<-a1q _ [] hi,a86,if_pos hr,if_pos he]
end
section
open Go
attribute [local irreducible] AW a0k a1k a0c
theorem c9Q (w:Int):a1j [] w=(mk0,false,if a5M w=false then 4 else 0):=by
 unfold a1j;by_cases h:a5M w=false
 ·rw [if_pos h,if_pos h]
 ·rw [if_neg h,if_neg h,if_pos];have h2:=(a6G.1 (by simpa using h)).1;show ((0:Nat):Int)<w;omega
def a4Q:a0r:=a0r.f2 kS kI (fun s _=>s.length<=10000000) (fun s w=>tu3 (sL ePt (a2R s w).1) (kI.enc (a2R s w).2.1) (kI.enc (a2R s w).2.2))
theorem c9P:a0b Tryz.prog 79 a4Q:=by
 refine a0b.f2 Tryz.func79 rfl (by decide) Tryz.results79 Tryz.ntmps79 (by decide) fun s w hs=>?_
 have hΓ:GOK Tryz.prog (gam [(135,a3s),(26,a0w),(136,a5y),(137,a2l),(134,a40)]):=(.cons d0z (.cons b2z (.cons d3A (.cons c7V (.cons c8O .nil)))));have hem:=c9Q w;unfold a2R;by_cases hw:a5M w=false
 ·rw [if_pos hw] at hem ⊢;refine awZ hΓ rfl ?_;simp only [go_sem,a3s,a0w,a5y,a2l,a40,hem];exact a30 ePt
 rw [if_neg hw] at hem ⊢;have hw':a5M w=true:=by simpa using hw
 refine awL hΓ [4] rfl ?_;simp only [go_sem,a3s,a0w,a5y,a2l,a40,hem];refine AW.cut ⟨[(0,.st s),(1,.val (.int .i64 w)),(10,.pt 1 1 0)],[(1,.box 1 192 14 fun j=>if j=13 then .em else rdC (s,0,0,0,ePt.dflt,[]) 2 2 j)],70,2,2,[]⟩ ?_ ?_
 ·simp only [go_sem,a3s,a0w,a5y,a2l,a40];refine a0c.box fun j hj=>a0k.of_eq ?_
  match j,hj with
  | 0,_=>rfl
  | 1,_=>rfl
  | 2,_=>rfl
  | 3,_=>rfl
  | 4,_=>rfl
  | 5,_=>rfl
  | 6,_=>rfl
  | 7,_=>rfl
  | 8,_=>rfl
  | 9,_=>rfl
  | 10,_=>rfl
  | 11,_=>rfl
  | 12,_=>rfl
  | 13,_=>rfl
 refine AW.adoptB (q:=1) 13 179 9 (fun i=>ePt.enc (([]:List Pt).getD i ePt.dflt)) rfl rfl ?_;refine AW.cut ⟨[(0,.st s),(1,.val (.int .i64 w)),(10,.pt 1 1 0)],[(1,.box 1 192 14 (rdC (s,0,0,0,ePt.dflt,[]) 2 2)),(2,a1a 2 179 ePt [])],70,3,3,[]⟩ ?_ ?_
 ·simp only [go_sem,a3s,a0w,a5y,a2l,a40];exact⟨a52 rfl rfl rfl rfl rfl rfl rfl rfl rfl rfl rfl rfl rfl rfl,rlR⟩
 refine awL hΓ [18] rfl ?_;simp only [go_sem,a3s,a0w,a5y,a2l,a40];have hsp:=b1K (s:=s) (by omega);have hsl:=a0K s;have hI0:c7G s w 0 0 0 0 ePt.dflt []:=⟨nZL _,rfl,nZL _,nLR _,rfl,nZL _,nZL _,rfl⟩;generalize hT:a86 w (a0a s) 0 [] ePt.dflt [] 0=T at *
 refine⟨by omega,?_⟩
 refine AW.round (α:={ x:Nat×Nat×Nat×Int×Pt×List Pt×Nat×Nat // c7G s w x.1 x.2.1 x.2.2.1 x.2.2.2.1 x.2.2.2.2.1 x.2.2.2.2.2.1 })
  (fun x=>⟨[(1,.val (.int .i64 w)),(10,.pt 1 1 0),(11,sL eS (a0a s)),(30,sL eS (a0a s)),(31,.val (.int .i64 (a0a s).length)),(32,.val (.int .i64 x.1.1))],
   [(1,.box 1 192 14 (rdC (s,x.1.2.1,x.1.2.2.1,x.1.2.2.2.1,x.1.2.2.2.2.1,x.1.2.2.2.2.2.1) 2 x.1.2.2.2.2.2.2.1)),(2,a1a x.1.2.2.2.2.2.2.1 179 ePt x.1.2.2.2.2.2.1)],70,3,x.1.2.2.2.2.2.2.2,[]⟩) (fun x=>(a0a s).length-x.1.1) ⟨(0,0,0,0,ePt.dflt,[],2,3),hI0⟩ ?_ ?_
 ·simp only [go_sem,a3s,a0w,a5y,a2l,a40];exact⟨rlR,rlR⟩
 ·rintro⟨⟨i,fr,at_,af,c,ps,u,nx⟩,hI⟩;simp only at hI;refine awL hΓ [9,99999] rfl ?_;simp only [go_sem,a3s,a0w,a5y,a2l,a40];refine⟨fun hlt=>?_,fun hge=>?_⟩
  ·have hi:i<(a0a s).length:=by omega
   have hll:((a0a s).getD i []).length<=10000000:=by
    rw [a1q _ _ hi];have:=b3V (List.getElem_mem hi);omega
   have t1:=c4g hI hi;have t2:=c4k hI hi;have t3:=c47 hI hi;have t4:=c33 hI hi;rw [hT] at t3 t4;generalize hle:(a0a s).getD i []=l at *
   have hpl:=b3k hI.2.1 hI.2.2.1 hi;rw [hle] at hpl;have hI':=hI;obtain⟨_,_,i3,i4,i5,i6,i7,_⟩:=hI';refine⟨by omega,by omega,?_⟩
   refine AW.cut ⟨[(1,.val (.int .i64 w)),(10,.pt 1 1 0),(11,sL eS (a0a s)),(12,.val (.int .i64 i)),(13,.st l),(14,.pt 3 nx 0),(15,.val (.bool (a1j l w).2.1)),(16,.val (.int .i64 (a1j l w).2.2)),(30,sL eS (a0a s)),(31,.val (.int .i64 (a0a s).length)),(32,.val (.int .i64 i))],
    [(1,.box 1 192 14 (rdC (s,fr,at_,af,c,ps) 2 u)),(2,a1a u 179 ePt ps),(3,.box nx 188 3 (eMk.enc (a1j l w).1))],70,4,nx+1,[]⟩ ?_ ?_
   ·simp only [go_sem,a3s,a0w,a5y,a2l,a40];exact⟨rlR,rlR,a0c.box fun j hj=>a0k.of_eq (b0x (nZL _) (by omega))⟩
   refine AW.still 14 3 nx 188 3 _ rfl rfl (fun j hj=>match j,hj with|0,_=>rfl|1,_=>rfl|2,_=>rfl) ?_;cases hm:(a1j l w).2.1 with
   | false=>
     refine AW.fork ?_;refine awN hΓ rfl ?_;simp only [go_sem,a3s,a0w,a5y,a2l,a40];refine awN hΓ rfl ?_;simp only [go_sem,a3s,a0w,a5y,a2l,a40];refine⟨fun h=>?_,fun h=>⟨by omega,by omega,⟨(i+1,fr,at_+l.length,af,c,ps,u,nx+1),t1 hm (Decidable.not_not.1 h)⟩,⟨nLR _,by dsimp only;omega,a52 rfl rfl rfl rfl rfl rfl rfl rfl rfl rfl rfl rfl rfl rfl,rlR⟩,by dsimp only;omega⟩⟩;rw [t3 hm h];exact⟨by omega,a30 ePt,rfl,rfl⟩
   | true=>
     have hsg:b9d (a1j l w).1.1:=by
      have he:a1j l w=((a1j l w).1,true,(a1j l w).2.2):=by rw [<-hm]
      exact c4w (c2Y he).2.1
     refine AW.fork ?_;refine awN hΓ rfl ?_;simp only [go_sem,a3s,a0w,a5y,a2l,a40];refine c4B (a:=(s,fr,at_,af,c,ps)) ⟨(a1j l w).1,l,rfl,rfl,⟨i4,i3,by dsimp only;omega,by dsimp only;omega⟩,hsg,by omega,rfl⟩ (by decide)  rlR   rlR  (by decide) fun u1 n1 q1 h1=>?_
     have t2:=t2 hm;have t4:=t4 hm;dsimp only at t2 t4 ⊢;have htb:(a1D af (a6c (s,fr,at_,af,c,ps)) c ps (a1j l w).1).1=0->d0W (s,fr,at_,af,c,ps) (a1j l w).1 l=(s,at_+l.length,at_,(a1D af (a6c (s,fr,at_,af,c,ps)) c ps (a1j l w).1).2.1,(a1D af (a6c (s,fr,at_,af,c,ps)) c ps (a1j l w).1).2.2.1,(a1D af (a6c (s,fr,at_,af,c,ps)) c ps (a1j l w).1).2.2.2):=fun h=>if_pos h
     generalize a1D af (a6c (s,fr,at_,af,c,ps)) c ps (a1j l w).1=t at *
     simp only [go_sem,a3s,a0w,a5y,a2l,a40];by_cases he:t.1=0
     ·rw [htb he];have he2:(decide ¬t.1=0)=false:=by simp [he]
      refine awN hΓ rfl ?_;simp only [go_sem,a3s,a0w,a5y,a2l,a40,he];exact⟨by omega,by omega,⟨(i+1,at_+l.length,at_+l.length,t.2.1,t.2.2.1,t.2.2.2,u1,n1),t2 he⟩,⟨nLR _,by dsimp only;omega,a52 rfl rfl rfl rfl rfl rfl rfl rfl rfl rfl rfl rfl rfl rfl,rlR⟩,by dsimp only;omega⟩
     ·have he2:(decide ¬t.1=0)=true:=by simp [he]
      refine awN hΓ rfl ?_;simp only [go_sem,a3s,a0w,a5y,a2l,a40,he];rw [t4 he];exact⟨by omega,a30 ePt,rfl,rfl⟩
  ·obtain⟨i1,_,i3,i4,i5,i6,i7,i8⟩:=hI;obtain rfl:i=(a0a s).length:=by omega
   rw [List.drop_length,a86,hT] at i8;refine⟨fun h=>?_,fun h=>?_⟩
   ·rw [if_pos h] at i8;rw [i8];exact⟨by omega,a30 ePt,rfl,rfl⟩
   ·rw [if_neg h] at i8
    have hnl:(a6c (s,fr,at_,af,c,ps)).length=at_-fr:=by
     unfold a6c;simp only [List.length_drop,List.length_take];omega
    refine c4B (a:=(s,fr,at_,af,c,ps)) ⟨rfl,rfl,⟨i4,i3,by dsimp only;omega,by dsimp only;omega⟩,rfl⟩ (by decide)  rlR   rlR  (by decide) fun u1 n1 q1 h1=>?_
    have hsm:a3Z (ps++[a1b (a6c (s,fr,at_,af,c,ps))])<=at_:=by
     rw [a2Z,a25];show a3Z ps+(a6c (s,fr,at_,af,c,ps)).length<=at_;omega
    dsimp only;generalize a6c (s,fr,at_,af,c,ps)=now at *
    simp only [go_sem,a3s,a0w,a5y,a2l,a40];refine AW.freeze 2 u1 179 9 (ps++[a1b now]).length (fun i=>ePt.enc ((ps++[a1b now]).getD i ePt.dflt)) rfl (fun i _ j hj=>match j,hj with|0,_=>rfl|1,_=>rfl|2,_=>rfl|3,_=>rfl|4,_=>rfl|5,_=>rfl|6,_=>rfl|7,_=>rfl|8,_=>rfl) ?_;refine AW.cut ⟨[(10,.pt 1 1 0)],[(1,.box 1 192 14 (fun j=>if j=13 then sL ePt (ps++[a1b now]) else .any))],70,2,n1,[]⟩ ?_ ?_
    ·simp only [go_sem,a3s,a0w,a5y,a2l,a40];refine a0c.box fun j hj=>?_
     by_cases e:j=13
     ·subst e;rw [if_pos rfl];have:fz 2 u1 (ps.length+1) 9 (fun i=>ePt.enc ((ps++[a1b now]).getD i ePt.dflt)) (rdC (b0j (s,fr,at_,af,c,ps) (ps++[a1b now])) 2 u1 13)=sL ePt (ps++[a1b now]):=if_pos ⟨rfl,rfl,by simp [b0j]⟩;rw [this];exact avR
     ·rw [if_neg e];exact a0k.any _
    refine awZ hΓ rfl ?_;simp only [go_sem,a3s,a0w,a5y,a2l,a40];rw [i8];exact⟨⟨by omega,by omega⟩,avR,rfl,rfl⟩
end
set_option maxHeartbeats 8000000
section
open Go
attribute [local irreducible] AW a0k a1k a0c a6H
theorem c4Y (t:List UInt8) (i:Nat):b5s (a2p t i 0)=t.getD i 0:=by
 show UInt8.ofNat _=_;simp
theorem a3J (t:List UInt8):(List.range t.length).map (fun i=>b5s (a2p t i 0))=t:=by
 have:=b6A t 0;simpa only [c4Y] using this
theorem c4U (e:Int):(b8K e).length<=9:=by
 unfold b8K;rcases Nat.lt_or_ge e.toNat wdE.length with h|h
 ·rw [a1q _ _ h];have:∀ w∈wdE,w.length<=9:=by decide
  exact this _ (List.getElem_mem h)
 ·rw [List.getD,List.getElem?_eq_none h];exact nZL _
theorem a5v (t:List UInt8) (n:Nat):(∀ i,i<n->∃ b:UInt8,a2p t i 0=.val (.int .u8 b.toNat))=True:=eq_true fun i _=>⟨_,rfl⟩
noncomputable def a1O (line:List UInt8) (a:Ss):List UInt8×Ss:=if (wdL line).length=2/\(a6H ((wdL line).getD 1 [])).isSome=true then (if (a2R a.1.1 (b1N ((wdL line).getD 1 []))).2.1=0 then (Lib.itoa (a0x (a2R a.1.1 (b1N ((wdL line).getD 1 []))).1:Nat),(a.1,a.2.1,some ((a2R a.1.1 (b1N ((wdL line).getD 1 []))).1,a.1.1,b1N ((wdL line).getD 1 []),[]))) else (b8K (a2R a.1.1 (b1N ((wdL line).getD 1 []))).2.1++[32]++Lib.itoa (a2R a.1.1 (b1N ((wdL line).getD 1 []))).2.2,a))
 else (a00,a)
def b6Y (xs:List AV) (a:Ss) (r:AV) (b:Ss):Prop:=∃ line:List UInt8,xs=[sL eS (wdL line).tail]/\line.length<=1000/\(c7E a/\a.1.1.length<=1000000)/\r=.st (a1O line a).1/\b=(a1O line a).2
def b7V:a0O:=sSh b6Y
theorem c1b:a0g Tryz.prog 65 b7V:=by
 refine a0g.mk Tryz.func65 rfl (by decide) Tryz.results65 Tryz.ntmps65 ?_;rintro args hp top nx K ⟨v,v1,v2,v3,v4,xs,a,r,b,rfl,⟨line,rfl,hl,⟨hs,hs0⟩,rfl,rfl⟩,rfl,rfl,hK⟩;have hΓ:GOK Tryz.prog (gam [(114,a0f),(79,a4Q),(116,a0N),(78,a08),(117,a0s)]):=(.cons a77 (.cons c9P (.cons a9R (.cons b3c (.cons b0G .nil)))));refine⟨Nat.le_of_ble_eq_true rfl,AW.late ?_⟩;have hg:=b6b line 1;by_cases h2:(wdL line).length=2
 ·have hI:((wdL line).tail.length:Int)=1:=by rw [List.length_tail];omega
  cases hn:a6H ((wdL line).getD 1 []) with
  | none=>
    have e:a1O line a=(a00,a):=by unfold a1O;rw [if_neg fun h=>by rw [hn] at h;exact absurd h.2 (by decide)]
    rw [e] at hK;have hk:=a0Z hK rfl;refine awN hΓ rfl ?_;simp only [go_sem,a0f,a4Q,a0N,a08,a0s,hI,a1r,hn,nuO];refine⟨by omega,?_⟩;refine⟨_,a0e (fun p=>p) (l:=[(4,.st a00)]) (r:=[(0,.box v 106 10 (shC 1 2 3 4 v1 v2 v3 v4 a)),(1,a0l v1 a.1.1),(2,a0l v2 a.1.2.1),(3,a0l v3 a.1.2.2),(4,mgR v4 a.2.2)]) (sz:=55) (top:=5) (nx:=nx) (df:=[]) ?_,?_⟩
    ·simp only [go_sem,a0f,a4Q,a0N,a08,a0s];exact⟨rlR,rlR,rlR,rlR,rlR⟩
    ·simp only [go_sem,a0f,a4Q,a0N,a08,a0s];exact hk v1 v2 v3 nx (.inl rfl) (.inl rfl) (.inl rfl) (nLR _)
  | some n=>
    have hin:=b6p a.1.1 n;have hsl:=a0K a.1.1
    have gN:0<=(n:Int)/\(n:Int)<=1000000:=by
     have ht:=a6u ((wdL line).getD 1 []);rw [hn] at ht;rcases ht with⟨k,h1,h4,h3⟩|⟨h4,h3⟩
     ·have:=oJI h3;omega
     ·cases h3
    by_cases hx:(a2R a.1.1 n).2.1=0
    ·have e:a1O line a=(Lib.itoa (a0x (a2R a.1.1 n).1:Nat),(a.1,a.2.1,some ((a2R a.1.1 n).1,a.1.1,(n:Int),[]))):=by
      unfold a1O;rw [if_pos ⟨h2,by rw [hn];rfl⟩,a3w hn,if_pos hx]
     rw [e] at hK;have hcl:=a5B (a2R a.1.1 n).1;refine awN hΓ rfl ?_;simp only [go_sem,a0f,a4Q,a0N,a08,a0s,hI,a1r,hn,nuO,a0l,a3J,a5v,hx];refine⟨by omega,by omega,by omega,⟨by omega,by omega⟩,?_⟩;refine⟨_,a0e (fun p=>if p=4 then 5 else p) (l:=[(4,.st (Lib.itoa (a0x (a2R a.1.1 n).1:Nat)))]) (r:=[(0,.box v 106 10 (shC 1 2 3 4 v1 v2 v3 nx (a.1,a.2.1,some ((a2R a.1.1 n).1,a.1.1,(n:Int),[])))),(1,a0l v1 a.1.1),(2,a0l v2 a.1.2.1),(3,a0l v3 a.1.2.2),(4,mgR nx (some ((a2R a.1.1 n).1,a.1.1,(n:Int),[])))]) (sz:=55) (top:=5) (nx:=nx+1) (df:=[]) ?_,?_⟩
     ·simp only [go_sem,a0f,a4Q,a0N,a08,a0s];refine⟨a0c.box fun j hj=>?_,rlR,rlR,rlR,a0c.box fun j hj=>?_⟩
      ·have hc:j=0\/j=1\/j=2\/j=3\/j=4\/j=5\/j=6\/j=7\/j=8\/j=9:=by omega
       rcases hc with rfl|rfl|rfl|rfl|rfl|rfl|rfl|rfl|rfl|rfl<;>first|exact avR|exact a0k.pt
      ·match j,hj with
       | 0,_=>exact avR
       | 1,_=>exact avR
       | 2,_=>exact avR
       | 3,_=>exact a30 _
     ·simp only [go_sem,a0f,a4Q,a0N,a08,a0s];exact hK v1 v2 v3 nx (nx+1) (.inl rfl) (.inl rfl) (.inl rfl) (.inr (nLR _)) (Nat.le_succ _)
    ·have e:a1O line a=(b8K (a2R a.1.1 n).2.1++[32]++Lib.itoa (a2R a.1.1 n).2.2,a):=by
      unfold a1O;rw [if_pos ⟨h2,by rw [hn];rfl⟩,a3w hn,if_neg hx]
     rw [e] at hK;have hk:=a0Z hK rfl;have hel:=c4U (a2R a.1.1 n).2.1;have hil:=a5i (n:=(a2R a.1.1 n).2.2) (by omega) (by omega);refine awN hΓ rfl ?_;simp only [go_sem,a0f,a4Q,a0N,a08,a0s,hI,a1r,hn,nuO,a0l,a3J,a5v,hx];refine⟨by omega,by omega,hin.1,by omega,⟨by omega,by omega⟩,by omega,?_⟩;refine⟨_,a0e (fun p=>p) (l:=[(4,.st (b8K (a2R a.1.1 n).2.1++[32]++Lib.itoa (a2R a.1.1 n).2.2))]) (r:=[(0,.box v 106 10 (shC 1 2 3 4 v1 v2 v3 v4 a)),(1,a0l v1 a.1.1),(2,a0l v2 a.1.2.1),(3,a0l v3 a.1.2.2),(4,mgR v4 a.2.2)]) (sz:=55) (top:=5) (nx:=nx) (df:=[]) ?_,?_⟩
     ·simp only [go_sem,a0f,a4Q,a0N,a08,a0s];exact⟨rlR,rlR,rlR,rlR,rlR⟩
     ·simp only [go_sem,a0f,a4Q,a0N,a08,a0s];exact hk v1 v2 v3 nx (.inl rfl) (.inl rfl) (.inl rfl) (nLR _)
 ·have hI:(((wdL line).tail.length:Int)=1)=False:=eq_false (by rw [List.length_tail];have:=List.length_pos_iff.2 (a6m line);omega);have e:a1O line a=(a00,a):=by unfold a1O;rw [if_neg fun h=>h2 h.1]
  rw [e] at hK;have hk:=a0Z hK rfl;refine awN hΓ rfl ?_;simp only [go_sem,a0f,a4Q,a0N,a08,a0s,hI];refine⟨_,a0e (fun p=>p) (l:=[(4,.st a00)]) (r:=[(0,.box v 106 10 (shC 1 2 3 4 v1 v2 v3 v4 a)),(1,a0l v1 a.1.1),(2,a0l v2 a.1.2.1),(3,a0l v3 a.1.2.2),(4,mgR v4 a.2.2)]) (sz:=55) (top:=5) (nx:=nx) (df:=[]) ?_,?_⟩
  ·simp only [go_sem,a0f,a4Q,a0N,a08,a0s];exact⟨rlR,rlR,rlR,rlR,rlR⟩
  ·simp only [go_sem,a0f,a4Q,a0N,a08,a0s];exact hk v1 v2 v3 nx (.inl rfl) (.inl rfl) (.inl rfl) (nLR _)
noncomputable def a0j:a0O:=a1I b7V
theorem b4G:a0g Tryz.prog 65 a0j:=c1b.frame
end
section
open Go
attribute [local irreducible] AW a0k a1k a0c a6H
def c1U (a:Ss):Rt:=b2U a.1.1 a.1.2.1 a.1.2.2 a.2.1
noncomputable def a1Q (line:List UInt8) (a:Ss):List UInt8×Ss:=if (wdL line).length=1 then (if a9Q a.2.1=0 then (Lib.itoa (c1U a).2.2.2.2.2.2,(a.1,a.2.1,some (mgT (c1U a)))) else (b8K (a9Q a.2.1),a)) else (a00,a)
def d3U (a:Ss):Prop:=okM a.1.1 a.1.2.1 a.1.2.2/\lbN a.2.1.1<=3000
noncomputable def b6S (xs:List AV) (a:Ss) (r:AV) (b:Ss):Prop:=∃ line:List UInt8,xs=[sL eS (wdL line).tail]/\line.length<=1000/\d3U a/\(0<=(c1U a).2.2.2.2.2.2/\(c1U a).2.2.2.2.2.2<=1000000)/\r=.st (a1Q line a).1/\b=(a1Q line a).2
noncomputable def b6t:a0O:=sSh b6S
theorem d3W (o:Op):0<=a9Q o/\a9Q o<14:=by
 unfold a9Q
 repeat' split
 all_goals exact⟨by omega,by omega⟩
theorem c09:a0g Tryz.prog 60 b6t:=by
 refine a0g.mk Tryz.func60 rfl (by decide) Tryz.results60 Tryz.ntmps60 ?_;rintro args hp top nx K ⟨v,v1,v2,v3,v4,xs,a,r,b,rfl,⟨line,rfl,hl,hs,hcn,rfl,rfl⟩,rfl,rfl,hK⟩;have hΓ:GOK Tryz.prog (gam [(40,a0R),(116,a0N),(117,a0s)]):=(.cons b46 (.cons a9R (.cons b0G .nil)));obtain⟨⟨ta,tb,tc⟩,⟨⟨l1,l2,l3⟩,sty,wid,fv⟩,om⟩:=a;refine⟨Nat.le_of_ble_eq_true rfl,AW.late ?_⟩;by_cases h2:(wdL line).length=1
 ·have hI:((wdL line).tail.length:Int)=0:=by rw [List.length_tail];omega
  obtain⟨s1,s2⟩:=hs;dsimp only at s1 s2 hcn;have hwi:=d3W ((l1,l2,l3),sty,wid,fv);unfold c1U at hcn;dsimp only at hcn;by_cases hx:a9Q ((l1,l2,l3),sty,wid,fv)=0
  ·have e:a1Q line ((ta,tb,tc),((l1,l2,l3),sty,wid,fv),om)=(Lib.itoa (b2U ta tb tc ((l1,l2,l3),sty,wid,fv)).2.2.2.2.2.2,((ta,tb,tc),((l1,l2,l3),sty,wid,fv),some (mgT (b2U ta tb tc ((l1,l2,l3),sty,wid,fv))))):=by
    unfold a1Q;rw [if_pos h2,if_pos hx];rfl
   rw [e] at hK;generalize hR:b2U ta tb tc ((l1,l2,l3),sty,wid,fv)=R at *
   obtain⟨d,p1,p2,k,t,w,n⟩:=R;refine awL hΓ [200003] rfl ?_;simp only [go_sem,a0R,a0N,a0s,hI];refine AW.drawK hΓ mixed 27 [28] [25,28] [] [0,1,2,3] (by decide +kernel) ?_;simp only [go_sem,a0R,a0N,a0s,a0l,a3J,a5v,hR,hx];refine⟨⟨s1,s2⟩,⟨hcn.1,Int.le_trans hcn.2 (by decide)⟩,?_⟩;refine⟨_,a0e (fun p=>if p=4 then 6 else p) (l:=[(4,.st (Lib.itoa n))]) (r:=[(0,.box v 106 10 (shC 1 2 3 4 v1 v2 v3 (nx+1) ((ta,tb,tc),((l1,l2,l3),sty,wid,fv),some (d,t,w,k)))),(1,a0l v1 ta),(2,a0l v2 tb),(3,a0l v3 tc),(4,mgR (nx+1) (some (d,t,w,k)))]) (sz:=56) (top:=5) (nx:=nx+1+1) (df:=[]) ?_,?_⟩
   ·simp only [go_sem,a0R,a0N,a0s];refine⟨a0c.box fun j hj=>?_,rlR,rlR,rlR,a0c.box fun j hj=>?_⟩
    ·have hc:j=0\/j=1\/j=2\/j=3\/j=4\/j=5\/j=6\/j=7\/j=8\/j=9:=by omega
     rcases hc with rfl|rfl|rfl|rfl|rfl|rfl|rfl|rfl|rfl|rfl<;>first|exact avR|exact a0k.pt
    ·match j,hj with
     | 0,_=>exact avR
     | 1,_=>exact avR
     | 2,_=>exact avR
     | 3,_=>exact avR
   ·simp only [go_sem,a0R,a0N,a0s];exact hK v1 v2 v3 (nx+1) (nx+1+1) (.inl rfl) (.inl rfl) (.inl rfl) (.inr (Nat.le_succ _)) (by omega)
  ·have e:a1Q line ((ta,tb,tc),((l1,l2,l3),sty,wid,fv),om)=(b8K (a9Q ((l1,l2,l3),sty,wid,fv)),((ta,tb,tc),((l1,l2,l3),sty,wid,fv),om)):=by
    unfold a1Q;rw [if_pos h2,if_neg hx]
   rw [e] at hK;have hk:=a0Z hK rfl;generalize hR:b2U ta tb tc ((l1,l2,l3),sty,wid,fv)=R at *
   obtain⟨d,p1,p2,k,t,w,n⟩:=R;refine awL hΓ [200003] rfl ?_;simp only [go_sem,a0R,a0N,a0s,hI];refine AW.drawK hΓ mixed 27 [28] [25,28] [] [0,1,2,3] (by decide +kernel) ?_;simp only [go_sem,a0R,a0N,a0s,a0l,a3J,a5v,hR,hx];refine⟨⟨s1,s2⟩,hwi,?_⟩;refine⟨_,a0e (fun p=>p) (l:=[(4,.st (b8K (a9Q ((l1,l2,l3),sty,wid,fv))))]) (r:=[(0,.box v 106 10 (shC 1 2 3 4 v1 v2 v3 v4 ((ta,tb,tc),((l1,l2,l3),sty,wid,fv),om))),(1,a0l v1 ta),(2,a0l v2 tb),(3,a0l v3 tc),(4,mgR v4 om)]) (sz:=56) (top:=5) (nx:=nx+1) (df:=[]) ?_,?_⟩
   ·simp only [go_sem,a0R,a0N,a0s];exact⟨rlR,rlR,rlR,rlR,rlR⟩
   ·simp only [go_sem,a0R,a0N,a0s];exact hk v1 v2 v3 (nx+1) (.inl rfl) (.inl rfl) (.inl rfl) (Nat.le_succ _)
 ·have hI:(((wdL line).tail.length:Int)=0)=False:=eq_false (by rw [List.length_tail];have:=List.length_pos_iff.2 (a6m line);omega);have e:a1Q line ((ta,tb,tc),((l1,l2,l3),sty,wid,fv),om)=(a00,((ta,tb,tc),((l1,l2,l3),sty,wid,fv),om)):=by unfold a1Q;rw [if_neg h2]
  rw [e] at hK;have hk:=a0Z hK rfl;refine awL hΓ [200003] rfl ?_;simp only [go_sem,a0R,a0N,a0s,hI];refine⟨_,a0e (fun p=>p) (l:=[(4,.st a00)]) (r:=[(0,.box v 106 10 (shC 1 2 3 4 v1 v2 v3 v4 ((ta,tb,tc),((l1,l2,l3),sty,wid,fv),om))),(1,a0l v1 ta),(2,a0l v2 tb),(3,a0l v3 tc),(4,mgR v4 om)]) (sz:=56) (top:=5) (nx:=nx) (df:=[]) ?_,?_⟩
  ·simp only [go_sem,a0R,a0N,a0s];exact⟨rlR,rlR,rlR,rlR,rlR⟩
  ·simp only [go_sem,a0R,a0N,a0s];exact hk v1 v2 v3 nx (.inl rfl) (.inl rfl) (.inl rfl) (nLR _)
noncomputable def a0n:a0O:=a1I b6t
theorem b6C:a0g Tryz.prog 60 a0n:=c09.frame
end
section
open Go
attribute [local irreducible] AW a0k a1k a0c a6H
abbrev Rsh:=(BS×BS×BS)×Op×Bool
end
set_option maxHeartbeats 4000000
section
open Go
attribute [local irreducible] AW a0k a1k a0c
abbrev rSt (v:Nat) (l:List StE):Row:=a1a v 86 (eP eI (eL eS)) l
theorem b4q {l:List StE} {k:Int} {ts:List (List UInt8)} {q v:Nat} {d:Nat->Nat->AV} (h0:d 0 0=.val (.int .i64 k)) (h1:d 0 1=.ow q v ts.length) :
  ∀ i,i<l.length+1->∀ j,j<2->a0k (fz q v ts.length 1 (fun i=>eS.enc (ts.getD i [])) (apC l.length (fun i=>(eP eI (eL eS)).enc (l.getD i (0,[]))) d i j)) ((eP eI (eL eS)).enc ((l++[(k,ts)]).getD i (0,[])) j):=fun i hi j hj=>by
 unfold apC;by_cases h:i<l.length
 ·rw [if_pos h];rw [show (l++[(k,ts)]).getD i (0,[])=l.getD i (0,[]) by simp [List.getD,List.getElem?_append_left h]]
  match j,hj with
  | 0,_=>exact avR
  | 1,_=>exact avR
 ·obtain rfl:i=l.length:=by omega
  rw [if_neg h,Nat.sub_self];rw [show (l++[(k,ts)]).getD l.length (0,[])=(k,ts) by simp [List.getD]]
  match j,hj with
  | 0,_=>rw [h0];exact avR
  | 1,_=>
    rw [h1];simp only [fz,and_self,if_true,nLR];exact avR
def c69:a0O:=fun args hp top nx K=>∃ l v k y ts,a0k y (sL eS ts)/\args=[.ow 0 v l.length,kI.enc k,y]/\hp=rws [(0,rSt v l)]/\top=1/\l.length<10000000/\ts.length<1000000000/\
 ∀ v' nx',(v'=v\/nx<=v')->nx<=nx'->K (.ow 0 v' (a3V l k ts).length) (rws [(0,rSt v' (a3V l k ts))]) 1 nx'
theorem c9j:a0g Tryz.prog 43 c69:=by
 refine a0g.mk Tryz.func43 rfl (by decide) Tryz.results43 Tryz.ntmps43 ?_;rintro args hp top nx K ⟨l,v,k,y,ts,hy,rfl,rfl,rfl,hl,ht,hK⟩;have hΓ:GOK Tryz.prog (gam [(103,a1C)]):=(.cons a9H .nil);refine⟨Nat.le_of_ble_eq_true rfl,AW.late ?_⟩;refine AW.le (a89 (.cons  avR  (.cons  avR  (.cons hy .nil)))) ?_;by_cases h0:ts.length=0
 ·obtain rfl:=List.length_eq_zero_iff.1 h0;refine awN hΓ rfl ?_;simp only [go_sem,a1C,a1Z];refine⟨_,a1k.refl _,?_⟩;simp only [go_sem,a1C];exact hK v nx (.inl rfl) (nLR _)
 ·have hts:((ts.length:Int)=0)=False:=eq_false (by omega);refine awN hΓ rfl ?_;simp only [go_sem,a1C,a1Z,hts];refine⟨sL eS ts,ts,rfl,avR,ht,fun ver nx' h1 h2=>⟨by omega,_,(a1k.freeze 1 ver 9 1 ts.length (fun i=>eS.enc (ts.getD i [])) rfl fun i _ j _=>rfl).trans (a0e (fun p=>p) (l:=[(6,.ow 0 (nx'+1) (l.length+1))]) (r:=[(0,rSt (nx'+1) (a3V l k ts))]) (sz:=18) (top:=1) (nx:=nx'+1+1) (df:=[]) ?_),?_⟩⟩
  ·rw [a4x h0];simp only [go_sem,a1C,a1Z];exact a0c.sl (by simp) (b4q rfl rfl)
  ·simp only [go_sem,a1C];have:=hK (nx'+1) (nx'+1+1) (.inr (by omega)) (by omega)
   rwa [show (a3V l k ts).length=l.length+1 by rw [a4x h0];simp] at this
def c8d:a0O:=fun args hp top nx K=>∃ k y ts,a0k y (sL eS ts)/\args=[.em,kI.enc k,y]/\hp=(fun _=>.dead)/\top=0/\ts.length<1000000000/\∀ v' nx',nx<=v'->v'<nx'->K (.ow 0 v' (a3V [] k ts).length) (rws [(0,rSt v' (a3V [] k ts))]) 1 nx'
theorem d0h:a0g Tryz.prog 43 c8d:=by
 refine a0g.mk Tryz.func43 rfl (by decide) Tryz.results43 Tryz.ntmps43 ?_;rintro args hp top nx K ⟨k,y,ts,hy,rfl,rfl,rfl,ht,hK⟩;have hΓ:GOK Tryz.prog (gam [(103,a1C)]):=(.cons a9H .nil);refine⟨Nat.le_of_ble_eq_true rfl,AW.late ?_⟩;refine AW.le (a89 (.cons  avR  (.cons  avR  (.cons hy .nil)))) ?_;refine AW.adopt 0 86 2 (fun i=>(eP eI (eL eS)).enc (([]:List StE).getD i (0,[]))) rfl ?_;by_cases h0:ts.length=0
 ·obtain rfl:=List.length_eq_zero_iff.1 h0;refine awN hΓ rfl ?_;simp only [go_sem,a1C,a1Z];refine⟨_,a0e (fun p=>p) (l:=[(6,.ow 0 nx 0)]) (r:=[(0,rSt nx [])]) (sz:=18) (top:=1) (nx:=nx+1) (df:=[]) ?_,?_⟩
  ·simp only [go_sem,a1C,a1Z];exact rlR
  ·simp only [go_sem,a1C];exact hK nx (nx+1) (nLR _) (by omega)
 ·have hts:((ts.length:Int)=0)=False:=eq_false (by omega);refine awN hΓ rfl ?_;simp only [go_sem,a1C,a1Z,hts];refine⟨sL eS ts,ts,rfl,avR,ht,fun ver nx' h1 h2=>⟨_,(a1k.freeze 1 ver 9 1 ts.length (fun i=>eS.enc (ts.getD i [])) rfl fun i _ j _=>rfl).trans (a0e (fun p=>p) (l:=[(6,.ow 0 (nx'+1) 1)]) (r:=[(0,rSt (nx'+1) (a3V [] k ts))]) (sz:=18) (top:=1) (nx:=nx'+1+1) (df:=[]) ?_),?_⟩⟩
  ·rw [a4x h0];simp only [go_sem,a1C,a1Z];exact a0c.sl (by simp) (b4q (l:=[]) rfl rfl)
  ·simp only [go_sem,a1C];have:=hK (nx'+1) (nx'+1+1) (by omega) (by omega)
   rwa [show (a3V [] k ts).length=1 by rw [a4x h0];simp] at this
def a2X:a0O:=fun args hp top nx K=>a1I c69 args hp top nx K\/c77 c8d args hp top nx K
theorem d3s:a0g Tryz.prog 43 a2X:=c9j.frame.or d0h.fresh
theorem b51 {l:List StE} {v q n:Nat} {k:Int} {y:AV} {ts:List (List UInt8)} {hp:Nat->Row} {top nx:Nat} {K:AV->(Nat->Row)->Nat->Nat->Prop} (hn:n=l.length) (hy:a0k y (sL eS ts)) (hr:a0c (hp q) (rSt v l)) (ht:q<top) (hl:l.length<10000000) (hl2:ts.length<1000000000)
  (hK:∀ v' nx',nx<=nx'->K (.ow q v' (a3V l k ts).length) (a0X hp q (rSt v' (a3V l k ts))) top nx'):a2X [.ow q v n,.val (.int .i64 k),y] hp top nx K:=by
 subst hn;have hver:(hp q).ver=some v:=hr.vers.symm;refine .inl ⟨[q],[.ow 0 v l.length,kI.enc k,y],rws [(0,rSt v l)],by simp,by simpa using ht,.cons a0k.ow (.cons  avR  (.cons  avR  .nil)),a8Z hr,fun i hi=>a13 (top:=1) (by simp) i (by simpa using hi),l,v,k,y,ts,hy,rfl,rfl,rfl,hl,hl2,fun v' nx' h1 h3=>?_⟩;refine⟨.ow q v' (a3V l k ts).length,_,a0k.ow,fun i r hr=>?_,fun r hr=>?_,fun r hr w hw=>?_,hK v' nx' h3⟩
 ·cases i with
  | zero=>
    simp only [gCZ,oSI] at hr;subst hr;rw [a0i];exact rlR
  | succ i=>simp at hr
 ·rw [a0d _ _ (by simpa using hr)]
 ·simp only [List.mem_singleton] at hr;subst hr;rw [a0i] at hw;have:some v'=some w:=hw;obtain rfl:=oJI this;rcases h1 with rfl|h1
  ·exact .inl hver
  ·exact .inr h1
theorem d0B {k:Int} {y:AV} {ts:List (List UInt8)} {hp:Nat->Row} {top nx:Nat} {K:AV->(Nat->Row)->Nat->Nat->Prop} (hy:a0k y (sL eS ts)) (hl2:ts.length<1000000000)
  (hK:∀ v' nx',nx<=v'->v'<nx'->K (.ow top v' (a3V [] k ts).length) (a0X hp top (rSt v' (a3V [] k ts))) (top+1) nx'):a2X [.em,.val (.int .i64 k),y] hp top nx K:=
 .inr ⟨[.em,kI.enc k,y],.cons  avR  (.cons  avR  (.cons  avR  .nil)),k,y,ts,hy,rfl,rfl,rfl,hl2,fun v' nx' h1 h2=>⟨v',_,_,rfl,rfl,rfl,h1,hK v' nx' h1 h2⟩⟩
abbrev rHk (v:Nat) (l:List Hk):Row:=a1a v 84 (eP eI (eP eI (eL (eP eI (eL eS))))) l
def b7o:a0O:=fun args hp top nx K=>∃ l v x h,a0k x ((kA (eP eI (eP eI (eL (eP eI (eL eS)))))).enc h)/\args=[.ow 0 v l.length,x]/\hp=rws [(0,rHk v l)]/\top=1/\l.length<1000000/\h.2.2.length<100000000/\
 ∀ v' nx',(v'=v\/nx<=v')->nx<=nx'->K (.ow 0 v' (a7a l h).length) (rws [(0,rHk v' (a7a l h))]) 1 nx'
theorem c2l:a0g Tryz.prog 45 b7o:=by
 refine a0g.mk Tryz.func45 rfl (by decide) Tryz.results45 Tryz.ntmps45 ?_;rintro args hp top nx K ⟨l,v,x,h,hx,rfl,rfl,rfl,hl,hs,hK⟩;have hΓ:GOK Tryz.prog (gam [(104,a2A)]):=(.cons b1F .nil);refine⟨Nat.le_of_ble_eq_true rfl,AW.late ?_⟩;refine AW.le (a89 (.cons  avR  (.cons hx .nil))) ?_;cases hc:b1i h.2.2 with
 | false=>
   have e:a7a l h=l:=by unfold a7a;rw [if_neg (by rw [hc];simp)]
   refine awN hΓ rfl ?_;simp only [go_sem,a2A,a3x,b52,hk0,hk1,hk2,hc];refine⟨hs,_,a0e (fun p=>p) (l:=[(4,.ow 0 v l.length)]) (r:=[(0,rHk v l)]) (sz:=14) (top:=1) (nx:=nx+1) (df:=[]) ?_,?_⟩
   ·simp only [go_sem,a2A,a3x,b52];exact rlR
   ·simp only [go_sem,a2A];have:=hK v (nx+1) (.inl rfl) (by omega)
    rwa [e] at this
 | true=>
   have e:a7a l h=l++[h]:=by unfold a7a;rw [if_pos hc]
   refine awN hΓ rfl ?_;simp only [go_sem,a2A,a3x,b52,hk0,hk1,hk2,hc];refine⟨hs,by omega,_,a0e (fun p=>p) (l:=[(4,.ow 0 (nx+1) (l.length+1))]) (r:=[(0,rHk (nx+1) (a7a l h))]) (sz:=14) (top:=1) (nx:=nx+1+1) (df:=[]) ?_,?_⟩
   ·rw [e];simp only [go_sem,a2A,a3x,b52];exact a1F (E:=eHk) rfl rfl rfl rfl (by simp) fun j hj=>avR
   ·simp only [go_sem,a2A];have:=hK (nx+1) (nx+1+1) (.inr (by omega)) (by omega)
    rwa [e,show (l++[h]).length=l.length+1 by simp,<-e] at this
def c2y:a0O:=a1I b7o
theorem c1q:a0g Tryz.prog 45 c2y:=c2l.frame
def a0Y:a0O:=c2y
theorem b4i {l:List Hk} {v q n:Nat} {h:Hk} {x:AV} {hp:Nat->Row} {top nx:Nat} {K:AV->(Nat->Row)->Nat->Nat->Prop} (hn:n=l.length) (hx:a0k x ((kA (eP eI (eP eI (eL (eP eI (eL eS)))))).enc h)) (hr:a0c (hp q) (rHk v l)) (ht:q<top) (hl:l.length<1000000) (hl2:h.2.2.length<100000000)
  (hK:∀ v' nx',nx<=nx'->K (.ow q v' (a7a l h).length) (a0X hp q (rHk v' (a7a l h))) top nx'):a0Y [.ow q v n,x] hp top nx K:=by
 subst hn;have hver:(hp q).ver=some v:=hr.vers.symm;refine⟨[q],[.ow 0 v l.length,x],rws [(0,rHk v l)],by simp,by simpa using ht,.cons a0k.ow (.cons  avR  .nil),a8Z hr,fun i hi=>a13 (top:=1) (by simp) i (by simpa using hi),l,v,x,h,hx,rfl,rfl,rfl,hl,hl2,fun v' nx' h1 h3=>?_⟩;refine⟨.ow q v' (a7a l h).length,_,a0k.ow,fun i r hr=>?_,fun r hr=>?_,fun r hr w hw=>?_,hK v' nx' h3⟩
 ·cases i with
  | zero=>
    simp only [gCZ,oSI] at hr;subst hr;rw [a0i];exact rlR
  | succ i=>simp at hr
 ·rw [a0d _ _ (by simpa using hr)]
 ·simp only [List.mem_singleton] at hr;subst hr;rw [a0i] at hw;have:some v'=some w:=hw;obtain rfl:=oJI this;rcases h1 with rfl|h1
  ·exact .inl hver
  ·exact .inr h1
end
section
open Go
abbrev rHx (v:Nat) (l:List Hk) (A B:Int) (x:AV):Row:=.sl v 84 3 (l.length+1) (apC l.length (fun i=>(eP eI (eP eI (eL (eP eI (eL eS))))).enc (l.getD i (0,0,[]))) fun _ j=>if j=0 then .val (.int .i64 A) else if j=1 then .val (.int .i64 B) else x)
abbrev rSx (v:Nat) (st:List StE) (k:Int) (x:AV):Row:=.sl v 86 2 (st.length+1) (apC st.length (fun i=>(eP eI (eL eS)).enc (st.getD i (0,[]))) fun _ j=>if j=0 then .val (.int .i64 k) else x)
attribute [local irreducible] AW a0k a1k a0c
end
set_option maxHeartbeats 8000000
section
open Go
attribute [local irreducible] AW a0k a1k a0c
theorem c0b {l:List Hk} {i:Nat} (h:i<l.length):a6N (l.take (i+1))=a6N (l.take i)++d07 (l.getD i (0,0,[])):=by
 rw [a1T l (0,0,[]) h];simp [a6N]
theorem c9s (l:List Hk) (i:Nat):(a6N (l.take i)).length<=(a6N l).length:=by
 have h:a6N (l.take i++l.drop i)=a6N (l.take i)++a6N (l.drop i):=by unfold a6N;rw [List.map_append,List.flatten_append]
 rw [List.take_append_drop] at h;rw [h,lAp];omega
def a2I (st:List StE):List UInt8:=(st.map c4K).flatten
theorem b5y {l:List StE} {i:Nat} (h:i<l.length):a2I (l.take (i+1))=a2I (l.take i)++c4K (l.getD i (0,[])):=by
 rw [a1T l (0,[]) h];simp [a2I]
theorem b95 (l:List StE) (i:Nat):(a2I (l.take i)).length<=(a2I l).length:=by
 have h:a2I (l.take i++l.drop i)=a2I (l.take i)++a2I (l.drop i):=by unfold a2I;rw [List.map_append,List.flatten_append]
 rw [List.take_append_drop] at h;rw [h,lAp];omega
def a2s (k:Int) (ts:List (List UInt8)):List UInt8:=(ts.map (a7r k)).flatten
theorem b5w {k:Int} {l:List (List UInt8)} {i:Nat} (h:i<l.length):a2s k (l.take (i+1))=a2s k (l.take i)++a7r k (l.getD i []):=by
 rw [a1T l [] h];simp [a2s]
theorem c0s (k:Int) (l:List (List UInt8)) (i:Nat):(a2s k (l.take i)).length<=(a2s k l).length:=by
 have h:a2s k (l.take i++l.drop i)=a2s k (l.take i)++a2s k (l.drop i):=by unfold a2s;rw [List.map_append,List.flatten_append]
 rw [List.take_append_drop] at h;rw [h,lAp];omega
theorem c8N (h:Hk):a63 h≠[]:=by simp [a63,d6a]
theorem a78:∀ {l:List Hk} {n s:Int},a2z l n s=true->∀ h∈l,a0L (-1) h.2.2=true
 | [],_,_,_,h,hm=>by cases hm
 | g::r,n,s,hr,h,hm=>by
   rw [a2z,Bool.and_eq_true] at hr;rcases List.mem_cons.1 hm with rfl|hm
   ·have:=hr.1;unfold b5v at this;simp only [Bool.and_eq_true] at this;exact this.1.1
   ·exact a78 hr.2 h hm
theorem d2t (hp:Nat->Row) (h:Hk):(kA (eP eI (eP eI (eL (eP eI (eL eS)))))).dec (.ag 3 fun j=>if j<3 then vw0 hp ((eP eI (eP eI (eL (eP eI (eL eS))))).enc h j) else .any)=h:=by
 show (h.1,h.2.1,gL (eP eI (eL eS)) (sL (eP eI (eL eS)) h.2.2))=h;rw [a5T]
theorem d5G (hp:Nat->Row) (h:Hk):(kA (eP eI (eP eI (eL (eP eI (eL eS)))))).ok (.ag 3 fun j=>if j<3 then vw0 hp ((eP eI (eP eI (eL (eP eI (eL eS))))).enc h j) else .any)=True:=by
 refine eq_true ?_;unfold Kd.ok;rw [d2t];refine a0k.ag fun j hj=>?_
 match j,hj with
 | 0,_=>exact avR
 | 1,_=>exact avR
 | 2,_=>exact avR
def a0H:a0r:=a0r.f1 (kL (eP eI (eP eI (eL (eP eI (eL eS)))))) (fun l=>d4y l/\(∀ h∈l,(0<=h.1/\h.1<=1000000)/\0<=h.2.1/\h.2.1<=100000000)/\(a6N l).length<=50000000000) (fun l=>kS.enc (a3Y l))
theorem c5s:a0b Tryz.prog 32 a0H:=by
 refine a0b.f1 Tryz.func32 rfl (by decide) Tryz.results32 Tryz.ntmps32 (by decide) fun l ⟨ho,hb,hlen⟩=>?_
 have hΓ:GOK Tryz.prog (gam [(49,a1g),(89,a1H),(88,a0F),(90,a07),(91,a0J),(92,a1P)]):=(.cons c4p (.cons c9f (.cons b7K (.cons c6e (.cons b3F (.cons c7Y .nil))))));have hR0:a2z l 0 0=true\/a2z l 0 0=false:=by cases a2z l 0 0<;>simp
 rcases hR0 with hR|hR
 ·have eT:a3Y l=a6N l:=by unfold a3Y;rw [if_pos hR]
  have hl0:=ho.1;rw [eT];refine awL hΓ [0] rfl ?_;simp only [go_sem,a1g,a1H,a0F,a07,a0J,a1P,a3x];refine AW.seqTo (fun _:Unit=>Sh.st ⟨[(0,sL (eP eI (eP eI (eL (eP eI (eL eS))))) l)],[],50,0,0,[]⟩) ?_ fun _=>?_
  ·refine awZ hΓ rfl ?_;simp only [go_sem,a1g,a1H,a0F,a07,a0J,a1P,a3x,hR];refine⟨ho,(),a17 ?_⟩;simp only [go_sem,a1g,a1H,a0F,a07,a0J,a1P]
  refine AW.fork (AW.regionO hΓ [true] ?_);simp only [go_sem,a1g,a1H,a0F,a07,a0J,a1P];refine b2b rfl b6f (Nat.lt_of_lt_of_le (by decide:3<50) (nLR _)) ?_;simp only [go_sem,a1g,a1H,a0F,a07,a0J,a1P];refine AW.cut ⟨[(0,sL (eP eI (eP eI (eL (eP eI (eL eS))))) l),(3,.pt 0 0 0)],[(0,.box 0 138 2 (a7o false 0 0 1 0 [])),(1,a7C 0 [])],50,2,1,[]⟩ ?_ ?_
  ·simp only [go_sem,a1g,a1H,a0F,a07,a0J,a1P];refine⟨a0c.box fun j hj=>?_,rlR⟩
   match j,hj with
   | 0,_=>exact avR
   | 1,_=>exact avR
  refine awZ hΓ rfl ?_;simp only [go_sem,a1g,a1H,a0F,a07,a0J,a1P,a3x]
  refine AW.round (α:={ x:Nat×Bool×Nat×Nat // x.1<=l.length })
   (fun x=>⟨[(3,.pt 0 0 0),(13,sL (eP eI (eP eI (eL (eP eI (eL eS))))) l),(14,.val (.int .i64 l.length)),(15,.val (.int .i64 x.1.1))],
    [(0,.box 0 138 2 (a7o x.1.2.1 0 0 1 x.1.2.2.1 (a6N (l.take x.1.1)))),(1,a7C x.1.2.2.1 (a6N (l.take x.1.1)))],50,2,x.1.2.2.2,[]⟩) (fun x=>l.length-x.1.1) ⟨(0,false,0,1),nZL _⟩ ?_ ?_
  ·simp only [go_sem,a1g,a1H,a0F,a07,a0J,a1P,a3x];rw [show a6N (List.take 0 l)=[] by simp [a6N]];exact⟨rlR,rlR⟩
  ·rintro⟨⟨i,f,u,nx⟩,hi⟩;dsimp only at hi;rcases Nat.lt_or_ge i l.length with hlt|hge
   ·have hlI:((i:Int)<(l.length:Nat))=True:=eq_true (by omega)
    have hm:l.getD i (0,0,[])∈l:=by
     simp only [List.getD,List.getElem?_eq_getElem hlt,Option.getD_some];exact List.getElem_mem _
    have hh:=hb _ hm;have hre:=a78 hR _ hm;have hok:=ho.2 _ hm;have e1:=c0b hlt;have e2:=c9s l (i+1);generalize hge:l.getD i (0,0,[])=g at *
    refine awL hΓ [6,8] rfl ?_;simp only [go_sem,a1g,a1H,a0F,a07,a0J,a1P,a3x,b52,hlI,hge];refine⟨by omega,?_⟩;obtain⟨A,B,st⟩:=g;dsimp only at hh hre
    refine AW.cut ⟨[(3,.pt 0 0 0),(5,.pt 2 nx 0),(13,sL (eP eI (eP eI (eL (eP eI (eL eS))))) l),(14,.val (.int .i64 l.length)),(15,.val (.int .i64 i))],
     [(0,.box 0 138 2 (a7o f 0 0 1 u (a6N (l.take i)))),(1,a7C u (a6N (l.take i))),(2,.box nx 84 3 ((eP eI (eP eI (eL (eP eI (eL eS))))).enc (A,B,st)))],50,3,nx+1,[]⟩ ?_ ?_
    ·simp only [go_sem,a1g,a1H,a0F,a07,a0J,a1P,a3x];exact⟨rlR,rlR,a0c.box fun j hj=>a0k.of_eq (b0x (nZL _) (by omega))⟩
    obtain⟨⟨k1,k2⟩,k3,k4⟩:=hok;dsimp only at k1 k2 k3 k4;refine awL hΓ [7,8] rfl ?_;simp only [go_sem,a1g,a1H,a0F,a07,a0J,a1P,a3x,b52,hk0,hk1,hk2,d5G];have hT:d07 (A,B,st)=a63 (A,B,st)++a2I st:=rfl;rw [hT] at e1
    have e3:(a6N (l.take i)).length+(a63 (A,B,st)).length+(a2I st).length<=50000000000:=by
     rw [e1] at e2;simp only [lAp] at e2;omega
    refine⟨⟨hh.1,hh.2,k1,k2⟩,a5p (by decide)  rlR   rlR  (by decide) (by omega) fun u1 n1 g1 h1=>?_⟩;simp only [go_sem,a1g,a1H,a0F,a07,a0J,a1P,a3x,b52,hk0,hk1,hk2];refine awL hΓ [8] rfl ?_;simp only [go_sem,a1g,a1H,a0F,a07,a0J,a1P,a3x,b52,hk0,hk1,hk2]
    refine AW.to (fun x:Nat×Nat=>Sh.st ⟨[(3,.pt 0 0 0),(13,sL (eP eI (eP eI (eL (eP eI (eL eS))))) l),(14,.val (.int .i64 l.length)),(15,.val (.int .i64 i))],
     [(0,.box 0 138 2 (a7o true 0 0 1 x.1 (a6N (l.take (i+1))))),(1,a7C x.1 (a6N (l.take (i+1))))],50,2,x.2,[]⟩) ?_ fun x=>?_
    ·refine AW.block (AW.round (α:={ x:Nat×Nat×Nat // x.1<=st.length })
      (fun x=>⟨[(3,.pt 0 0 0),(13,sL (eP eI (eP eI (eL (eP eI (eL eS))))) l),(14,.val (.int .i64 l.length)),(15,.val (.int .i64 i)),(23,sL (eP eI (eL eS)) st),(24,.val (.int .i64 st.length)),(25,.val (.int .i64 x.1.1))],
       [(0,.box 0 138 2 (a7o true 0 0 1 x.1.2.1 (a6N (l.take i)++a63 (A,B,st)++a2I (st.take x.1.1)))),(1,a7C x.1.2.1 (a6N (l.take i)++a63 (A,B,st)++a2I (st.take x.1.1)))],50,2,x.1.2.2,[]⟩) (fun x=>st.length-x.1.1) ⟨(0,u1,n1),nZL _⟩ ?_ ?_)
     ·simp only [go_sem,a1g,a1H,a0F,a07,a0J,a1P,a3x,b52,hk0,hk1,hk2];rw [show a2I (List.take 0 st)=[] by simp [a2I],List.append_nil];exact⟨rlR,rlR⟩
     ·rintro⟨⟨j,u2,n2⟩,hj⟩;dsimp only at hj;rcases Nat.lt_or_ge j st.length with hjt|hjg
      ·have hjI:((j:Int)<(st.length:Nat))=True:=eq_true (by omega)
       have jm:st.getD j (0,[])∈st:=by
        simp only [List.getD,List.getElem?_eq_getElem hjt,Option.getD_some];exact List.getElem_mem _
       have jk:=b9m hre _ jm;have j2:=k2 _ jm;have j3:=k3 _ jm;have d1:=b5y hjt;have d2:=b95 st (j+1);generalize hgj:st.getD j (0,[])=s at *
       refine awL hΓ [10,11] rfl ?_;simp only [go_sem,a1g,a1H,a0F,a07,a0J,a1P,a1Z,b02,hjI,hgj];refine⟨by omega,?_⟩;obtain⟨k,ts⟩:=s;dsimp only at jk j2 j3;have hsT:c4K (k,ts)=a2s k ts:=rfl;rw [hsT] at d1;have hne:a6N (l.take i)++a63 (A,B,st)++a2I (st.take j)≠[]:=by simp [c8N]
       have hnl:(a6N (l.take i)++a63 (A,B,st)++a2I (st.take j)).length+(a2s k ts).length<=50000000000:=by
        rw [d1] at d2;simp only [lAp] at d2 ⊢;omega
       have d3:a6N (l.take i)++a63 (A,B,st)++a2I (st.take (j+1))=a6N (l.take i)++a63 (A,B,st)++a2I (st.take j)++a2s k ts:=by rw [d1,<-List.append_assoc]
       generalize hP:a6N (l.take i)++a63 (A,B,st)++a2I (st.take j)=pre at d3 hne hnl ⊢
       refine AW.cut ⟨[(3,.pt 0 0 0),(7,.pt 2 n2 0),(13,sL (eP eI (eP eI (eL (eP eI (eL eS))))) l),(14,.val (.int .i64 l.length)),(15,.val (.int .i64 i)),(23,sL (eP eI (eL eS)) st),(24,.val (.int .i64 st.length)),(25,.val (.int .i64 j))],
        [(0,.box 0 138 2 (a7o true 0 0 1 u2 pre)),(1,a7C u2 pre),(2,.box n2 86 2 ((eP eI (eL eS)).enc (k,ts)))],50,3,n2+1,[]⟩ ?_ ?_
       ·simp only [go_sem,a1g,a1H,a0F,a07,a0J,a1P,a1Z];exact⟨rlR,rlR,a0c.box fun j hj=>a0k.of_eq (b0x (nZL _) (by omega))⟩
       refine awL hΓ [11] rfl ?_;simp only [go_sem,a1g,a1H,a0F,a07,a0J,a1P,a1Z,b02,sp0,sp1]
       refine AW.to (fun x:Nat×Nat=>Sh.st ⟨[(3,.pt 0 0 0),(13,sL (eP eI (eP eI (eL (eP eI (eL eS))))) l),(14,.val (.int .i64 l.length)),(15,.val (.int .i64 i)),(23,sL (eP eI (eL eS)) st),(24,.val (.int .i64 st.length)),(25,.val (.int .i64 j))],
        [(0,.box 0 138 2 (a7o true 0 0 1 x.1 (pre++a2s k ts))),(1,a7C x.1 (pre++a2s k ts))],50,2,x.2,[]⟩) ?_ fun x=>?_
       ·refine AW.block (AW.round (α:={ x:Nat×Nat×Nat // x.1<=ts.length })
         (fun x=>⟨[(3,.pt 0 0 0),(7,.pt 2 n2 0),(13,sL (eP eI (eP eI (eL (eP eI (eL eS))))) l),(14,.val (.int .i64 l.length)),(15,.val (.int .i64 i)),(23,sL (eP eI (eL eS)) st),(24,.val (.int .i64 st.length)),(25,.val (.int .i64 j)),(30,sL eS ts),(31,.val (.int .i64 ts.length)),(32,.val (.int .i64 x.1.1))],
          [(0,.box 0 138 2 (a7o true 0 0 1 x.1.2.1 (pre++a2s k (ts.take x.1.1)))),(1,a7C x.1.2.1 (pre++a2s k (ts.take x.1.1))),(2,.box n2 86 2 ((eP eI (eL eS)).enc (k,ts)))],50,3,x.1.2.2,[]⟩) (fun x=>ts.length-x.1.1) ⟨(0,u2,n2+1),nZL _⟩ ?_ ?_)
        ·simp only [go_sem,a1g,a1H,a0F,a07,a0J,a1P,a1Z,b02,sp0,sp1];rw [show a2s k (List.take 0 ts)=[] by simp [a2s],List.append_nil];exact⟨rlR,rlR,rlR⟩
        ·rintro⟨⟨m,u3,n3⟩,hm'⟩;dsimp only at hm';rcases Nat.lt_or_ge m ts.length with hmt|hmg
         ·have hmI:((m:Int)<(ts.length:Nat))=True:=eq_true (by omega);have t1:=b5w (k:=k) hmt;have t2:=c0s k ts (m+1)
          have t3:(ts.getD m []).length<=100000000:=by
           simp only [List.getD,List.getElem?_eq_getElem hmt,Option.getD_some];exact j3 _ (List.getElem_mem _)
          have hne2:pre++a2s k (ts.take m)≠[]:=by simp [hne]
          have hnl2:(pre++a2s k (ts.take m)).length+(a7r k (ts.getD m [])).length<=50000000000:=by
           rw [t1] at t2;simp only [lAp] at t2 ⊢;omega
          have t5:pre++a2s k (ts.take (m+1))=pre++a2s k (ts.take m)++a7r k (ts.getD m []):=by rw [t1,<-List.append_assoc]
          generalize hline:ts.getD m []=line at t3 hnl2 t5 ⊢;generalize hQ:pre++a2s k (ts.take m)=acc at hne2 hnl2 t5 ⊢;have hsx:=b6o line;cases hE:a1c line with
          | true=>
            have hL:acc++[d2p k]++line=acc++a7r k line:=by unfold a7r;rw [if_pos hE];simp
            have hLl:(a7r k line).length=line.length+1:=by unfold a7r;rw [if_pos hE];simp
            rw [hE] at hsx;refine awN hΓ rfl ?_;simp only [go_sem,a1g,a1H,a0F,a07,a0J,a1P,a1Z,b02,sp0,sp1,hmI,hline,hsx];refine⟨by omega,⟨by omega,by omega⟩,b4f (b:=d2p k) (by decide)  rlR   rlR  (by decide) hne2 (by omega) fun u4 n4 g4 h4=>?_⟩;simp only [go_sem,a1g,a1H,a0F,a07,a0J,a1P,hsx];refine a5p (by decide)  rlR   rlR  (by decide) (by simp only [lAp,lCo,List.length_nil];omega) fun u5 n5 g5 h5=>?_
            simp only [go_sem,a1g,a1H,a0F,a07,a0J,a1P,hsx];exact⟨by omega,by omega,⟨(m+1,u5,n5),by dsimp only;omega⟩,⟨nLR _,by dsimp only;omega,by dsimp only;rw [t5,<-hL];exact rlR,by dsimp only;rw [t5,<-hL];exact rlR,rlR⟩,by dsimp only;omega⟩
          | false=>
            have hL:acc++[d2p k]++line++(10::b1y)=acc++a7r k line:=by unfold a7r;rw [if_neg (by rw [hE];simp)];simp
            have hLl:(a7r k line).length=line.length+11:=by unfold a7r;rw [if_neg (by rw [hE];simp)];simp [b1y]
            rw [hE] at hsx;refine awN hΓ rfl ?_;simp only [go_sem,a1g,a1H,a0F,a07,a0J,a1P,a1Z,b02,sp0,sp1,hmI,hline,hsx];refine⟨by omega,⟨by omega,by omega⟩,b4f (b:=d2p k) (by decide)  rlR   rlR  (by decide) hne2 (by omega) fun u4 n4 g4 h4=>?_⟩;simp only [go_sem,a1g,a1H,a0F,a07,a0J,a1P,hsx];refine a5p (by decide)  rlR   rlR  (by decide) (by simp only [lAp,lCo,List.length_nil];omega) fun u5 n5 g5 h5=>?_
            simp only [go_sem,a1g,a1H,a0F,a07,a0J,a1P,hsx];refine⟨by omega,a5p (s:=10::b1y) (by decide)  rlR   rlR  (by decide) (by simp only [lAp,lCo,List.length_nil,b1y];omega) fun u6 n6 g6 h6=>?_⟩;simp only [go_sem,a1g,a1H,a0F,a07,a0J,a1P,hsx];exact⟨by omega,⟨(m+1,u6,n6),by dsimp only;omega⟩,⟨nLR _,by dsimp only;omega,by dsimp only;rw [t5,<-hL];exact rlR,by dsimp only;rw [t5,<-hL];exact rlR,rlR⟩,by dsimp only;omega⟩
         ·obtain rfl:m=ts.length:=by omega
          have hmI:((ts.length:Int)<(ts.length:Nat))=False:=eq_false (by omega);refine awN hΓ rfl ?_;simp only [go_sem,a1g,a1H,a0F,a07,a0J,a1P,hmI];refine⟨(u3,n3),a17 ?_⟩;simp only [go_sem,a1g,a1H,a0F,a07,a0J,a1P];exact⟨rlR,rlR⟩
       ·simp only [go_sem,a1g,a1H,a0F,a07,a0J,a1P];exact⟨by omega,⟨(j+1,x.1,x.2),by dsimp only;omega⟩,⟨nLR _,by dsimp only;omega,by dsimp only;rw [d3];exact rlR,by dsimp only;rw [d3];exact rlR⟩,by dsimp only;omega⟩
      ·obtain rfl:j=st.length:=by omega
       have hjI:((st.length:Int)<(st.length:Nat))=False:=eq_false (by omega);refine awN hΓ rfl ?_;simp only [go_sem,a1g,a1H,a0F,a07,a0J,a1P,hjI];refine⟨(u2,n2),a17 ?_⟩;simp only [go_sem,a1g,a1H,a0F,a07,a0J,a1P];rw [e1,<-List.append_assoc];exact⟨rlR,rlR⟩
    ·simp only [go_sem,a1g,a1H,a0F,a07,a0J,a1P];exact⟨by omega,⟨(i+1,true,x.1,x.2),by dsimp only;omega⟩,⟨nLR _,by dsimp only;omega,rlR,rlR⟩,by dsimp only;omega⟩
   ·obtain rfl:i=l.length:=by omega
    have hlI:((l.length:Int)<(l.length:Nat))=False:=eq_false (by omega);refine awN hΓ rfl ?_;simp only [go_sem,a1g,a1H,a0F,a07,a0J,a1P,hlI];exact⟨f,0,0,1,u,a6N l,rfl,rfl,rfl,by omega,rfl⟩
 ·have eT:a3Y l=[]:=by unfold a3Y;rw [if_neg (by rw [hR];simp)]
  rw [eT];refine awN hΓ rfl ?_;simp only [go_sem,a1g,a1H,a0F,a07,a0J,a1P,a3x,hR];exact ho
end
section
open Go
attribute [local irreducible] AW a0k a1k a0c
def c84 (h:Hk) (q v:Nat):Nat->AV:=fun j=>if j=0 then .val (.int .i64 h.1) else if j=1 then .val (.int .i64 h.2.1) else .ow q v h.2.2.length
theorem c3L (h:Hk) (q v:Nat):c84 h q v 0=.val (.int .i64 h.1):=rfl
theorem c3T (h:Hk) (q v:Nat):c84 h q v 1=.val (.int .i64 h.2.1):=rfl
theorem c3R (h:Hk) (q v:Nat):c84 h q v 2=.ow q v h.2.2.length:=rfl
theorem b3r (l:List StE) (k:Int) (ts:List (List UInt8)):(a3V l k ts).length<=l.length+1:=by
 unfold a3V;split
 ·omega
 ·simp
theorem c0f {L:List StE} (hL:∀ s∈L,s.2.length<=10000) (n:Nat):∀ i,i<=L.length->(ofI L n i).1.length<=i/\(ofI L n i).2.1.2.2.length<=i/\(0<=(ofI L n i).2.2.1/\(ofI L n i).2.2.1<=i*10000)/\0<=(ofI L n i).2.2.2/\(ofI L n i).2.2.2<=i*10000
 | 0,_=>by simp [ofI]
 | i+1,h=>by
   obtain⟨h1,h2,h3,h4⟩:=c0f hL n i (by omega)
   have hm:L.getD i (0,[])∈L:=by
    simp only [List.getD,List.getElem?_eq_getElem (show i<L.length by omega),Option.getD_some];exact List.getElem_mem _
   have hs:=hL _ hm;rw [ofI];generalize L.getD i (0,[])=s at *
   generalize ofI L n i=o at *
   generalize decide (i=0)=f;generalize decide (i+1=L.length)=t;obtain⟨hs',⟨oa,ob,st⟩,ca,cb⟩:=o;obtain⟨k,ts⟩:=s;dsimp only at h1 h2 h3 h4 hs;have a1:=b3r st k ts;have a2:=b3r st 0 ts;have a3:=b3r [] 0 (ts.drop (ts.length-ahP n t (k,ts)));have a4:(a7a hs' (oa,ob,a3V st 0 (ts.take (bhP n f (k,ts))))).length<=i+1:=by rw [d0s];split<;>omega
   unfold a3G;dsimp only;have p1:0<=b6y (k,ts)/\b6y (k,ts)<=10000:=by unfold b6y;dsimp only;split<;>omega
   have p2:0<=b67 (k,ts)/\b67 (k,ts)<=10000:=by unfold b67;dsimp only;split<;>omega
   split
   ·dsimp only;exact⟨by omega,by omega,by omega,by omega⟩
   ·split
    ·dsimp only;exact⟨by omega,by omega,by omega,by omega⟩
    ·dsimp only;simp only [List.length_nil] at a3;exact⟨a4,by omega,by omega,by omega⟩
theorem c9I {ts:List (List UInt8)} {B:Nat} (h:B<=ts.length):a0k (.sn (B-0) 1 fun i=>eS.enc (ts.getD i [])) (sL eS (ts.take B)):=by
 refine c7y rfl (by rw [List.length_take];omega) fun i hi j hj=>?_
 rw [show (ts.take B).getD i eS.dflt=ts.getD i [] by simp only [List.getD,List.getElem?_take];rw [if_pos (by omega)];rfl];exact avR
theorem d0n {ts:List (List UInt8)} {A:Nat} (h:A<=ts.length):a0k (.sn (ts.length-(ts.length-A)) 1 fun i=>eS.enc (ts.getD (ts.length-A+i) [])) (sL eS (ts.drop (ts.length-A))):=by
 refine c7y rfl (by rw [List.length_drop]) fun i hi j hj=>?_
 rw [show (ts.drop (ts.length-A)).getD i eS.dflt=ts.getD (ts.length-A+i) [] by simp only [List.getD,List.getElem?_drop];rfl];exact avR
def a4c:a0r:=a0r.f2 (kL (eP eI (eL eS))) kI (fun l _=>l.length<10000/\∀ s∈l,s.2.length<=10000) (fun l n=>sL (eP eI (eP eI (eL (eP eI (eL eS))))) (if a0L (-1) l=true/\0<=n/\n<=100 then ofP l n.toNat else []))
theorem d6y:a0b Tryz.prog 10 a4c:=by
 refine a0b.f2 Tryz.func10 rfl (by decide) Tryz.results10 Tryz.ntmps10 (by decide) fun l n ⟨hl,hs⟩=>?_
 have hΓ:GOK Tryz.prog (gam [(42,a09),(43,a2X),(44,a1R),(45,a0Y)]):=(.cons b7F (.cons d3s (.cons d0L (.cons c1q .nil))));by_cases hc:a0L (-1) l=true/\0<=n/\n<=100
 ·obtain⟨hc1,hc2,hc3⟩:=hc;rw [if_pos ⟨hc1,hc2,hc3⟩];have b1:decide (n<0)=false:=decide_eq_false (by omega);have b2:decide (100<n)=false:=decide_eq_false (by omega);obtain⟨N,rfl⟩:=Int.eq_ofNat_of_zero_le hc2;rw [Int.toNat_natCast];refine awL hΓ [6] rfl ?_;simp only [go_sem,a09,a2X,a1R,a0Y,a1Z,a3x,hc1,b1,b2];refine⟨⟨hl,hs⟩,?_⟩;refine AW.adopt 5 84 3 (fun i=>(eP eI (eP eI (eL (eP eI (eL eS))))).enc (([]:List Hk).getD i (0,0,[]))) rfl ?_;refine AW.adoptB (q:=0) 2 86 2 (fun i=>(eP eI (eL eS)).enc (([]:List StE).getD i (0,[]))) rfl rfl ?_;refine AW.to (fun x:Nat×Nat=>Sh.st ⟨[(5,.ow 1 x.1 (ofI l N l.length).1.length),(6,.pt 0 0 0)],[(0,.box 0 84 3 ((eP eI (eP eI (eL (eP eI (eL eS))))).enc (ofI l N l.length).2.1)),(1,rHk x.1 (ofI l N l.length).1)],124,2,x.2,[]⟩) ?_ ?_
  ·refine AW.block (AW.round (α:={ x:Nat×Nat×Nat×Nat // x.1<=l.length }) (fun x=>⟨[(0,sL (eP eI (eL eS)) l),(1,.val (.int .i64 N)),(5,.ow 1 x.1.2.1 (ofI l N x.1.1).1.length),(6,.pt 0 0 0),(7,.val (.int .i64 (ofI l N x.1.1).2.2.1)),(8,.val (.int .i64 (ofI l N x.1.1).2.2.2)),(27,sL (eP eI (eL eS)) l),(28,.val (.int .i64 l.length)),(29,.val (.int .i64 x.1.1))],
    [(0,.box 0 84 3 (c84 (ofI l N x.1.1).2.1 2 x.1.2.2.1)),(1,rHk x.1.2.1 (ofI l N x.1.1).1),(2,rSt x.1.2.2.1 (ofI l N x.1.1).2.1.2.2)],124,3,x.1.2.2.2,[]⟩) (fun x=>l.length-x.1.1) ⟨(0,1,2,3),nZL _⟩ ?_ ?_)
   ·simp only [go_sem,a09,a2X,a1R,a0Y,a3x];exact⟨⟨rfl,rfl,rfl⟩,a0c.box fun j hj=>a0k.of_eq (match j,hj with|0,_=>rfl|1,_=>rfl|2,_=>rfl),rlR,rlR⟩
   ·rintro⟨⟨i,vh,vs,nx⟩,hi⟩;simp only at hi;rcases Nat.lt_or_ge i l.length with hlt|hge
    ·have hlI:((i:Int)<(l.length:Nat))=True:=eq_true (by omega);obtain⟨g1,g2,g3,g4⟩:=c0f hs N i hi
     have hm:l.getD i (0,[])∈l:=by
      simp only [List.getD,List.getElem?_eq_getElem hlt,Option.getD_some];exact List.getElem_mem _
     have hg:=hs _ hm;have hst:ofI l N (i+1)=a3G N (decide (i=0)) (decide (i+1=l.length)) (l.getD i (0,[])) (ofI l N i):=rfl;generalize hge:l.getD i (0,[])=g at *
     generalize hoe:ofI l N i=o at *
     obtain⟨k,ts⟩:=g;obtain⟨hs',⟨oa,ob,st⟩,ca,cb⟩:=o;dsimp only at g1 g2 g3 g4 hg ⊢;by_cases hk:k=0
     ·subst hk;have e2:decide ((i:Int)=(l.length:Int)-1)=decide (i+1=l.length):=by rw [decide_eq_decide];omega
      have e1:decide ((i:Int)=0)=decide (i=0):=by rw [decide_eq_decide];omega
      generalize hfe:decide (i=0)=f at *
      generalize hte:decide (i+1=l.length)=t at *
      by_cases hin:f=false/\t=false/\ts.length<=2*N
      ·obtain⟨rfl,rfl,hle⟩:=hin;have hle':((ts.length:Int)<=2*(N:Int))=True:=eq_true (by omega);refine awN hΓ rfl ?_;simp only [go_sem,a09,a2X,a1R,a0Y,a1Z,b02,hlI,hge,sp0,sp1,c3L,c3T,c3R,e1,e2,hle',b00,b7e];refine⟨by omega,⟨by omega,by omega⟩,⟨by omega,by omega,by omega⟩,⟨by omega,by omega⟩,b51 (l:=st) rfl  avR   rlR  (by decide) (by omega) (by omega) fun v' nx' hnx=>?_⟩;simp only [go_sem,a09,a2X,a1R,a0Y,a1Z,b02,sp0,sp1,c3L,c3T,c3R,b00,b7e]
       have hst2:ofI l N (i+1)=(hs',(oa,ob,a3V st 0 ts),ca+ts.length,cb+ts.length):=by
        rw [hst];unfold a3G;rw [if_neg (by simp),if_pos ⟨rfl,rfl,hle⟩]
       have pA:b6y (0,ts)=ts.length:=by unfold b6y;rw [if_neg (show ¬(0:Int)=2 by decide)]
       have pB:b67 (0,ts)=ts.length:=by unfold b67;rw [if_neg (show ¬(0:Int)=1 by decide)]
       refine⟨by omega,⟨(i+1,vh,v',nx'),by omega⟩,?_⟩;dsimp only;rw [hst2,pA,pB];exact⟨⟨nLR _,⟨⟨rfl,rfl⟩,rfl,rfl,by omega⟩,a0c.box fun j hj=>a0k.of_eq (match j,hj with|0,_=>rfl|1,_=>rfl|2,_=>rfl),rlR,rlR⟩,by omega⟩
      ·have hmin:min (ts.length:Int) (N:Int)=((min ts.length N:Nat):Int):=by omega
       have pA:b6y (0,ts)=ts.length:=by unfold b6y;rw [if_neg (show ¬(0:Int)=2 by decide)]
       have pB:b67 (0,ts)=ts.length:=by unfold b67;rw [if_neg (show ¬(0:Int)=1 by decide)]
       have hcond:(!f&&!t&&decide ((ts.length:Int)<=2*(N:Int)))=false:=by
        cases f<;>cases t<;>simp;simp at hin;omega
       refine awL hΓ [200021] rfl ?_;simp only [go_sem,a09,a2X,a1R,a0Y,hlI];refine AW.fork (AW.block ?_);refine awL hΓ [200021] rfl ?_;simp only [go_sem,a09,a2X,a1R,a0Y,a1Z,b02,hlI,hge,sp0,sp1,c3L,c3T,c3R,e1,e2,hmin,hcond,b00,b7e];refine⟨by omega,⟨by omega,by omega⟩,⟨by omega,by omega,by omega⟩,fun _=>by omega,?_⟩;rw [pA,pB];refine AW.seqTo (fun _:Unit=>Sh.st ⟨[(0,sL (eP eI (eL eS)) l),(1,.val (.int .i64 N)),(5,.ow 1 vh hs'.length),(6,.pt 0 0 0),(7,.val (.int .i64 (ca+ts.length))),(8,.val (.int .i64 (cb+ts.length))),(10,.pt 3 nx 0),(12,.val (.bool t)),(13,.val (.int .i64 ts.length)),(14,.val (.int .i64 (bhP N f (0,ts):Nat))),(15,.val (.int .i64 (min ts.length N:Nat))),(27,sL (eP eI (eL eS)) l),(28,.val (.int .i64 l.length)),(29,.val (.int .i64 i))],[(0,.box 0 84 3 (c84 (oa,ob,st) 2 vs)),(1,rHk vh hs'),(2,rSt vs st),(3,.box nx 86 2 ((eP eI (eL eS)).enc (0,ts)))],124,4,nx+1,[]⟩) ?_ fun _=>?_
       ·cases f with
        | true=>
          refine awN hΓ rfl ?_;simp only [go_sem,a09,a2X,a1R,a0Y];refine⟨(),a17 ?_⟩;simp only [go_sem,a09,a2X,a1R,a0Y];exact⟨by simp [bhP],rlR,rlR,rlR,a0c.box fun j hj=>a0k.of_eq (match j,hj with|0,_=>rfl|1,_=>rfl)⟩
        | false=>
          refine awN hΓ rfl ?_;simp only [go_sem,a09,a2X,a1R,a0Y];refine⟨(),a17 ?_⟩;simp only [go_sem,a09,a2X,a1R,a0Y];exact⟨by simp [bhP],rlR,rlR,rlR,a0c.box fun j hj=>a0k.of_eq (match j,hj with|0,_=>rfl|1,_=>rfl)⟩
       refine AW.seqTo (fun _:Unit=>Sh.st ⟨[(0,sL (eP eI (eL eS)) l),(1,.val (.int .i64 N)),(5,.ow 1 vh hs'.length),(6,.pt 0 0 0),(7,.val (.int .i64 (ca+ts.length))),(8,.val (.int .i64 (cb+ts.length))),(10,.pt 3 nx 0),(12,.val (.bool t)),(13,.val (.int .i64 ts.length)),(14,.val (.int .i64 (bhP N f (0,ts):Nat))),(15,.val (.int .i64 (ahP N t (0,ts):Nat))),(27,sL (eP eI (eL eS)) l),(28,.val (.int .i64 l.length)),(29,.val (.int .i64 i))],[(0,.box 0 84 3 (c84 (oa,ob,st) 2 vs)),(1,rHk vh hs'),(2,rSt vs st),(3,.box nx 86 2 ((eP eI (eL eS)).enc (0,ts)))],124,4,nx+1,[]⟩) ?_ fun _=>?_
       ·cases t with
        | true=>
          refine awN hΓ rfl ?_;simp only [go_sem,a09,a2X,a1R,a0Y];refine⟨(),a17 ?_⟩;simp only [go_sem,a09,a2X,a1R,a0Y];exact⟨by simp [ahP],rlR,rlR,rlR,rlR⟩
        | false=>
          refine awN hΓ rfl ?_;simp only [go_sem,a09,a2X,a1R,a0Y];refine⟨(),a17 ?_⟩;simp only [go_sem,a09,a2X,a1R,a0Y];exact⟨by simp [ahP],rlR,rlR,rlR,rlR⟩
       refine AW.fork (AW.drawZ hΓ mixed 6 [7] [7] [] (by decide +kernel) ?_);simp only [go_sem,a09,a2X,a1R,a0Y,a1Z,b02,sp0,sp1,c3L,c3T,c3R];have hbh:bhP N f (0,ts)<=ts.length:=by unfold bhP;split<;>(try dsimp only)<;>omega
       have hah:ahP N t (0,ts)<=ts.length:=by unfold ahP;split<;>(try dsimp only)<;>omega
       have hst2:ofI l N (i+1)=(a7a hs' (oa,ob,a3V st 0 (ts.take (bhP N f (0,ts)))),(ca+ts.length-ahP N t (0,ts),cb+ts.length-ahP N t (0,ts),a3V [] 0 (ts.drop (ts.length-ahP N t (0,ts)))),ca+ts.length,cb+ts.length):=by
        rw [hst];unfold a3G;rw [if_neg (by simp),if_neg hin]
       generalize bhP N f (0,ts)=B at *
       generalize ahP N t (0,ts)=A at *
       refine⟨⟨by omega,by omega⟩,b51 (l:=st) (ts:=ts.take B) rfl (c9I hbh)  rlR  (by decide) (by omega) (by rw [List.length_take];omega) fun v' nx' hnx=>?_⟩;simp only [go_sem,a09,a2X,a1R,a0Y,a1Z,b02,sp0,sp1,c3L,c3T,c3R];refine AW.freeze 2 v' 86 2 (a3V st 0 (ts.take B)).length (fun i=>(eP eI (eL eS)).enc ((a3V st 0 (ts.take B)).getD i (0,[]))) rfl (fun i _ j hj=>match j,hj with|0,_=>rfl|1,_=>rfl) ?_;refine awL hΓ [22,23] rfl ?_;simp only [go_sem,a09,a2X,a1R,a0Y,a1Z,b02,a3x,b52,sp0,sp1,c3L,c3T,c3R];have hal:=b3r st 0 (ts.take B);refine b4i (l:=hs') (h:=(oa,ob,a3V st 0 (ts.take B))) rfl (a0k.ag fun j hj=>a0k.of_eq (match j,hj with|0,_=>rfl|1,_=>rfl|2,_=>by show fz 2 v' _ 2 _ (.ow 2 v' _)=_;simp only [fz,and_self,if_true,nLR];rfl)) (a0c.sl rfl fun i hi j hj=>match j,hj with|0,_=>avR|1,_=>avR|2,_=>avR) (by decide) (by omega) (by dsimp only;omega) fun v2 nx2 hnx2=>?_
       simp only [go_sem,a09,a2X,a1R,a0Y,a1Z,b02,a3x,b52,sp0,sp1,c3L,c3T,c3R];refine AW.cut ⟨[(0,sL (eP eI (eL eS)) l),(1,.val (.int .i64 N)),(5,.ow 1 v2 (a7a hs' (oa,ob,a3V st 0 (ts.take B))).length),(6,.pt 0 0 0),(7,.val (.int .i64 (ca+ts.length))),(8,.val (.int .i64 (cb+ts.length))),(10,.pt 3 nx 0),(13,.val (.int .i64 ts.length)),(15,.val (.int .i64 A)),(27,sL (eP eI (eL eS)) l),(28,.val (.int .i64 l.length)),(29,.val (.int .i64 i))],[(0,.box 0 84 3 ((eP eI (eP eI (eL (eP eI (eL eS))))).enc (oa,ob,a3V st 0 (ts.take B)))),(1,rHk v2 (a7a hs' (oa,ob,a3V st 0 (ts.take B)))),(3,.box nx 86 2 ((eP eI (eL eS)).enc (0,ts)))],124,4,nx2,[]⟩ ?_ ?_
       ·simp only [go_sem,a09,a2X,a1R,a0Y,a3x,a1Z];exact⟨a0c.box fun j hj=>a0k.of_eq (match j,hj with|0,_=>rfl|1,_=>rfl|2,_=>by show fz 2 v' _ 2 _ (.ow 2 v' _)=_;simp only [fz,and_self,if_true,nLR];rfl),rlR,a0c.box fun j hj=>a0k.of_eq (match j,hj with|0,_=>rfl|1,_=>rfl)⟩
       have hsub:((ts.length:Int)-(A:Int)).toNat=ts.length-A:=by omega
       refine awL hΓ [23] rfl ?_;simp only [go_sem,a09,a2X,a1R,a0Y,a1Z,b02,a3x,b52,sp0,sp1,hsub];refine⟨⟨by omega,by omega⟩,⟨by omega,by omega⟩,⟨by omega,by omega⟩,⟨by omega,by omega,by omega⟩,d0B (ts:=ts.drop (ts.length-A)) (d0n hah) (by rw [List.length_drop];omega) fun v3 nx3 h3 h4=>?_⟩;simp only [go_sem,a09,a2X,a1R,a0Y,a1Z,b02,a3x,b52,sp0,sp1];refine AW.cutV (fun p=>if p=2 then 4 else p) ⟨[(0,sL (eP eI (eL eS)) l),(1,.val (.int .i64 N)),(5,.ow 1 v2 (a7a hs' (oa,ob,a3V st 0 (ts.take B))).length),(6,.pt 0 0 0),(7,.val (.int .i64 (ca+ts.length))),(8,.val (.int .i64 (cb+ts.length))),(27,sL (eP eI (eL eS)) l),(28,.val (.int .i64 l.length)),(29,.val (.int .i64 i))],[(0,.box 0 84 3 (c84 (ca+ts.length-A,cb+ts.length-A,a3V [] 0 (ts.drop (ts.length-A))) 2 v3)),(1,rHk v2 (a7a hs' (oa,ob,a3V st 0 (ts.take B)))),(2,rSt v3 (a3V [] 0 (ts.drop (ts.length-A))))],124,3,nx3,[]⟩ ?_ ?_
       ·simp only [go_sem,a09,a2X,a1R,a0Y,a3x,a1Z];exact⟨a0c.box fun j hj=>match j,hj with|0,_=>avR|1,_=>avR|2,_=>a0k.ow,rlR,rlR⟩
       refine awN hΓ rfl ?_;simp only [go_sem,a09,a2X,a1R,a0Y];refine⟨by omega,⟨(i+1,v2,v3,nx3),by omega⟩,?_⟩;dsimp only;rw [hst2];exact⟨⟨nLR _,⟨⟨rfl,rfl⟩,rfl,rfl,by omega⟩,rlR,rlR,rlR⟩,by omega⟩
     ·have hk':(k=0)=False:=eq_false hk;refine awN hΓ rfl ?_;simp only [go_sem,a09,a2X,a1R,a0Y,a1Z,b02,hlI,hge,sp0,sp1,c3L,c3T,c3R,hk'];refine⟨by omega,b51 (l:=st) rfl  avR   rlR  (by decide) (by omega) (by omega) fun v' nx' hnx=>?_⟩;simp only [go_sem,a09,a2X,a1R,a0Y,a1Z,b02,sp0,sp1,c3L,c3T,c3R,b00,b7e]
      have hst2:ofI l N (i+1)=(hs',(oa,ob,a3V st k ts),ca+b6y (k,ts),cb+b67 (k,ts)):=by
       rw [hst];unfold a3G;rw [if_pos hk]
      refine⟨⟨by omega,by omega,by omega⟩,by omega,⟨(i+1,vh,v',nx'),by omega⟩,?_⟩;dsimp only;rw [hst2];exact⟨⟨nLR _,⟨⟨rfl,rfl⟩,rfl,rfl,by omega⟩,a0c.box fun j hj=>a0k.of_eq (match j,hj with|0,_=>rfl|1,_=>rfl|2,_=>rfl),rlR,rlR⟩,by omega⟩
    ·obtain rfl:i=l.length:=by omega
     have hlI:((l.length:Int)<(l.length:Nat))=False:=eq_false (by omega);refine awN hΓ rfl ?_;simp only [go_sem,a09,a2X,a1R,a0Y,hlI];refine⟨(vh,nx),a1k.trans (a1k.freeze 2 vs 86 2 (ofI l N l.length).2.1.2.2.length (fun i=>(eP eI (eL eS)).enc ((ofI l N l.length).2.1.2.2.getD i (0,[]))) rfl fun i _ j hj=>match j,hj with|0,_=>rfl|1,_=>rfl) (a17 ?_)⟩;simp only [go_sem,a09,a2X,a1R,a0Y,c3L,c3T,c3R];exact⟨a0c.box fun j hj=>a0k.of_eq (match j,hj with|0,_=>rfl|1,_=>rfl|2,_=>by show fz 2 vs _ 2 _ (.ow 2 vs _)=_;simp only [fz,and_self,if_true,nLR];rfl),a0c.sl rfl fun i hi j hj=>match j,hj with|0,_=>avR|1,_=>avR|2,_=>avR⟩
  ·rintro⟨vh,nx⟩;obtain⟨g1,g2,_⟩:=c0f hs N l.length (nLR _);simp only [go_sem,a09,a2X,a1R,a0Y,a3x];refine b4i rfl  avR   rlR  (by decide) (by omega) (by omega) fun v' nx' hnx=>?_
   simp only [go_sem,a09,a2X,a1R,a0Y,a3x];exact avR
 ·rw [if_neg hc]
  have hbad:(!a0L (-1) l||decide (n<0)||decide (100<n))=true:=by
   cases hR:a0L (-1) l with
   | false=>rfl
   | true=>
     have:n<0\/100<n:=by
      rcases Int.lt_or_le n 0 with g|g
      ·exact .inl g
      ·rcases Int.lt_or_le 100 n with g2|g2
       ·exact .inr g2
       ·exact absurd ⟨hR,g,g2⟩ hc
     simpa using this
  refine awN hΓ rfl ?_;simp only [go_sem,a09,a2X,a1R,a0Y,a1Z,a3x,hbad];have g1:(!a0L (-1) l)=false->(!!a0L (-1) l)=true:=fun h=>by rw [h];rfl
  exact⟨⟨hl,hs⟩,g1,fun h=>by rw [h];rfl,a30 _⟩
end
section
open Go
attribute [local irreducible] AW a0k a1k a0c
def c40 (l:List Hk):List (List UInt8):=l.flatMap fun h=>a0T 1 h.2.2
def d47 (l:List Hk) (s:List UInt8):List UInt8×Int×Int:=if a2z l 0 0=true then c65 (a0a s) l 0 [] 0 else ([],11,-1)
end
section
open Go
def b3z (k:Int) (l:List StE):Int:=match l.getLast? with
 | some s=>s.1
 | none=>k
theorem c6J (k:Int) (s:StE):∀ l:List StE,b3z k (s::l)=b3z s.1 l
 | []=>rfl
 | t::l=>by
   unfold b3z;rw [List.getLast?_cons_cons];cases h:(t::l).getLast? with
   | none=>simp at h
   | some x=>rfl
theorem a9N (k:Int) (l:List StE) (s:StE):b3z k (l++[s])=s.1:=by
 unfold b3z;rw [List.getLast?_append,List.getLast?_singleton,Option.some_or]
theorem a5P:∀ {l:List StE} {k:Int} {s:StE},a0L k (l++[s])=true↔a0L k l=true/\((s.1=0\/s.1=1\/s.1=2)/\s.2.length≠0)/\(b3z k l≠s.1/\¬(b3z k l=2/\s.1=1))
 | [],k,s=>by
   rw [List.nil_append,a0z];constructor
   ·rintro⟨h1,h2,_⟩;exact⟨rfl,h1,h2⟩
   ·rintro⟨_,h1,h2⟩;exact⟨h1,h2,rfl⟩
 | t::l,k,s=>by
   rw [List.cons_append,a0z,a0z,a5P,c6J];constructor
   ·rintro⟨h1,h2,h3,h4,h5⟩;exact⟨⟨h1,h2,h3⟩,h4,h5⟩
   ·rintro⟨⟨h1,h2,h3⟩,h4,h5⟩;exact⟨h1,h2,h3,h4,h5⟩
theorem a6v {s:List StE} {k:Int} {ts:List (List UInt8)} (h:a0L (-1) s=true) (hk:k=0\/k=1\/k=2) (hf:b3z (-1) s=k\/(b3z (-1) s≠k/\¬(b3z (-1) s=2/\k=1))) :
  a0L (-1) (a3H s k ts)=true/\b3z (-1) (a3H s k ts)=if ts.length=0 then b3z (-1) s else k:=by
 by_cases h0:ts.length=0
 ·obtain rfl:=List.length_eq_zero_iff.1 h0;rw [b2c];exact⟨h,by simp⟩
 ·rw [if_neg h0];rcases s.eq_nil_or_concat with rfl|⟨m,x,rfl⟩
  ·rw [a2n h0];exact⟨a0z.2 ⟨⟨hk,h0⟩,⟨by omega,by omega⟩,rfl⟩,rfl⟩
  ·rw [List.concat_eq_append] at h hf ⊢;rw [a9N] at hf;by_cases hx:x.1=k
   ·rw [a4t h0 hx,a9N];obtain⟨g1,g2,g3⟩:=a5P.1 h;refine⟨a5P.2 ⟨g1,⟨hk,?_⟩,by rw [<-hx];exact g3⟩,rfl⟩;dsimp only;rw [lAp];omega
   ·rw [a5E h0 hx,a9N];refine⟨a5P.2 ⟨h,⟨hk,h0⟩,?_⟩,rfl⟩;rw [a9N];rcases hf with hf|hf
    ·exact absurd hf hx
    ·exact hf
theorem a91 {a b:List (List UInt8)}:∀ (l:List (Int×Int)) (i k:Nat) (s:List StE),i<=a.length->rgt (b1a a b) (b1g a b) ((i:Int)-1) ((k:Int)-1) l=true->a0L (-1) s=true->(b3z (-1) s=-1\/b3z (-1) s=0)->a0L (-1) (ofG a b l i k s)=true
 | [],i,k,s,_,_,h,hl=>by
   rw [ofG];obtain⟨h1,e1⟩:=a6v (ts:=a.drop i) h (.inr (.inl rfl)) (.inr ⟨by omega,by omega⟩);refine (a6v h1 (.inr (.inr rfl)) (.inr ?_)).1;rw [e1];split<;>omega
 | p::l,i,k,s,hi,hr,h,hl=>by
   rw [rgt] at hr;simp only [Bool.and_eq_true,decide_eq_true_eq] at hr;obtain⟨⟨c1,c2,c3,c4,_⟩,hr⟩:=hr;rw [a8t] at c3;rw [ofG];obtain⟨h1,e1⟩:=a6v (ts:=a1G a i p.1.toNat) h (.inr (.inl rfl)) (.inr ⟨by omega,by omega⟩)
   have f1:b3z (-1) (a3H s 1 (a1G a i p.1.toNat))=-1\/b3z (-1) (a3H s 1 (a1G a i p.1.toNat))=0\/b3z (-1) (a3H s 1 (a1G a i p.1.toNat))=1:=by
    rw [e1];split<;>omega
   obtain⟨h2,e2⟩:=a6v (ts:=a1G b k p.2.toNat) h1 (.inr (.inr rfl)) (.inr ⟨by omega,by omega⟩)
   obtain⟨h3,e3⟩:=a6v (ts:=a1G a p.1.toNat (p.1.toNat+1)) h2 (.inl rfl) (by
    rcases Int.decEq (b3z (-1) (a3H (a3H s 1 (a1G a i p.1.toNat)) 2 (a1G b k p.2.toNat))) 0 with g|g
    ·exact .inr ⟨g,by omega⟩
    ·exact .inl g)
   refine a91 l _ _ _ (by omega) ?_ h3 (.inr ?_)
   ·have t1:((p.1.toNat+1:Nat):Int)-1=p.1:=by omega
    have t2:((p.2.toNat+1:Nat):Int)-1=p.2:=by omega
    rw [t1,t2];exact hr
   ·rw [e3,if_neg];rw [a2w a (by omega)];omega
end
section
open Go
def wtT (f:List UInt8->Nat) (ts:List (List UInt8)):Nat:=(ts.map f).sum
def wtL (f:List UInt8->Nat) (l:List StE):Nat:=(l.map fun s=>wtT f s.2).sum
def wtH (f:List UInt8->Nat) (l:List Hk):Nat:=(l.map fun h=>wtL f h.2.2).sum
section
variable (f:List UInt8->Nat)
theorem a8P (a b:List (List UInt8)):wtT f (a++b)=wtT f a+wtT f b:=by simp [wtT]
theorem c1a (a b:List StE):wtL f (a++b)=wtL f a+wtL f b:=by simp [wtL]
theorem c9k (a b:List Hk):wtH f (a++b)=wtH f a+wtH f b:=by simp [wtH]
theorem c8G (ts:List (List UInt8)) {a b:Nat} (h:a+b<=ts.length):wtT f (ts.take a)+wtT f (ts.drop (ts.length-b))<=wtT f ts:=by
 have e:ts=ts.take a++((ts.drop a).take (ts.length-b-a)++(ts.drop a).drop (ts.length-b-a)):=by
  rw [List.take_append_drop,List.take_append_drop]
 have e2:(ts.drop a).drop (ts.length-b-a)=ts.drop (ts.length-b):=by
  rw [List.drop_drop];congr 1;omega
 rw [e2] at e;have:=congrArg (wtT f) e;rw [a8P,a8P] at this;omega
theorem b2H (l:List StE) (k:Int) (ts:List (List UInt8)):wtL f (a3V l k ts)=wtL f l+wtT f ts:=by
 by_cases h:ts.length=0
 ·obtain rfl:=List.length_eq_zero_iff.1 h;rw [a6E];rfl
 ·rw [a4x h,c1a];simp [wtL]
theorem c7i (hs:List Hk) (o:Hk):wtH f (a7a hs o)<=wtH f hs+wtL f o.2.2:=by
 unfold a7a;split
 ·rw [c9k];simp [wtH]
 ·omega
theorem c9n (n:Nat) (b t:Bool) (s:StE) (q:Os):wtH f (a3G n b t s q).1+wtL f (a3G n b t s q).2.1.2.2<=wtH f q.1+wtL f q.2.1.2.2+wtT f s.2:=by
 unfold a3G;split
 ·dsimp only;rw [b2H];omega
 ·split
  ·dsimp only;rw [b2H];omega
  ·rename_i h1 h2;dsimp only;have c1:=c7i f q.1 (q.2.1.1,q.2.1.2.1,a3V q.2.1.2.2 0 (s.2.take (bhP n b s)));dsimp only at c1;rw [b2H] at c1;rw [b2H]
   have c2:bhP n b s+ahP n t s<=s.2.length:=by
    unfold bhP ahP;cases b<;>cases t<;>simp at h2 ⊢<;>omega
   have c3:=c8G f s.2 c2;have c4:wtL f []=0:=rfl;omega
theorem c7N (L:List StE) (n:Nat):∀ i,i<=L.length->wtH f (ofI L n i).1+wtL f (ofI L n i).2.1.2.2<=wtL f (L.take i)
 | 0,_=>by simp [ofI,wtH,wtL]
 | i+1,h=>by
   have ih:=c7N L n i (by omega);have st:=c9n f n (decide (i=0)) (decide (i+1=L.length)) (L.getD i (0,[])) (ofI L n i);rw [ofI,a1T L (0,[]) (by omega),c1a];have e:wtL f [L.getD i (0,[])]=wtT f (L.getD i (0,[])).2:=by simp [wtL]
   omega
theorem c2U (L:List StE) (n:Nat):wtH f (ofP L n)<=wtL f L:=by
 have h:=c7N f L n L.length (nLR _);rw [List.take_length] at h;have c:=c7i f (ofI L n L.length).1 (ofI L n L.length).2.1;unfold ofP;omega
theorem b3b (L:List StE):wtL f L<=wtT f (a0T 2 L)+wtT f (a0T 1 L):=by
 induction L with
 | nil=>exact nZL _
 | cons s L ih=>
   rw [a1U,a1U,a8P,a8P];have e:wtL f (s::L)=wtT f s.2+wtL f L:=by simp [wtL]
   rw [e];have z:wtT f []=0:=rfl;by_cases h2:s.1=2
   ·rw [if_pos h2,if_neg (by omega)];omega
   ·rw [if_neg h2];omega
theorem a9v {n:Nat}:∀ {l:List Nat},n∈l->n<=l.sum
 | m::l,h=>by
   rw [List.sum_cons];rcases List.mem_cons.1 h with rfl|h
   ·omega
   ·have:=a9v h;omega
theorem c9L {ts:List (List UInt8)} {t:List UInt8} (h:t∈ts):f t<=wtT f ts:=by
 unfold wtT;exact a9v (List.mem_map_of_mem h)
theorem b5E {l:List StE} {s:StE} (h:s∈l):wtT f s.2<=wtL f l:=by
 unfold wtL;exact a9v (List.mem_map_of_mem (f:=fun s:StE=>wtT f s.2) h)
theorem c3i {l:List Hk} {s:Hk} (h:s∈l):wtL f s.2.2<=wtH f l:=by
 unfold wtH;exact a9v (List.mem_map_of_mem (f:=fun s:Hk=>wtL f s.2.2) h)
theorem c0A (j:Int) (l:List StE):wtT f (a0T j l)<=wtL f l:=by
 induction l with
 | nil=>exact nZL _
 | cons s l ih=>
   rw [a1U,a8P];have e:wtL f (s::l)=wtT f s.2+wtL f l:=by simp [wtL]
   have z:wtT f []=0:=rfl;rw [e];split<;>omega
theorem c7J (l:List Hk):wtT f (c40 l)<=wtH f l:=by
 induction l with
 | nil=>exact nZL _
 | cons h l ih=>
   have e:c40 (h::l)=a0T 1 h.2.2++c40 l:=rfl;have e2:wtH f (h::l)=wtL f h.2.2+wtH f l:=by simp [wtH]
   have:=c0A f 1 h.2.2;rw [e,e2,a8P];omega
end
theorem b1Y (ts:List (List UInt8)):wtT (fun _=>1) ts=ts.length:=by
 induction ts with
 | nil=>rfl
 | cons t ts ih=>unfold wtT at ih ⊢;rw [List.map_cons,List.sum_cons,ih,lCo];omega
theorem b22 (ts:List (List UInt8)):wtT List.length ts=ts.flatten.length:=by
 induction ts with
 | nil=>rfl
 | cons t ts ih=>unfold wtT at ih ⊢;rw [List.map_cons,List.sum_cons,ih,List.flatten_cons,lAp]
theorem c0e (c:Nat) (ts:List (List UInt8)):wtT (fun t=>t.length+c) ts=ts.flatten.length+c*ts.length:=by
 induction ts with
 | nil=>rfl
 | cons t ts ih=>unfold wtT at ih ⊢;rw [List.map_cons,List.sum_cons,ih,List.flatten_cons,lAp,lCo,Nat.mul_add];omega
theorem c2V {l:List StE} (h:∀ s∈l,s.2.length≠0):l.length<=wtL (fun _=>1) l:=by
 induction l with
 | nil=>exact nZL _
 | cons s l ih=>
   have e:wtL (fun _=>1) (s::l)=wtT (fun _=>1) s.2+wtL (fun _=>1) l:=by simp [wtL]
   have h1:=h s (List.mem_cons_self ..);have h2:=ih fun x hx=>h x (List.mem_cons_of_mem _ hx)
   rw [b1Y] at e;rw [e,lCo];omega
theorem b4y:∀ {l:List Hk} {n s:Int},a2z l n s=true->∀ h∈l,b1i h.2.2=true
 | [],_,_,_,h,hm=>by cases hm
 | g::r,n,s,hr,h,hm=>by
   rw [a2z,Bool.and_eq_true] at hr;rcases List.mem_cons.1 hm with rfl|hm
   ·have:=hr.1;unfold b5v at this;simp only [Bool.and_eq_true] at this;exact this.1.2.1
   ·exact b4y hr.2 h hm
theorem c9m {l:List Hk} (h:∀ x∈l,1<=wtL (fun _=>1) x.2.2):l.length<=wtH (fun _=>1) l:=by
 induction l with
 | nil=>exact nZL _
 | cons s l ih=>
   have e:wtH (fun _=>1) (s::l)=wtL (fun _=>1) s.2.2+wtH (fun _=>1) l:=by simp [wtH]
   have h1:=h s (List.mem_cons_self ..);have h2:=ih fun x hx=>h x (List.mem_cons_of_mem _ hx)
   rw [e,lCo];omega
theorem c8s (k:Int) (t:List UInt8):(a7r k t).length<=t.length+12:=by
 unfold a7r;split
 ·simp
 ·simp [b1y]
theorem c4L (k:Int) (ts:List (List UInt8)):(a2s k ts).length<=wtT (fun t=>t.length+12) ts:=by
 induction ts with
 | nil=>exact nZL _
 | cons t ts ih=>
   have:=c8s k t;unfold a2s at ih ⊢;unfold wtT at ih ⊢;rw [List.map_cons,List.flatten_cons,lAp,List.map_cons,List.sum_cons];omega
theorem c6G (l:List StE):(a2I l).length<=wtL (fun t=>t.length+12) l:=by
 induction l with
 | nil=>exact nZL _
 | cons s l ih=>
   have:=c4L s.1 s.2;have e:wtL (fun t=>t.length+12) (s::l)=wtT (fun t=>t.length+12) s.2+wtL (fun t=>t.length+12) l:=by simp [wtL]
   have e2:a2I (s::l)=a2s s.1 s.2++a2I l:=rfl;rw [e,e2,lAp];omega
theorem b7S {L:List StE} {x y:List (List UInt8)} (hr:a0L (-1) L=true) (hx:a0T 2 L=x) (hy:a0T 1 L=y) (wx:a1e x=true) (wy:a1e y=true) (hc:x.length+y.length<10000) (hb:x.flatten.length+y.flatten.length<=1000000) (n:Nat) :
  (L.length<10000/\∀ s∈L,s.2.length<=10000)/\d4y (ofP L n)/\((c40 (ofP L n)).length<=50000000/\(c40 (ofP L n)).flatten.length<=10000000000)/\(∀ h∈ofP L n,(0<=h.1/\h.1<=1000000)/\0<=h.2.1/\h.2.1<=100000000)/\(a6N (ofP L n)).length<=5000000/\∀ h∈ofP L n,d7I h:=by
 obtain⟨hR,_,hB⟩:=b5a hr hx hy wx wy (by omega) n;have s1:=b3b (fun _=>1) L;have s2:=b3b List.length L;have s3:=b3b (fun t=>t.length+12) L;rw [hx,hy,b1Y,b1Y] at s1;rw [hx,hy,b22,b22] at s2;rw [hx,hy,c0e,c0e] at s3;have o1:=c2U (fun _=>1) L n;have o2:=c2U List.length L n;have o3:=c2U (fun t=>t.length+12) L n
 have st1:∀ h∈ofP L n,d7M h.2.2:=fun h hh=>by
  have r:=a78 hR h hh;have m1:=c3i (fun _=>1) hh;have m2:=c3i List.length hh;refine⟨⟨?_,fun s hs=>?_⟩,fun s hs t ht=>?_,fun j=>?_⟩
  ·have:=c2V (b18 r);omega
  ·have:=b5E (fun _=>1) hs;rw [b1Y] at this;omega
  ·have a1:=b5E List.length hs;have a2:=c9L List.length ht;omega
  ·have:=c0A List.length j h.2.2;rw [b22] at this;omega
 have hlen:(ofP L n).length<=wtH (fun _=>1) (ofP L n):=c9m fun h hh=>by
  have r:=a78 hR h hh;have c:=b4y hR h hh;have:=c2V (b18 r);have:h.2.2≠[]:=fun e=>by rw [e] at c;cases c
  have:=List.length_pos_iff.2 this;omega
 refine⟨⟨?_,fun s hs=>?_⟩,⟨by omega,st1⟩,⟨?_,?_⟩,fun h hh=>?_,?_,fun h hh=>?_⟩
 ·have:=c2V (b18 hr);omega
 ·have:=b5E (fun _=>1) hs;rw [b1Y] at this;omega
 ·have:=c7J (fun _=>1) (ofP L n);rw [b1Y] at this;omega
 ·have:=c7J List.length (ofP L n);rw [b22] at this;omega
 ·obtain⟨b1,b2,b3⟩:=hB h hh;obtain⟨g1,g2,_⟩:=a9F hR h hh;omega
 ·have key:∀ l:List Hk,(∀ h∈l,h∈ofP L n)->(a6N l).length<=80*l.length+wtH (fun t=>t.length+12) l:=by
   intro l
   induction l with
   | nil=>exact fun _=>nZL _
   | cons h l ih=>
     intro hm;have hh:=hm h (List.mem_cons_self ..);have ih:=ih fun x hx=>hm x (List.mem_cons_of_mem _ hx)
     obtain⟨b1,b2,b3⟩:=hB h hh;obtain⟨g1,g2,_⟩:=a9F hR h hh;obtain⟨⟨k1,k2⟩,_⟩:=st1 h hh;have c0:=Nat.le_trans (a3f k2 0) (Nat.mul_le_mul_right _ (show h.2.2.length<=10000 by omega));have c1:=Nat.le_trans (a3f k2 1) (Nat.mul_le_mul_right _ (show h.2.2.length<=10000 by omega));have c2:=Nat.le_trans (a3f k2 2) (Nat.mul_le_mul_right _ (show h.2.2.length<=10000 by omega));have l1:=a7F (a:=h.1) (n:=(a0I 0 h.2.2:Int)+a0I 1 h.2.2) b1 (by omega) (by omega) (by omega);have l2:=a7F (a:=h.2.1) (n:=(a0I 0 h.2.2:Int)+a0I 2 h.2.2) b2 (by omega) (by omega) (by omega);have e:a6N (h::l)=a63 h++a2I h.2.2++a6N l:=rfl;have e2:wtH (fun t=>t.length+12) (h::l)=wtL (fun t=>t.length+12) h.2.2+wtH (fun t=>t.length+12) l:=by simp [wtH]
     have e3:=c6G h.2.2
     have e4:(a63 h).length<=80:=by
      unfold a63;simp only [lAp,d6a,d7v,d7F,lCo,List.length_nil];omega
     rw [e,e2,lAp,lAp,lCo];omega
  have:=key (ofP L n) fun _ h=>h
  omega
 ·obtain⟨b1,b2,b3⟩:=hB h hh;obtain⟨g1,g2,g3⟩:=a9F hR h hh;exact⟨⟨b1,g2,b2,by omega⟩,g1,g3⟩
end
section
open Go
inductive Rd where
 | e
 | h (l:List Hk) (A B:Int)
 | s (l:List Hk) (A B:Int) (st:List StE) (k:Int) (ts:List (List UInt8)) (t:List UInt8)
def Rd.val:Rd->List Hk
 | .e=>[]
 | .h l A B=>l++[(A,B,[])]
 | .s l A B st k ts t=>l++[(A,B,st++[(k,ts++[t])])]
def Rd.len:Rd->Nat
 | .e=>0
 | .h l _ _=>l.length+1
 | .s l _ _ _ _ _ _=>l.length+1
def Rd.small (n:Nat):Rd->Prop
 | .e=>True
 | .h l _ _=>l.length<n
 | .s l _ _ st _ ts t=>l.length+st.length+ts.length<n/\t.length<=1000000000
def Rd.rows (v v1 v2:Nat):Rd->List (Nat×Row)
 | .e=>[(0,rHk v [])]
 | .h l A B=>[(0,rHx v l A B .em)]
 | .s l A B st k ts t=>[(0,rHx v l A B (.ow 1 v1 (st.length+1))),(1,rSx v1 st k (.ow 2 v2 (ts.length+1))),(2,a1a v2 9 eS (ts++[t]))]
attribute [local irreducible] AW a0k a1k a0c
def c88 (l:List Hk):Prop:=a2z l 0 0=true/\(∀ x∈l,d7I x)/\d4y l/\(∀ h∈l,(0<=h.1/\h.1<=1000000)/\0<=h.2.1/\h.2.1<=100000000)/\(a6N l).length<=50000000
def Rd.at (s:List UInt8) (ls:List (List UInt8)) (i:Nat) (x:Rd) (v v1 v2 nx:Nat):AS:=
 (Sh.mk [(0,.st s),(4,.ow 0 v x.len),(10,sL eS ls),(11,.val (.int .i64 ls.length)),(12,.val (.int .i64 i))] (x.rows v v1 v2) 43 3 nx []).st
theorem Rd.small.len {n:Nat} {x:Rd} (h:x.small n):x.val.length<=n:=by
 cases x with
 | e=>exact nZL _
 | h l A B=>
   have h:l.length<n:=h;simp [Rd.val];omega
 | s l A B st k ts t=>
   obtain⟨h,_⟩:l.length+st.length+ts.length<n/\t.length<=1000000000:=h;simp [Rd.val];omega
end
section
open Go
attribute [local irreducible] AW a0k a1k a0c
theorem d8D {a b c:BS} {o:Op} (he:a9Q o=0):b2U a b c o=c4F a b c o.2.2.1 o.2.1 o.1 o.2.2.2:=by unfold b2U;rw [if_pos he]
end
section
open Go
attribute [local irreducible] AW a0k a1k a0c
theorem b4j:a60 (a0a [97,10]) (a0a [98,10])=[]/\a60 (a0a [97,10]) (a0a [99,10])=[]:=by decide +kernel
theorem c2v:a5C (a02 [97,10] [98,10] [99,10])=[(false,(0,1),(0,1),(0,1))]:=by
 have h:=b4j;unfold a5C d3N a02;dsimp only;rw [h.1,h.2,a7Q];decide
theorem d0E:a7s [97,10] [98,10] [99,10] 0 ([],[],[]) 0=[([],[],[],true,[],[98,10],[],[99,10],false)]:=by
 unfold a7s;rw [c2v];decide +kernel
theorem c9t:b2U [97,10] [98,10] [99,10] (([],[],[]),0,7,0)=([([],[],[],true,[],[98,10],[],[99,10],false)],[],[],[(false,(0,1),(0,1),(0,1))],
  [60,60,60,60,60,60,60,10,98,10,61,61,61,61,61,61,61,10,99,10,62,62,62,62,62,62,62,10],7,1):=by
 have h:=b4j;unfold b2U;rw [if_pos (by decide)];unfold c4F;dsimp only;rw [d0E,c2v,h.1,h.2];have e1:a66 7 [97,10] [98,10] [99,10]=7:=by decide +kernel
 have e2:a1x 7 [([],[],[],true,[],[98,10],[],[99,10],false)]=[60,60,60,60,60,60,60,10,98,10,61,61,61,61,61,61,61,10,99,10,62,62,62,62,62,62,62,10]:=by decide +kernel
 have e3:b2g (a02 [97,10] [98,10] [99,10]) [(false,(0,1),(0,1),(0,1))]=1:=by decide +kernel
 rw [e1,e2,e3];rfl
def a1o:a0r:=a0r.f0 (kB.enc true)
theorem d0f:a0b Tryz.prog 28 a1o:=by
 refine a0b.f0 Tryz.func28 rfl (by decide) Tryz.results28 Tryz.ntmps28 ?_;have hΓ:GOK Tryz.prog (gam [(54,a5k),(40,a0R)]):=(.cons b1R (.cons b46 .nil));have ht:=c9t;have hw:a9Q (([],[],[]),0,7,0)=0:=by decide
 have hok:okM [97,10] [98,10] [99,10]:=by unfold okM;decide
 refine awN hΓ rfl ?_;simp only [go_sem,a5k,a0R,ht,hw];exact⟨hok,by unfold lbN;decide⟩
end
section
open Go
def a55 (x y:List (List UInt8)):List StE:=ofG x y (a3N (b1a x y) (b1g x y)) 0 0 []
structure d6I (a b:List UInt8) (n:Nat):Prop where
 len:(a55 (a0a a) (a0a b)).length<10000
 each:∀ s∈a55 (a0a a) (a0a b),s.2.length<=10000
 right:a0L (-1) (a55 (a0a a) (a0a b))=true
 blen:(a2J (a55 (a0a a) (a0a b))).length<10000
 beach:∀ s∈a2J (a55 (a0a a) (a0a b)),s.2.length<=10000
 bright:a0L (-1) (a2J (a55 (a0a a) (a0a b)))=true
 good:c88 (ofP (a55 (a0a a) (a0a b)) n)
 bgood:c88 (ofP (a2J (a55 (a0a a) (a0a b))) n)
 new:(c40 (ofP (a55 (a0a a) (a0a b)) n)).length<=50000000/\(c40 (ofP (a55 (a0a a) (a0a b)) n)).flatten.length<=10000000000
 bnew:(c40 (ofP (a2J (a55 (a0a a) (a0a b))) n)).length<=50000000/\(c40 (ofP (a2J (a55 (a0a a) (a0a b))) n)).flatten.length<=10000000000
 app:d47 (ofP (a55 (a0a a) (a0a b)) n) a=(b,0,-1)
 bapp:d47 (ofP (a2J (a55 (a0a a) (a0a b))) n) b=(a,0,-1)
theorem d2V {a b:List UInt8} (hl:(a0a a).length+(a0a b).length<10000) (hb:a.length+b.length<=1000000) (n:Nat):d6I a b n:=by
 have wa:=a22 _ a (nLR _);have wb:=a22 _ b (nLR _);have hg:=a5a (b1a (a0a a) (a0a b)) (b1g (a0a a) (a0a b));have h1:a0L (-1) (a55 (a0a a) (a0a b))=true:=a91 _ 0 0 [] (nZL _) hg rfl (.inl rfl);obtain⟨h2,h3,_⟩:=d27 hg;have h2:a0T 2 (a55 (a0a a) (a0a b))=a0a a:=h2;have h3:a0T 1 (a55 (a0a a) (a0a b))=a0a b:=h3;obtain⟨h4,h5,_⟩:=b5a h1 h2 h3 wa wb (by omega) n;have b1:=(c6v h1).1;obtain⟨h6,h7,_⟩:=b5a b1 ((c2f _).trans h3) ((c2s _).trans h2) wb wa (by omega) n;have fa:=a04 a;have fb:=a04 b;obtain⟨⟨s1,s2⟩,s3,s4,s5,s6,s7⟩:=b7S h1 h2 h3 wa wb hl (by rw [fa,fb];exact hb) n;obtain⟨⟨t1,t2⟩,t3,t4,t5,t6,t7⟩:=b7S b1 ((c2f _).trans h3) ((c2s _).trans h2) wb wa (by omega) (by rw [fa,fb];omega) n;refine⟨s1,s2,h1,t1,t2,b1,⟨h4,s7,s3,s5,by omega⟩,⟨h6,t7,t3,t5,by omega⟩,s4,t4,?_,?_⟩
 ·unfold d47;rw [if_pos h4,h5,fb]
 ·unfold d47;rw [if_pos h6,h7,fa]
attribute [local irreducible] AW a0k a1k a0c
end
section
open Go
attribute [local irreducible] AW a0k a1k a0c a6H
theorem a7B (s:List StE) (k:Int):a3H s k []=s:=rfl
theorem b64 (x:List BS):∀ (m k:Nat),k+m=x.length->ofG x x ((List.range' k m).map fun r:Nat=>((r:Int),(r:Int))) k k (a3H [] 0 (x.take k))=a3H [] 0 x
 | 0,k,h=>by
   have e:x.drop k=[]:=List.drop_eq_nil_of_le (by omega);have e2:x.take k=x:=List.take_of_length_le (by omega);rw [List.range'_zero,List.map_nil,ofG,e,a7B,a7B,e2]
 | m+1,k,h=>by
   have hk:k<x.length:=by omega
   rw [List.range'_succ,List.map_cons,ofG];dsimp only;rw [Int.toNat_natCast,b3J,a7B,a7B,b6k hk]
   have e:a3H (a3H [] 0 (x.take k)) 0 [x.getD k []]=a3H [] 0 (x.take (k+1)):=by
    rw [a1T x [] hk];by_cases h0:(x.take k).length=0
    ·have:x.take k=[]:=List.length_eq_zero_iff.1 h0;rw [this];rfl
    ·rw [a2n h0,a2n (k:=0) (ts:=x.take k++[x.getD k []]) (by simp)];rfl
   rw [e];exact b64 x m (k+1) (by omega)
theorem b0I (x:List BS):a55 x x=a3H [] 0 x:=by
 have h:=b64 x x.length 0 (by omega)
 have e:a60 x x=(List.range' 0 x.length).map fun r:Nat=>((r:Int),(r:Int)):=by
  rw [c4M];unfold prs;rw [List.range_eq_range'];refine List.map_congr_left fun r _=>?_
  rw [Int.zero_add]
 unfold a55;have e2:a3N (b1a x x) (b1g x x)=a60 x x:=rfl;rw [e2,e];exact h
theorem c5o (x:List BS) (n:Nat):ofP (a3H [] 0 x) n=[]:=by
 by_cases h:x.length=0
 ·have:x=[]:=List.length_eq_zero_iff.1 h;rw [this];rfl
 ·rw [a2n h];unfold ofP;have e:ofI [((0:Int),x)] n [((0:Int),x)].length=a3G n true true (0,x) ([],(0,0,[]),0,0):=rfl;rw [e];unfold a3G;rw [if_neg (by simp),if_neg (by simp)];simp [bhP,ahP,a7a,a3V,b1i]
structure b8Y (a b:BS) (n:Nat):Prop where
 len:(a55 (a0a a) (a0a b)).length<10000
 each:∀ s∈a55 (a0a a) (a0a b),s.2.length<=10000
 right:a0L (-1) (a55 (a0a a) (a0a b))=true
 good:c88 (ofP (a55 (a0a a) (a0a b)) n)
theorem c27 {a b:BS} (h:a.length+b.length<=9500) (n:Nat):b8Y a b n:=by
 have h1:=a0K a;have h2:=a0K b;have hs:=d2V (a:=a) (b:=b) (by omega) (by omega) n;exact⟨hs.len,hs.each,hs.right,hs.good⟩
theorem c36 {a:BS} (h:a.length<=9500) (n:Nat):b8Y a a n:=by
 have h1:=a0K a;have hg:=a5a (b1a (a0a a) (a0a a)) (b1g (a0a a) (a0a a));have hr:a0L (-1) (a55 (a0a a) (a0a a))=true:=a91 _ 0 0 [] (nZL _) hg rfl (.inl rfl);refine⟨?_,?_,hr,?_⟩
 ·rw [b0I];exact Nat.lt_of_le_of_lt (a6P [] 0 _) (by decide)
 ·rw [b0I];intro s hs;by_cases h0:(a0a a).length=0
  ·rw [List.length_eq_zero_iff.1 h0] at hs;cases hs
  ·rw [a2n h0,List.mem_singleton] at hs;rw [hs];show (a0a a).length<=_;omega
 ·rw [b0I,c5o];exact⟨rfl,fun x hx=>absurd hx (by simp),⟨by simp,fun x hx=>absurd hx (by simp)⟩,fun x hx=>absurd hx (by simp),nZL _⟩
noncomputable def b2f (a b:BS) (n:Nat):BS:=a3Y (ofP (a55 (a0a a) (a0a b)) n)
theorem b0N {a b:BS} {n:Nat} (h:b8Y a b n):(b2f a b n).length<=50000000:=by
 obtain⟨p1,p2,p3,p4,p5⟩:=h.good;unfold b2f a3Y;rw [if_pos p1];exact p5
noncomputable def a2E (line:List UInt8) (a:Ss):List UInt8:=if (wdL line).length=3/\0<=a4n ((wdL line).getD 1 [])/\0<=b1N ((wdL line).getD 2 [])/\b1N ((wdL line).getD 2 [])<=100 then a4j (b2f a.1.1 (txt a (a4n ((wdL line).getD 1 []))) (b1N ((wdL line).getD 2 [])).toNat) else a00
noncomputable def c0O (xs:List AV) (a:Ss) (r:AV) (b:Ss):Prop:=∃ line:List UInt8,xs=[sL eS (wdL line).tail]/\line.length<=1000/\a.1.1.length+a.1.2.1.length+a.1.2.2.length<=9400/\r=.st (a2E line a)/\b=a
noncomputable def c2C:a0O:=sSh c0O
theorem c5E:a0g Tryz.prog 64 c2C:=by
 refine a0g.mk Tryz.func64 rfl (by decide) Tryz.results64 Tryz.ntmps64 ?_;rintro args hp top nx K ⟨v,v1,v2,v3,v4,xs,a,r,b,rfl,⟨line,rfl,hl,hs,rfl,rfl⟩,rfl,rfl,hK⟩;have hΓ:GOK Tryz.prog (gam [(112,a0h),(114,a0f),(26,a0w),(27,a0v),(30,a01),(29,a36),(10,a4c),(32,a0H),(120,a0m)]):=(.cons b5D (.cons a77 (.cons b2z (.cons b2O (.cons c1r (.cons d6G (.cons d6y (.cons c5s (.cons b2D .nil)))))))));refine⟨Nat.le_of_ble_eq_true rfl,AW.late ?_⟩;have hg:=b6b line 2;have hk:=a0Z hK rfl;by_cases h2:(wdL line).length=3
 ·have hI:((wdL line).tail.length:Int)=2:=by rw [List.length_tail];omega
  refine awL hΓ [200007,200009] rfl ?_;simp only [go_sem,a0h,a0f,a0w,a0v,a01,a36,a4c,a0H,a0m,hI,a1r];generalize hw:(wdL line).getD 1 []=w1 at *
  generalize hw2:(wdL line).getD 2 []=w2 at *
  refine b5P (by exact (by decide:0<5))  rlR  fun nx1 hn1=>?_
  cases hn:a6H w2 with
  | none=>
    have e:a2E line b=a00:=by unfold a2E;rw [if_neg fun h=>by rw [hw2,b4L hn] at h;exact absurd h.2.2.1 (by decide)]
    rw [e] at hk;rcases c1V w1 with⟨f1,f2⟩|⟨f1,f2⟩|⟨f1,f2⟩|⟨f1,f2⟩
    ·rw [f1,f2];simp only [go_sem,a0h,a0f,a0w,a0v,a01,a36,a4c,a0H,a0m,a4A,a1r,hw2,hn,nuO];refine⟨by omega,by omega,?_⟩;refine⟨_,a0e (fun p=>p) (l:=[(4,.st (a00))]) (r:=[(0,.box v 106 10 (shC 1 2 3 4 v1 v2 v3 v4 b)),(1,a0l v1 b.1.1),(2,a0l v2 b.1.2.1),(3,a0l v3 b.1.2.2),(4,mgR v4 b.2.2)]) (sz:=77) (top:=5) (nx:=nx1) (df:=[]) ?_,?_⟩
     ·simp only [go_sem,a0h,a0f,a0w,a0v,a01,a36,a4c,a0H,a0m];exact⟨rlR,rlR,rlR,rlR,rlR⟩
     ·simp only [go_sem,a0h,a0f,a0w,a0v,a01,a36,a4c,a0H,a0m];exact hk v1 v2 v3 nx1 (.inl rfl) (.inl rfl) (.inl rfl) hn1
    ·rw [f1,f2];simp only [go_sem,a0h,a0f,a0w,a0v,a01,a36,a4c,a0H,a0m,a4A,a1r,hw2,hn,nuO];refine⟨by omega,by omega,?_⟩;refine⟨_,a0e (fun p=>p) (l:=[(4,.st (a00))]) (r:=[(0,.box v 106 10 (shC 1 2 3 4 v1 v2 v3 v4 b)),(1,a0l v1 b.1.1),(2,a0l v2 b.1.2.1),(3,a0l v3 b.1.2.2),(4,mgR v4 b.2.2)]) (sz:=77) (top:=5) (nx:=nx1) (df:=[]) ?_,?_⟩
     ·simp only [go_sem,a0h,a0f,a0w,a0v,a01,a36,a4c,a0H,a0m];exact⟨rlR,rlR,rlR,rlR,rlR⟩
     ·simp only [go_sem,a0h,a0f,a0w,a0v,a01,a36,a4c,a0H,a0m];exact hk v1 v2 v3 nx1 (.inl rfl) (.inl rfl) (.inl rfl) hn1
    ·rw [f1,f2];simp only [go_sem,a0h,a0f,a0w,a0v,a01,a36,a4c,a0H,a0m,a4A,a1r,hw2,hn,nuO];refine⟨by omega,by omega,?_⟩;refine⟨_,a0e (fun p=>p) (l:=[(4,.st (a00))]) (r:=[(0,.box v 106 10 (shC 1 2 3 4 v1 v2 v3 v4 b)),(1,a0l v1 b.1.1),(2,a0l v2 b.1.2.1),(3,a0l v3 b.1.2.2),(4,mgR v4 b.2.2)]) (sz:=77) (top:=5) (nx:=nx1) (df:=[]) ?_,?_⟩
     ·simp only [go_sem,a0h,a0f,a0w,a0v,a01,a36,a4c,a0H,a0m];exact⟨rlR,rlR,rlR,rlR,rlR⟩
     ·simp only [go_sem,a0h,a0f,a0w,a0v,a01,a36,a4c,a0H,a0m];exact hk v1 v2 v3 nx1 (.inl rfl) (.inl rfl) (.inl rfl) hn1
    ·rw [f1,f2];simp only [go_sem,a0h,a0f,a0w,a0v,a01,a36,a4c,a0H,a0m,a4A,a1r,hw2,hn,nuO];refine⟨by omega,by omega,?_⟩;refine⟨_,a0e (fun p=>p) (l:=[(4,.st (a00))]) (r:=[(0,.box v 106 10 (shC 1 2 3 4 v1 v2 v3 v4 b)),(1,a0l v1 b.1.1),(2,a0l v2 b.1.2.1),(3,a0l v3 b.1.2.2),(4,mgR v4 b.2.2)]) (sz:=77) (top:=5) (nx:=nx1) (df:=[]) ?_,?_⟩
     ·simp only [go_sem,a0h,a0f,a0w,a0v,a01,a36,a4c,a0H,a0m];exact⟨rlR,rlR,rlR,rlR,rlR⟩
     ·simp only [go_sem,a0h,a0f,a0w,a0v,a01,a36,a4c,a0H,a0m];exact hk v1 v2 v3 nx1 (.inl rfl) (.inl rfl) (.inl rfl) hn1
  | some n=>
    by_cases hle:n<=100
    ·have hI2:((100:Int)<(n:Int))=False:=eq_false (by omega);have hr:b1N w2=n:=a3w hn;rcases c1V w1 with⟨f1,f2⟩|⟨f1,f2⟩|⟨f1,f2⟩|⟨f1,f2⟩
     ·have e:a2E line b=a00:=by unfold a2E;rw [if_neg fun h=>by rw [hw,f1] at h;exact absurd h.2.1 (by decide)]
      rw [e] at hk;rw [f1,f2];simp only [go_sem,a0h,a0f,a0w,a0v,a01,a36,a4c,a0H,a0m,a4A,a1r,hw2,hn,nuO,hI2];refine⟨by omega,by omega,?_⟩;refine⟨_,a0e (fun p=>p) (l:=[(4,.st (a00))]) (r:=[(0,.box v 106 10 (shC 1 2 3 4 v1 v2 v3 v4 b)),(1,a0l v1 b.1.1),(2,a0l v2 b.1.2.1),(3,a0l v3 b.1.2.2),(4,mgR v4 b.2.2)]) (sz:=77) (top:=5) (nx:=nx1) (df:=[]) ?_,?_⟩
      ·simp only [go_sem,a0h,a0f,a0w,a0v,a01,a36,a4c,a0H,a0m];exact⟨rlR,rlR,rlR,rlR,rlR⟩
      ·simp only [go_sem,a0h,a0f,a0w,a0v,a01,a36,a4c,a0H,a0m];exact hk v1 v2 v3 nx1 (.inl rfl) (.inl rfl) (.inl rfl) hn1
     ·have hd:b8Y b.1.1 b.1.1 n:=c36 (by omega) n
      have e:a2E line b=a4j (b2f b.1.1 b.1.1 n):=by
       unfold a2E;rw [hw,hw2,f1,hr,if_pos ⟨h2,by decide,by omega,by omega⟩];rfl
      rw [e] at hk;have hdl:=b0N hd;obtain⟨p1,p2,p3,p4,p5⟩:=hd.good;have q1:=hd.len;have q2:=hd.each;have q3:=hd.right;have la:=a0K b.1.1;have lb:=a0K b.1.1;have n0:((a2G [] [a0a b.1.1,a0a b.1.1]).getD 0 []).length=(a0a b.1.1).length:=by simp [a2G,a3C]
      have n1:((a2G [] [a0a b.1.1,a0a b.1.1]).getD 1 []).length=(a0a b.1.1).length:=by simp [a2G,a3C]
      have n3:(a2G [] [a0a b.1.1,a0a b.1.1]).length=2:=by rw [a34];rfl
      have hr2:rgt (b1a (a0a b.1.1) (a0a b.1.1)) (b1g (a0a b.1.1) (a0a b.1.1)) (-1) (-1) (a3N ((a2G [] [a0a b.1.1,a0a b.1.1]).getD 0 []) ((a2G [] [a0a b.1.1,a0a b.1.1]).getD 1 []))=true:=a5a _ _;have e0:ofG (a0a b.1.1) (a0a b.1.1) (a3N ((a2G [] [a0a b.1.1,a0a b.1.1]).getD 0 []) ((a2G [] [a0a b.1.1,a0a b.1.1]).getD 1 [])) 0 0 []=a55 (a0a b.1.1) (a0a b.1.1):=rfl;rw [f1,f2];simp only [go_sem,a0h,a0f,a0w,a0v,a01,a36,a4c,a0H,a0m,a1r,hw2,hn,nuO,hI2];refine⟨by omega,by omega,?_⟩;refine AW.drawK hΓ mixed 14 [] [] [] [0,1,1] (by decide +kernel) ?_;simp only [go_sem,a0h,a0f,a0w,a0v,a01,a36,a4c,a0H,a0m,a0l,a3J,a5v];refine⟨by omega,by omega,by omega,?_⟩;refine AW.drawZ hΓ mixed 15 [] [] [] (by kernel_rfl) ?_;have hI3:(0<=(n:Int))=True:=eq_true (by omega);have hI4:((n:Int)<=100)=True:=eq_true (by omega);have hm:=a3n ((a2G [] [a0a b.1.1,a0a b.1.1]).getD 0 []) ((a2G [] [a0a b.1.1,a0a b.1.1]).getD 1 []);have c1:=a5U ((a2G [] [a0a b.1.1,a0a b.1.1]).getD 0 []) ((a2G [] [a0a b.1.1,a0a b.1.1]).getD 1 []);have c3:=hm.2
      have e3:a3a (a3Y (ofP (a55 (a0a b.1.1) (a0a b.1.1)) n)) 0=a4j (b2f b.1.1 b.1.1 n):=by
       unfold a3a;rw [if_pos rfl];rfl
      have hdl:(a3Y (ofP (a55 (a0a b.1.1) (a0a b.1.1)) n)).length<=50000000:=hdl;rw [<-e3] at hk;simp only [go_sem,a0h,a0f,a0w,a0v,a01,a36,a4c,a0H,a0m,n3,hr2,e0,q3,hI3,hI4];refine⟨⟨by omega,by omega⟩,⟨by omega,by omega,by omega⟩,⟨q1,q2⟩,⟨p3,p4,by omega⟩,by omega,?_⟩;refine⟨_,a0e (fun p=>p) (l:=[(4,.st (a3a (a3Y (ofP (a55 (a0a b.1.1) (a0a b.1.1)) n)) 0))]) (r:=[(0,.box v 106 10 (shC 1 2 3 4 v1 v2 v3 v4 b)),(1,a0l v1 b.1.1),(2,a0l v2 b.1.2.1),(3,a0l v3 b.1.2.2),(4,mgR v4 b.2.2)]) (sz:=77) (top:=5) (nx:=nx1) (df:=[]) ?_,?_⟩
      ·simp only [go_sem,a0h,a0f,a0w,a0v,a01,a36,a4c,a0H,a0m];exact⟨rlR,rlR,rlR,rlR,rlR⟩
      ·simp only [go_sem,a0h,a0f,a0w,a0v,a01,a36,a4c,a0H,a0m];exact hk v1 v2 v3 nx1 (.inl rfl) (.inl rfl) (.inl rfl) hn1
     ·have hd:b8Y b.1.1 b.1.2.1 n:=c27 (by omega) n
      have e:a2E line b=a4j (b2f b.1.1 b.1.2.1 n):=by
       unfold a2E;rw [hw,hw2,f1,hr,if_pos ⟨h2,by decide,by omega,by omega⟩];rfl
      rw [e] at hk;have hdl:=b0N hd;obtain⟨p1,p2,p3,p4,p5⟩:=hd.good;have q1:=hd.len;have q2:=hd.each;have q3:=hd.right;have la:=a0K b.1.1;have lb:=a0K b.1.2.1;have n0:((a2G [] [a0a b.1.1,a0a b.1.2.1]).getD 0 []).length=(a0a b.1.1).length:=by simp [a2G,a3C]
      have n1:((a2G [] [a0a b.1.1,a0a b.1.2.1]).getD 1 []).length=(a0a b.1.2.1).length:=by simp [a2G,a3C]
      have n3:(a2G [] [a0a b.1.1,a0a b.1.2.1]).length=2:=by rw [a34];rfl
      have hr2:rgt (b1a (a0a b.1.1) (a0a b.1.2.1)) (b1g (a0a b.1.1) (a0a b.1.2.1)) (-1) (-1) (a3N ((a2G [] [a0a b.1.1,a0a b.1.2.1]).getD 0 []) ((a2G [] [a0a b.1.1,a0a b.1.2.1]).getD 1 []))=true:=a5a _ _;have e0:ofG (a0a b.1.1) (a0a b.1.2.1) (a3N ((a2G [] [a0a b.1.1,a0a b.1.2.1]).getD 0 []) ((a2G [] [a0a b.1.1,a0a b.1.2.1]).getD 1 [])) 0 0 []=a55 (a0a b.1.1) (a0a b.1.2.1):=rfl;rw [f1,f2];simp only [go_sem,a0h,a0f,a0w,a0v,a01,a36,a4c,a0H,a0m,a1r,hw2,hn,nuO,hI2];refine⟨by omega,by omega,?_⟩;refine AW.drawK hΓ mixed 14 [] [] [] [0,1,2] (by decide +kernel) ?_;simp only [go_sem,a0h,a0f,a0w,a0v,a01,a36,a4c,a0H,a0m,a0l,a3J,a5v];refine⟨by omega,by omega,⟨by omega,by omega⟩,?_⟩;refine AW.drawZ hΓ mixed 15 [] [] [] (by kernel_rfl) ?_;have hI3:(0<=(n:Int))=True:=eq_true (by omega);have hI4:((n:Int)<=100)=True:=eq_true (by omega);have hm:=a3n ((a2G [] [a0a b.1.1,a0a b.1.2.1]).getD 0 []) ((a2G [] [a0a b.1.1,a0a b.1.2.1]).getD 1 []);have c1:=a5U ((a2G [] [a0a b.1.1,a0a b.1.2.1]).getD 0 []) ((a2G [] [a0a b.1.1,a0a b.1.2.1]).getD 1 []);have c3:=hm.2
      have e3:a3a (a3Y (ofP (a55 (a0a b.1.1) (a0a b.1.2.1)) n)) 0=a4j (b2f b.1.1 b.1.2.1 n):=by
       unfold a3a;rw [if_pos rfl];rfl
      have hdl:(a3Y (ofP (a55 (a0a b.1.1) (a0a b.1.2.1)) n)).length<=50000000:=hdl;rw [<-e3] at hk;simp only [go_sem,a0h,a0f,a0w,a0v,a01,a36,a4c,a0H,a0m,n3,hr2,e0,q3,hI3,hI4];refine⟨⟨by omega,by omega⟩,⟨by omega,by omega,by omega⟩,⟨q1,q2⟩,⟨p3,p4,by omega⟩,by omega,?_⟩;refine⟨_,a0e (fun p=>p) (l:=[(4,.st (a3a (a3Y (ofP (a55 (a0a b.1.1) (a0a b.1.2.1)) n)) 0))]) (r:=[(0,.box v 106 10 (shC 1 2 3 4 v1 v2 v3 v4 b)),(1,a0l v1 b.1.1),(2,a0l v2 b.1.2.1),(3,a0l v3 b.1.2.2),(4,mgR v4 b.2.2)]) (sz:=77) (top:=5) (nx:=nx1) (df:=[]) ?_,?_⟩
      ·simp only [go_sem,a0h,a0f,a0w,a0v,a01,a36,a4c,a0H,a0m];exact⟨rlR,rlR,rlR,rlR,rlR⟩
      ·simp only [go_sem,a0h,a0f,a0w,a0v,a01,a36,a4c,a0H,a0m];exact hk v1 v2 v3 nx1 (.inl rfl) (.inl rfl) (.inl rfl) hn1
     ·have hd:b8Y b.1.1 b.1.2.2 n:=c27 (by omega) n
      have e:a2E line b=a4j (b2f b.1.1 b.1.2.2 n):=by
       unfold a2E;rw [hw,hw2,f1,hr,if_pos ⟨h2,by decide,by omega,by omega⟩];rfl
      rw [e] at hk;have hdl:=b0N hd;obtain⟨p1,p2,p3,p4,p5⟩:=hd.good;have q1:=hd.len;have q2:=hd.each;have q3:=hd.right;have la:=a0K b.1.1;have lb:=a0K b.1.2.2;have n0:((a2G [] [a0a b.1.1,a0a b.1.2.2]).getD 0 []).length=(a0a b.1.1).length:=by simp [a2G,a3C]
      have n1:((a2G [] [a0a b.1.1,a0a b.1.2.2]).getD 1 []).length=(a0a b.1.2.2).length:=by simp [a2G,a3C]
      have n3:(a2G [] [a0a b.1.1,a0a b.1.2.2]).length=2:=by rw [a34];rfl
      have hr2:rgt (b1a (a0a b.1.1) (a0a b.1.2.2)) (b1g (a0a b.1.1) (a0a b.1.2.2)) (-1) (-1) (a3N ((a2G [] [a0a b.1.1,a0a b.1.2.2]).getD 0 []) ((a2G [] [a0a b.1.1,a0a b.1.2.2]).getD 1 []))=true:=a5a _ _;have e0:ofG (a0a b.1.1) (a0a b.1.2.2) (a3N ((a2G [] [a0a b.1.1,a0a b.1.2.2]).getD 0 []) ((a2G [] [a0a b.1.1,a0a b.1.2.2]).getD 1 [])) 0 0 []=a55 (a0a b.1.1) (a0a b.1.2.2):=rfl;rw [f1,f2];simp only [go_sem,a0h,a0f,a0w,a0v,a01,a36,a4c,a0H,a0m,a1r,hw2,hn,nuO,hI2];refine⟨by omega,by omega,?_⟩;refine AW.drawK hΓ mixed 14 [] [] [] [0,1,3] (by decide +kernel) ?_;simp only [go_sem,a0h,a0f,a0w,a0v,a01,a36,a4c,a0H,a0m,a0l,a3J,a5v];refine⟨by omega,by omega,⟨by omega,by omega⟩,?_⟩;refine AW.drawZ hΓ mixed 15 [] [] [] (by kernel_rfl) ?_;have hI3:(0<=(n:Int))=True:=eq_true (by omega);have hI4:((n:Int)<=100)=True:=eq_true (by omega);have hm:=a3n ((a2G [] [a0a b.1.1,a0a b.1.2.2]).getD 0 []) ((a2G [] [a0a b.1.1,a0a b.1.2.2]).getD 1 []);have c1:=a5U ((a2G [] [a0a b.1.1,a0a b.1.2.2]).getD 0 []) ((a2G [] [a0a b.1.1,a0a b.1.2.2]).getD 1 []);have c3:=hm.2
      have e3:a3a (a3Y (ofP (a55 (a0a b.1.1) (a0a b.1.2.2)) n)) 0=a4j (b2f b.1.1 b.1.2.2 n):=by
       unfold a3a;rw [if_pos rfl];rfl
      have hdl:(a3Y (ofP (a55 (a0a b.1.1) (a0a b.1.2.2)) n)).length<=50000000:=hdl;rw [<-e3] at hk;simp only [go_sem,a0h,a0f,a0w,a0v,a01,a36,a4c,a0H,a0m,n3,hr2,e0,q3,hI3,hI4];refine⟨⟨by omega,by omega⟩,⟨by omega,by omega,by omega⟩,⟨q1,q2⟩,⟨p3,p4,by omega⟩,by omega,?_⟩;refine⟨_,a0e (fun p=>p) (l:=[(4,.st (a3a (a3Y (ofP (a55 (a0a b.1.1) (a0a b.1.2.2)) n)) 0))]) (r:=[(0,.box v 106 10 (shC 1 2 3 4 v1 v2 v3 v4 b)),(1,a0l v1 b.1.1),(2,a0l v2 b.1.2.1),(3,a0l v3 b.1.2.2),(4,mgR v4 b.2.2)]) (sz:=77) (top:=5) (nx:=nx1) (df:=[]) ?_,?_⟩
      ·simp only [go_sem,a0h,a0f,a0w,a0v,a01,a36,a4c,a0H,a0m];exact⟨rlR,rlR,rlR,rlR,rlR⟩
      ·simp only [go_sem,a0h,a0f,a0w,a0v,a01,a36,a4c,a0H,a0m];exact hk v1 v2 v3 nx1 (.inl rfl) (.inl rfl) (.inl rfl) hn1
    ·have hI2:((100:Int)<(n:Int))=True:=eq_true (by omega);have hr:b1N w2=n:=a3w hn;have e:a2E line b=a00:=by unfold a2E;rw [if_neg fun h=>by rw [hw2,hr] at h;exact hle (by omega)]
     rw [e] at hk;rcases c1V w1 with⟨f1,f2⟩|⟨f1,f2⟩|⟨f1,f2⟩|⟨f1,f2⟩
     ·rw [f1,f2];simp only [go_sem,a0h,a0f,a0w,a0v,a01,a36,a4c,a0H,a0m,a4A,a1r,hw2,hn,nuO,hI2];refine⟨by omega,by omega,?_⟩;refine⟨_,a0e (fun p=>p) (l:=[(4,.st (a00))]) (r:=[(0,.box v 106 10 (shC 1 2 3 4 v1 v2 v3 v4 b)),(1,a0l v1 b.1.1),(2,a0l v2 b.1.2.1),(3,a0l v3 b.1.2.2),(4,mgR v4 b.2.2)]) (sz:=77) (top:=5) (nx:=nx1) (df:=[]) ?_,?_⟩
      ·simp only [go_sem,a0h,a0f,a0w,a0v,a01,a36,a4c,a0H,a0m];exact⟨rlR,rlR,rlR,rlR,rlR⟩
      ·simp only [go_sem,a0h,a0f,a0w,a0v,a01,a36,a4c,a0H,a0m];exact hk v1 v2 v3 nx1 (.inl rfl) (.inl rfl) (.inl rfl) hn1
     ·rw [f1,f2];simp only [go_sem,a0h,a0f,a0w,a0v,a01,a36,a4c,a0H,a0m,a4A,a1r,hw2,hn,nuO,hI2];refine⟨by omega,by omega,?_⟩;refine⟨_,a0e (fun p=>p) (l:=[(4,.st (a00))]) (r:=[(0,.box v 106 10 (shC 1 2 3 4 v1 v2 v3 v4 b)),(1,a0l v1 b.1.1),(2,a0l v2 b.1.2.1),(3,a0l v3 b.1.2.2),(4,mgR v4 b.2.2)]) (sz:=77) (top:=5) (nx:=nx1) (df:=[]) ?_,?_⟩
      ·simp only [go_sem,a0h,a0f,a0w,a0v,a01,a36,a4c,a0H,a0m];exact⟨rlR,rlR,rlR,rlR,rlR⟩
      ·simp only [go_sem,a0h,a0f,a0w,a0v,a01,a36,a4c,a0H,a0m];exact hk v1 v2 v3 nx1 (.inl rfl) (.inl rfl) (.inl rfl) hn1
     ·rw [f1,f2];simp only [go_sem,a0h,a0f,a0w,a0v,a01,a36,a4c,a0H,a0m,a4A,a1r,hw2,hn,nuO,hI2];refine⟨by omega,by omega,?_⟩;refine⟨_,a0e (fun p=>p) (l:=[(4,.st (a00))]) (r:=[(0,.box v 106 10 (shC 1 2 3 4 v1 v2 v3 v4 b)),(1,a0l v1 b.1.1),(2,a0l v2 b.1.2.1),(3,a0l v3 b.1.2.2),(4,mgR v4 b.2.2)]) (sz:=77) (top:=5) (nx:=nx1) (df:=[]) ?_,?_⟩
      ·simp only [go_sem,a0h,a0f,a0w,a0v,a01,a36,a4c,a0H,a0m];exact⟨rlR,rlR,rlR,rlR,rlR⟩
      ·simp only [go_sem,a0h,a0f,a0w,a0v,a01,a36,a4c,a0H,a0m];exact hk v1 v2 v3 nx1 (.inl rfl) (.inl rfl) (.inl rfl) hn1
     ·rw [f1,f2];simp only [go_sem,a0h,a0f,a0w,a0v,a01,a36,a4c,a0H,a0m,a4A,a1r,hw2,hn,nuO,hI2];refine⟨by omega,by omega,?_⟩;refine⟨_,a0e (fun p=>p) (l:=[(4,.st (a00))]) (r:=[(0,.box v 106 10 (shC 1 2 3 4 v1 v2 v3 v4 b)),(1,a0l v1 b.1.1),(2,a0l v2 b.1.2.1),(3,a0l v3 b.1.2.2),(4,mgR v4 b.2.2)]) (sz:=77) (top:=5) (nx:=nx1) (df:=[]) ?_,?_⟩
      ·simp only [go_sem,a0h,a0f,a0w,a0v,a01,a36,a4c,a0H,a0m];exact⟨rlR,rlR,rlR,rlR,rlR⟩
      ·simp only [go_sem,a0h,a0f,a0w,a0v,a01,a36,a4c,a0H,a0m];exact hk v1 v2 v3 nx1 (.inl rfl) (.inl rfl) (.inl rfl) hn1
 ·have hI:(((wdL line).tail.length:Int)=2)=False:=eq_false (by rw [List.length_tail];have:=List.length_pos_iff.2 (a6m line);omega);have e:a2E line b=a00:=by unfold a2E;rw [if_neg fun h=>h2 h.1]
  have hk:=a0Z hK rfl;rw [e] at hk;refine awL hΓ [200007,200009] rfl ?_;simp only [go_sem,a0h,a0f,a0w,a0v,a01,a36,a4c,a0H,a0m,hI];refine⟨_,a0e (fun p=>p) (l:=[(4,.st a00)]) (r:=[(0,.box v 106 10 (shC 1 2 3 4 v1 v2 v3 v4 b)),(1,a0l v1 b.1.1),(2,a0l v2 b.1.2.1),(3,a0l v3 b.1.2.2),(4,mgR v4 b.2.2)]) (sz:=77) (top:=5) (nx:=nx) (df:=[]) ?_,?_⟩
  ·simp only [go_sem,a0h,a0f,a0w,a0v,a01,a36,a4c,a0H,a0m];exact⟨rlR,rlR,rlR,rlR,rlR⟩
  ·simp only [go_sem,a0h,a0f,a0w,a0v,a01,a36,a4c,a0H,a0m];exact hk v1 v2 v3 nx (.inl rfl) (.inl rfl) (.inl rfl) (nLR _)
noncomputable def a0p:a0O:=a1I c2C
theorem b6V:a0g Tryz.prog 64 a0p:=c5E.frame
end
section
open Go
attribute [local irreducible] AW a0k a1k a0c a6H
def ss0:Ss:=(([],[],[]),(([],[],[]),0,7,0),none)
def b5e (hp:Nat->Row) (top nx:Nat):Nat->Row:=a0X (a0X (a0X (a0X hp (top+1) (a0l (nx+1) [])) (top+2) (a0l (nx+2) [])) (top+3) (a0l (nx+3) [])) top (.box nx 106 10 (shC (top+1) (top+2) (top+3) (top+4) (nx+1) (nx+2) (nx+3) 0 ss0))
theorem c5l (hp:Nat->Row) (top nx:Nat) (B0 B1 B2 B3:Row) (hB:a0c B3 (.box nx 106 10 (shC (top+1) (top+2) (top+3) (top+4) (nx+1) (nx+2) (nx+3) 0 ss0))) (p:Nat) :
  b5e hp top nx p=.dead\/a0c (a0X (a0X (a0X (a0X (a0X (a0X (a0X hp top B0) (top+1) (a0l (nx+1) [])) top B1) (top+2) (a0l (nx+2) [])) top B2) (top+3) (a0l (nx+3) [])) top B3 p) (b5e hp top nx p):=by
 refine .inr ?_;unfold b5e;by_cases h0:p=top
 ·subst h0;rw [a0i,a0i];exact hB
 ·rw [a0d _ _ h0,a0d _ _ h0];by_cases h3:p=top+3
  ·subst h3;rw [a0i,a0i];exact rlR
  ·rw [a0d _ _ h3,a0d _ _ h3,a0d _ _ h0];by_cases h2:p=top+2
   ·subst h2;rw [a0i,a0i];exact rlR
   ·rw [a0d _ _ h2,a0d _ _ h2,a0d _ _ h0];by_cases h1:p=top+1
    ·subst h1;rw [a0i,a0i];exact rlR
    ·rw [a0d _ _ h1,a0d _ _ h1,a0d _ _ h0];exact rlR
def a15:a0O:=fun args hp top nx K=>args=[]/\K (.pt top nx 0) (b5e hp top nx) (top+5) (nx+4)
theorem d1Z:a0g Tryz.prog 18 a15:=by
 refine a0g.mk Tryz.func18 rfl (by decide) Tryz.results18 Tryz.ntmps18 ?_;rintro args hp top nx K ⟨rfl,hK⟩;have hΓ:GOK Tryz.prog (gam [(54,a5k)]):=(.cons b1R .nil);refine⟨Nat.le_of_ble_eq_true rfl,AW.know fun hd=>AW.late ?_⟩;refine awN hΓ rfl ?_;simp only [go_sem,a5k];refine⟨⟨frm [(0,.pt top nx 0)],b5e hp top nx,4,top+5,nx+4,[]⟩,(a1k.adoptB (q:=top) 0 5 1 (a2p []) (a0i ..) rfl).trans ((a1k.adoptB (q:=top) 1 5 1 (a2p []) (a0i ..) rfl).trans ((a1k.adoptB (q:=top) 2 5 1 (a2p []) (a0i ..) rfl).trans (a1k.mk rfl rfl (fun t=>?_) (fun p=>?_) (fun p hp'=>?_) ?_))),?_⟩
 ·by_cases h:t=0
  ·subst h;exact avR
  ·have:frm [(0,.pt top nx 0)] t=.any:=by
    show (if t=0 then _ else _)=_;rw [if_neg h];rfl
   show a0k _ (frm [(0,.pt top nx 0)] t);rw [this];exact a0k.any _
 ·exact c5l hp top nx _ _ _ _ (a0c.box fun j hj=>by
   have hc:j=0\/j=1\/j=2\/j=3\/j=4\/j=5\/j=6\/j=7\/j=8\/j=9:=by omega
   rcases hc with rfl|rfl|rfl|rfl|rfl|rfl|rfl|rfl|rfl|rfl<;>exact avR) p
 ·have h':top+5<=p:=hp';show b5e hp top nx p=.dead;unfold b5e;rw [a0d _ _ (by omega),a0d _ _ (by omega),a0d _ _ (by omega),a0d _ _ (by omega)];exact hd p (by exact (by omega:top<=p))
 ·exact nLR _
 ·simp only [go_sem,a5k];exact hK
end
end Go.Proofs.YthpjjjnbkfnghaaGreatDoor
