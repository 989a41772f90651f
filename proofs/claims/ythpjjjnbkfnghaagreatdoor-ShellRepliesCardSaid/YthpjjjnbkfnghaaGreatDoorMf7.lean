/-
  Part 7 of what the proof rests on: values that are told, code that is walked, what comes out.
-/
import Derived.Test.YthpjjjnbkfnghaaGreatDoorMf6
import Derived.LaidLaws
import Derived.LaidHandle
import Derived.Handed
import Derived.HandedShaped
import Derived.Lib.LaidTab
import Derived.Lay
import Derived.MakeChecks
set_option maxRecDepth 100000
set_option maxHeartbeats 8000000
set_option linter.all false
namespace Go.Proofs.YthpjjjnbkfnghaaGreatDoor
section
attribute [local irreducible] AW a0h a0H a0c
def c7i (h:Hk) (q v:Nat):Nat->AV:=fun j=>if j=0 then .val (.int .i64 h.1) else if j=1 then .val (.int .i64 h.2.1) else .ow q v h.2.2.length
theorem c2q (h:Hk) (q v:Nat):c7i h q v 0=.val (.int .i64 h.1):=rfl
theorem c2y (h:Hk) (q v:Nat):c7i h q v 1=.val (.int .i64 h.2.1):=rfl
theorem c2r (h:Hk) (q v:Nat):c7i h q v 2=.ow q v h.2.2.length:=rfl
theorem b1k (l:List StE) (k:Int) (ts:List (List UInt8)):(a2V l k ts).length<=l.length+1:=by
 unfold a2V;split
 ·omega
 ·simp
theorem b79 {L:List StE} (hL:∀ s∈L,s.2.length<=10000) (n:Nat):∀ i,i<=L.length->(ofI L n i).1.length<=i/\(ofI L n i).2.1.2.2.length<=i/\(0<=(ofI L n i).2.2.1/\(ofI L n i).2.2.1<=i*10000)/\0<=(ofI L n i).2.2.2/\(ofI L n i).2.2.2<=i*10000
 | 0,_=>by simp [ofI]
 | i+1,h=>by
   obtain⟨h1,h2,h3,h4⟩:=b79 hL n i (by omega)
   have hm:L.getD i (0,[])∈L:=by
    simp only [List.getD,List.getElem?_eq_getElem (show i<L.length by omega),Option.getD_some];exact List.getElem_mem _
   have hs:=hL _ hm;rw [ofI];generalize L.getD i (0,[])=s at *
   generalize ofI L n i=o at *
   generalize decide (i=0)=f;generalize decide (i+1=L.length)=t;obtain⟨hs',⟨oa,ob,st⟩,ca,cb⟩:=o;obtain⟨k,ts⟩:=s;dsimp only at h1 h2 h3 h4 hs;have a1:=b1k st k ts;have a2:=b1k st 0 ts;have a3:=b1k [] 0 (ts.drop (ts.length-ahP n t (k,ts)));have a4:(a5z hs' (oa,ob,a2V st 0 (ts.take (bhP n f (k,ts))))).length<=i+1:=by rw [d0r];split<;>omega
   unfold a2F;dsimp only;have p1:0<=b5D (k,ts)/\b5D (k,ts)<=10000:=by unfold b5D;dsimp only;split<;>omega
   have p2:0<=b4Y (k,ts)/\b4Y (k,ts)<=10000:=by unfold b4Y;dsimp only;split<;>omega
   split
   ·dsimp only;exact⟨by omega,by omega,by omega,by omega⟩
   ·split
    ·dsimp only;exact⟨by omega,by omega,by omega,by omega⟩
    ·dsimp only;simp only [List.length_nil] at a3;exact⟨a4,by omega,by omega,by omega⟩
theorem d0x {ts:List (List UInt8)} {B:Nat} (h:B<=ts.length):a0h (.sn (B-0) 1 fun i=>eS.enc (ts.getD i [])) (sL eS (ts.take B)):=by
 refine c5U rfl (by rw [List.length_take];omega) fun i hi j hj=>?_
 rw [show (ts.take B).getD i eS.dflt=ts.getD i [] by simp only [List.getD,List.getElem?_take];rw [if_pos (by omega)];rfl];exact avR
theorem c86 {ts:List (List UInt8)} {A:Nat} (h:A<=ts.length):a0h (.sn (ts.length-(ts.length-A)) 1 fun i=>eS.enc (ts.getD (ts.length-A+i) [])) (sL eS (ts.drop (ts.length-A))):=by
 refine c5U rfl (by rw [List.length_drop]) fun i hi j hj=>?_
 rw [show (ts.drop (ts.length-A)).getD i eS.dflt=ts.getD (ts.length-A+i) [] by simp only [List.getD,List.getElem?_drop];rfl];exact avR
@[go_sem] def d86:a0j:=a0j.f2 (kL (eP eI (eL eS))) kI (fun l _=>l.length<10000/\∀ s∈l,s.2.length<=10000) (fun l n=>sL (eP eI (eP eI (eL (eP eI (eL eS))))) (if a0r (-1) l=true/\0<=n/\n<=100 then ofP l n.toNat else []))
theorem d1D:a0b Tryz.prog 10 d86:=by
 refine a0b.f2 Tryz.func10 rfl (by decide) Tryz.results10 Tryz.ntmps10 (by decide) fun l n ⟨hl,hs⟩=>?_
 have hΓ:GOK Tryz.prog (gam [(42,b8m),(43,c3c),(44,c6Y),(45,b47)]):=(.cons b6D (.cons d3c (.cons c8T (.cons c14 .nil))));by_cases hc:a0r (-1) l=true/\0<=n/\n<=100
 ·obtain⟨hc1,hc2,hc3⟩:=hc;rw [if_pos ⟨hc1,hc2,hc3⟩];have b1:decide (n<0)=false:=decide_eq_false (by omega);have b2:decide (100<n)=false:=decide_eq_false (by omega);obtain⟨N,rfl⟩:=Int.eq_ofNat_of_zero_le hc2;rw [Int.toNat_natCast];refine awL hΓ [6] rfl ?_;simp only [go_sem,a1f,a2y,hc1,b1,b2];refine⟨⟨hl,hs⟩,?_⟩;refine AW.adopt 5 84 3 (fun i=>(eP eI (eP eI (eL (eP eI (eL eS))))).enc (([]:List Hk).getD i (0,0,[]))) rfl ?_;refine AW.adoptB (q:=0) 2 86 2 (fun i=>(eP eI (eL eS)).enc (([]:List StE).getD i (0,[]))) rfl rfl ?_;refine AW.to (fun x:Nat×Nat=>Sh.st ⟨[(5,.ow 1 x.1 (ofI l N l.length).1.length),(6,.pt 0 0 0)],[(0,.box 0 84 3 ((eP eI (eP eI (eL (eP eI (eL eS))))).enc (ofI l N l.length).2.1)),(1,rHk x.1 (ofI l N l.length).1)],124,2,x.2,[]⟩) ?_ ?_
  ·refine AW.block (AW.round (α:={ x:Nat×Nat×Nat×Nat // x.1<=l.length }) (fun x=>⟨[(0,sL (eP eI (eL eS)) l),(1,.val (.int .i64 N)),(5,.ow 1 x.1.2.1 (ofI l N x.1.1).1.length),(6,.pt 0 0 0),(7,.val (.int .i64 (ofI l N x.1.1).2.2.1)),(8,.val (.int .i64 (ofI l N x.1.1).2.2.2)),(27,sL (eP eI (eL eS)) l),(28,.val (.int .i64 l.length)),(29,.val (.int .i64 x.1.1))],
    [(0,.box 0 84 3 (c7i (ofI l N x.1.1).2.1 2 x.1.2.2.1)),(1,rHk x.1.2.1 (ofI l N x.1.1).1),(2,rSt x.1.2.2.1 (ofI l N x.1.1).2.1.2.2)],124,3,x.1.2.2.2,[]⟩) (fun x=>l.length-x.1.1) ⟨(0,1,2,3),nZL _⟩ ?_ ?_)
   ·simp only [go_sem,a2y];exact⟨⟨rfl,rfl,rfl⟩,a0c.box fun j hj=>a0h.of_eq (match j,hj with|0,_=>rfl|1,_=>rfl|2,_=>rfl),rlR,rlR⟩
   ·rintro⟨⟨i,vh,vs,nx⟩,hi⟩;simp only at hi;rcases Nat.lt_or_ge i l.length with hlt|hge
    ·have hlI:((i:Int)<(l.length:Nat))=True:=eq_true (by omega);obtain⟨g1,g2,g3,g4⟩:=b79 hs N i hi
     have hm:l.getD i (0,[])∈l:=by
      simp only [List.getD,List.getElem?_eq_getElem hlt,Option.getD_some];exact List.getElem_mem _
     have hg:=hs _ hm;have hst:ofI l N (i+1)=a2F N (decide (i=0)) (decide (i+1=l.length)) (l.getD i (0,[])) (ofI l N i):=rfl;generalize hge:l.getD i (0,[])=g at *
     generalize hoe:ofI l N i=o at *
     obtain⟨k,ts⟩:=g;obtain⟨hs',⟨oa,ob,st⟩,ca,cb⟩:=o;dsimp only at g1 g2 g3 g4 hg ⊢;by_cases hk:k=0
     ·subst hk;have e2:decide ((i:Int)=(l.length:Int)-1)=decide (i+1=l.length):=by rw [decide_eq_decide];omega
      have e1:decide ((i:Int)=0)=decide (i=0):=by rw [decide_eq_decide];omega
      generalize hfe:decide (i=0)=f at *
      generalize hte:decide (i+1=l.length)=t at *
      by_cases hin:f=false/\t=false/\ts.length<=2*N
      ·obtain⟨rfl,rfl,hle⟩:=hin;have hle':((ts.length:Int)<=2*(N:Int))=True:=eq_true (by omega);refine awN hΓ rfl ?_;simp only [go_sem,a1f,a9r,hlI,hge,sp0,sp1,c2q,c2y,c2r,e1,e2,hle',a8H,b4P];refine⟨by omega,⟨by omega,by omega⟩,⟨by omega,by omega,by omega⟩,⟨by omega,by omega⟩,b3F (l:=st) rfl  avR   rlR  (by decide) (by omega) (by omega) fun v' nx' hnx=>?_⟩;simp only [go_sem,a1f,a9r,sp0,sp1,c2q,c2y,c2r,a8H,b4P]
       have hst2:ofI l N (i+1)=(hs',(oa,ob,a2V st 0 ts),ca+ts.length,cb+ts.length):=by
        rw [hst];unfold a2F;rw [if_neg (by simp),if_pos ⟨rfl,rfl,hle⟩]
       have pA:b5D (0,ts)=ts.length:=by unfold b5D;rw [if_neg (show ¬(0:Int)=2 by decide)]
       have pB:b4Y (0,ts)=ts.length:=by unfold b4Y;rw [if_neg (show ¬(0:Int)=1 by decide)]
       refine⟨by omega,⟨(i+1,vh,v',nx'),by omega⟩,?_⟩;dsimp only;rw [hst2,pA,pB];exact⟨⟨nLR _,⟨⟨rfl,rfl⟩,rfl,rfl,by omega⟩,a0c.box fun j hj=>a0h.of_eq (match j,hj with|0,_=>rfl|1,_=>rfl|2,_=>rfl),rlR,rlR⟩,by omega⟩
      ·have hmin:min (ts.length:Int) (N:Int)=((min ts.length N:Nat):Int):=by omega
       have pA:b5D (0,ts)=ts.length:=by unfold b5D;rw [if_neg (show ¬(0:Int)=2 by decide)]
       have pB:b4Y (0,ts)=ts.length:=by unfold b4Y;rw [if_neg (show ¬(0:Int)=1 by decide)]
       have hcond:(!f&&!t&&decide ((ts.length:Int)<=2*(N:Int)))=false:=by
        cases f<;>cases t<;>simp;simp at hin;omega
       refine awL hΓ [200021] rfl ?_;simp only [go_sem,hlI];refine AW.fork (AW.block ?_);refine awL hΓ [200021] rfl ?_;simp only [go_sem,a1f,a9r,hlI,hge,sp0,sp1,c2q,c2y,c2r,e1,e2,hmin,hcond,a8H,b4P];refine⟨by omega,⟨by omega,by omega⟩,⟨by omega,by omega,by omega⟩,fun _=>by omega,?_⟩;rw [pA,pB];refine AW.seqTo (fun _:Unit=>Sh.st ⟨[(0,sL (eP eI (eL eS)) l),(1,.val (.int .i64 N)),(5,.ow 1 vh hs'.length),(6,.pt 0 0 0),(7,.val (.int .i64 (ca+ts.length))),(8,.val (.int .i64 (cb+ts.length))),(10,.pt 3 nx 0),(12,.val (.bool t)),(13,.val (.int .i64 ts.length)),(14,.val (.int .i64 (bhP N f (0,ts):Nat))),(15,.val (.int .i64 (min ts.length N:Nat))),(27,sL (eP eI (eL eS)) l),(28,.val (.int .i64 l.length)),(29,.val (.int .i64 i))],[(0,.box 0 84 3 (c7i (oa,ob,st) 2 vs)),(1,rHk vh hs'),(2,rSt vs st),(3,.box nx 86 2 ((eP eI (eL eS)).enc (0,ts)))],124,4,nx+1,[]⟩) ?_ fun _=>?_
       ·cases f with
        | true=>
          refine awN hΓ rfl ?_;simp only [go_sem];refine⟨(),a0t ?_⟩;simp only [go_sem];exact⟨by simp [bhP],rlR,rlR,rlR,a0c.box fun j hj=>a0h.of_eq (match j,hj with|0,_=>rfl|1,_=>rfl)⟩
        | false=>
          refine awN hΓ rfl ?_;simp only [go_sem];refine⟨(),a0t ?_⟩;simp only [go_sem];exact⟨by simp [bhP],rlR,rlR,rlR,a0c.box fun j hj=>a0h.of_eq (match j,hj with|0,_=>rfl|1,_=>rfl)⟩
       refine AW.seqTo (fun _:Unit=>Sh.st ⟨[(0,sL (eP eI (eL eS)) l),(1,.val (.int .i64 N)),(5,.ow 1 vh hs'.length),(6,.pt 0 0 0),(7,.val (.int .i64 (ca+ts.length))),(8,.val (.int .i64 (cb+ts.length))),(10,.pt 3 nx 0),(12,.val (.bool t)),(13,.val (.int .i64 ts.length)),(14,.val (.int .i64 (bhP N f (0,ts):Nat))),(15,.val (.int .i64 (ahP N t (0,ts):Nat))),(27,sL (eP eI (eL eS)) l),(28,.val (.int .i64 l.length)),(29,.val (.int .i64 i))],[(0,.box 0 84 3 (c7i (oa,ob,st) 2 vs)),(1,rHk vh hs'),(2,rSt vs st),(3,.box nx 86 2 ((eP eI (eL eS)).enc (0,ts)))],124,4,nx+1,[]⟩) ?_ fun _=>?_
       ·cases t with
        | true=>
          refine awN hΓ rfl ?_;simp only [go_sem];refine⟨(),a0t ?_⟩;simp only [go_sem];exact⟨by simp [ahP],rlR,rlR,rlR,rlR⟩
        | false=>
          refine awN hΓ rfl ?_;simp only [go_sem];refine⟨(),a0t ?_⟩;simp only [go_sem];exact⟨by simp [ahP],rlR,rlR,rlR,rlR⟩
       refine AW.fork (AW.drawZ hΓ mixed 6 [7] [7] [] (by decide +kernel) ?_);simp only [go_sem,a1f,a9r,sp0,sp1,c2q,c2y,c2r];have hbh:bhP N f (0,ts)<=ts.length:=by unfold bhP;split<;>(try dsimp only)<;>omega
       have hah:ahP N t (0,ts)<=ts.length:=by unfold ahP;split<;>(try dsimp only)<;>omega
       have hst2:ofI l N (i+1)=(a5z hs' (oa,ob,a2V st 0 (ts.take (bhP N f (0,ts)))),(ca+ts.length-ahP N t (0,ts),cb+ts.length-ahP N t (0,ts),a2V [] 0 (ts.drop (ts.length-ahP N t (0,ts)))),ca+ts.length,cb+ts.length):=by
        rw [hst];unfold a2F;rw [if_neg (by simp),if_neg hin]
       generalize bhP N f (0,ts)=B at *
       generalize ahP N t (0,ts)=A at *
       refine⟨⟨by omega,by omega⟩,b3F (l:=st) (ts:=ts.take B) rfl (d0x hbh)  rlR  (by decide) (by omega) (by rw [List.length_take];omega) fun v' nx' hnx=>?_⟩;simp only [go_sem,a1f,a9r,sp0,sp1,c2q,c2y,c2r];refine AW.freeze 2 v' 86 2 (a2V st 0 (ts.take B)).length (fun i=>(eP eI (eL eS)).enc ((a2V st 0 (ts.take B)).getD i (0,[]))) rfl (fun i _ j hj=>match j,hj with|0,_=>rfl|1,_=>rfl) ?_;refine awL hΓ [22,23] rfl ?_;simp only [go_sem,a1f,a9r,a2y,b3r,sp0,sp1,c2q,c2y,c2r];have hal:=b1k st 0 (ts.take B);refine b2N (l:=hs') (h:=(oa,ob,a2V st 0 (ts.take B))) rfl (a0h.ag fun j hj=>a0h.of_eq (match j,hj with|0,_=>rfl|1,_=>rfl|2,_=>by show fz 2 v' _ 2 _ (.ow 2 v' _)=_;simp only [fz,and_self,if_true,nLR];rfl)) (a0c.sl rfl fun i hi j hj=>match j,hj with|0,_=>avR|1,_=>avR|2,_=>avR) (by decide) (by omega) (by dsimp only;omega) fun v2 nx2 hnx2=>?_
       simp only [go_sem,a1f,a9r,a2y,b3r,sp0,sp1,c2q,c2y,c2r];refine AW.cut ⟨[(0,sL (eP eI (eL eS)) l),(1,.val (.int .i64 N)),(5,.ow 1 v2 (a5z hs' (oa,ob,a2V st 0 (ts.take B))).length),(6,.pt 0 0 0),(7,.val (.int .i64 (ca+ts.length))),(8,.val (.int .i64 (cb+ts.length))),(10,.pt 3 nx 0),(13,.val (.int .i64 ts.length)),(15,.val (.int .i64 A)),(27,sL (eP eI (eL eS)) l),(28,.val (.int .i64 l.length)),(29,.val (.int .i64 i))],[(0,.box 0 84 3 ((eP eI (eP eI (eL (eP eI (eL eS))))).enc (oa,ob,a2V st 0 (ts.take B)))),(1,rHk v2 (a5z hs' (oa,ob,a2V st 0 (ts.take B)))),(3,.box nx 86 2 ((eP eI (eL eS)).enc (0,ts)))],124,4,nx2,[]⟩ ?_ ?_
       ·simp only [go_sem,a2y,a1f];exact⟨a0c.box fun j hj=>a0h.of_eq (match j,hj with|0,_=>rfl|1,_=>rfl|2,_=>by show fz 2 v' _ 2 _ (.ow 2 v' _)=_;simp only [fz,and_self,if_true,nLR];rfl),rlR,a0c.box fun j hj=>a0h.of_eq (match j,hj with|0,_=>rfl|1,_=>rfl)⟩
       have hsub:((ts.length:Int)-(A:Int)).toNat=ts.length-A:=by omega
       refine awL hΓ [23] rfl ?_;simp only [go_sem,a1f,a9r,a2y,b3r,sp0,sp1,hsub];refine⟨⟨by omega,by omega⟩,⟨by omega,by omega⟩,⟨by omega,by omega⟩,⟨by omega,by omega,by omega⟩,c84 (ts:=ts.drop (ts.length-A)) (c86 hah) (by rw [List.length_drop];omega) fun v3 nx3 h3 h4=>?_⟩;simp only [go_sem,a1f,a9r,a2y,b3r,sp0,sp1];refine AW.cutV (fun p=>if p=2 then 4 else p) ⟨[(0,sL (eP eI (eL eS)) l),(1,.val (.int .i64 N)),(5,.ow 1 v2 (a5z hs' (oa,ob,a2V st 0 (ts.take B))).length),(6,.pt 0 0 0),(7,.val (.int .i64 (ca+ts.length))),(8,.val (.int .i64 (cb+ts.length))),(27,sL (eP eI (eL eS)) l),(28,.val (.int .i64 l.length)),(29,.val (.int .i64 i))],[(0,.box 0 84 3 (c7i (ca+ts.length-A,cb+ts.length-A,a2V [] 0 (ts.drop (ts.length-A))) 2 v3)),(1,rHk v2 (a5z hs' (oa,ob,a2V st 0 (ts.take B)))),(2,rSt v3 (a2V [] 0 (ts.drop (ts.length-A))))],124,3,nx3,[]⟩ ?_ ?_
       ·simp only [go_sem,a2y,a1f];exact⟨a0c.box fun j hj=>match j,hj with|0,_=>avR|1,_=>avR|2,_=>a0h.ow,rlR,rlR⟩
       refine awN hΓ rfl ?_;simp only [go_sem];refine⟨by omega,⟨(i+1,v2,v3,nx3),by omega⟩,?_⟩;dsimp only;rw [hst2];exact⟨⟨nLR _,⟨⟨rfl,rfl⟩,rfl,rfl,by omega⟩,rlR,rlR,rlR⟩,by omega⟩
     ·have hk':(k=0)=False:=eq_false hk;refine awN hΓ rfl ?_;simp only [go_sem,a1f,a9r,hlI,hge,sp0,sp1,c2q,c2y,c2r,hk'];refine⟨by omega,b3F (l:=st) rfl  avR   rlR  (by decide) (by omega) (by omega) fun v' nx' hnx=>?_⟩;simp only [go_sem,a1f,a9r,sp0,sp1,c2q,c2y,c2r,a8H,b4P]
      have hst2:ofI l N (i+1)=(hs',(oa,ob,a2V st k ts),ca+b5D (k,ts),cb+b4Y (k,ts)):=by
       rw [hst];unfold a2F;rw [if_pos hk]
      refine⟨⟨by omega,by omega,by omega⟩,by omega,⟨(i+1,vh,v',nx'),by omega⟩,?_⟩;dsimp only;rw [hst2];exact⟨⟨nLR _,⟨⟨rfl,rfl⟩,rfl,rfl,by omega⟩,a0c.box fun j hj=>a0h.of_eq (match j,hj with|0,_=>rfl|1,_=>rfl|2,_=>rfl),rlR,rlR⟩,by omega⟩
    ·obtain rfl:i=l.length:=by omega
     have hlI:((l.length:Int)<(l.length:Nat))=False:=eq_false (by omega);refine awN hΓ rfl ?_;simp only [go_sem,hlI];refine⟨(vh,nx),a0H.trans (a0H.freeze 2 vs 86 2 (ofI l N l.length).2.1.2.2.length (fun i=>(eP eI (eL eS)).enc ((ofI l N l.length).2.1.2.2.getD i (0,[]))) rfl fun i _ j hj=>match j,hj with|0,_=>rfl|1,_=>rfl) (a0t ?_)⟩;simp only [go_sem,c2q,c2y,c2r];exact⟨a0c.box fun j hj=>a0h.of_eq (match j,hj with|0,_=>rfl|1,_=>rfl|2,_=>by show fz 2 vs _ 2 _ (.ow 2 vs _)=_;simp only [fz,and_self,if_true,nLR];rfl),a0c.sl rfl fun i hi j hj=>match j,hj with|0,_=>avR|1,_=>avR|2,_=>avR⟩
  ·rintro⟨vh,nx⟩;obtain⟨g1,g2,_⟩:=b79 hs N l.length (nLR _);simp only [go_sem,a2y];refine b2N rfl  avR   rlR  (by decide) (by omega) (by omega) fun v' nx' hnx=>?_
   simp only [go_sem,a2y];exact avR
 ·rw [if_neg hc]
  have hbad:(!a0r (-1) l||decide (n<0)||decide (100<n))=true:=by
   cases hR:a0r (-1) l with
   | false=>rfl
   | true=>
     have:n<0\/100<n:=by
      rcases Int.lt_or_le n 0 with g|g
      ·exact .inl g
      ·rcases Int.lt_or_le 100 n with g2|g2
       ·exact .inr g2
       ·exact absurd ⟨hR,g,g2⟩ hc
     simpa using this
  refine awN hΓ rfl ?_;simp only [go_sem,a1f,a2y,hbad];have g1:(!a0r (-1) l)=false->(!!a0r (-1) l)=true:=fun h=>by rw [h];rfl
  exact⟨⟨hl,hs⟩,g1,fun h=>by rw [h];rfl,a2K _⟩
def c3o (l:List Hk):List (List UInt8):=l.flatMap fun h=>a0u 1 h.2.2
def d5k (l:List Hk) (s:List UInt8):List UInt8×Int×Int:=if a1F l 0 0=true then c6p (a0a s) l 0 [] 0 else ([],11,-1)
end
section
def b1Z (k:Int) (l:List StE):Int:=match l.getLast? with
 | some s=>s.1
 | none=>k
theorem c3b (k:Int) (s:StE):∀ l:List StE,b1Z k (s::l)=b1Z s.1 l
 | []=>rfl
 | t::l=>by
   unfold b1Z;rw [List.getLast?_cons_cons];cases h:(t::l).getLast? with
   | none=>simp at h
   | some x=>rfl
theorem a8d (k:Int) (l:List StE) (s:StE):b1Z k (l++[s])=s.1:=by
 unfold b1Z;rw [List.getLast?_append,List.getLast?_singleton,Option.some_or]
theorem a39:∀ {l:List StE} {k:Int} {s:StE},a0r k (l++[s])=true↔a0r k l=true/\((s.1=0\/s.1=1\/s.1=2)/\s.2.length≠0)/\(b1Z k l≠s.1/\¬(b1Z k l=2/\s.1=1))
 | [],k,s=>by
   rw [List.nil_append,a0m];constructor
   ·rintro⟨h1,h2,_⟩;exact⟨rfl,h1,h2⟩
   ·rintro⟨_,h1,h2⟩;exact⟨h1,h2,rfl⟩
 | t::l,k,s=>by
   rw [List.cons_append,a0m,a0m,a39,c3b];constructor
   ·rintro⟨h1,h2,h3,h4,h5⟩;exact⟨⟨h1,h2,h3⟩,h4,h5⟩
   ·rintro⟨⟨h1,h2,h3⟩,h4,h5⟩;exact⟨h1,h2,h3,h4,h5⟩
theorem a4V {s:List StE} {k:Int} {ts:List (List UInt8)} (h:a0r (-1) s=true) (hk:k=0\/k=1\/k=2) (hf:b1Z (-1) s=k\/(b1Z (-1) s≠k/\¬(b1Z (-1) s=2/\k=1))) :
  a0r (-1) (a2H s k ts)=true/\b1Z (-1) (a2H s k ts)=if ts.length=0 then b1Z (-1) s else k:=by
 by_cases h0:ts.length=0
 ·obtain rfl:=List.length_eq_zero_iff.1 h0;rw [b1j];exact⟨h,by simp⟩
 ·rw [if_neg h0];rcases s.eq_nil_or_concat with rfl|⟨m,x,rfl⟩
  ·rw [a1x h0];exact⟨a0m.2 ⟨⟨hk,h0⟩,⟨by omega,by omega⟩,rfl⟩,rfl⟩
  ·rw [List.concat_eq_append] at h hf ⊢;rw [a8d] at hf;by_cases hx:x.1=k
   ·rw [a3l h0 hx,a8d];obtain⟨g1,g2,g3⟩:=a39.1 h;refine⟨a39.2 ⟨g1,⟨hk,?_⟩,by rw [<-hx];exact g3⟩,rfl⟩;dsimp only;rw [lAp];omega
   ·rw [a4t h0 hx,a8d];refine⟨a39.2 ⟨h,⟨hk,h0⟩,?_⟩,rfl⟩;rw [a8d];rcases hf with hf|hf
    ·exact absurd hf hx
    ·exact hf
theorem a8A {a b:List (List UInt8)}:∀ (l:List (Int×Int)) (i k:Nat) (s:List StE),i<=a.length->rgt (a7S a b) (a8a a b) ((i:Int)-1) ((k:Int)-1) l=true->a0r (-1) s=true->(b1Z (-1) s=-1\/b1Z (-1) s=0)->a0r (-1) (ofG a b l i k s)=true
 | [],i,k,s,_,_,h,hl=>by
   rw [ofG];obtain⟨h1,e1⟩:=a4V (ts:=a.drop i) h (.inr (.inl rfl)) (.inr ⟨by omega,by omega⟩);refine (a4V h1 (.inr (.inr rfl)) (.inr ?_)).1;rw [e1];split<;>omega
 | p::l,i,k,s,hi,hr,h,hl=>by
   rw [rgt] at hr;simp only [Bool.and_eq_true,decide_eq_true_eq] at hr;obtain⟨⟨c1,c2,c3,c4,_⟩,hr⟩:=hr;rw [a6r] at c3;rw [ofG];obtain⟨h1,e1⟩:=a4V (ts:=a06 a i p.1.toNat) h (.inr (.inl rfl)) (.inr ⟨by omega,by omega⟩)
   have f1:b1Z (-1) (a2H s 1 (a06 a i p.1.toNat))=-1\/b1Z (-1) (a2H s 1 (a06 a i p.1.toNat))=0\/b1Z (-1) (a2H s 1 (a06 a i p.1.toNat))=1:=by
    rw [e1];split<;>omega
   obtain⟨h2,e2⟩:=a4V (ts:=a06 b k p.2.toNat) h1 (.inr (.inr rfl)) (.inr ⟨by omega,by omega⟩)
   obtain⟨h3,e3⟩:=a4V (ts:=a06 a p.1.toNat (p.1.toNat+1)) h2 (.inl rfl) (by
    rcases Int.decEq (b1Z (-1) (a2H (a2H s 1 (a06 a i p.1.toNat)) 2 (a06 b k p.2.toNat))) 0 with g|g
    ·exact .inr ⟨g,by omega⟩
    ·exact .inl g)
   refine a8A l _ _ _ (by omega) ?_ h3 (.inr ?_)
   ·have t1:((p.1.toNat+1:Nat):Int)-1=p.1:=by omega
    have t2:((p.2.toNat+1:Nat):Int)-1=p.2:=by omega
    rw [t1,t2];exact hr
   ·rw [e3,if_neg];rw [a1B a (by omega)];omega
end
section
def wtT (f:List UInt8->Nat) (ts:List (List UInt8)):Nat:=(ts.map f).sum
def wtL (f:List UInt8->Nat) (l:List StE):Nat:=(l.map fun s=>wtT f s.2).sum
def wtH (f:List UInt8->Nat) (l:List Hk):Nat:=(l.map fun h=>wtL f h.2.2).sum
section
variable (f:List UInt8->Nat)
theorem a7h (a b:List (List UInt8)):wtT f (a++b)=wtT f a+wtT f b:=by simp [wtT]
theorem c1E (a b:List StE):wtL f (a++b)=wtL f a+wtL f b:=by simp [wtL]
theorem c8H (a b:List Hk):wtH f (a++b)=wtH f a+wtH f b:=by simp [wtH]
theorem c8V (ts:List (List UInt8)) {a b:Nat} (h:a+b<=ts.length):wtT f (ts.take a)+wtT f (ts.drop (ts.length-b))<=wtT f ts:=by
 have e:ts=ts.take a++((ts.drop a).take (ts.length-b-a)++(ts.drop a).drop (ts.length-b-a)):=by
  rw [List.take_append_drop,List.take_append_drop]
 have e2:(ts.drop a).drop (ts.length-b-a)=ts.drop (ts.length-b):=by
  rw [List.drop_drop];congr 1;omega
 rw [e2] at e;have:=congrArg (wtT f) e;rw [a7h,a7h] at this;omega
theorem b02 (l:List StE) (k:Int) (ts:List (List UInt8)):wtL f (a2V l k ts)=wtL f l+wtT f ts:=by
 by_cases h:ts.length=0
 ·obtain rfl:=List.length_eq_zero_iff.1 h;rw [a43];rfl
 ·rw [a3m h,c1E];simp [wtL]
theorem c6u (hs:List Hk) (o:Hk):wtH f (a5z hs o)<=wtH f hs+wtL f o.2.2:=by
 unfold a5z;split
 ·rw [c8H];simp [wtH]
 ·omega
theorem d0o (n:Nat) (b t:Bool) (s:StE) (q:Os):wtH f (a2F n b t s q).1+wtL f (a2F n b t s q).2.1.2.2<=wtH f q.1+wtL f q.2.1.2.2+wtT f s.2:=by
 unfold a2F;split
 ·dsimp only;rw [b02];omega
 ·split
  ·dsimp only;rw [b02];omega
  ·rename_i h1 h2;dsimp only;have c1:=c6u f q.1 (q.2.1.1,q.2.1.2.1,a2V q.2.1.2.2 0 (s.2.take (bhP n b s)));dsimp only at c1;rw [b02] at c1;rw [b02]
   have c2:bhP n b s+ahP n t s<=s.2.length:=by
    unfold bhP ahP;cases b<;>cases t<;>simp at h2 ⊢<;>omega
   have c3:=c8V f s.2 c2;have c4:wtL f []=0:=rfl;omega
theorem c6g (L:List StE) (n:Nat):∀ i,i<=L.length->wtH f (ofI L n i).1+wtL f (ofI L n i).2.1.2.2<=wtL f (L.take i)
 | 0,_=>by simp [ofI,wtH,wtL]
 | i+1,h=>by
   have ih:=c6g L n i (by omega);have st:=d0o f n (decide (i=0)) (decide (i+1=L.length)) (L.getD i (0,[])) (ofI L n i);rw [ofI,a0K L (0,[]) (by omega),c1E];have e:wtL f [L.getD i (0,[])]=wtT f (L.getD i (0,[])).2:=by simp [wtL]
   omega
theorem b9E (L:List StE) (n:Nat):wtH f (ofP L n)<=wtL f L:=by
 have h:=c6g f L n L.length (nLR _);rw [List.take_length] at h;have c:=c6u f (ofI L n L.length).1 (ofI L n L.length).2.1;unfold ofP;omega
theorem b0x (L:List StE):wtL f L<=wtT f (a0u 2 L)+wtT f (a0u 1 L):=by
 induction L with
 | nil=>exact nZL _
 | cons s L ih=>
   rw [a1d,a1d,a7h,a7h];have e:wtL f (s::L)=wtT f s.2+wtL f L:=by simp [wtL]
   rw [e];have z:wtT f []=0:=rfl;by_cases h2:s.1=2
   ·rw [if_pos h2,if_neg (by omega)];omega
   ·rw [if_neg h2];omega
theorem a8c {n:Nat}:∀ {l:List Nat},n∈l->n<=l.sum
 | m::l,h=>by
   rw [List.sum_cons];rcases List.mem_cons.1 h with rfl|h
   ·omega
   ·have:=a8c h;omega
theorem c7n {ts:List (List UInt8)} {t:List UInt8} (h:t∈ts):f t<=wtT f ts:=by
 unfold wtT;exact a8c (List.mem_map_of_mem h)
theorem b32 {l:List StE} {s:StE} (h:s∈l):wtT f s.2<=wtL f l:=by
 unfold wtL;exact a8c (List.mem_map_of_mem (f:=fun s:StE=>wtT f s.2) h)
theorem b8A {l:List Hk} {s:Hk} (h:s∈l):wtL f s.2.2<=wtH f l:=by
 unfold wtH;exact a8c (List.mem_map_of_mem (f:=fun s:Hk=>wtL f s.2.2) h)
theorem b85 (j:Int) (l:List StE):wtT f (a0u j l)<=wtL f l:=by
 induction l with
 | nil=>exact nZL _
 | cons s l ih=>
   rw [a1d,a7h];have e:wtL f (s::l)=wtT f s.2+wtL f l:=by simp [wtL]
   have z:wtT f []=0:=rfl;rw [e];split<;>omega
theorem c6X (l:List Hk):wtT f (c3o l)<=wtH f l:=by
 induction l with
 | nil=>exact nZL _
 | cons h l ih=>
   have e:c3o (h::l)=a0u 1 h.2.2++c3o l:=rfl;have e2:wtH f (h::l)=wtL f h.2.2+wtH f l:=by simp [wtH]
   have:=b85 f 1 h.2.2;rw [e,e2,a7h];omega
end
theorem b0t (ts:List (List UInt8)):wtT (fun _=>1) ts=ts.length:=by
 induction ts with
 | nil=>rfl
 | cons t ts ih=>unfold wtT at ih ⊢;rw [List.map_cons,List.sum_cons,ih,lCo];omega
theorem b1c (ts:List (List UInt8)):wtT List.length ts=ts.flatten.length:=by
 induction ts with
 | nil=>rfl
 | cons t ts ih=>unfold wtT at ih ⊢;rw [List.map_cons,List.sum_cons,ih,List.flatten_cons,lAp]
theorem b87 (c:Nat) (ts:List (List UInt8)):wtT (fun t=>t.length+c) ts=ts.flatten.length+c*ts.length:=by
 induction ts with
 | nil=>rfl
 | cons t ts ih=>unfold wtT at ih ⊢;rw [List.map_cons,List.sum_cons,ih,List.flatten_cons,lAp,lCo,Nat.mul_add];omega
theorem c0B {l:List StE} (h:∀ s∈l,s.2.length≠0):l.length<=wtL (fun _=>1) l:=by
 induction l with
 | nil=>exact nZL _
 | cons s l ih=>
   have e:wtL (fun _=>1) (s::l)=wtT (fun _=>1) s.2+wtL (fun _=>1) l:=by simp [wtL]
   have h1:=h s (List.mem_cons_self ..);have h2:=ih fun x hx=>h x (List.mem_cons_of_mem _ hx)
   rw [b0t] at e;rw [e,lCo];omega
theorem b2e:∀ {l:List Hk} {n s:Int},a1F l n s=true->∀ h∈l,a9u h.2.2=true
 | [],_,_,_,h,hm=>by cases hm
 | g::r,n,s,hr,h,hm=>by
   rw [a1F,Bool.and_eq_true] at hr;rcases List.mem_cons.1 hm with rfl|hm
   ·have:=hr.1;unfold b4a at this;simp only [Bool.and_eq_true] at this;exact this.1.2.1
   ·exact b2e hr.2 h hm
theorem c8Q {l:List Hk} (h:∀ x∈l,1<=wtL (fun _=>1) x.2.2):l.length<=wtH (fun _=>1) l:=by
 induction l with
 | nil=>exact nZL _
 | cons s l ih=>
   have e:wtH (fun _=>1) (s::l)=wtL (fun _=>1) s.2.2+wtH (fun _=>1) l:=by simp [wtH]
   have h1:=h s (List.mem_cons_self ..);have h2:=ih fun x hx=>h x (List.mem_cons_of_mem _ hx)
   rw [e,lCo];omega
theorem c72 (k:Int) (t:List UInt8):(a5O k t).length<=t.length+12:=by
 unfold a5O;split
 ·simp
 ·simp [a98]
theorem c4f (k:Int) (ts:List (List UInt8)):(a1A k ts).length<=wtT (fun t=>t.length+12) ts:=by
 induction ts with
 | nil=>exact nZL _
 | cons t ts ih=>
   have:=c72 k t;unfold a1A at ih ⊢;unfold wtT at ih ⊢;rw [List.map_cons,List.flatten_cons,lAp,List.map_cons,List.sum_cons];omega
theorem c4F (l:List StE):(a1O l).length<=wtL (fun t=>t.length+12) l:=by
 induction l with
 | nil=>exact nZL _
 | cons s l ih=>
   have:=c4f s.1 s.2;have e:wtL (fun t=>t.length+12) (s::l)=wtT (fun t=>t.length+12) s.2+wtL (fun t=>t.length+12) l:=by simp [wtL]
   have e2:a1O (s::l)=a1A s.1 s.2++a1O l:=rfl;rw [e,e2,lAp];omega
theorem b5L {L:List StE} {x y:List (List UInt8)} (hr:a0r (-1) L=true) (hx:a0u 2 L=x) (hy:a0u 1 L=y) (wx:a0I x=true) (wy:a0I y=true) (hc:x.length+y.length<10000) (hb:x.flatten.length+y.flatten.length<=1000000) (n:Nat) :
  (L.length<10000/\∀ s∈L,s.2.length<=10000)/\d5h (ofP L n)/\((c3o (ofP L n)).length<=50000000/\(c3o (ofP L n)).flatten.length<=10000000000)/\(∀ h∈ofP L n,(0<=h.1/\h.1<=1000000)/\0<=h.2.1/\h.2.1<=100000000)/\(a5r (ofP L n)).length<=5000000/\∀ h∈ofP L n,d8Q h:=by
 obtain⟨hR,_,hB⟩:=b3N hr hx hy wx wy (by omega) n;have s1:=b0x (fun _=>1) L;have s2:=b0x List.length L;have s3:=b0x (fun t=>t.length+12) L;rw [hx,hy,b0t,b0t] at s1;rw [hx,hy,b1c,b1c] at s2;rw [hx,hy,b87,b87] at s3;have o1:=b9E (fun _=>1) L n;have o2:=b9E List.length L n;have o3:=b9E (fun t=>t.length+12) L n
 have st1:∀ h∈ofP L n,d8k h.2.2:=fun h hh=>by
  have r:=a6J hR h hh;have m1:=b8A (fun _=>1) hh;have m2:=b8A List.length hh;refine⟨⟨?_,fun s hs=>?_⟩,fun s hs t ht=>?_,fun j=>?_⟩
  ·have:=c0B (b05 r);omega
  ·have:=b32 (fun _=>1) hs;rw [b0t] at this;omega
  ·have a1:=b32 List.length hs;have a2:=c7n List.length ht;omega
  ·have:=b85 List.length j h.2.2;rw [b1c] at this;omega
 have hlen:(ofP L n).length<=wtH (fun _=>1) (ofP L n):=c8Q fun h hh=>by
  have r:=a6J hR h hh;have c:=b2e hR h hh;have:=c0B (b05 r);have:h.2.2≠[]:=fun e=>by rw [e] at c;cases c
  have:=List.length_pos_iff.2 this;omega
 refine⟨⟨?_,fun s hs=>?_⟩,⟨by omega,st1⟩,⟨?_,?_⟩,fun h hh=>?_,?_,fun h hh=>?_⟩
 ·have:=c0B (b05 hr);omega
 ·have:=b32 (fun _=>1) hs;rw [b0t] at this;omega
 ·have:=c6X (fun _=>1) (ofP L n);rw [b0t] at this;omega
 ·have:=c6X List.length (ofP L n);rw [b1c] at this;omega
 ·obtain⟨b1,b2,b3⟩:=hB h hh;obtain⟨g1,g2,_⟩:=a7V hR h hh;omega
 ·have key:∀ l:List Hk,(∀ h∈l,h∈ofP L n)->(a5r l).length<=80*l.length+wtH (fun t=>t.length+12) l:=by
   intro l
   induction l with
   | nil=>exact fun _=>nZL _
   | cons h l ih=>
     intro hm;have hh:=hm h (List.mem_cons_self ..);have ih:=ih fun x hx=>hm x (List.mem_cons_of_mem _ hx)
     obtain⟨b1,b2,b3⟩:=hB h hh;obtain⟨g1,g2,_⟩:=a7V hR h hh;obtain⟨⟨k1,k2⟩,_⟩:=st1 h hh;have c0:=Nat.le_trans (a2k k2 0) (Nat.mul_le_mul_right _ (show h.2.2.length<=10000 by omega));have c1:=Nat.le_trans (a2k k2 1) (Nat.mul_le_mul_right _ (show h.2.2.length<=10000 by omega));have c2:=Nat.le_trans (a2k k2 2) (Nat.mul_le_mul_right _ (show h.2.2.length<=10000 by omega));have l1:=a6A (a:=h.1) (n:=(a0o 0 h.2.2:Int)+a0o 1 h.2.2) b1 (by omega) (by omega) (by omega);have l2:=a6A (a:=h.2.1) (n:=(a0o 0 h.2.2:Int)+a0o 2 h.2.2) b2 (by omega) (by omega) (by omega);have e:a5r (h::l)=a5u h++a1O h.2.2++a5r l:=rfl;have e2:wtH (fun t=>t.length+12) (h::l)=wtL (fun t=>t.length+12) h.2.2+wtH (fun t=>t.length+12) l:=by simp [wtH]
     have e3:=c4F h.2.2
     have e4:(a5u h).length<=80:=by
      unfold a5u;simp only [lAp,d7k,d8C,d78,lCo,List.length_nil];omega
     rw [e,e2,lAp,lAp,lCo];omega
  have:=key (ofP L n) fun _ h=>h
  omega
 ·obtain⟨b1,b2,b3⟩:=hB h hh;obtain⟨g1,g2,g3⟩:=a7V hR h hh;exact⟨⟨b1,g2,b2,by omega⟩,g1,g3⟩
end
section
inductive Rd where
 | e
 | h (l:List Hk) (A B:Int)
 | s (l:List Hk) (A B:Int) (st:List StE) (k:Int) (ts:List (List UInt8)) (t:List UInt8)
def Rd.val:Rd->List Hk
 | .e=>[]
 | .h l A B=>l++[(A,B,[])]
 | .s l A B st k ts t=>l++[(A,B,st++[(k,ts++[t])])]
def Rd.len:Rd->Nat
 | .e=>0
 | .h l _ _=>l.length+1
 | .s l _ _ _ _ _ _=>l.length+1
def Rd.small (n:Nat):Rd->Prop
 | .e=>True
 | .h l _ _=>l.length<n
 | .s l _ _ st _ ts t=>l.length+st.length+ts.length<n/\t.length<=1000000000
def Rd.rows (v v1 v2:Nat):Rd->List (Nat×Row)
 | .e=>[(0,rHk v [])]
 | .h l A B=>[(0,rHx v l A B .em)]
 | .s l A B st k ts t=>[(0,rHx v l A B (.ow 1 v1 (st.length+1))),(1,rSx v1 st k (.ow 2 v2 (ts.length+1))),(2,a0G v2 9 eS (ts++[t]))]
attribute [local irreducible] AW a0h a0H a0c
def c7G (l:List Hk):Prop:=a1F l 0 0=true/\(∀ x∈l,d8Q x)/\d5h l/\(∀ h∈l,(0<=h.1/\h.1<=1000000)/\0<=h.2.1/\h.2.1<=100000000)/\(a5r l).length<=50000000
def Rd.at (s:List UInt8) (ls:List (List UInt8)) (i:Nat) (x:Rd) (v v1 v2 nx:Nat):AS:=
 (Sh.mk [(0,.st s),(4,.ow 0 v x.len),(10,sL eS ls),(11,.val (.int .i64 ls.length)),(12,.val (.int .i64 i))] (x.rows v v1 v2) 43 3 nx []).st
theorem Rd.small.len {n:Nat} {x:Rd} (h:x.small n):x.val.length<=n:=by
 cases x with
 | e=>exact nZL _
 | h l A B=>
   have h:l.length<n:=h;simp [Rd.val];omega
 | s l A B st k ts t=>
   obtain⟨h,_⟩:l.length+st.length+ts.length<n/\t.length<=1000000000:=h;simp [Rd.val];omega
end
section
attribute [local irreducible] AW a0h a0H a0c
theorem b2L:a49 (a0a [97,10]) (a0a [98,10])=[]/\a49 (a0a [97,10]) (a0a [99,10])=[]:=by decide +kernel
theorem b9b:a3X (a0z [97,10] [98,10] [99,10])=[(false,(0,1),(0,1),(0,1))]:=by
 have h:=b2L;unfold a3X d10 a0z;dsimp only;rw [h.1,h.2,a6G];decide
theorem d0H:a68 [97,10] [98,10] [99,10] 0 ([],[],[]) 0=[([],[],[],true,[],[98,10],[],[99,10],false)]:=by
 unfold a68;rw [b9b];decide +kernel
theorem d0D:a7s [97,10] [98,10] [99,10] (([],[],[]),0,7,0)=([([],[],[],true,[],[98,10],[],[99,10],false)],[],[],[(false,(0,1),(0,1),(0,1))],
  [60,60,60,60,60,60,60,10,98,10,61,61,61,61,61,61,61,10,99,10,62,62,62,62,62,62,62,10],7,1):=by
 have h:=b2L;unfold a7s;rw [if_pos (by decide)];unfold d2f;dsimp only;rw [d0H,b9b,h.1,h.2];have e1:a5Y 7 [97,10] [98,10] [99,10]=7:=by decide +kernel
 have e2:a07 7 [([],[],[],true,[],[98,10],[],[99,10],false)]=[60,60,60,60,60,60,60,10,98,10,61,61,61,61,61,61,61,10,99,10,62,62,62,62,62,62,62,10]:=by decide +kernel
 have e3:b10 (a0z [97,10] [98,10] [99,10]) [(false,(0,1),(0,1),(0,1))]=1:=by decide +kernel
 rw [e1,e2,e3];rfl
end
section
def a25 (x y:List (List UInt8)):List StE:=ofG x y (a1V (a7S x y) (a8a x y)) 0 0 []
structure d5S (a b:List UInt8) (n:Nat):Prop where
 len:(a25 (a0a a) (a0a b)).length<10000
 each:∀ s∈a25 (a0a a) (a0a b),s.2.length<=10000
 right:a0r (-1) (a25 (a0a a) (a0a b))=true
 blen:(a1W (a25 (a0a a) (a0a b))).length<10000
 beach:∀ s∈a1W (a25 (a0a a) (a0a b)),s.2.length<=10000
 bright:a0r (-1) (a1W (a25 (a0a a) (a0a b)))=true
 good:c7G (ofP (a25 (a0a a) (a0a b)) n)
 bgood:c7G (ofP (a1W (a25 (a0a a) (a0a b))) n)
 new:(c3o (ofP (a25 (a0a a) (a0a b)) n)).length<=50000000/\(c3o (ofP (a25 (a0a a) (a0a b)) n)).flatten.length<=10000000000
 bnew:(c3o (ofP (a1W (a25 (a0a a) (a0a b))) n)).length<=50000000/\(c3o (ofP (a1W (a25 (a0a a) (a0a b))) n)).flatten.length<=10000000000
 app:d5k (ofP (a25 (a0a a) (a0a b)) n) a=(b,0,-1)
 bapp:d5k (ofP (a1W (a25 (a0a a) (a0a b))) n) b=(a,0,-1)
theorem d3w {a b:List UInt8} (hl:(a0a a).length+(a0a b).length<10000) (hb:a.length+b.length<=1000000) (n:Nat):d5S a b n:=by
 have wa:=a18 _ a (nLR _);have wb:=a18 _ b (nLR _);have hg:=a2x (a7S (a0a a) (a0a b)) (a8a (a0a a) (a0a b));have h1:a0r (-1) (a25 (a0a a) (a0a b))=true:=a8A _ 0 0 [] (nZL _) hg rfl (.inl rfl);obtain⟨h2,h3,_⟩:=d2v hg;have h2:a0u 2 (a25 (a0a a) (a0a b))=a0a a:=h2;have h3:a0u 1 (a25 (a0a a) (a0a b))=a0a b:=h3;obtain⟨h4,h5,_⟩:=b3N h1 h2 h3 wa wb (by omega) n;have b1:=(c3W h1).1;obtain⟨h6,h7,_⟩:=b3N b1 ((b9P _).trans h3) ((b9R _).trans h2) wb wa (by omega) n;have fa:=a0L a;have fb:=a0L b;obtain⟨⟨s1,s2⟩,s3,s4,s5,s6,s7⟩:=b5L h1 h2 h3 wa wb hl (by rw [fa,fb];exact hb) n;obtain⟨⟨t1,t2⟩,t3,t4,t5,t6,t7⟩:=b5L b1 ((b9P _).trans h3) ((b9R _).trans h2) wb wa (by omega) (by rw [fa,fb];omega) n;refine⟨s1,s2,h1,t1,t2,b1,⟨h4,s7,s3,s5,by omega⟩,⟨h6,t7,t3,t5,by omega⟩,s4,t4,?_,?_⟩
 ·unfold d5k;rw [if_pos h4,h5,fb]
 ·unfold d5k;rw [if_pos h6,h7,fa]
attribute [local irreducible] AW a0h a0H a0c
end
section
attribute [local irreducible] AW a0h a0H a0c a3o
theorem a6l (s:List StE) (k:Int):a2H s k []=s:=rfl
theorem b6w (x:List BS):∀ (m k:Nat),k+m=x.length->ofG x x ((List.range' k m).map fun r:Nat=>((r:Int),(r:Int))) k k (a2H [] 0 (x.take k))=a2H [] 0 x
 | 0,k,h=>by
   have e:x.drop k=[]:=List.drop_eq_nil_of_le (by omega);have e2:x.take k=x:=List.take_of_length_le (by omega);rw [List.range'_zero,List.map_nil,ofG,e,a6l,a6l,e2]
 | m+1,k,h=>by
   have hk:k<x.length:=by omega
   rw [List.range'_succ,List.map_cons,ofG];dsimp only;rw [Int.toNat_natCast,b13,a6l,a6l,b6B hk]
   have e:a2H (a2H [] 0 (x.take k)) 0 [x.getD k []]=a2H [] 0 (x.take (k+1)):=by
    rw [a0K x [] hk];by_cases h0:(x.take k).length=0
    ·have:x.take k=[]:=List.length_eq_zero_iff.1 h0;rw [this];rfl
    ·rw [a1x h0,a1x (k:=0) (ts:=x.take k++[x.getD k []]) (by simp)];rfl
   rw [e];exact b6w x m (k+1) (by omega)
theorem a8m (x:List BS):a25 x x=a2H [] 0 x:=by
 have h:=b6w x x.length 0 (by omega)
 have e:a49 x x=(List.range' 0 x.length).map fun r:Nat=>((r:Int),(r:Int)):=by
  rw [c4C];unfold prs;rw [List.range_eq_range'];refine List.map_congr_left fun r _=>?_
  rw [Int.zero_add]
 unfold a25;have e2:a1V (a7S x x) (a8a x x)=a49 x x:=rfl;rw [e2,e];exact h
theorem c4s (x:List BS) (n:Nat):ofP (a2H [] 0 x) n=[]:=by
 by_cases h:x.length=0
 ·have:x=[]:=List.length_eq_zero_iff.1 h;rw [this];rfl
 ·rw [a1x h];unfold ofP;have e:ofI [((0:Int),x)] n [((0:Int),x)].length=a2F n true true (0,x) ([],(0,0,[]),0,0):=rfl;rw [e];unfold a2F;rw [if_neg (by simp),if_neg (by simp)];simp [bhP,ahP,a5z,a2V,a9u]
structure b0D (a b:BS) (n:Nat):Prop where
 len:(a25 (a0a a) (a0a b)).length<10000
 each:∀ s∈a25 (a0a a) (a0a b),s.2.length<=10000
 right:a0r (-1) (a25 (a0a a) (a0a b))=true
 good:c7G (ofP (a25 (a0a a) (a0a b)) n)
theorem b1B {a b:BS} (h:a.length+b.length<=9500) (n:Nat):b0D a b n:=by
 have h1:=a0l a;have h2:=a0l b;have hs:=d3w (a:=a) (b:=b) (by omega) (by omega) n;exact⟨hs.len,hs.each,hs.right,hs.good⟩
theorem b5Q {a:BS} (h:a.length<=9500) (n:Nat):b0D a a n:=by
 have h1:=a0l a;have hg:=a2x (a7S (a0a a) (a0a a)) (a8a (a0a a) (a0a a));have hr:a0r (-1) (a25 (a0a a) (a0a a))=true:=a8A _ 0 0 [] (nZL _) hg rfl (.inl rfl);refine⟨?_,?_,hr,?_⟩
 ·rw [a8m];exact Nat.lt_of_le_of_lt (a44 [] 0 _) (by decide)
 ·rw [a8m];intro s hs;by_cases h0:(a0a a).length=0
  ·rw [List.length_eq_zero_iff.1 h0] at hs;cases hs
  ·rw [a1x h0,List.mem_singleton] at hs;rw [hs];show (a0a a).length<=_;omega
 ·rw [a8m,c4s];exact⟨rfl,fun x hx=>absurd hx (by simp),⟨by simp,fun x hx=>absurd hx (by simp)⟩,fun x hx=>absurd hx (by simp),nZL _⟩
noncomputable def a86 (a b:BS) (n:Nat):BS:=a1E (ofP (a25 (a0a a) (a0a b)) n)
theorem a3K {a b:BS} {n:Nat} (h:b0D a b n):(a86 a b n).length<=50000000:=by
 obtain⟨p1,p2,p3,p4,p5⟩:=h.good;unfold a86 a1E;rw [if_pos p1];exact p5
noncomputable def a1w (line:List UInt8) (a:Ss):List UInt8:=if (wdL line).length=3/\0<=a0M ((wdL line).getD 1 [])/\0<=a1J ((wdL line).getD 2 [])/\a1J ((wdL line).getD 2 [])<=100 then a2P (a86 a.1.1 (txt a (a0M ((wdL line).getD 1 []))) (a1J ((wdL line).getD 2 [])).toNat) else a0q
noncomputable def c1h (xs:List AV) (a:Ss) (r:AV) (b:Ss):Prop:=∃ line:List UInt8,xs=[sL eS (wdL line).tail]/\line.length<=1000/\a.1.1.length+a.1.2.1.length+a.1.2.2.length<=9400/\r=.st (a1w line a)/\b=a
noncomputable def c0u:a0p:=sSh c1h
theorem c31:a0f Tryz.prog 64 c0u:=by
 refine a0f.mk Tryz.func64 rfl (by decide) Tryz.results64 Tryz.ntmps64 ?_;rintro args hp top nx K ⟨v,v1,v2,v3,v4,xs,a,r,b,rfl,⟨line,rfl,hl,hs,rfl,rfl⟩,rfl,rfl,hK⟩;have hΓ:=gkM b4v (gkC a6b (gkC a8Y (gkC a77 (gkC b37 (gkC d38 (gkC d1D (gkC b4X (gkC b1y gkN))))))));refine⟨Nat.le_of_ble_eq_true rfl,AW.late ?_⟩;have hg:=b1m line 2;have hk:=a0A hK rfl;by_cases h2:(wdL line).length=3
 ·have hI:((wdL line).tail.length:Int)=2:=by rw [List.length_tail];omega
  refine awL hΓ [200007,200009] rfl ?_;simp only [go_sem,hI,a0R];generalize hw:(wdL line).getD 1 []=w1 at *
  generalize hw2:(wdL line).getD 2 []=w2 at *
  refine b4d (by exact (by decide:0<5))  rlR  fun nx1 hn1=>?_
  cases hn:a3o w2 with
  | none=>
    have e:a1w line b=a0q:=by unfold a1w;rw [if_neg fun h=>by rw [hw2,a3U hn] at h;exact absurd h.2.2.1 (by decide)]
    rw [e] at hk;rcases b0u w1 with⟨f1,f2⟩|⟨f1,f2⟩|⟨f1,f2⟩|⟨f1,f2⟩
    ·rw [f1,f2];simp only [go_sem,a2A,a0R,hw2,hn,nuO];refine⟨by omega,by omega,?_⟩;refine⟨_,a0e (fun p=>p) (l:=[(4,.st (a0q))]) (r:=[(0,.box v 106 10 (shC 1 2 3 4 v1 v2 v3 v4 b)),(1,a0i v1 b.1.1),(2,a0i v2 b.1.2.1),(3,a0i v3 b.1.2.2),(4,mgR v4 b.2.2)]) (sz:=77) (top:=5) (nx:=nx1) (df:=[]) ?_,?_⟩
     ·simp only [go_sem];exact⟨rlR,rlR,rlR,rlR,rlR⟩
     ·simp only [go_sem];exact hk v1 v2 v3 nx1 (.inl rfl) (.inl rfl) (.inl rfl) hn1
    ·rw [f1,f2];simp only [go_sem,a2A,a0R,hw2,hn,nuO];refine⟨by omega,by omega,?_⟩;refine⟨_,a0e (fun p=>p) (l:=[(4,.st (a0q))]) (r:=[(0,.box v 106 10 (shC 1 2 3 4 v1 v2 v3 v4 b)),(1,a0i v1 b.1.1),(2,a0i v2 b.1.2.1),(3,a0i v3 b.1.2.2),(4,mgR v4 b.2.2)]) (sz:=77) (top:=5) (nx:=nx1) (df:=[]) ?_,?_⟩
     ·simp only [go_sem];exact⟨rlR,rlR,rlR,rlR,rlR⟩
     ·simp only [go_sem];exact hk v1 v2 v3 nx1 (.inl rfl) (.inl rfl) (.inl rfl) hn1
    ·rw [f1,f2];simp only [go_sem,a2A,a0R,hw2,hn,nuO];refine⟨by omega,by omega,?_⟩;refine⟨_,a0e (fun p=>p) (l:=[(4,.st (a0q))]) (r:=[(0,.box v 106 10 (shC 1 2 3 4 v1 v2 v3 v4 b)),(1,a0i v1 b.1.1),(2,a0i v2 b.1.2.1),(3,a0i v3 b.1.2.2),(4,mgR v4 b.2.2)]) (sz:=77) (top:=5) (nx:=nx1) (df:=[]) ?_,?_⟩
     ·simp only [go_sem];exact⟨rlR,rlR,rlR,rlR,rlR⟩
     ·simp only [go_sem];exact hk v1 v2 v3 nx1 (.inl rfl) (.inl rfl) (.inl rfl) hn1
    ·rw [f1,f2];simp only [go_sem,a2A,a0R,hw2,hn,nuO];refine⟨by omega,by omega,?_⟩;refine⟨_,a0e (fun p=>p) (l:=[(4,.st (a0q))]) (r:=[(0,.box v 106 10 (shC 1 2 3 4 v1 v2 v3 v4 b)),(1,a0i v1 b.1.1),(2,a0i v2 b.1.2.1),(3,a0i v3 b.1.2.2),(4,mgR v4 b.2.2)]) (sz:=77) (top:=5) (nx:=nx1) (df:=[]) ?_,?_⟩
     ·simp only [go_sem];exact⟨rlR,rlR,rlR,rlR,rlR⟩
     ·simp only [go_sem];exact hk v1 v2 v3 nx1 (.inl rfl) (.inl rfl) (.inl rfl) hn1
  | some n=>
    by_cases hle:n<=100
    ·have hI2:((100:Int)<(n:Int))=False:=eq_false (by omega);have hr:a1J w2=n:=a1m hn;rcases b0u w1 with⟨f1,f2⟩|⟨f1,f2⟩|⟨f1,f2⟩|⟨f1,f2⟩
     ·have e:a1w line b=a0q:=by unfold a1w;rw [if_neg fun h=>by rw [hw,f1] at h;exact absurd h.2.1 (by decide)]
      rw [e] at hk;rw [f1,f2];simp only [go_sem,a2A,a0R,hw2,hn,nuO,hI2];refine⟨by omega,by omega,?_⟩;refine⟨_,a0e (fun p=>p) (l:=[(4,.st (a0q))]) (r:=[(0,.box v 106 10 (shC 1 2 3 4 v1 v2 v3 v4 b)),(1,a0i v1 b.1.1),(2,a0i v2 b.1.2.1),(3,a0i v3 b.1.2.2),(4,mgR v4 b.2.2)]) (sz:=77) (top:=5) (nx:=nx1) (df:=[]) ?_,?_⟩
      ·simp only [go_sem];exact⟨rlR,rlR,rlR,rlR,rlR⟩
      ·simp only [go_sem];exact hk v1 v2 v3 nx1 (.inl rfl) (.inl rfl) (.inl rfl) hn1
     ·have hd:b0D b.1.1 b.1.1 n:=b5Q (by omega) n
      have e:a1w line b=a2P (a86 b.1.1 b.1.1 n):=by
       unfold a1w;rw [hw,hw2,f1,hr,if_pos ⟨h2,by decide,by omega,by omega⟩];rfl
      rw [e] at hk;have hdl:=a3K hd;obtain⟨p1,p2,p3,p4,p5⟩:=hd.good;have q1:=hd.len;have q2:=hd.each;have q3:=hd.right;have la:=a0l b.1.1;have lb:=a0l b.1.1;have n0:((a0X [] [a0a b.1.1,a0a b.1.1]).getD 0 []).length=(a0a b.1.1).length:=by simp [a0X,a1n]
      have n1:((a0X [] [a0a b.1.1,a0a b.1.1]).getD 1 []).length=(a0a b.1.1).length:=by simp [a0X,a1n]
      have n3:(a0X [] [a0a b.1.1,a0a b.1.1]).length=2:=by rw [a2m];rfl
      have hr2:rgt (a7S (a0a b.1.1) (a0a b.1.1)) (a8a (a0a b.1.1) (a0a b.1.1)) (-1) (-1) (a1V ((a0X [] [a0a b.1.1,a0a b.1.1]).getD 0 []) ((a0X [] [a0a b.1.1,a0a b.1.1]).getD 1 []))=true:=a2x _ _;have e0:ofG (a0a b.1.1) (a0a b.1.1) (a1V ((a0X [] [a0a b.1.1,a0a b.1.1]).getD 0 []) ((a0X [] [a0a b.1.1,a0a b.1.1]).getD 1 [])) 0 0 []=a25 (a0a b.1.1) (a0a b.1.1):=rfl;rw [f1,f2];simp only [go_sem,a0R,hw2,hn,nuO,hI2];refine⟨by omega,by omega,?_⟩;refine AW.drawK hΓ mixed 14 [] [] [] [0,1,1] (by decide +kernel) ?_;simp only [go_sem,a0i,a2I,a4f];refine⟨by omega,by omega,by omega,?_⟩;refine AW.drawZ hΓ mixed 15 [] [] [] (by kernel_rfl) ?_;have hI3:(0<=(n:Int))=True:=eq_true (by omega);have hI4:((n:Int)<=100)=True:=eq_true (by omega);have hm:=a1u ((a0X [] [a0a b.1.1,a0a b.1.1]).getD 0 []) ((a0X [] [a0a b.1.1,a0a b.1.1]).getD 1 []);have c1:=a2W ((a0X [] [a0a b.1.1,a0a b.1.1]).getD 0 []) ((a0X [] [a0a b.1.1,a0a b.1.1]).getD 1 []);have c3:=hm.2
      have e3:a1G (a1E (ofP (a25 (a0a b.1.1) (a0a b.1.1)) n)) 0=a2P (a86 b.1.1 b.1.1 n):=by
       unfold a1G;rw [if_pos rfl];rfl
      have hdl:(a1E (ofP (a25 (a0a b.1.1) (a0a b.1.1)) n)).length<=50000000:=hdl;rw [<-e3] at hk;simp only [go_sem,n3,hr2,e0,q3,hI3,hI4];refine⟨⟨by omega,by omega⟩,⟨by omega,by omega,by omega⟩,⟨q1,q2⟩,⟨p3,p4,by omega⟩,by omega,?_⟩;refine⟨_,a0e (fun p=>p) (l:=[(4,.st (a1G (a1E (ofP (a25 (a0a b.1.1) (a0a b.1.1)) n)) 0))]) (r:=[(0,.box v 106 10 (shC 1 2 3 4 v1 v2 v3 v4 b)),(1,a0i v1 b.1.1),(2,a0i v2 b.1.2.1),(3,a0i v3 b.1.2.2),(4,mgR v4 b.2.2)]) (sz:=77) (top:=5) (nx:=nx1) (df:=[]) ?_,?_⟩
      ·simp only [go_sem];exact⟨rlR,rlR,rlR,rlR,rlR⟩
      ·simp only [go_sem];exact hk v1 v2 v3 nx1 (.inl rfl) (.inl rfl) (.inl rfl) hn1
     ·have hd:b0D b.1.1 b.1.2.1 n:=b1B (by omega) n
      have e:a1w line b=a2P (a86 b.1.1 b.1.2.1 n):=by
       unfold a1w;rw [hw,hw2,f1,hr,if_pos ⟨h2,by decide,by omega,by omega⟩];rfl
      rw [e] at hk;have hdl:=a3K hd;obtain⟨p1,p2,p3,p4,p5⟩:=hd.good;have q1:=hd.len;have q2:=hd.each;have q3:=hd.right;have la:=a0l b.1.1;have lb:=a0l b.1.2.1;have n0:((a0X [] [a0a b.1.1,a0a b.1.2.1]).getD 0 []).length=(a0a b.1.1).length:=by simp [a0X,a1n]
      have n1:((a0X [] [a0a b.1.1,a0a b.1.2.1]).getD 1 []).length=(a0a b.1.2.1).length:=by simp [a0X,a1n]
      have n3:(a0X [] [a0a b.1.1,a0a b.1.2.1]).length=2:=by rw [a2m];rfl
      have hr2:rgt (a7S (a0a b.1.1) (a0a b.1.2.1)) (a8a (a0a b.1.1) (a0a b.1.2.1)) (-1) (-1) (a1V ((a0X [] [a0a b.1.1,a0a b.1.2.1]).getD 0 []) ((a0X [] [a0a b.1.1,a0a b.1.2.1]).getD 1 []))=true:=a2x _ _;have e0:ofG (a0a b.1.1) (a0a b.1.2.1) (a1V ((a0X [] [a0a b.1.1,a0a b.1.2.1]).getD 0 []) ((a0X [] [a0a b.1.1,a0a b.1.2.1]).getD 1 [])) 0 0 []=a25 (a0a b.1.1) (a0a b.1.2.1):=rfl;rw [f1,f2];simp only [go_sem,a0R,hw2,hn,nuO,hI2];refine⟨by omega,by omega,?_⟩;refine AW.drawK hΓ mixed 14 [] [] [] [0,1,2] (by decide +kernel) ?_;simp only [go_sem,a0i,a2I,a4f];refine⟨by omega,by omega,⟨by omega,by omega⟩,?_⟩;refine AW.drawZ hΓ mixed 15 [] [] [] (by kernel_rfl) ?_;have hI3:(0<=(n:Int))=True:=eq_true (by omega);have hI4:((n:Int)<=100)=True:=eq_true (by omega);have hm:=a1u ((a0X [] [a0a b.1.1,a0a b.1.2.1]).getD 0 []) ((a0X [] [a0a b.1.1,a0a b.1.2.1]).getD 1 []);have c1:=a2W ((a0X [] [a0a b.1.1,a0a b.1.2.1]).getD 0 []) ((a0X [] [a0a b.1.1,a0a b.1.2.1]).getD 1 []);have c3:=hm.2
      have e3:a1G (a1E (ofP (a25 (a0a b.1.1) (a0a b.1.2.1)) n)) 0=a2P (a86 b.1.1 b.1.2.1 n):=by
       unfold a1G;rw [if_pos rfl];rfl
      have hdl:(a1E (ofP (a25 (a0a b.1.1) (a0a b.1.2.1)) n)).length<=50000000:=hdl;rw [<-e3] at hk;simp only [go_sem,n3,hr2,e0,q3,hI3,hI4];refine⟨⟨by omega,by omega⟩,⟨by omega,by omega,by omega⟩,⟨q1,q2⟩,⟨p3,p4,by omega⟩,by omega,?_⟩;refine⟨_,a0e (fun p=>p) (l:=[(4,.st (a1G (a1E (ofP (a25 (a0a b.1.1) (a0a b.1.2.1)) n)) 0))]) (r:=[(0,.box v 106 10 (shC 1 2 3 4 v1 v2 v3 v4 b)),(1,a0i v1 b.1.1),(2,a0i v2 b.1.2.1),(3,a0i v3 b.1.2.2),(4,mgR v4 b.2.2)]) (sz:=77) (top:=5) (nx:=nx1) (df:=[]) ?_,?_⟩
      ·simp only [go_sem];exact⟨rlR,rlR,rlR,rlR,rlR⟩
      ·simp only [go_sem];exact hk v1 v2 v3 nx1 (.inl rfl) (.inl rfl) (.inl rfl) hn1
     ·have hd:b0D b.1.1 b.1.2.2 n:=b1B (by omega) n
      have e:a1w line b=a2P (a86 b.1.1 b.1.2.2 n):=by
       unfold a1w;rw [hw,hw2,f1,hr,if_pos ⟨h2,by decide,by omega,by omega⟩];rfl
      rw [e] at hk;have hdl:=a3K hd;obtain⟨p1,p2,p3,p4,p5⟩:=hd.good;have q1:=hd.len;have q2:=hd.each;have q3:=hd.right;have la:=a0l b.1.1;have lb:=a0l b.1.2.2;have n0:((a0X [] [a0a b.1.1,a0a b.1.2.2]).getD 0 []).length=(a0a b.1.1).length:=by simp [a0X,a1n]
      have n1:((a0X [] [a0a b.1.1,a0a b.1.2.2]).getD 1 []).length=(a0a b.1.2.2).length:=by simp [a0X,a1n]
      have n3:(a0X [] [a0a b.1.1,a0a b.1.2.2]).length=2:=by rw [a2m];rfl
      have hr2:rgt (a7S (a0a b.1.1) (a0a b.1.2.2)) (a8a (a0a b.1.1) (a0a b.1.2.2)) (-1) (-1) (a1V ((a0X [] [a0a b.1.1,a0a b.1.2.2]).getD 0 []) ((a0X [] [a0a b.1.1,a0a b.1.2.2]).getD 1 []))=true:=a2x _ _;have e0:ofG (a0a b.1.1) (a0a b.1.2.2) (a1V ((a0X [] [a0a b.1.1,a0a b.1.2.2]).getD 0 []) ((a0X [] [a0a b.1.1,a0a b.1.2.2]).getD 1 [])) 0 0 []=a25 (a0a b.1.1) (a0a b.1.2.2):=rfl;rw [f1,f2];simp only [go_sem,a0R,hw2,hn,nuO,hI2];refine⟨by omega,by omega,?_⟩;refine AW.drawK hΓ mixed 14 [] [] [] [0,1,3] (by decide +kernel) ?_;simp only [go_sem,a0i,a2I,a4f];refine⟨by omega,by omega,⟨by omega,by omega⟩,?_⟩;refine AW.drawZ hΓ mixed 15 [] [] [] (by kernel_rfl) ?_;have hI3:(0<=(n:Int))=True:=eq_true (by omega);have hI4:((n:Int)<=100)=True:=eq_true (by omega);have hm:=a1u ((a0X [] [a0a b.1.1,a0a b.1.2.2]).getD 0 []) ((a0X [] [a0a b.1.1,a0a b.1.2.2]).getD 1 []);have c1:=a2W ((a0X [] [a0a b.1.1,a0a b.1.2.2]).getD 0 []) ((a0X [] [a0a b.1.1,a0a b.1.2.2]).getD 1 []);have c3:=hm.2
      have e3:a1G (a1E (ofP (a25 (a0a b.1.1) (a0a b.1.2.2)) n)) 0=a2P (a86 b.1.1 b.1.2.2 n):=by
       unfold a1G;rw [if_pos rfl];rfl
      have hdl:(a1E (ofP (a25 (a0a b.1.1) (a0a b.1.2.2)) n)).length<=50000000:=hdl;rw [<-e3] at hk;simp only [go_sem,n3,hr2,e0,q3,hI3,hI4];refine⟨⟨by omega,by omega⟩,⟨by omega,by omega,by omega⟩,⟨q1,q2⟩,⟨p3,p4,by omega⟩,by omega,?_⟩;refine⟨_,a0e (fun p=>p) (l:=[(4,.st (a1G (a1E (ofP (a25 (a0a b.1.1) (a0a b.1.2.2)) n)) 0))]) (r:=[(0,.box v 106 10 (shC 1 2 3 4 v1 v2 v3 v4 b)),(1,a0i v1 b.1.1),(2,a0i v2 b.1.2.1),(3,a0i v3 b.1.2.2),(4,mgR v4 b.2.2)]) (sz:=77) (top:=5) (nx:=nx1) (df:=[]) ?_,?_⟩
      ·simp only [go_sem];exact⟨rlR,rlR,rlR,rlR,rlR⟩
      ·simp only [go_sem];exact hk v1 v2 v3 nx1 (.inl rfl) (.inl rfl) (.inl rfl) hn1
    ·have hI2:((100:Int)<(n:Int))=True:=eq_true (by omega);have hr:a1J w2=n:=a1m hn;have e:a1w line b=a0q:=by unfold a1w;rw [if_neg fun h=>by rw [hw2,hr] at h;exact hle (by omega)]
     rw [e] at hk;rcases b0u w1 with⟨f1,f2⟩|⟨f1,f2⟩|⟨f1,f2⟩|⟨f1,f2⟩
     ·rw [f1,f2];simp only [go_sem,a2A,a0R,hw2,hn,nuO,hI2];refine⟨by omega,by omega,?_⟩;refine⟨_,a0e (fun p=>p) (l:=[(4,.st (a0q))]) (r:=[(0,.box v 106 10 (shC 1 2 3 4 v1 v2 v3 v4 b)),(1,a0i v1 b.1.1),(2,a0i v2 b.1.2.1),(3,a0i v3 b.1.2.2),(4,mgR v4 b.2.2)]) (sz:=77) (top:=5) (nx:=nx1) (df:=[]) ?_,?_⟩
      ·simp only [go_sem];exact⟨rlR,rlR,rlR,rlR,rlR⟩
      ·simp only [go_sem];exact hk v1 v2 v3 nx1 (.inl rfl) (.inl rfl) (.inl rfl) hn1
     ·rw [f1,f2];simp only [go_sem,a2A,a0R,hw2,hn,nuO,hI2];refine⟨by omega,by omega,?_⟩;refine⟨_,a0e (fun p=>p) (l:=[(4,.st (a0q))]) (r:=[(0,.box v 106 10 (shC 1 2 3 4 v1 v2 v3 v4 b)),(1,a0i v1 b.1.1),(2,a0i v2 b.1.2.1),(3,a0i v3 b.1.2.2),(4,mgR v4 b.2.2)]) (sz:=77) (top:=5) (nx:=nx1) (df:=[]) ?_,?_⟩
      ·simp only [go_sem];exact⟨rlR,rlR,rlR,rlR,rlR⟩
      ·simp only [go_sem];exact hk v1 v2 v3 nx1 (.inl rfl) (.inl rfl) (.inl rfl) hn1
     ·rw [f1,f2];simp only [go_sem,a2A,a0R,hw2,hn,nuO,hI2];refine⟨by omega,by omega,?_⟩;refine⟨_,a0e (fun p=>p) (l:=[(4,.st (a0q))]) (r:=[(0,.box v 106 10 (shC 1 2 3 4 v1 v2 v3 v4 b)),(1,a0i v1 b.1.1),(2,a0i v2 b.1.2.1),(3,a0i v3 b.1.2.2),(4,mgR v4 b.2.2)]) (sz:=77) (top:=5) (nx:=nx1) (df:=[]) ?_,?_⟩
      ·simp only [go_sem];exact⟨rlR,rlR,rlR,rlR,rlR⟩
      ·simp only [go_sem];exact hk v1 v2 v3 nx1 (.inl rfl) (.inl rfl) (.inl rfl) hn1
     ·rw [f1,f2];simp only [go_sem,a2A,a0R,hw2,hn,nuO,hI2];refine⟨by omega,by omega,?_⟩;refine⟨_,a0e (fun p=>p) (l:=[(4,.st (a0q))]) (r:=[(0,.box v 106 10 (shC 1 2 3 4 v1 v2 v3 v4 b)),(1,a0i v1 b.1.1),(2,a0i v2 b.1.2.1),(3,a0i v3 b.1.2.2),(4,mgR v4 b.2.2)]) (sz:=77) (top:=5) (nx:=nx1) (df:=[]) ?_,?_⟩
      ·simp only [go_sem];exact⟨rlR,rlR,rlR,rlR,rlR⟩
      ·simp only [go_sem];exact hk v1 v2 v3 nx1 (.inl rfl) (.inl rfl) (.inl rfl) hn1
 ·have hI:(((wdL line).tail.length:Int)=2)=False:=eq_false (by rw [List.length_tail];have:=List.length_pos_iff.2 (a35 line);omega);have e:a1w line b=a0q:=by unfold a1w;rw [if_neg fun h=>h2 h.1]
  have hk:=a0A hK rfl;rw [e] at hk;refine awL hΓ [200007,200009] rfl ?_;simp only [go_sem,hI];refine⟨_,a0e (fun p=>p) (l:=[(4,.st a0q)]) (r:=[(0,.box v 106 10 (shC 1 2 3 4 v1 v2 v3 v4 b)),(1,a0i v1 b.1.1),(2,a0i v2 b.1.2.1),(3,a0i v3 b.1.2.2),(4,mgR v4 b.2.2)]) (sz:=77) (top:=5) (nx:=nx) (df:=[]) ?_,?_⟩
  ·simp only [go_sem];exact⟨rlR,rlR,rlR,rlR,rlR⟩
  ·simp only [go_sem];exact hk v1 v2 v3 nx (.inl rfl) (.inl rfl) (.inl rfl) (nLR _)
@[go_sem] noncomputable def c7X:a0p:=a0U c0u
theorem b6l:a0f Tryz.prog 64 c7X:=c31.frame
abbrev Wl:=List Pt×Rt
abbrev eWl:El Wl:=eP (eL ePt) eRt
def wM (w:Wl):Mg:=(w.1,w.2.2.2.2.2.1,w.2.2.2.2.2.2.1,w.2.2.2.2.1)
noncomputable def anP (line:BS) (w:Wl) (x:Rsh):BS×Wl×Rsh:=
 if (wdL line).getD 0 []=[109,101,114,103,101] then (Lib.itoa (a7s x.1.1 x.1.2.1 x.1.2.2 x.2.1).2.2.2.2.2.2,((a7s x.1.1 x.1.2.1 x.1.2.2 x.2.1).1,a7s x.1.1 x.1.2.1 x.1.2.2 x.2.1),x)
 else if (wdL line).getD 0 []=[116,101,120,116]\/(wdL line).getD 0 []=[119,105,100,101]\/(wdL line).getD 0 []=[99,104,117,110,107,115]\/(wdL line).getD 0 []=[115,104,111,119] then (a5t ((wdL line).getD 0 []) (wM w),w,x)
 else if (wdL line).getD 0 []=[114,101,115,111,108,118,101] then (a1G (a9B w.1 (a0B ((wdL line).getD 1 [])).1).1 (a9B w.1 (a0B ((wdL line).getD 1 [])).1).2,w,x)
 else if (wdL line).getD 0 []=[112,105,99,107] then (if (a38 w.1 (a1J ((wdL line).getD 1 [])) (a0B ((wdL line).getD 2 [])).1).2=0 then (Lib.itoa (a0k (a38 w.1 (a1J ((wdL line).getD 1 [])) (a0B ((wdL line).getD 2 [])).1).1:Nat),((a38 w.1 (a1J ((wdL line).getD 1 [])) (a0B ((wdL line).getD 2 [])).1).1,w.2),x) else (a7t (a38 w.1 (a1J ((wdL line).getD 1 [])) (a0B ((wdL line).getD 2 [])).1).2,w,x))
 else if (wdL line).getD 0 []=[100,105,102,102] then (a2P (a86 x.1.1 (rtx x (a0M ((wdL line).getD 1 []))) (a1J ((wdL line).getD 2 [])).toNat),w,x)
 else if (a0V x.1.1 (a1J ((wdL line).getD 1 []))).2.1=0 then (Lib.itoa (a0k (a0V x.1.1 (a1J ((wdL line).getD 1 []))).1:Nat),((a0V x.1.1 (a1J ((wdL line).getD 1 []))).1,([],[],[],[],x.1.1,a1J ((wdL line).getD 1 []),0)),(x.1,x.2.1,true))
 else (a7t (a0V x.1.1 (a1J ((wdL line).getD 1 []))).2.1++[32]++Lib.itoa (a0V x.1.1 (a1J ((wdL line).getD 1 []))).2.2,w,x)
noncomputable def b7h (line:BS) (w:Wl):Prop:=
 (wdL line).getD 0 []=[109,101,114,103,101]\/
 (((wdL line).getD 0 []=[116,101,120,116]\/(wdL line).getD 0 []=[119,105,100,101]\/(wdL line).getD 0 []=[99,104,117,110,107,115]\/(wdL line).getD 0 []=[115,104,111,119])/\a9q (wM w))\/
 ((wdL line).getD 0 []=[114,101,115,111,108,118,101]/\(wdL line).length=2/\a9q (wM w))\/
 ((wdL line).getD 0 []=[112,105,99,107]/\(wdL line).length=3/\(∃ n,a3o ((wdL line).getD 1 [])=some n)/\a9q (wM w))\/
 ((wdL line).getD 0 []=[100,105,102,102]/\(wdL line).length=3/\0<=a0M ((wdL line).getD 1 [])/\∃ n,n<=100/\a3o ((wdL line).getD 2 [])=some n)\/
 ((wdL line).getD 0 []=[112,97,114,115,101]/\(wdL line).length=2/\∃ n,a3o ((wdL line).getD 1 [])=some n)
theorem c3i {a b c:BS} {o:Op} (h:a.length+b.length+c.length<=9400) (hl:lbN o.1<=3000):0<=(a7s a b c o).2.2.2.2.2.2/\(a7s a b c o).2.2.2.2.2.2<=1000000:=by
 have hM:=a6x h;unfold a7s;split
 ·rename_i hx;obtain⟨p1,p2,p3⟩:=c4w hx;have hF:=a52 hM p2 o.2.1 hl p1 o.2.2.2;have h1:=hF.len;have h2:=b6C (a0z a b c) (a3X (a0z a b c));show 0<=((b10 (a0z a b c) (a3X (a0z a b c)):Nat):Int)/\((b10 (a0z a b c) (a3X (a0z a b c)):Nat):Int)<=_;omega
 ·exact⟨by decide,by decide⟩
noncomputable def b8H:a0p:=fun args hp top nx K=>∃ (v u:Nat) (line:BS) (w:Wl) (x:Rsh),args=[.pt 0 v 0,.pt 1 u 0,.st line]/\hp=rws [(0,.box v 50 8 (eWl.enc w)),(1,.box u 110 16 (rsC x))]/\top=2/\
 (line.length<=1000/\x.1.1.length+x.1.2.1.length+x.1.2.2.length<=9400/\lbN x.2.1.1<=3000/\b7h line w)/\
 ∀ nx',nx<=nx'->K (.st (anP line w x).1) (rws [(0,.box v 50 8 (eWl.enc (anP line w x).2.1)),(1,.box u 110 16 (rsC (anP line w x).2.2))]) 2 nx'
theorem d0A:a0f Tryz.prog 22 b8H:=by
 refine a0f.mk Tryz.func22 rfl (by decide) Tryz.results22 Tryz.ntmps22 ?_;rintro args hp top nx K ⟨v,u,line,w,x,rfl,rfl,rfl,⟨hl,hx,hlb,hask⟩,hK⟩;have hΓ:=gkC a92 (gkC c0G (gkC b1O (gkC b0o (gkC c13 (gkC b1A (gkC c8P (gkC a9S (gkC c67 (gkC b2M (gkC c63 (gkC a64 (gkC a79 (gkC a8Y (gkC a65 (gkC a77 (gkC b37 (gkC d38 (gkC d1D (gkC b4X (gkC c2l gkN))))))))))))))))))));refine⟨Nat.le_of_ble_eq_true rfl,AW.late ?_⟩;have hw0:=List.length_pos_iff.2 (a35 line);have hg1:=b1m line 1;have hg2:=b1m line 2;unfold b7h at hask;generalize hv:(wdL line).getD 0 []=verb at *
 generalize hv1:(wdL line).getD 1 []=w1 at *
 generalize hv2:(wdL line).getD 2 []=w2 at *
 refine awL hΓ [3,200004,200005,200006,200035] rfl ?_;simp only [go_sem,hv];refine⟨by omega,by omega,?_⟩;by_cases h1:verb=[109,101,114,103,101]
 ·have i1:=eq_true h1;have e:anP line w x=(Lib.itoa (a7s x.1.1 x.1.2.1 x.1.2.2 x.2.1).2.2.2.2.2.2,((a7s x.1.1 x.1.2.1 x.1.2.2 x.2.1).1,a7s x.1.1 x.1.2.1 x.1.2.2 x.2.1),x):=by unfold anP;rw [hv,if_pos h1]
  rw [e] at hK;obtain⟨⟨ta,tb,tc⟩,⟨⟨l1,l2,l3⟩,sty,wid,fv⟩,hasD⟩:=x;dsimp only at hx hlb;have hM:=a6x hx;dsimp only at hK;have hcn:=c3i (o:=((l1,l2,l3),sty,wid,fv)) hx hlb;generalize hR:a7s ta tb tc ((l1,l2,l3),sty,wid,fv)=R at *
  obtain⟨d,p1,p2,k,t,wi,n⟩:=R;dsimp only at hcn;refine awL hΓ [200004,200005,200006,200035] rfl ?_;simp only [go_sem,i1];refine AW.drawZ hΓ mixed 30 [] [] [] (by kernel_rfl) ?_;simp only [go_sem];refine AW.cut ⟨[(0,.pt 0 v 0),(1,.pt 1 u 0),(8,.pt 2 nx 0)],[(0,.box v 50 8 (eWl.enc w)),(1,.box u 110 16 (rsC ((ta,tb,tc),((l1,l2,l3),sty,wid,fv),hasD))),(2,.box nx 75 6 (eOp.enc ((l1,l2,l3),sty,wid,fv)))],261,3,nx+1,[]⟩ ?_ ?_
  ·simp only [go_sem];refine⟨rlR,rlR,a0c.box fun j hj=>?_⟩;have hc:j=0\/j=1\/j=2\/j=3\/j=4\/j=5:=by omega
   rcases hc with rfl|rfl|rfl|rfl|rfl|rfl<;>exact avR
  refine AW.drawZ hΓ mixed 21 [22] [19,22] [] (by kernel_rfl) ?_;simp only [go_sem,hR];refine⟨⟨hM,hlb⟩,?_⟩;refine AW.drawK hΓ mixed 7 [8,9] [4,8,9] [] [3] (by decide +kernel) ?_;simp only [go_sem,a19];refine⟨⟨⟨by omega,by omega⟩,by omega⟩,?_⟩;refine⟨_,a0e (fun p=>p) (l:=[(6,.st (Lib.itoa n))]) (r:=[(0,.box v 50 8 (eWl.enc ((d,d,p1,p2,k,t,wi,n)))),(1,.box u 110 16 (rsC (((ta,tb,tc),((l1,l2,l3),sty,wid,fv),hasD))))]) (sz:=261) (top:=2) (nx:=nx+1+1) (df:=[]) ?_,?_⟩
  ·simp only [go_sem];refine⟨?_,?_⟩
   ·refine a0c.box fun j hj=>?_
    have hc:j=0\/j=1\/j=2\/j=3\/j=4\/j=5\/j=6\/j=7:=by omega
    rcases hc with rfl|rfl|rfl|rfl|rfl|rfl|rfl|rfl<;>exact avR
   ·exact rlR
  ·simp only [go_sem];exact hK _ (by omega)
 have i1:=eq_false h1;rcases hask with h|hask
 ·exact absurd h h1
 obtain⟨d0,d,w1',w2',k,t,wi,n⟩:=w;refine awL hΓ [8,200004,200005,200006,200035] rfl ?_;simp only [go_sem,i1];by_cases h_text:verb=[116,101,120,116]
 ·have i2:=eq_true h_text
  have hmm:a9q (d0,t,wi,k):=by
   rcases hask with⟨_,h⟩|⟨h,_⟩|⟨h,_⟩|⟨h,_⟩|⟨h,_⟩
   ·exact h
   all_goals (rw [h_text] at h;exact absurd h (by decide))
  have ht:=hmm.txt;dsimp only at ht
  have e:anP line (d0,d,w1',w2',k,t,wi,n) x=(a2P t,(d0,d,w1',w2',k,t,wi,n),x):=by
   unfold anP;rw [hv,if_neg h1,if_pos (.inl h_text)];unfold a5t;rw [if_pos h_text];rfl
  rw [e] at hK;refine awL hΓ [200004,200005,200006,200035] rfl ?_;simp only [go_sem,i2,a19];refine⟨by omega,?_⟩;refine⟨_,a0e (fun p=>p) (l:=[(6,.st (a2P t))]) (r:=[(0,.box v 50 8 (eWl.enc ((d0,d,w1',w2',k,t,wi,n)))),(1,.box u 110 16 (rsC (x)))]) (sz:=261) (top:=2) (nx:=nx) (df:=[]) ?_,?_⟩
  ·simp only [go_sem];refine⟨?_,?_⟩
   ·exact rlR
   ·exact rlR
  ·simp only [go_sem];exact hK _ (nLR _)
 have i2:=eq_false h_text;refine awL hΓ [10,200004,200005,200006,200035] rfl ?_;simp only [go_sem,i2];by_cases h_wide:verb=[119,105,100,101]
 ·have i2:=eq_true h_wide
  have hmm:a9q (d0,t,wi,k):=by
   rcases hask with⟨_,h⟩|⟨h,_⟩|⟨h,_⟩|⟨h,_⟩|⟨h,_⟩
   ·exact h
   all_goals (rw [h_wide] at h;exact absurd h (by decide))
  have ht0:=hmm.w0;have ht1:=hmm.w1;dsimp only at ht0 ht1
  have e:anP line (d0,d,w1',w2',k,t,wi,n) x=(Lib.itoa wi,(d0,d,w1',w2',k,t,wi,n),x):=by
   unfold anP;rw [hv,if_neg h1,if_pos (.inr (.inl h_wide))];unfold a5t;rw [if_neg h_text,if_pos h_wide];rfl
  rw [e] at hK;refine awL hΓ [200004,200005,200006,200035] rfl ?_;simp only [go_sem,i2,a19];refine⟨⟨⟨by omega,by omega⟩,by omega⟩,?_⟩;refine⟨_,a0e (fun p=>p) (l:=[(6,.st (Lib.itoa wi))]) (r:=[(0,.box v 50 8 (eWl.enc ((d0,d,w1',w2',k,t,wi,n)))),(1,.box u 110 16 (rsC (x)))]) (sz:=261) (top:=2) (nx:=nx) (df:=[]) ?_,?_⟩
  ·simp only [go_sem];refine⟨?_,?_⟩
   ·exact rlR
   ·exact rlR
  ·simp only [go_sem];exact hK _ (nLR _)
 have i2:=eq_false h_wide;refine awL hΓ [12,200004,200005,200006,200035] rfl ?_;simp only [go_sem,i2];by_cases h_chunks:verb=[99,104,117,110,107,115]
 ·have i2:=eq_true h_chunks
  have hmm:a9q (d0,t,wi,k):=by
   rcases hask with⟨_,h⟩|⟨h,_⟩|⟨h,_⟩|⟨h,_⟩|⟨h,_⟩
   ·exact h
   all_goals (rw [h_chunks] at h;exact absurd h (by decide))
  have hck:=hmm.cks;dsimp only at hck
  have e:anP line (d0,d,w1',w2',k,t,wi,n) x=(a7D k,(d0,d,w1',w2',k,t,wi,n),x):=by
   unfold anP;rw [hv,if_neg h1,if_pos (.inr (.inr (.inl h_chunks)))];unfold a5t;rw [if_neg h_text,if_neg h_wide,if_pos h_chunks];rfl
  rw [e] at hK;refine awL hΓ [200004,200005,200006,200035] rfl ?_;simp only [go_sem,i2,a19];refine⟨hck,?_⟩;refine⟨_,a0e (fun p=>p) (l:=[(6,.st (a7D k))]) (r:=[(0,.box v 50 8 (eWl.enc ((d0,d,w1',w2',k,t,wi,n)))),(1,.box u 110 16 (rsC (x)))]) (sz:=261) (top:=2) (nx:=nx) (df:=[]) ?_,?_⟩
  ·simp only [go_sem];refine⟨?_,?_⟩
   ·exact rlR
   ·exact rlR
  ·simp only [go_sem];exact hK _ (nLR _)
 have i2:=eq_false h_chunks;refine awL hΓ [14,200004,200005,200006,200035] rfl ?_;simp only [go_sem,i2];by_cases h_show:verb=[115,104,111,119]
 ·have i2:=eq_true h_show
  have hmm:a9q (d0,t,wi,k):=by
   rcases hask with⟨_,h⟩|⟨h,_⟩|⟨h,_⟩|⟨h,_⟩|⟨h,_⟩
   ·exact h
   all_goals (rw [h_show] at h;exact absurd h (by decide))
  have hpr:=hmm.printR;have hpl:=hmm.print;have hok:=hmm.ok;dsimp only at hpr hpl;have hok1:d0.length<100000000:=hok.1;have hok2:∀ p∈d0,b22 p:=hok.2.1
  have e:anP line (d0,d,w1',w2',k,t,wi,n) x=(a1G (printR d0 wi).1 (printR d0 wi).2,(d0,d,w1',w2',k,t,wi,n),x):=by
   unfold anP;rw [hv,if_neg h1,if_pos (.inr (.inr (.inr h_show)))];unfold a5t;rw [if_neg h_text,if_neg h_wide,if_neg h_chunks];rfl
  rw [e] at hK;refine awL hΓ [200004,200005,200006,200035] rfl ?_;simp only [go_sem,i2,a19];refine⟨⟨⟨hok1,hok2⟩,fun _=>by omega⟩,⟨by omega,hpr.2⟩,?_⟩;refine⟨_,a0e (fun p=>p) (l:=[(6,.st (a1G (printR d0 wi).1 (printR d0 wi).2))]) (r:=[(0,.box v 50 8 (eWl.enc ((d0,d,w1',w2',k,t,wi,n)))),(1,.box u 110 16 (rsC (x)))]) (sz:=261) (top:=2) (nx:=nx) (df:=[]) ?_,?_⟩
  ·simp only [go_sem];refine⟨?_,?_⟩
   ·exact rlR
   ·exact rlR
  ·simp only [go_sem];exact hK _ (nLR _)
 have i2:=eq_false h_show;refine awL hΓ [16,200004,200005,200006,200035] rfl ?_;simp only [go_sem,i2];by_cases h_res:verb=[114,101,115,111,108,118,101]
 ·have i2:=eq_true h_res
  have hr:(wdL line).length=2/\a9q (d0,t,wi,k):=by
   rcases hask with⟨h,_⟩|⟨_,h⟩|⟨h,_⟩|⟨h,_⟩|⟨h,_⟩
   ·exact absurd h (fun h=>h.elim h_text (fun h=>h.elim h_wide (fun h=>h.elim h_chunks h_show)))
   ·exact h
   all_goals (rw [h_res] at h;exact absurd h (by decide))
  obtain⟨hlen,hmm⟩:=hr;have hok:=hmm.ok;have hok1:d0.length<100000000:=hok.1;have hok2:∀ p∈d0,b22 p:=hok.2.1;have hok3:a5x d0<=100000000:=hok.2.2;have hall:=c0c d0 (a0B w1).1
  have e:anP line (d0,d,w1',w2',k,t,wi,n) x=(a1G (a9B d0 (a0B w1).1).1 (a9B d0 (a0B w1).1).2,(d0,d,w1',w2',k,t,wi,n),x):=by
   unfold anP;rw [hv,if_neg h1,if_neg (fun h=>h.elim h_text (fun h=>h.elim h_wide (fun h=>h.elim h_chunks h_show))),if_pos h_res,hv1]
  rw [e] at hK;refine awL hΓ [200004,200005,200006,200035] rfl ?_;simp only [go_sem,i2,hv1];refine⟨by omega,⟨hok1,hok2,by omega⟩,⟨by omega,hall.2⟩,?_⟩;refine⟨_,a0e (fun p=>p) (l:=[(6,.st (a1G (a9B d0 (a0B w1).1).1 (a9B d0 (a0B w1).1).2))]) (r:=[(0,.box v 50 8 (eWl.enc ((d0,d,w1',w2',k,t,wi,n)))),(1,.box u 110 16 (rsC (x)))]) (sz:=261) (top:=2) (nx:=nx) (df:=[]) ?_,?_⟩
  ·simp only [go_sem];refine⟨?_,?_⟩
   ·exact rlR
   ·exact rlR
  ·simp only [go_sem];exact hK _ (nLR _)
 have i2:=eq_false h_res;refine awL hΓ [18,200004,200005,200006,200035] rfl ?_;simp only [go_sem,i2];by_cases h_pick:verb=[112,105,99,107]
 ·have i2:=eq_true h_pick
  have hr:(wdL line).length=3/\(∃ n,a3o w1=some n)/\a9q (d0,t,wi,k):=by
   rcases hask with⟨h,_⟩|⟨h,_⟩|⟨_,h⟩|⟨h,_⟩|⟨h,_⟩
   ·exact absurd h (fun h=>h.elim h_text (fun h=>h.elim h_wide (fun h=>h.elim h_chunks h_show)))
   ·exact absurd h h_res
   ·exact h
   all_goals (rw [h_pick] at h;exact absurd h (by decide))
  obtain⟨hlen,⟨q,hn⟩,hmm⟩:=hr;have hok:=hmm.ok;have hok1:d0.length<100000000:=hok.1;have hok2:∀ p∈d0,b22 p:=hok.2.1;have hok3:a5x d0<=100000000:=hok.2.2;have hq:=a1m hn
  have gN:gI (q:Int):=by
   have ht:=a2D w1;rw [hn] at ht;rcases ht with⟨k,h1,h4,h3⟩|⟨h4,h3⟩
   ·have:=oJI h3;unfold gI;omega
   ·cases h3
  have hin:=c0Z d0 q (a0B w2).1;have hol:=b1V d0 q (a0B w2).1;have hcl:=a27 (a38 d0 q (a0B w2).1).1;by_cases hz:(a38 d0 q (a0B w2).1).2=0
  ·have e:anP line (d0,d,w1',w2',k,t,wi,n) x=(Lib.itoa (a0k (a38 d0 q (a0B w2).1).1:Nat),((a38 d0 q (a0B w2).1).1,d,w1',w2',k,t,wi,n),x):=by
    unfold anP;rw [hv,if_neg h1,if_neg (fun h=>h.elim h_text (fun h=>h.elim h_wide (fun h=>h.elim h_chunks h_show))),if_neg h_res,if_pos h_pick,hv1,hv2,hq,if_pos hz]
   rw [e] at hK;refine awL hΓ [200004,200005,200006,200035] rfl ?_;simp only [go_sem,i2,hv1,hv2,hq,hz,a19];refine⟨by omega,by omega,⟨hok1,hok2,hok3,gN⟩,by omega,⟨⟨by omega,by omega⟩,by omega⟩,?_⟩;refine⟨_,a0e (fun p=>p) (l:=[(6,.st (Lib.itoa (a0k (a38 d0 q (a0B w2).1).1:Nat)))]) (r:=[(0,.box v 50 8 (eWl.enc (((a38 d0 q (a0B w2).1).1,d,w1',w2',k,t,wi,n)))),(1,.box u 110 16 (rsC (x)))]) (sz:=261) (top:=2) (nx:=nx) (df:=[]) ?_,?_⟩
   ·simp only [go_sem];refine⟨?_,?_⟩
    ·refine a0c.box fun j hj=>?_
     have hc:j=0\/j=1\/j=2\/j=3\/j=4\/j=5\/j=6\/j=7:=by omega
     rcases hc with rfl|rfl|rfl|rfl|rfl|rfl|rfl|rfl<;>exact avR
    ·exact rlR
   ·simp only [go_sem];exact hK _ (nLR _)
  ·have e:anP line (d0,d,w1',w2',k,t,wi,n) x=(a7t (a38 d0 q (a0B w2).1).2,(d0,d,w1',w2',k,t,wi,n),x):=by
    unfold anP;rw [hv,if_neg h1,if_neg (fun h=>h.elim h_text (fun h=>h.elim h_wide (fun h=>h.elim h_chunks h_show))),if_neg h_res,if_pos h_pick,hv1,hv2,hq,if_neg hz]
   rw [e] at hK;refine awL hΓ [200004,200005,200006,200035] rfl ?_;simp only [go_sem,i2,hv1,hv2,hq,hz,a19];refine⟨by omega,by omega,⟨hok1,hok2,hok3,gN⟩,hin,?_⟩;refine⟨_,a0e (fun p=>p) (l:=[(6,.st (a7t (a38 d0 q (a0B w2).1).2))]) (r:=[(0,.box v 50 8 (eWl.enc ((d0,d,w1',w2',k,t,wi,n)))),(1,.box u 110 16 (rsC (x)))]) (sz:=261) (top:=2) (nx:=nx) (df:=[]) ?_,?_⟩
   ·simp only [go_sem];refine⟨?_,?_⟩
    ·exact rlR
    ·exact rlR
   ·simp only [go_sem];exact hK _ (nLR _)
 have i2:=eq_false h_pick;refine awL hΓ [24,200004,200005,200006,200035] rfl ?_;simp only [go_sem,i2];by_cases h_diff:verb=[100,105,102,102]
 ·have i2:=eq_true h_diff
  have hr:(wdL line).length=3/\0<=a0M w1/\∃ n,n<=100/\a3o w2=some n:=by
   rcases hask with⟨h,_⟩|⟨h,_⟩|⟨h,_⟩|⟨_,h⟩|⟨h,_⟩
   ·exact absurd h (fun h=>h.elim h_text (fun h=>h.elim h_wide (fun h=>h.elim h_chunks h_show)))
   ·exact absurd h h_res
   ·exact absurd h h_pick
   ·exact h
   ·rw [h_diff] at h;exact absurd h (by decide)
  obtain⟨hlen,hf,q,hq1,hn⟩:=hr;have hq:=a1m hn;rcases b0u w1 with⟨f1,f2⟩|⟨f1,f2⟩|⟨f1,f2⟩|⟨f1,f2⟩
  ·rw [f1] at hf;exact absurd hf (by decide)
  ·have hd:b0D x.1.1 x.1.1 q:=b5Q (by omega) q;have e3:rtx x (a0M w1)=x.1.1:=by rw [f1];rfl
   have e:anP line (d0,d,w1',w2',k,t,wi,n) x=(a2P (a1E (ofP (a25 (a0a x.1.1) (a0a x.1.1)) q)),(d0,d,w1',w2',k,t,wi,n),x):=by
    unfold anP;rw [hv,if_neg h1,if_neg (fun h=>h.elim h_text (fun h=>h.elim h_wide (fun h=>h.elim h_chunks h_show))),if_neg h_res,if_neg h_pick,if_pos h_diff,hv1,hv2,hq,e3,Int.toNat_natCast];rfl
   rw [e] at hK;have hdl:=a3K hd;have hdl:(a1E (ofP (a25 (a0a x.1.1) (a0a x.1.1)) q)).length<=50000000:=hdl;obtain⟨p1,p2,p3,p4,p5⟩:=hd.good;have q1:=hd.len;have q2:=hd.each;have q3:=hd.right;have la:=a0l x.1.1;have lb:=a0l x.1.1;have n0:((a0X [] [a0a x.1.1,a0a x.1.1]).getD 0 []).length=(a0a x.1.1).length:=by simp [a0X,a1n]
   have n1:((a0X [] [a0a x.1.1,a0a x.1.1]).getD 1 []).length=(a0a x.1.1).length:=by simp [a0X,a1n]
   have n3:(a0X [] [a0a x.1.1,a0a x.1.1]).length=2:=by rw [a2m];rfl
   have hr2:rgt (a7S (a0a x.1.1) (a0a x.1.1)) (a8a (a0a x.1.1) (a0a x.1.1)) (-1) (-1) (a1V ((a0X [] [a0a x.1.1,a0a x.1.1]).getD 0 []) ((a0X [] [a0a x.1.1,a0a x.1.1]).getD 1 []))=true:=a2x _ _;have e0:ofG (a0a x.1.1) (a0a x.1.1) (a1V ((a0X [] [a0a x.1.1,a0a x.1.1]).getD 0 []) ((a0X [] [a0a x.1.1,a0a x.1.1]).getD 1 [])) 0 0 []=a25 (a0a x.1.1) (a0a x.1.1):=rfl;have hI3:(0<=(q:Int))=True:=eq_true (by omega);have hI4:((q:Int)<=100)=True:=eq_true (by omega);have hm:=a1u ((a0X [] [a0a x.1.1,a0a x.1.1]).getD 0 []) ((a0X [] [a0a x.1.1,a0a x.1.1]).getD 1 []);have c1:=a2W ((a0X [] [a0a x.1.1,a0a x.1.1]).getD 0 []) ((a0X [] [a0a x.1.1,a0a x.1.1]).getD 1 []);have c3:=hm.2;refine awL hΓ [200004,200005,200006,200035,99999] rfl ?_;simp only [go_sem,i2,hv1,hv2,hq,f1,n3,hr2,e0,q3,hI3,hI4];refine⟨by omega,by omega,by omega,by omega,⟨by omega,by omega⟩,⟨by omega,by omega,by omega⟩,by omega,⟨q1,q2⟩,⟨p3,p4,by omega⟩,by omega,?_⟩;refine⟨_,a0e (fun p=>p) (l:=[(6,.st (a2P (a1E (ofP (a25 (a0a x.1.1) (a0a x.1.1)) q))))]) (r:=[(0,.box v 50 8 (eWl.enc ((d0,d,w1',w2',k,t,wi,n)))),(1,.box u 110 16 (rsC (x)))]) (sz:=261) (top:=2) (nx:=nx) (df:=[]) ?_,?_⟩
   ·simp only [go_sem];refine⟨?_,?_⟩
    ·exact rlR
    ·exact rlR
   ·simp only [go_sem];exact hK _ (nLR _)
  ·have hd:b0D x.1.1 x.1.2.1 q:=b1B (by omega) q;have e3:rtx x (a0M w1)=x.1.2.1:=by rw [f1];rfl
   have e:anP line (d0,d,w1',w2',k,t,wi,n) x=(a2P (a1E (ofP (a25 (a0a x.1.1) (a0a x.1.2.1)) q)),(d0,d,w1',w2',k,t,wi,n),x):=by
    unfold anP;rw [hv,if_neg h1,if_neg (fun h=>h.elim h_text (fun h=>h.elim h_wide (fun h=>h.elim h_chunks h_show))),if_neg h_res,if_neg h_pick,if_pos h_diff,hv1,hv2,hq,e3,Int.toNat_natCast];rfl
   rw [e] at hK;have hdl:=a3K hd;have hdl:(a1E (ofP (a25 (a0a x.1.1) (a0a x.1.2.1)) q)).length<=50000000:=hdl;obtain⟨p1,p2,p3,p4,p5⟩:=hd.good;have q1:=hd.len;have q2:=hd.each;have q3:=hd.right;have la:=a0l x.1.1;have lb:=a0l x.1.2.1;have n0:((a0X [] [a0a x.1.1,a0a x.1.2.1]).getD 0 []).length=(a0a x.1.1).length:=by simp [a0X,a1n]
   have n1:((a0X [] [a0a x.1.1,a0a x.1.2.1]).getD 1 []).length=(a0a x.1.2.1).length:=by simp [a0X,a1n]
   have n3:(a0X [] [a0a x.1.1,a0a x.1.2.1]).length=2:=by rw [a2m];rfl
   have hr2:rgt (a7S (a0a x.1.1) (a0a x.1.2.1)) (a8a (a0a x.1.1) (a0a x.1.2.1)) (-1) (-1) (a1V ((a0X [] [a0a x.1.1,a0a x.1.2.1]).getD 0 []) ((a0X [] [a0a x.1.1,a0a x.1.2.1]).getD 1 []))=true:=a2x _ _;have e0:ofG (a0a x.1.1) (a0a x.1.2.1) (a1V ((a0X [] [a0a x.1.1,a0a x.1.2.1]).getD 0 []) ((a0X [] [a0a x.1.1,a0a x.1.2.1]).getD 1 [])) 0 0 []=a25 (a0a x.1.1) (a0a x.1.2.1):=rfl;have hI3:(0<=(q:Int))=True:=eq_true (by omega);have hI4:((q:Int)<=100)=True:=eq_true (by omega);have hm:=a1u ((a0X [] [a0a x.1.1,a0a x.1.2.1]).getD 0 []) ((a0X [] [a0a x.1.1,a0a x.1.2.1]).getD 1 []);have c1:=a2W ((a0X [] [a0a x.1.1,a0a x.1.2.1]).getD 0 []) ((a0X [] [a0a x.1.1,a0a x.1.2.1]).getD 1 []);have c3:=hm.2;refine awL hΓ [200004,200005,200006,200035,99999] rfl ?_;simp only [go_sem,i2,hv1,hv2,hq,f1,n3,hr2,e0,q3,hI3,hI4];refine⟨by omega,by omega,by omega,⟨by omega,by omega⟩,⟨by omega,by omega⟩,⟨by omega,by omega,by omega⟩,by omega,⟨q1,q2⟩,⟨p3,p4,by omega⟩,by omega,?_⟩;refine⟨_,a0e (fun p=>p) (l:=[(6,.st (a2P (a1E (ofP (a25 (a0a x.1.1) (a0a x.1.2.1)) q))))]) (r:=[(0,.box v 50 8 (eWl.enc ((d0,d,w1',w2',k,t,wi,n)))),(1,.box u 110 16 (rsC (x)))]) (sz:=261) (top:=2) (nx:=nx) (df:=[]) ?_,?_⟩
   ·simp only [go_sem];refine⟨?_,?_⟩
    ·exact rlR
    ·exact rlR
   ·simp only [go_sem];exact hK _ (nLR _)
  ·have hd:b0D x.1.1 x.1.2.2 q:=b1B (by omega) q;have e3:rtx x (a0M w1)=x.1.2.2:=by rw [f1];rfl
   have e:anP line (d0,d,w1',w2',k,t,wi,n) x=(a2P (a1E (ofP (a25 (a0a x.1.1) (a0a x.1.2.2)) q)),(d0,d,w1',w2',k,t,wi,n),x):=by
    unfold anP;rw [hv,if_neg h1,if_neg (fun h=>h.elim h_text (fun h=>h.elim h_wide (fun h=>h.elim h_chunks h_show))),if_neg h_res,if_neg h_pick,if_pos h_diff,hv1,hv2,hq,e3,Int.toNat_natCast];rfl
   rw [e] at hK;have hdl:=a3K hd;have hdl:(a1E (ofP (a25 (a0a x.1.1) (a0a x.1.2.2)) q)).length<=50000000:=hdl;obtain⟨p1,p2,p3,p4,p5⟩:=hd.good;have q1:=hd.len;have q2:=hd.each;have q3:=hd.right;have la:=a0l x.1.1;have lb:=a0l x.1.2.2;have n0:((a0X [] [a0a x.1.1,a0a x.1.2.2]).getD 0 []).length=(a0a x.1.1).length:=by simp [a0X,a1n]
   have n1:((a0X [] [a0a x.1.1,a0a x.1.2.2]).getD 1 []).length=(a0a x.1.2.2).length:=by simp [a0X,a1n]
   have n3:(a0X [] [a0a x.1.1,a0a x.1.2.2]).length=2:=by rw [a2m];rfl
   have hr2:rgt (a7S (a0a x.1.1) (a0a x.1.2.2)) (a8a (a0a x.1.1) (a0a x.1.2.2)) (-1) (-1) (a1V ((a0X [] [a0a x.1.1,a0a x.1.2.2]).getD 0 []) ((a0X [] [a0a x.1.1,a0a x.1.2.2]).getD 1 []))=true:=a2x _ _;have e0:ofG (a0a x.1.1) (a0a x.1.2.2) (a1V ((a0X [] [a0a x.1.1,a0a x.1.2.2]).getD 0 []) ((a0X [] [a0a x.1.1,a0a x.1.2.2]).getD 1 [])) 0 0 []=a25 (a0a x.1.1) (a0a x.1.2.2):=rfl;have hI3:(0<=(q:Int))=True:=eq_true (by omega);have hI4:((q:Int)<=100)=True:=eq_true (by omega);have hm:=a1u ((a0X [] [a0a x.1.1,a0a x.1.2.2]).getD 0 []) ((a0X [] [a0a x.1.1,a0a x.1.2.2]).getD 1 []);have c1:=a2W ((a0X [] [a0a x.1.1,a0a x.1.2.2]).getD 0 []) ((a0X [] [a0a x.1.1,a0a x.1.2.2]).getD 1 []);have c3:=hm.2;refine awL hΓ [200004,200005,200006,200035,99999] rfl ?_;simp only [go_sem,i2,hv1,hv2,hq,f1,n3,hr2,e0,q3,hI3,hI4];refine⟨by omega,by omega,by omega,⟨by omega,by omega⟩,⟨by omega,by omega⟩,⟨by omega,by omega,by omega⟩,by omega,⟨q1,q2⟩,⟨p3,p4,by omega⟩,by omega,?_⟩;refine⟨_,a0e (fun p=>p) (l:=[(6,.st (a2P (a1E (ofP (a25 (a0a x.1.1) (a0a x.1.2.2)) q))))]) (r:=[(0,.box v 50 8 (eWl.enc ((d0,d,w1',w2',k,t,wi,n)))),(1,.box u 110 16 (rsC (x)))]) (sz:=261) (top:=2) (nx:=nx) (df:=[]) ?_,?_⟩
   ·simp only [go_sem];refine⟨?_,?_⟩
    ·exact rlR
    ·exact rlR
   ·simp only [go_sem];exact hK _ (nLR _)
 have i2:=eq_false h_diff
 have hr:(wdL line).length=2/\∃ n,a3o w1=some n:=by
  rcases hask with⟨h,_⟩|⟨h,_⟩|⟨h,_⟩|⟨h,_⟩|⟨_,h⟩
  ·exact absurd h (fun h=>h.elim h_text (fun h=>h.elim h_wide (fun h=>h.elim h_chunks h_show)))
  ·exact absurd h h_res
  ·exact absurd h h_pick
  ·exact absurd h h_diff
  ·exact h
 obtain⟨hlen,q,hn⟩:=hr;have hq:=a1m hn
 have gN:0<=(q:Int)/\(q:Int)<=1000000:=by
  have ht:=a2D w1;rw [hn] at ht;rcases ht with⟨k,h1,h4,h3⟩|⟨h4,h3⟩
  ·have:=oJI h3;omega
  ·cases h3
 have hin:=b1T x.1.1 q;have hsl:=a0l x.1.1;have hcl:=a27 (a0V x.1.1 q).1;by_cases hz:(a0V x.1.1 q).2.1=0
 ·have e:anP line (d0,d,w1',w2',k,t,wi,n) x=(Lib.itoa (a0k (a0V x.1.1 q).1:Nat),((a0V x.1.1 q).1,[],[],[],[],x.1.1,(q:Int),0),(x.1,x.2.1,true)):=by
   unfold anP;rw [hv,if_neg h1,if_neg (fun h=>h.elim h_text (fun h=>h.elim h_wide (fun h=>h.elim h_chunks h_show))),if_neg h_res,if_neg h_pick,if_neg h_diff,hv1,hq,if_pos hz]
  rw [e] at hK;refine awL hΓ [200004,200005,200006,200035] rfl ?_;simp only [go_sem,i2,hv1,hq,hz,a19];refine⟨by omega,by omega,?_⟩;refine AW.drawK hΓ mixed 15 [16,17] [4,5,6,7,9,10,11,12,16,17] [] [1] (by decide +kernel) ?_;simp only [go_sem,hv1,hq,a19];refine⟨by omega,by omega,⟨⟨by omega,by omega⟩,by omega⟩,?_⟩;refine⟨_,a0e (fun p=>p) (l:=[(6,.st (Lib.itoa (a0k (a0V x.1.1 q).1:Nat)))]) (r:=[(0,.box v 50 8 (eWl.enc (((a0V x.1.1 q).1,[],[],[],[],x.1.1,(q:Int),0)))),(1,.box u 110 16 (rsC ((x.1,x.2.1,true))))]) (sz:=261) (top:=2) (nx:=nx) (df:=[]) ?_,?_⟩
  ·simp only [go_sem];refine⟨?_,?_⟩
   ·refine a0c.box fun j hj=>?_
    have hc:j=0\/j=1\/j=2\/j=3\/j=4\/j=5\/j=6\/j=7:=by omega
    rcases hc with rfl|rfl|rfl|rfl|rfl|rfl|rfl|rfl<;>first|exact avR|exact a2K _
   ·refine a0c.box fun j hj=>?_
    have hc:j=0\/j=1\/j=2\/j=3\/j=4\/j=5\/j=6\/j=7\/j=8\/j=9\/j=10\/j=11\/j=12\/j=13\/j=14\/j=15:=by omega
    rcases hc with rfl|rfl|rfl|rfl|rfl|rfl|rfl|rfl|rfl|rfl|rfl|rfl|rfl|rfl|rfl|rfl<;>exact avR
  ·simp only [go_sem];exact hK _ (nLR _)
 ·have e:anP line (d0,d,w1',w2',k,t,wi,n) x=(a7t (a0V x.1.1 q).2.1++[32]++Lib.itoa (a0V x.1.1 q).2.2,(d0,d,w1',w2',k,t,wi,n),x):=by
   unfold anP;rw [hv,if_neg h1,if_neg (fun h=>h.elim h_text (fun h=>h.elim h_wide (fun h=>h.elim h_chunks h_show))),if_neg h_res,if_neg h_pick,if_neg h_diff,hv1,hq,if_neg hz]
  rw [e] at hK;have hel:=b6v (a0V x.1.1 q).2.1;have hil:=a3j (n:=(a0V x.1.1 q).2.2) (by omega) (by omega);refine awL hΓ [200004,200005,200006,200035] rfl ?_;simp only [go_sem,i2,hv1,hq,hz,a19];refine⟨by omega,by omega,hin.1,by omega,⟨⟨by omega,by omega⟩,by omega⟩,by omega,?_⟩;refine⟨_,a0e (fun p=>p) (l:=[(6,.st (a7t (a0V x.1.1 q).2.1++[32]++Lib.itoa (a0V x.1.1 q).2.2))]) (r:=[(0,.box v 50 8 (eWl.enc ((d0,d,w1',w2',k,t,wi,n)))),(1,.box u 110 16 (rsC (x)))]) (sz:=261) (top:=2) (nx:=nx) (df:=[]) ?_,?_⟩
  ·simp only [go_sem];refine⟨?_,?_⟩
   ·exact rlR
   ·exact rlR
  ·simp only [go_sem];exact hK _ (nLR _)
@[go_sem] noncomputable def d6b:a0p:=a0U b8H
theorem d1C:a0f Tryz.prog 22 d6b:=d0A.frame
def ss0:Ss:=(([],[],[]),(([],[],[]),0,7,0),none)
def b31 (hp:Nat->Row) (top nx:Nat):Nat->Row:=a0y (a0y (a0y (a0y hp (top+1) (a0i (nx+1) [])) (top+2) (a0i (nx+2) [])) (top+3) (a0i (nx+3) [])) top (.box nx 106 10 (shC (top+1) (top+2) (top+3) (top+4) (nx+1) (nx+2) (nx+3) 0 ss0))
theorem c3T (hp:Nat->Row) (top nx:Nat) (B0 B1 B2 B3:Row) (hB:a0c B3 (.box nx 106 10 (shC (top+1) (top+2) (top+3) (top+4) (nx+1) (nx+2) (nx+3) 0 ss0))) (p:Nat) :
  b31 hp top nx p=.dead\/a0c (a0y (a0y (a0y (a0y (a0y (a0y (a0y hp top B0) (top+1) (a0i (nx+1) [])) top B1) (top+2) (a0i (nx+2) [])) top B2) (top+3) (a0i (nx+3) [])) top B3 p) (b31 hp top nx p):=by
 refine .inr ?_;unfold b31;by_cases h0:p=top
 ·subst h0;rw [a0g,a0g];exact hB
 ·rw [a0d _ _ h0,a0d _ _ h0];by_cases h3:p=top+3
  ·subst h3;rw [a0g,a0g];exact rlR
  ·rw [a0d _ _ h3,a0d _ _ h3,a0d _ _ h0];by_cases h2:p=top+2
   ·subst h2;rw [a0g,a0g];exact rlR
   ·rw [a0d _ _ h2,a0d _ _ h2,a0d _ _ h0];by_cases h1:p=top+1
    ·subst h1;rw [a0g,a0g];exact rlR
    ·rw [a0d _ _ h1,a0d _ _ h1,a0d _ _ h0];exact rlR
@[go_sem] def d6V:a0p:=fun args hp top nx K=>args=[]/\K (.pt top nx 0) (b31 hp top nx) (top+5) (nx+4)
theorem c6c:a0f Tryz.prog 18 d6V:=by
 refine a0f.mk Tryz.func18 rfl (by decide) Tryz.results18 Tryz.ntmps18 ?_;rintro args hp top nx K ⟨rfl,hK⟩;have hΓ:=gkC b66 gkN;refine⟨Nat.le_of_ble_eq_true rfl,AW.know fun hd=>AW.late ?_⟩;refine awN hΓ rfl ?_;simp only [go_sem,a9o];refine⟨⟨frm [(0,.pt top nx 0)],b31 hp top nx,4,top+5,nx+4,[]⟩,(a0H.adoptB (q:=top) 0 5 1 (a1y []) (a0g ..) rfl).trans ((a0H.adoptB (q:=top) 1 5 1 (a1y []) (a0g ..) rfl).trans ((a0H.adoptB (q:=top) 2 5 1 (a1y []) (a0g ..) rfl).trans (a0H.mk rfl rfl (fun t=>?_) (fun p=>?_) (fun p hp'=>?_) ?_))),?_⟩
 ·by_cases h:t=0
  ·subst h;exact avR
  ·have:frm [(0,.pt top nx 0)] t=.any:=by
    show (if t=0 then _ else _)=_;rw [if_neg h];rfl
   show a0h _ (frm [(0,.pt top nx 0)] t);rw [this];exact a0h.any _
 ·exact c3T hp top nx _ _ _ _ (a0c.box fun j hj=>by
   have hc:j=0\/j=1\/j=2\/j=3\/j=4\/j=5\/j=6\/j=7\/j=8\/j=9:=by omega
   rcases hc with rfl|rfl|rfl|rfl|rfl|rfl|rfl|rfl|rfl|rfl<;>exact avR) p
 ·have h':top+5<=p:=hp';show b31 hp top nx p=.dead;unfold b31;rw [a0d _ _ (by omega),a0d _ _ (by omega),a0d _ _ (by omega),a0d _ _ (by omega)];exact hd p (by exact (by omega:top<=p))
 ·exact nLR _
 ·simp only [go_sem,a9o];exact hK
end
section
theorem a1D {R:List AV->Ss->AV->Ss->Prop} {xs:List AV} {a b:Ss} {r:AV} {p0 p1 p2 p3 p4 v v1 v2 v3 v4:Nat} {hp:Nat->Row} {top nx:Nat} {K:AV->(Nat->Row)->Nat->Nat->Prop} (hR:R xs a r b) (hnd:[p0,p1,p2,p3,p4].Nodup) (ht:∀ p∈[p0,p1,p2,p3,p4],p<top)
  (h0:a0c (hp p0) (.box v 106 10 (shC p1 p2 p3 p4 v1 v2 v3 v4 a))) (h1:a0c (hp p1) (a0i v1 a.1.1)) (h2:a0c (hp p2) (a0i v2 a.1.2.1)) (h3:a0c (hp p3) (a0i v3 a.1.2.2)) (h4:a0c (hp p4) (mgR v4 a.2.2))
  (hK:∀ u1 u2 u3 u4 nx',(u1=v1\/nx<=u1)->(u2=v2\/nx<=u2)->(u3=v3\/nx<=u3)->((a.2.2.isSome=true/\u4=v4)\/nx<=u4)->nx<=nx'->K r (a0y (a0y (a0y (a0y (a0y hp p4 (mgR u4 b.2.2)) p3 (a0i u3 b.1.2.2)) p2 (a0i u2 b.1.2.1)) p1 (a0i u1 b.1.1)) p0 (.box v 106 10 (shC p1 p2 p3 p4 u1 u2 u3 u4 b))) top nx') :
  a0U (sSh R) (.pt p0 v 0::xs) hp top nx K:=by
 have w0:(hp p0).ver=some v:=h0.vers.symm;have w1:(hp p1).ver=some v1:=h1.vers.symm;have w2:(hp p2).ver=some v2:=h2.vers.symm;have w3:(hp p3).ver=some v3:=h3.vers.symm;have w4:(hp p4).ver=(mgR v4 a.2.2).ver:=h4.vers.symm;simp only [List.nodup_cons,List.mem_cons,List.not_mem_nil,or_false,not_or,List.nodup_nil,and_true] at hnd;obtain⟨⟨d01,d02,d03,d04⟩,⟨d12,d13,d14⟩,⟨d23,d24⟩,d34,_⟩:=hnd;refine⟨[p0,p1,p2,p3,p4],.pt 0 v 0::xs,rws [(0,.box v 106 10 (shC 1 2 3 4 v1 v2 v3 v4 a)),(1,a0i v1 a.1.1),(2,a0i v2 a.1.2.1),(3,a0i v3 a.1.2.2),(4,mgR v4 a.2.2)],by simp [d01,d02,d03,d04,d12,d13,d14,d23,d24,d34],ht,.cons a0h.pt (a3q.same xs),d4i (h0.trans (d4n p1 p2 p3 p4 1 2 3 4 v v1 v2 v3 v4 a)) h1 h2 h3 h4,fun i hi=>a1b (top:=5) (by simp) i (by simpa using hi),v,v1,v2,v3,v4,xs,a,r,b,rfl,hR,rfl,rfl,fun u1 u2 u3 u4 nx' g1 g2 g3 g4 hn=>?_⟩;have e0:∀ f:Nat->Row,∀ x,a0y f p0 x p0=x:=fun f x=>a0g ..
 refine⟨_,_,avR,fun i o ho=>?_,fun o ho=>?_,fun o ho w hv=>?_,hK u1 u2 u3 u4 nx' g1 g2 g3 g4 hn⟩
 ·match i with
  | 0=>
    simp only [gCZ,oSI] at ho;subst ho;rw [a0g];exact d4n 1 2 3 4 p1 p2 p3 p4 v u1 u2 u3 u4 b
  | 1=>
    simp only [gCS,gCZ,oSI] at ho;subst ho;rw [a0d _ _ (Ne.symm d01),a0g];exact rlR
  | 2=>
    simp only [gCS,gCZ,oSI] at ho;subst ho;rw [a0d _ _ (Ne.symm d02),a0d _ _ (Ne.symm d12),a0g];exact rlR
  | 3=>
    simp only [gCS,gCZ,oSI] at ho;subst ho;rw [a0d _ _ (Ne.symm d03),a0d _ _ (Ne.symm d13),a0d _ _ (Ne.symm d23),a0g];exact rlR
  | 4=>
    simp only [gCS,gCZ,oSI] at ho;subst ho;rw [a0d _ _ (Ne.symm d04),a0d _ _ (Ne.symm d14),a0d _ _ (Ne.symm d24),a0d _ _ (Ne.symm d34),a0g];exact rlR
  | i+5=>simp at ho
 ·simp only [List.mem_cons,List.not_mem_nil,or_false,not_or] at ho;obtain⟨o0,o1,o2,o3,o4⟩:=ho;rw [a0d _ _ o0,a0d _ _ o1,a0d _ _ o2,a0d _ _ o3,a0d _ _ o4]
 ·simp only [List.mem_cons,List.not_mem_nil,or_false] at ho;rcases ho with rfl|rfl|rfl|rfl|rfl
  ·rw [a0g] at hv;have:some v=some w:=hv;obtain rfl:=oJI this;exact .inl w0
  ·rw [a0d _ _ (Ne.symm d01),a0g] at hv;have:some u1=some w:=hv;obtain rfl:=oJI this;exact g1.imp (fun e=>by rw [e];exact w1) id
  ·rw [a0d _ _ (Ne.symm d02),a0d _ _ (Ne.symm d12),a0g] at hv;have:some u2=some w:=hv;obtain rfl:=oJI this;exact g2.imp (fun e=>by rw [e];exact w2) id
  ·rw [a0d _ _ (Ne.symm d03),a0d _ _ (Ne.symm d13),a0d _ _ (Ne.symm d23),a0g] at hv;have:some u3=some w:=hv;obtain rfl:=oJI this;exact g3.imp (fun e=>by rw [e];exact w3) id
  ·rw [a0d _ _ (Ne.symm d04),a0d _ _ (Ne.symm d14),a0d _ _ (Ne.symm d24),a0d _ _ (Ne.symm d34),a0g] at hv;obtain⟨_,rfl⟩:=d2B hv;rcases g4 with⟨q,rfl⟩|g4
   ·refine .inl ?_;rw [w4];cases hm:a.2.2 with
    | none=>rw [hm] at q;cases q
    | some m=>rfl
   ·exact .inr g4
attribute [local irreducible] AW a0h a0H a0c a3o
theorem a2c (l:List BS):AV.sn (l.length-1) 1 (fun i=>eS.enc (l.getD (1+i) []))=sL eS l.tail:=by
 unfold sL;rw [List.length_tail]
 congr 1
 funext i
 have e:l.tail.getD i eS.dflt=l.getD (1+i) []:=(a0R l i).trans (by rw [Nat.add_comm]);rw [e]
structure a7Y (B:Nat) (a:Ss):Prop where
 txt:a.1.1.length+a.1.2.1.length+a.1.2.2.length<=B
 lb:lbN a.2.1.1<=3000
 mg:∀ m,a.2.2=some m->a9q m
noncomputable def doP (line:BS) (a:Ss):BS×Ss:=
 if (wdL line).getD 0 []=[97,100,100] then a1Q line a
 else if (wdL line).getD 0 []=[98,97,114,101]\/(wdL line).getD 0 []=[99,108,101,97,114] then a0P ((wdL line).getD 0 []) line a
 else if (wdL line).getD 0 []=[115,116,121,108,101]\/(wdL line).getD 0 []=[119,105,100,116,104]\/(wdL line).getD 0 []=[102,97,118,111,117,114] then a0Z ((wdL line).getD 0 []) line a
 else if (wdL line).getD 0 []=[108,97,98,101,108,115] then a2Q line a
 else if (wdL line).getD 0 []=[109,101,114,103,101] then a05 line a
 else if (wdL line).getD 0 []=[116,101,120,116]\/(wdL line).getD 0 []=[119,105,100,101]\/(wdL line).getD 0 []=[99,104,117,110,107,115]\/(wdL line).getD 0 []=[115,104,111,119] then (a1a ((wdL line).getD 0 []) line a,a)
 else if (wdL line).getD 0 []=[114,101,115,111,108,118,101] then (a3x line a,a)
 else if (wdL line).getD 0 []=[112,105,99,107] then a09 line a
 else if (wdL line).getD 0 []=[100,105,102,102] then (a1w line a,a)
 else if (wdL line).getD 0 []=[112,97,114,115,101] then a04 line a
 else (a0q,a)
noncomputable def a9s (xs:List AV) (a:Ss) (r:AV) (b:Ss):Prop:=∃ line:List UInt8,xs=[.st line]/\line.length<=1000/\a7Y 9400 a/\r=.st (doP line a).1/\b=(doP line a).2
noncomputable def d1P:a0p:=sSh a9s
theorem c9v {a:Ss} (h:a7Y 9400 a):d2b a/\(0<=(c2S a).2.2.2.2.2.2/\(c2S a).2.2.2.2.2.2<=1000000):=by
 have hM:=a6x h.txt;refine⟨⟨hM,h.lb⟩,?_⟩;unfold c2S a7s;split
 ·rename_i hx;obtain⟨p1,p2,p3⟩:=c4w hx;have hF:=a52 hM p2 a.2.1.2.1 h.lb p1 a.2.1.2.2.2;have h1:=hF.len;have h2:=b6C (a0z a.1.1 a.1.2.1 a.1.2.2) (a3X (a0z a.1.1 a.1.2.1 a.1.2.2));show 0<=((b10 (a0z a.1.1 a.1.2.1 a.1.2.2) (a3X (a0z a.1.1 a.1.2.1 a.1.2.2)):Nat):Int)/\((b10 (a0z a.1.1 a.1.2.1 a.1.2.2) (a3X (a0z a.1.1 a.1.2.1 a.1.2.2)):Nat):Int)<=_;omega
 ·exact⟨by decide,by decide⟩
theorem d2Y:a0f Tryz.prog 20 d1P:=by
 refine a0f.mk Tryz.func20 rfl (by decide) Tryz.results20 Tryz.ntmps20 ?_;rintro args hp top nx K ⟨v,v1,v2,v3,v4,xs,a,r,b,rfl,⟨line,rfl,hl,hs,rfl,rfl⟩,rfl,rfl,hK⟩;have hΓ:=gkC b5O (gkM c6I (gkM c02 (gkM c6P (gkM c6m (gkM b4Q (gkM b8K (gkM b9D (gkM b5y (gkM b6l (gkM b2z gkN))))))))));refine⟨Nat.le_of_ble_eq_true rfl,AW.late ?_⟩;have hw0:=List.length_pos_iff.2 (a35 line);have hmc:=c9v hs;have htx:=hs.txt;have hsz:c6q a:=⟨by omega,by omega,by omega⟩;have hsp:a.1.1.length<=1000000:=by omega
 generalize hv:(wdL line).getD 0 []=verb at *
 by_cases h_add:verb=[97,100,100]
 ·have e:doP line a=a1Q line a:=by unfold doP;rw [hv,if_pos h_add]
  rw [e] at hK;have he:=eq_true h_add;refine awN hΓ rfl ?_;simp only [go_sem,hv,he];refine⟨by omega,by omega,⟨by omega,by omega⟩,?_⟩;rw [a2c];refine a1D (R:=c6l) ⟨line,rfl,hl,hsz,rfl,rfl⟩ (by decide) (by decide)  rlR   rlR   rlR   rlR   rlR  fun u1 u2 u3 u4 nx' g1 g2 g3 g4 hn=>?_
  simp only [go_sem];refine⟨_,a0e (fun p=>p) (l:=[(4,.st ((a1Q line a).1))]) (r:=[(0,.box v 106 10 (shC 1 2 3 4 u1 u2 u3 u4 ((a1Q line a).2))),(1,a0i u1 ((a1Q line a).2).1.1),(2,a0i u2 ((a1Q line a).2).1.2.1),(3,a0i u3 ((a1Q line a).2).1.2.2),(4,mgR u4 ((a1Q line a).2).2.2)]) (sz:=78) (top:=5) (nx:=nx') (df:=[]) ?_,?_⟩
  ·simp only [go_sem];exact⟨rlR,rlR,rlR,rlR,rlR⟩
  ·simp only [go_sem];exact hK u1 u2 u3 u4 nx' g1 g2 g3 g4 hn
 by_cases h_bare:verb=[98,97,114,101]
 ·have e:doP line a=a0P verb line a:=by unfold doP;rw [hv,if_neg h_add,if_pos (.inl h_bare)]
  rw [e] at hK;have he:=eq_true h_bare;refine awN hΓ rfl ?_;simp only [go_sem,hv,he,h_add];refine⟨by omega,by omega,⟨by omega,by omega⟩,?_⟩;rw [a2c];refine a1D (R:=c1z) ⟨verb,line,rfl,hl,hsz,rfl,rfl⟩ (by decide) (by decide)  rlR   rlR   rlR   rlR   rlR  fun u1 u2 u3 u4 nx' g1 g2 g3 g4 hn=>?_
  simp only [go_sem];refine⟨_,a0e (fun p=>p) (l:=[(4,.st ((a0P verb line a).1))]) (r:=[(0,.box v 106 10 (shC 1 2 3 4 u1 u2 u3 u4 ((a0P verb line a).2))),(1,a0i u1 ((a0P verb line a).2).1.1),(2,a0i u2 ((a0P verb line a).2).1.2.1),(3,a0i u3 ((a0P verb line a).2).1.2.2),(4,mgR u4 ((a0P verb line a).2).2.2)]) (sz:=78) (top:=5) (nx:=nx') (df:=[]) ?_,?_⟩
  ·simp only [go_sem];exact⟨rlR,rlR,rlR,rlR,rlR⟩
  ·simp only [go_sem];exact hK u1 u2 u3 u4 nx' g1 g2 g3 g4 hn
 by_cases h_clear:verb=[99,108,101,97,114]
 ·have e:doP line a=a0P verb line a:=by unfold doP;rw [hv,if_neg h_add,if_pos (.inr h_clear)]
  rw [e] at hK;have he:=eq_true h_clear;refine awN hΓ rfl ?_;simp only [go_sem,hv,he,h_add,h_bare];refine⟨by omega,by omega,⟨by omega,by omega⟩,?_⟩;rw [a2c];refine a1D (R:=c1z) ⟨verb,line,rfl,hl,hsz,rfl,rfl⟩ (by decide) (by decide)  rlR   rlR   rlR   rlR   rlR  fun u1 u2 u3 u4 nx' g1 g2 g3 g4 hn=>?_
  simp only [go_sem];refine⟨_,a0e (fun p=>p) (l:=[(4,.st ((a0P verb line a).1))]) (r:=[(0,.box v 106 10 (shC 1 2 3 4 u1 u2 u3 u4 ((a0P verb line a).2))),(1,a0i u1 ((a0P verb line a).2).1.1),(2,a0i u2 ((a0P verb line a).2).1.2.1),(3,a0i u3 ((a0P verb line a).2).1.2.2),(4,mgR u4 ((a0P verb line a).2).2.2)]) (sz:=78) (top:=5) (nx:=nx') (df:=[]) ?_,?_⟩
  ·simp only [go_sem];exact⟨rlR,rlR,rlR,rlR,rlR⟩
  ·simp only [go_sem];exact hK u1 u2 u3 u4 nx' g1 g2 g3 g4 hn
 by_cases h_style:verb=[115,116,121,108,101]
 ·have e:doP line a=a0Z verb line a:=by unfold doP;rw [hv,if_neg h_add,if_neg (fun h=>h.elim h_bare h_clear),if_pos (.inl h_style)]
  rw [e] at hK;have he:=eq_true h_style;refine awN hΓ rfl ?_;simp only [go_sem,hv,he,h_add,h_bare,h_clear];refine⟨by omega,by omega,⟨by omega,by omega⟩,?_⟩;rw [a2c];refine a1D (R:=b5j) ⟨verb,line,rfl,hl,hsz,rfl,rfl⟩ (by decide) (by decide)  rlR   rlR   rlR   rlR   rlR  fun u1 u2 u3 u4 nx' g1 g2 g3 g4 hn=>?_
  simp only [go_sem];refine⟨_,a0e (fun p=>p) (l:=[(4,.st ((a0Z verb line a).1))]) (r:=[(0,.box v 106 10 (shC 1 2 3 4 u1 u2 u3 u4 ((a0Z verb line a).2))),(1,a0i u1 ((a0Z verb line a).2).1.1),(2,a0i u2 ((a0Z verb line a).2).1.2.1),(3,a0i u3 ((a0Z verb line a).2).1.2.2),(4,mgR u4 ((a0Z verb line a).2).2.2)]) (sz:=78) (top:=5) (nx:=nx') (df:=[]) ?_,?_⟩
  ·simp only [go_sem];exact⟨rlR,rlR,rlR,rlR,rlR⟩
  ·simp only [go_sem];exact hK u1 u2 u3 u4 nx' g1 g2 g3 g4 hn
 by_cases h_width:verb=[119,105,100,116,104]
 ·have e:doP line a=a0Z verb line a:=by unfold doP;rw [hv,if_neg h_add,if_neg (fun h=>h.elim h_bare h_clear),if_pos (.inr (.inl h_width))]
  rw [e] at hK;have he:=eq_true h_width;refine awN hΓ rfl ?_;simp only [go_sem,hv,he,h_add,h_bare,h_clear,h_style];refine⟨by omega,by omega,⟨by omega,by omega⟩,?_⟩;rw [a2c];refine a1D (R:=b5j) ⟨verb,line,rfl,hl,hsz,rfl,rfl⟩ (by decide) (by decide)  rlR   rlR   rlR   rlR   rlR  fun u1 u2 u3 u4 nx' g1 g2 g3 g4 hn=>?_
  simp only [go_sem];refine⟨_,a0e (fun p=>p) (l:=[(4,.st ((a0Z verb line a).1))]) (r:=[(0,.box v 106 10 (shC 1 2 3 4 u1 u2 u3 u4 ((a0Z verb line a).2))),(1,a0i u1 ((a0Z verb line a).2).1.1),(2,a0i u2 ((a0Z verb line a).2).1.2.1),(3,a0i u3 ((a0Z verb line a).2).1.2.2),(4,mgR u4 ((a0Z verb line a).2).2.2)]) (sz:=78) (top:=5) (nx:=nx') (df:=[]) ?_,?_⟩
  ·simp only [go_sem];exact⟨rlR,rlR,rlR,rlR,rlR⟩
  ·simp only [go_sem];exact hK u1 u2 u3 u4 nx' g1 g2 g3 g4 hn
 by_cases h_favour:verb=[102,97,118,111,117,114]
 ·have e:doP line a=a0Z verb line a:=by unfold doP;rw [hv,if_neg h_add,if_neg (fun h=>h.elim h_bare h_clear),if_pos (.inr (.inr h_favour))]
  rw [e] at hK;have he:=eq_true h_favour;refine awN hΓ rfl ?_;simp only [go_sem,hv,he,h_add,h_bare,h_clear,h_style,h_width];refine⟨by omega,by omega,⟨by omega,by omega⟩,?_⟩;rw [a2c];refine a1D (R:=b5j) ⟨verb,line,rfl,hl,hsz,rfl,rfl⟩ (by decide) (by decide)  rlR   rlR   rlR   rlR   rlR  fun u1 u2 u3 u4 nx' g1 g2 g3 g4 hn=>?_
  simp only [go_sem];refine⟨_,a0e (fun p=>p) (l:=[(4,.st ((a0Z verb line a).1))]) (r:=[(0,.box v 106 10 (shC 1 2 3 4 u1 u2 u3 u4 ((a0Z verb line a).2))),(1,a0i u1 ((a0Z verb line a).2).1.1),(2,a0i u2 ((a0Z verb line a).2).1.2.1),(3,a0i u3 ((a0Z verb line a).2).1.2.2),(4,mgR u4 ((a0Z verb line a).2).2.2)]) (sz:=78) (top:=5) (nx:=nx') (df:=[]) ?_,?_⟩
  ·simp only [go_sem];exact⟨rlR,rlR,rlR,rlR,rlR⟩
  ·simp only [go_sem];exact hK u1 u2 u3 u4 nx' g1 g2 g3 g4 hn
 by_cases h_labels:verb=[108,97,98,101,108,115]
 ·have e:doP line a=a2Q line a:=by unfold doP;rw [hv,if_neg h_add,if_neg (fun h=>h.elim h_bare h_clear),if_neg (fun h=>h.elim h_style (fun h=>h.elim h_width h_favour)),if_pos h_labels]
  rw [e] at hK;have he:=eq_true h_labels;refine awN hΓ rfl ?_;simp only [go_sem,hv,he,h_add,h_bare,h_clear,h_style,h_width,h_favour];refine⟨by omega,by omega,⟨by omega,by omega⟩,?_⟩;rw [a2c];refine a1D (R:=c6V) ⟨line,rfl,hl,hsz,rfl,rfl⟩ (by decide) (by decide)  rlR   rlR   rlR   rlR   rlR  fun u1 u2 u3 u4 nx' g1 g2 g3 g4 hn=>?_
  simp only [go_sem];refine⟨_,a0e (fun p=>p) (l:=[(4,.st ((a2Q line a).1))]) (r:=[(0,.box v 106 10 (shC 1 2 3 4 u1 u2 u3 u4 ((a2Q line a).2))),(1,a0i u1 ((a2Q line a).2).1.1),(2,a0i u2 ((a2Q line a).2).1.2.1),(3,a0i u3 ((a2Q line a).2).1.2.2),(4,mgR u4 ((a2Q line a).2).2.2)]) (sz:=78) (top:=5) (nx:=nx') (df:=[]) ?_,?_⟩
  ·simp only [go_sem];exact⟨rlR,rlR,rlR,rlR,rlR⟩
  ·simp only [go_sem];exact hK u1 u2 u3 u4 nx' g1 g2 g3 g4 hn
 by_cases h_merge:verb=[109,101,114,103,101]
 ·have e:doP line a=a05 line a:=by unfold doP;rw [hv,if_neg h_add,if_neg (fun h=>h.elim h_bare h_clear),if_neg (fun h=>h.elim h_style (fun h=>h.elim h_width h_favour)),if_neg h_labels,if_pos h_merge]
  rw [e] at hK;have he:=eq_true h_merge;refine awN hΓ rfl ?_;simp only [go_sem,hv,he,h_add,h_bare,h_clear,h_style,h_width,h_favour,h_labels];refine⟨by omega,by omega,⟨by omega,by omega⟩,?_⟩;rw [a2c];refine a1D (R:=b6z) ⟨line,rfl,hl,hmc.1,hmc.2,rfl,rfl⟩ (by decide) (by decide)  rlR   rlR   rlR   rlR   rlR  fun u1 u2 u3 u4 nx' g1 g2 g3 g4 hn=>?_
  simp only [go_sem];refine⟨_,a0e (fun p=>p) (l:=[(4,.st ((a05 line a).1))]) (r:=[(0,.box v 106 10 (shC 1 2 3 4 u1 u2 u3 u4 ((a05 line a).2))),(1,a0i u1 ((a05 line a).2).1.1),(2,a0i u2 ((a05 line a).2).1.2.1),(3,a0i u3 ((a05 line a).2).1.2.2),(4,mgR u4 ((a05 line a).2).2.2)]) (sz:=78) (top:=5) (nx:=nx') (df:=[]) ?_,?_⟩
  ·simp only [go_sem];exact⟨rlR,rlR,rlR,rlR,rlR⟩
  ·simp only [go_sem];exact hK u1 u2 u3 u4 nx' g1 g2 g3 g4 hn
 by_cases h_text:verb=[116,101,120,116]
 ·have e:doP line a=(a1a verb line a,a):=by unfold doP;rw [hv,if_neg h_add,if_neg (fun h=>h.elim h_bare h_clear),if_neg (fun h=>h.elim h_style (fun h=>h.elim h_width h_favour)),if_neg h_labels,if_neg h_merge,if_pos (.inl h_text)]
  rw [e] at hK;have he:=eq_true h_text;refine awN hΓ rfl ?_;simp only [go_sem,hv,he,h_add,h_bare,h_clear,h_style,h_width,h_favour,h_labels,h_merge];refine⟨by omega,by omega,⟨by omega,by omega⟩,?_⟩;rw [a2c];refine a1D (R:=a8I) ⟨verb,line,rfl,hl,hs.mg,rfl,rfl⟩ (by decide) (by decide)  rlR   rlR   rlR   rlR   rlR  fun u1 u2 u3 u4 nx' g1 g2 g3 g4 hn=>?_
  simp only [go_sem];refine⟨_,a0e (fun p=>p) (l:=[(4,.st (a1a verb line a))]) (r:=[(0,.box v 106 10 (shC 1 2 3 4 u1 u2 u3 u4 (a))),(1,a0i u1 (a).1.1),(2,a0i u2 (a).1.2.1),(3,a0i u3 (a).1.2.2),(4,mgR u4 (a).2.2)]) (sz:=78) (top:=5) (nx:=nx') (df:=[]) ?_,?_⟩
  ·simp only [go_sem];exact⟨rlR,rlR,rlR,rlR,rlR⟩
  ·simp only [go_sem];exact hK u1 u2 u3 u4 nx' g1 g2 g3 g4 hn
 by_cases h_wide:verb=[119,105,100,101]
 ·have e:doP line a=(a1a verb line a,a):=by unfold doP;rw [hv,if_neg h_add,if_neg (fun h=>h.elim h_bare h_clear),if_neg (fun h=>h.elim h_style (fun h=>h.elim h_width h_favour)),if_neg h_labels,if_neg h_merge,if_pos (.inr (.inl h_wide))]
  rw [e] at hK;have he:=eq_true h_wide;refine awN hΓ rfl ?_;simp only [go_sem,hv,he,h_add,h_bare,h_clear,h_style,h_width,h_favour,h_labels,h_merge,h_text];refine⟨by omega,by omega,⟨by omega,by omega⟩,?_⟩;rw [a2c];refine a1D (R:=a8I) ⟨verb,line,rfl,hl,hs.mg,rfl,rfl⟩ (by decide) (by decide)  rlR   rlR   rlR   rlR   rlR  fun u1 u2 u3 u4 nx' g1 g2 g3 g4 hn=>?_
  simp only [go_sem];refine⟨_,a0e (fun p=>p) (l:=[(4,.st (a1a verb line a))]) (r:=[(0,.box v 106 10 (shC 1 2 3 4 u1 u2 u3 u4 (a))),(1,a0i u1 (a).1.1),(2,a0i u2 (a).1.2.1),(3,a0i u3 (a).1.2.2),(4,mgR u4 (a).2.2)]) (sz:=78) (top:=5) (nx:=nx') (df:=[]) ?_,?_⟩
  ·simp only [go_sem];exact⟨rlR,rlR,rlR,rlR,rlR⟩
  ·simp only [go_sem];exact hK u1 u2 u3 u4 nx' g1 g2 g3 g4 hn
 by_cases h_chunks:verb=[99,104,117,110,107,115]
 ·have e:doP line a=(a1a verb line a,a):=by unfold doP;rw [hv,if_neg h_add,if_neg (fun h=>h.elim h_bare h_clear),if_neg (fun h=>h.elim h_style (fun h=>h.elim h_width h_favour)),if_neg h_labels,if_neg h_merge,if_pos (.inr (.inr (.inl h_chunks)))]
  rw [e] at hK;have he:=eq_true h_chunks;refine awN hΓ rfl ?_;simp only [go_sem,hv,he,h_add,h_bare,h_clear,h_style,h_width,h_favour,h_labels,h_merge,h_text,h_wide];refine⟨by omega,by omega,⟨by omega,by omega⟩,?_⟩;rw [a2c];refine a1D (R:=a8I) ⟨verb,line,rfl,hl,hs.mg,rfl,rfl⟩ (by decide) (by decide)  rlR   rlR   rlR   rlR   rlR  fun u1 u2 u3 u4 nx' g1 g2 g3 g4 hn=>?_
  simp only [go_sem];refine⟨_,a0e (fun p=>p) (l:=[(4,.st (a1a verb line a))]) (r:=[(0,.box v 106 10 (shC 1 2 3 4 u1 u2 u3 u4 (a))),(1,a0i u1 (a).1.1),(2,a0i u2 (a).1.2.1),(3,a0i u3 (a).1.2.2),(4,mgR u4 (a).2.2)]) (sz:=78) (top:=5) (nx:=nx') (df:=[]) ?_,?_⟩
  ·simp only [go_sem];exact⟨rlR,rlR,rlR,rlR,rlR⟩
  ·simp only [go_sem];exact hK u1 u2 u3 u4 nx' g1 g2 g3 g4 hn
 by_cases h_show:verb=[115,104,111,119]
 ·have e:doP line a=(a1a verb line a,a):=by unfold doP;rw [hv,if_neg h_add,if_neg (fun h=>h.elim h_bare h_clear),if_neg (fun h=>h.elim h_style (fun h=>h.elim h_width h_favour)),if_neg h_labels,if_neg h_merge,if_pos (.inr (.inr (.inr h_show)))]
  rw [e] at hK;have he:=eq_true h_show;refine awN hΓ rfl ?_;simp only [go_sem,hv,he,h_add,h_bare,h_clear,h_style,h_width,h_favour,h_labels,h_merge,h_text,h_wide,h_chunks];refine⟨by omega,by omega,⟨by omega,by omega⟩,?_⟩;rw [a2c];refine a1D (R:=a8I) ⟨verb,line,rfl,hl,hs.mg,rfl,rfl⟩ (by decide) (by decide)  rlR   rlR   rlR   rlR   rlR  fun u1 u2 u3 u4 nx' g1 g2 g3 g4 hn=>?_
  simp only [go_sem];refine⟨_,a0e (fun p=>p) (l:=[(4,.st (a1a verb line a))]) (r:=[(0,.box v 106 10 (shC 1 2 3 4 u1 u2 u3 u4 (a))),(1,a0i u1 (a).1.1),(2,a0i u2 (a).1.2.1),(3,a0i u3 (a).1.2.2),(4,mgR u4 (a).2.2)]) (sz:=78) (top:=5) (nx:=nx') (df:=[]) ?_,?_⟩
  ·simp only [go_sem];exact⟨rlR,rlR,rlR,rlR,rlR⟩
  ·simp only [go_sem];exact hK u1 u2 u3 u4 nx' g1 g2 g3 g4 hn
 by_cases h_resolve:verb=[114,101,115,111,108,118,101]
 ·have e:doP line a=(a3x line a,a):=by unfold doP;rw [hv,if_neg h_add,if_neg (fun h=>h.elim h_bare h_clear),if_neg (fun h=>h.elim h_style (fun h=>h.elim h_width h_favour)),if_neg h_labels,if_neg h_merge,if_neg (fun h=>h.elim h_text (fun h=>h.elim h_wide (fun h=>h.elim h_chunks h_show))),if_pos h_resolve]
  rw [e] at hK;have he:=eq_true h_resolve;refine awN hΓ rfl ?_;simp only [go_sem,hv,he,h_add,h_bare,h_clear,h_style,h_width,h_favour,h_labels,h_merge,h_text,h_wide,h_chunks,h_show];refine⟨by omega,by omega,⟨by omega,by omega⟩,?_⟩;rw [a2c];refine a1D (R:=c5S) ⟨line,rfl,hl,hsz,fun m h=>(hs.mg m h).ok,rfl,rfl⟩ (by decide) (by decide)  rlR   rlR   rlR   rlR   rlR  fun u1 u2 u3 u4 nx' g1 g2 g3 g4 hn=>?_
  simp only [go_sem];refine⟨_,a0e (fun p=>p) (l:=[(4,.st (a3x line a))]) (r:=[(0,.box v 106 10 (shC 1 2 3 4 u1 u2 u3 u4 (a))),(1,a0i u1 (a).1.1),(2,a0i u2 (a).1.2.1),(3,a0i u3 (a).1.2.2),(4,mgR u4 (a).2.2)]) (sz:=78) (top:=5) (nx:=nx') (df:=[]) ?_,?_⟩
  ·simp only [go_sem];exact⟨rlR,rlR,rlR,rlR,rlR⟩
  ·simp only [go_sem];exact hK u1 u2 u3 u4 nx' g1 g2 g3 g4 hn
 by_cases h_pick:verb=[112,105,99,107]
 ·have e:doP line a=a09 line a:=by unfold doP;rw [hv,if_neg h_add,if_neg (fun h=>h.elim h_bare h_clear),if_neg (fun h=>h.elim h_style (fun h=>h.elim h_width h_favour)),if_neg h_labels,if_neg h_merge,if_neg (fun h=>h.elim h_text (fun h=>h.elim h_wide (fun h=>h.elim h_chunks h_show))),if_neg h_resolve,if_pos h_pick]
  rw [e] at hK;have he:=eq_true h_pick;refine awN hΓ rfl ?_;simp only [go_sem,hv,he,h_add,h_bare,h_clear,h_style,h_width,h_favour,h_labels,h_merge,h_text,h_wide,h_chunks,h_show,h_resolve];refine⟨by omega,by omega,⟨by omega,by omega⟩,?_⟩;rw [a2c];refine a1D (R:=b8p) ⟨line,rfl,hl,hsz,fun m h=>(hs.mg m h).ok,rfl,rfl⟩ (by decide) (by decide)  rlR   rlR   rlR   rlR   rlR  fun u1 u2 u3 u4 nx' g1 g2 g3 g4 hn=>?_
  simp only [go_sem];refine⟨_,a0e (fun p=>p) (l:=[(4,.st ((a09 line a).1))]) (r:=[(0,.box v 106 10 (shC 1 2 3 4 u1 u2 u3 u4 ((a09 line a).2))),(1,a0i u1 ((a09 line a).2).1.1),(2,a0i u2 ((a09 line a).2).1.2.1),(3,a0i u3 ((a09 line a).2).1.2.2),(4,mgR u4 ((a09 line a).2).2.2)]) (sz:=78) (top:=5) (nx:=nx') (df:=[]) ?_,?_⟩
  ·simp only [go_sem];exact⟨rlR,rlR,rlR,rlR,rlR⟩
  ·simp only [go_sem];exact hK u1 u2 u3 u4 nx' g1 g2 g3 g4 hn
 by_cases h_diff:verb=[100,105,102,102]
 ·have e:doP line a=(a1w line a,a):=by unfold doP;rw [hv,if_neg h_add,if_neg (fun h=>h.elim h_bare h_clear),if_neg (fun h=>h.elim h_style (fun h=>h.elim h_width h_favour)),if_neg h_labels,if_neg h_merge,if_neg (fun h=>h.elim h_text (fun h=>h.elim h_wide (fun h=>h.elim h_chunks h_show))),if_neg h_resolve,if_neg h_pick,if_pos h_diff]
  rw [e] at hK;have he:=eq_true h_diff;refine awN hΓ rfl ?_;simp only [go_sem,hv,he,h_add,h_bare,h_clear,h_style,h_width,h_favour,h_labels,h_merge,h_text,h_wide,h_chunks,h_show,h_resolve,h_pick];refine⟨by omega,by omega,⟨by omega,by omega⟩,?_⟩;rw [a2c];refine a1D (R:=c1h) ⟨line,rfl,hl,hs.txt,rfl,rfl⟩ (by decide) (by decide)  rlR   rlR   rlR   rlR   rlR  fun u1 u2 u3 u4 nx' g1 g2 g3 g4 hn=>?_
  simp only [go_sem];refine⟨_,a0e (fun p=>p) (l:=[(4,.st (a1w line a))]) (r:=[(0,.box v 106 10 (shC 1 2 3 4 u1 u2 u3 u4 (a))),(1,a0i u1 (a).1.1),(2,a0i u2 (a).1.2.1),(3,a0i u3 (a).1.2.2),(4,mgR u4 (a).2.2)]) (sz:=78) (top:=5) (nx:=nx') (df:=[]) ?_,?_⟩
  ·simp only [go_sem];exact⟨rlR,rlR,rlR,rlR,rlR⟩
  ·simp only [go_sem];exact hK u1 u2 u3 u4 nx' g1 g2 g3 g4 hn
 by_cases h_parse:verb=[112,97,114,115,101]
 ·have e:doP line a=a04 line a:=by unfold doP;rw [hv,if_neg h_add,if_neg (fun h=>h.elim h_bare h_clear),if_neg (fun h=>h.elim h_style (fun h=>h.elim h_width h_favour)),if_neg h_labels,if_neg h_merge,if_neg (fun h=>h.elim h_text (fun h=>h.elim h_wide (fun h=>h.elim h_chunks h_show))),if_neg h_resolve,if_neg h_pick,if_neg h_diff,if_pos h_parse]
  rw [e] at hK;have he:=eq_true h_parse;refine awN hΓ rfl ?_;simp only [go_sem,hv,he,h_add,h_bare,h_clear,h_style,h_width,h_favour,h_labels,h_merge,h_text,h_wide,h_chunks,h_show,h_resolve,h_pick,h_diff];refine⟨by omega,by omega,⟨by omega,by omega⟩,?_⟩;rw [a2c];refine a1D (R:=b40) ⟨line,rfl,hl,⟨hsz,hsp⟩,rfl,rfl⟩ (by decide) (by decide)  rlR   rlR   rlR   rlR   rlR  fun u1 u2 u3 u4 nx' g1 g2 g3 g4 hn=>?_
  simp only [go_sem];refine⟨_,a0e (fun p=>p) (l:=[(4,.st ((a04 line a).1))]) (r:=[(0,.box v 106 10 (shC 1 2 3 4 u1 u2 u3 u4 ((a04 line a).2))),(1,a0i u1 ((a04 line a).2).1.1),(2,a0i u2 ((a04 line a).2).1.2.1),(3,a0i u3 ((a04 line a).2).1.2.2),(4,mgR u4 ((a04 line a).2).2.2)]) (sz:=78) (top:=5) (nx:=nx') (df:=[]) ?_,?_⟩
  ·simp only [go_sem];exact⟨rlR,rlR,rlR,rlR,rlR⟩
  ·simp only [go_sem];exact hK u1 u2 u3 u4 nx' g1 g2 g3 g4 hn
 have e:doP line a=(a0q,a):=by unfold doP;rw [hv,if_neg h_add,if_neg (fun h=>h.elim h_bare h_clear),if_neg (fun h=>h.elim h_style (fun h=>h.elim h_width h_favour)),if_neg h_labels,if_neg h_merge,if_neg (fun h=>h.elim h_text (fun h=>h.elim h_wide (fun h=>h.elim h_chunks h_show))),if_neg h_resolve,if_neg h_pick,if_neg h_diff,if_neg h_parse]
 rw [e] at hK;refine awN hΓ rfl ?_;simp only [go_sem,hv,h_add,h_bare,h_clear,h_style,h_width,h_favour,h_labels,h_merge,h_text,h_wide,h_chunks,h_show,h_resolve,h_pick,h_diff,h_parse];refine⟨by omega,by omega,⟨by omega,by omega⟩,?_⟩;have hk:=a0A hK rfl;refine⟨_,a0e (fun p=>p) (l:=[(4,.st a0q)]) (r:=[(0,.box v 106 10 (shC 1 2 3 4 v1 v2 v3 v4 a)),(1,a0i v1 a.1.1),(2,a0i v2 a.1.2.1),(3,a0i v3 a.1.2.2),(4,mgR v4 a.2.2)]) (sz:=78) (top:=5) (nx:=nx) (df:=[]) ?_,?_⟩
 ·simp only [go_sem];exact⟨rlR,rlR,rlR,rlR,rlR⟩
 ·simp only [go_sem];exact hk v1 v2 v3 nx (.inl rfl) (.inl rfl) (.inl rfl) (nLR _)
def d7D:a0p:=fun args hp top nx K=>∃ line:List UInt8,args=[.val (.pointer none),.st line]/\K (.st a0q) hp top nx
theorem d52:a0f Tryz.prog 20 d7D:=by
 refine a0f.mk Tryz.func20 rfl (by decide) Tryz.results20 Tryz.ntmps20 ?_;rintro args hp top nx K ⟨line,rfl,hK⟩;have hΓ:=gkC b5O (gkM c6I (gkM c02 (gkM c6P (gkM c6m (gkM b4Q (gkM b8K (gkM b9D (gkM b5y (gkM b6l (gkM b2z gkN))))))))));refine⟨Nat.le_of_ble_eq_true rfl,?_⟩;refine awN hΓ rfl ?_;simp only [go_sem];exact hK
@[go_sem] noncomputable def d9e:a0p:=fun args hp top nx K=>a0U d1P args hp top nx K\/d7D args hp top nx K
theorem d1q:a0f Tryz.prog 20 d9e:=d2Y.frame.or d52
end
section
attribute [local irreducible] a3o
def a2l (a:Ss):Rsh:=(a.1,a.2.1,a.2.2.isSome)
def d68 (a:Ss) (w:Wl):Prop:=∀ m,a.2.2=some m->wM w=m
theorem d2G {line:BS} (h:(wdL line).length=1):line=(wdL line).getD 0 []:=by
 rcases a2f 32 line with h1|⟨p,r,rfl,h1⟩
 ·rw [a4X line h1];rfl
 ·rw [a4b p r h1,lCo] at h;have:=List.length_pos_iff.2 (a35 r);omega
theorem a1g {w:BS} (h:(32:UInt8)∉w) (line:BS):line=w↔(wdL line).length=1/\(wdL line).getD 0 []=w:=by
 constructor
 ·rintro rfl;rw [a4X _ h];exact⟨rfl,rfl⟩
 ·rintro⟨h1,h2⟩;rw [<-h2];exact d2G h1
theorem a89 (w:BS):0<=a1J w↔(a3o w).isSome=true:=by
 cases h:a3o w with
 | none=>rw [a3U h];simp
 | some n=>rw [a1m h];simp
theorem a8e (w:BS):0<(a0B w).1↔(a0B w).2=true:=by
 unfold a0B
 repeat' split
 all_goals simp
theorem b6i (t:BS):a5I t=if a0C t=true then some (t.take (t.length-1)) else none:=by
 unfold a5I a0C;rcases t.eq_nil_or_concat with rfl|⟨p,c,rfl⟩
 ·rfl
 ·rw [List.concat_eq_append];have e:(p++[c]).getD ((p++[c]).length-1) 0=c:=by simp [List.getD]
  rw [e];simp
theorem d2e (a:Ss) (k:Int):rtx (a2l a) k=txt a k:=rfl
theorem c6t (a:Ss) (k:Int) (t:BS):rtS (a2l a) k t=a2l (b2n a k t):=by
 unfold rtS b2n a2l;split
 ·rfl
 ·split<;>rfl
theorem b1b (a:Ss) (k:Int) (t:BS):(b2n a k t).2=a.2:=by
 unfold b2n
 repeat' split
 all_goals rfl
theorem rfA {line:BS} {x:Rsh} (h:¬(3<=(wdL line).length/\(wdL line).getD 0 []=[97,100,100]/\0<=a0M ((wdL line).getD 1 []))):rfP line x=rf1 line x:=by unfold rfP;rw [if_neg h]
theorem rfB {line:BS} {x:Rsh} (h:¬((wdL line).length=2/\((wdL line).getD 0 []=[98,97,114,101]\/(wdL line).getD 0 []=a2g)/\0<=a0M ((wdL line).getD 1 []))):rf1 line x=rf2 line x:=by unfold rf1;rw [if_neg h]
theorem rfC {line:BS} {x:Rsh} (h:¬((wdL line).length=4/\(wdL line).getD 0 []=[108,97,98,101,108,115])):rf2 line x=rf3 line x:=by unfold rf2;rw [if_neg h]
theorem rfD {line:BS} {x:Rsh} (h1:¬(0<=rfN line/\(wdL line).getD 0 []=[115,116,121,108,101])) (h2:¬(0<=rfN line/\(wdL line).getD 0 []=[119,105,100,116,104])) (h3:¬(0<=rfN line/\(wdL line).getD 0 []=[102,97,118,111,117,114])):rf3 line x=rf4 line x:=by unfold rf3;rw [if_neg h1,if_neg h2,if_neg h3]
theorem rfE {line:BS} {x:Rsh} (h:¬(line=[109,101,114,103,101])):rf4 line x=rf5 line x:=by unfold rf4;rw [if_neg h]
theorem rfF {line:BS} {x:Rsh} (h:¬((0<=rfN line/\(wdL line).getD 0 []=[112,97,114,115,101])\/((wdL line).length=3/\(wdL line).getD 0 []=[100,105,102,102]/\0<=a0M ((wdL line).getD 1 [])/\0<=a1J ((wdL line).getD 2 [])/\a1J ((wdL line).getD 2 [])<=100))):rf5 line x=rf6 line x:=by unfold rf5;rw [if_neg h]
theorem rfG {line:BS} {x:Rsh} (h:a1l line=false):rf6 line x=(a0q,true,x):=by unfold rf6;rw [if_neg (by rw [h];decide)]
theorem a2Y {line:BS} (h1:¬line=[116,101,120,116]) (h2:¬line=[119,105,100,101]) (h3:¬line=[99,104,117,110,107,115]) (h4:¬line=[115,104,111,119]) (h5:¬((wdL line).length=2/\(wdL line).getD 0 []=[114,101,115,111,108,118,101]/\0<(a0B ((wdL line).getD 1 [])).1)) (h6:¬((wdL line).length=3/\(wdL line).getD 0 []=[112,105,99,107]/\0<=a1J ((wdL line).getD 1 [])/\0<(a0B ((wdL line).getD 2 [])).1)):a1l line=false:=by
 unfold a1l;rw [decide_eq_false h1,decide_eq_false h2,decide_eq_false h3,decide_eq_false h4,decide_eq_false h5,decide_eq_false h6];rfl
theorem a4O {line:BS} (h:(wdL line).length=2):rfN line=a1J ((wdL line).getD 1 []):=by unfold rfN;rw [if_pos h]
theorem b0S {line:BS} (h:¬(wdL line).length=2):rfN line=-1:=by unfold rfN;rw [if_neg h]
theorem a9Y {line:BS} {a:Ss} (h:a1l line=true):rf6 line (a2l a)=match a.2.2 with
  | some _=>([],false,a2l a)
  | none=>(a3P,true,a2l a):=by
 unfold rf6;rw [if_pos h];cases hb:a.2.2 with
 | none=>rw [if_neg (by show ¬(a.2.2.isSome=true);rw [hb];simp)]
 | some m=>rw [if_pos (by unfold a2l;rw [hb];rfl)]
theorem nvE {line w l:BS} (h:(wdL line).getD 0 []=w) (hl:l≠w) (hs:(32:UInt8)∉l):¬line=l:=fun g=>hl (((a1g hs line).1 g).2.symm.trans h)
theorem a2b {line w:BS} {x:Rsh} (h:(wdL line).getD 0 []=w) (hA:¬(3<=(wdL line).length/\(wdL line).getD 0 []=[97,100,100]/\0<=a0M ((wdL line).getD 1 []))) (hB:¬((wdL line).length=2/\((wdL line).getD 0 []=[98,97,114,101]\/(wdL line).getD 0 []=a2g)/\0<=a0M ((wdL line).getD 1 []))) (hC:¬((wdL line).length=4/\(wdL line).getD 0 []=[108,97,98,101,108,115])) (h1:¬(0<=rfN line/\(wdL line).getD 0 []=[115,116,121,108,101])) (h2:¬(0<=rfN line/\(wdL line).getD 0 []=[119,105,100,116,104])) (h3:¬(0<=rfN line/\(wdL line).getD 0 []=[102,97,118,111,117,114])) (hE:¬(line=[109,101,114,103,101])) (hF:¬((0<=rfN line/\(wdL line).getD 0 []=[112,97,114,115,101])\/((wdL line).length=3/\(wdL line).getD 0 []=[100,105,102,102]/\0<=a0M ((wdL line).getD 1 [])/\0<=a1J ((wdL line).getD 2 [])/\a1J ((wdL line).getD 2 [])<=100))) (hG:a1l line=false):rfP line x=(a0q,true,x):=
 (rfA hA).trans ((rfB hB).trans ((rfC hC).trans ((rfD h1 h2 h3).trans ((rfE hE).trans ((rfF hF).trans (rfG hG))))))
def a2j (line:BS) (a:Ss):Prop:=
 ((rfP line (a2l a)).2.1=true/\(rfP line (a2l a)).1=(doP line a).1/\(rfP line (a2l a)).2.2=a2l (doP line a).2/\(doP line a).2.2.2=a.2.2)\/
 ((rfP line (a2l a)).2.1=false/\∀ w,d68 a w->b7h line w/\(anP line w (rfP line (a2l a)).2.2).1=(doP line a).1/\(anP line w (rfP line (a2l a)).2.2).2.2=a2l (doP line a).2/\d68 (doP line a).2 (anP line w (rfP line (a2l a)).2.2).2.1)
theorem c3d {line:BS} {a:Ss} (h:(wdL line).getD 0 []=[97,100,100]):a2j line a:=by
 have nv:∀ l:BS,l≠[97,100,100]->¬(wdL line).getD 0 []=l:=fun l hl g=>hl (g.symm.trans h)
 have e:doP line a=a1Q line a:=by unfold doP;rw [if_pos h]
 unfold a2j;rw [e];unfold a1Q;by_cases c:3<=(wdL line).length/\0<=a0M ((wdL line).getD 1 [])
 ·rw [if_pos c];have e2:rfP line (a2l a)=(okT,true,rtS (a2l a) (a0M ((wdL line).getD 1 [])) (rtx (a2l a) (a0M ((wdL line).getD 1 []))++a4B 2 line++[10])):=by unfold rfP;rw [if_pos ⟨c.1,h,c.2⟩]
  rw [e2,c6t];exact .inl ⟨rfl,rfl,rfl,congrArg Prod.snd (b1b ..)⟩
 ·rw [if_neg c];rw [a2b h (fun g=>c ⟨g.1,g.2.2⟩) (fun g=>g.2.1.elim (nv [98,97,114,101] (by decide)) (nv a2g (by decide))) (fun g=>nv [108,97,98,101,108,115] (by decide) g.2) (fun g=>nv [115,116,121,108,101] (by decide) g.2) (fun g=>nv [119,105,100,116,104] (by decide) g.2) (fun g=>nv [102,97,118,111,117,114] (by decide) g.2) (nvE h (by decide) (by decide):¬line=[109,101,114,103,101]) (fun g=>g.elim (fun g=>nv [112,97,114,115,101] (by decide) g.2) (fun g=>nv [100,105,102,102] (by decide) g.2.1)) (a2Y (nvE h (by decide) (by decide):¬line=[116,101,120,116]) (nvE h (by decide) (by decide):¬line=[119,105,100,101]) (nvE h (by decide) (by decide):¬line=[99,104,117,110,107,115]) (nvE h (by decide) (by decide):¬line=[115,104,111,119]) (fun g=>nv [114,101,115,111,108,118,101] (by decide) g.2.1) (fun g=>nv [112,105,99,107] (by decide) g.2.1))];exact .inl ⟨rfl,rfl,rfl,rfl⟩
theorem b55 {line w:BS} {a:Ss} (h:(wdL line).getD 0 []=w) (hw:w=[98,97,114,101]\/w=a2g):a2j line a:=by
 have nv:∀ l:BS,l≠[98,97,114,101]/\l≠a2g->¬(wdL line).getD 0 []=l:=fun l hl g=>hw.elim (fun e=>hl.1 (g.symm.trans (h.trans e))) (fun e=>hl.2 (g.symm.trans (h.trans e)))
 have hw':(wdL line).getD 0 []=[98,97,114,101]\/(wdL line).getD 0 []=a2g:=by rw [h];exact hw
 have e:doP line a=a0P w line a:=by unfold doP;rw [if_neg (nv _ (by decide)),if_pos (by rw [h];exact hw),h]
 have nE:∀ l:BS,l≠[98,97,114,101]/\l≠a2g->(32:UInt8)∉l->¬line=l:=fun l hl hs g=>nv l hl ((a1g hs line).1 g).2
 unfold a2j;rw [e];unfold a0P;by_cases c:(wdL line).length=2/\0<=a0M ((wdL line).getD 1 [])
 ·rw [if_pos c]
  have e2:rfP line (a2l a)=match b3l w (txt a (a0M ((wdL line).getD 1 []))) with
   | some t=>(okT,true,a2l (b2n a (a0M ((wdL line).getD 1 [])) t))
   | none=>(a0q,true,a2l a):=by
   rw [rfA fun g=>nv _ (by decide) g.2.1];unfold rf1;rw [if_pos ⟨c.1,hw',c.2⟩,h,d2e];cases b3l w (txt a (a0M ((wdL line).getD 1 []))) with
   | none=>rfl
   | some t=>
     show (okT,true,rtS (a2l a) _ t)=(okT,true,a2l (b2n a _ t));rw [c6t]
  rw [e2];unfold a3i b3l;rw [b6i];by_cases hc:w=a2g
  ·rw [if_pos hc,if_pos hc];exact .inl ⟨rfl,rfl,rfl,congrArg Prod.snd (b1b ..)⟩
  ·rw [if_neg hc,if_neg hc];by_cases he:a0C (txt a (a0M ((wdL line).getD 1 [])))=true
   ·rw [if_pos he];exact .inl ⟨rfl,rfl,rfl,congrArg Prod.snd (b1b ..)⟩
   ·rw [if_neg he];exact .inl ⟨rfl,rfl,rfl,rfl⟩
 ·rw [if_neg c];rw [a2b h (fun g=>nv _ (by decide) g.2.1) (fun g=>c ⟨g.1,g.2.2⟩) (fun g=>nv _ (by decide) g.2) (fun g=>nv _ (by decide) g.2) (fun g=>nv _ (by decide) g.2) (fun g=>nv _ (by decide) g.2) (nE _ (by decide) (by decide)) (fun g=>g.elim (fun g=>nv _ (by decide) g.2) (fun g=>nv _ (by decide) g.2.1)) (a2Y (nE _ (by decide) (by decide)) (nE _ (by decide) (by decide)) (nE _ (by decide) (by decide)) (nE _ (by decide) (by decide)) (fun g=>nv _ (by decide) g.2.1) (fun g=>nv _ (by decide) g.2.1))];exact .inl ⟨rfl,rfl,rfl,rfl⟩
theorem b6U {line:BS} {a:Ss} (h:(wdL line).getD 0 []=[115,116,121,108,101]):a2j line a:=by
 have nv:∀ l:BS,l≠[115,116,121,108,101]->¬(wdL line).getD 0 []=l:=fun l hl g=>hl (g.symm.trans h)
 have nE:∀ l:BS,l≠[115,116,121,108,101]->(32:UInt8)∉l->¬line=l:=fun l hl hs g=>nv l hl ((a1g hs line).1 g).2
 have e:doP line a=a0Z [115,116,121,108,101] line a:=by unfold doP;rw [if_neg (nv _ (by decide)),if_neg (fun g=>g.elim (nv _ (by decide)) (nv _ (by decide))),if_pos (.inl h),h]
 unfold a2j;rw [e];unfold a0Z;by_cases c:(wdL line).length=2/\0<=a1J ((wdL line).getD 1 [])
 ·rw [if_pos c]
  have e2:rfP line (a2l a)=(okT,true,a2l (b73 a [115,116,121,108,101] (a1J ((wdL line).getD 1 [])))):=by
   rw [rfA (fun g=>nv _ (by decide) g.2.1),rfB (fun g=>g.2.1.elim (nv _ (by decide)) (nv _ (by decide))),rfC (fun g=>nv _ (by decide) g.2)];unfold rf3;rw [a4O c.1,if_pos ⟨c.2,h⟩];rfl
  rw [e2];exact .inl ⟨rfl,rfl,rfl,rfl⟩
 ·rw [if_neg c]
  have hn:¬(0<=rfN line):=fun g=>by
   by_cases c2:(wdL line).length=2
   ·rw [a4O c2] at g;exact c ⟨c2,g⟩
   ·rw [b0S c2] at g;exact absurd g (by decide)
  rw [a2b h (fun g=>nv _ (by decide) g.2.1) (fun g=>g.2.1.elim (nv _ (by decide)) (nv _ (by decide))) (fun g=>nv _ (by decide) g.2) (fun g=>hn g.1) (fun g=>nv _ (by decide) g.2) (fun g=>nv _ (by decide) g.2) (nE _ (by decide) (by decide)) (fun g=>g.elim (fun g=>nv _ (by decide) g.2) (fun g=>nv _ (by decide) g.2.1)) (a2Y (nE _ (by decide) (by decide)) (nE _ (by decide) (by decide)) (nE _ (by decide) (by decide)) (nE _ (by decide) (by decide)) (fun g=>nv _ (by decide) g.2.1) (fun g=>nv _ (by decide) g.2.1))];exact .inl ⟨rfl,rfl,rfl,rfl⟩
theorem b7W {line:BS} {a:Ss} (h:(wdL line).getD 0 []=[119,105,100,116,104]):a2j line a:=by
 have nv:∀ l:BS,l≠[119,105,100,116,104]->¬(wdL line).getD 0 []=l:=fun l hl g=>hl (g.symm.trans h)
 have nE:∀ l:BS,l≠[119,105,100,116,104]->(32:UInt8)∉l->¬line=l:=fun l hl hs g=>nv l hl ((a1g hs line).1 g).2
 have e:doP line a=a0Z [119,105,100,116,104] line a:=by unfold doP;rw [if_neg (nv _ (by decide)),if_neg (fun g=>g.elim (nv _ (by decide)) (nv _ (by decide))),if_pos (.inr (.inl h)),h]
 unfold a2j;rw [e];unfold a0Z;by_cases c:(wdL line).length=2/\0<=a1J ((wdL line).getD 1 [])
 ·rw [if_pos c]
  have e2:rfP line (a2l a)=(okT,true,a2l (b73 a [119,105,100,116,104] (a1J ((wdL line).getD 1 [])))):=by
   rw [rfA (fun g=>nv _ (by decide) g.2.1),rfB (fun g=>g.2.1.elim (nv _ (by decide)) (nv _ (by decide))),rfC (fun g=>nv _ (by decide) g.2)];unfold rf3;rw [a4O c.1,if_neg (fun g=>nv _ (by decide) g.2),if_pos ⟨c.2,h⟩];rfl
  rw [e2];exact .inl ⟨rfl,rfl,rfl,rfl⟩
 ·rw [if_neg c]
  have hn:¬(0<=rfN line):=fun g=>by
   by_cases c2:(wdL line).length=2
   ·rw [a4O c2] at g;exact c ⟨c2,g⟩
   ·rw [b0S c2] at g;exact absurd g (by decide)
  rw [a2b h (fun g=>nv _ (by decide) g.2.1) (fun g=>g.2.1.elim (nv _ (by decide)) (nv _ (by decide))) (fun g=>nv _ (by decide) g.2) (fun g=>nv _ (by decide) g.2) (fun g=>hn g.1) (fun g=>nv _ (by decide) g.2) (nE _ (by decide) (by decide)) (fun g=>g.elim (fun g=>nv _ (by decide) g.2) (fun g=>nv _ (by decide) g.2.1)) (a2Y (nE _ (by decide) (by decide)) (nE _ (by decide) (by decide)) (nE _ (by decide) (by decide)) (nE _ (by decide) (by decide)) (fun g=>nv _ (by decide) g.2.1) (fun g=>nv _ (by decide) g.2.1))];exact .inl ⟨rfl,rfl,rfl,rfl⟩
theorem b4b {line:BS} {a:Ss} (h:(wdL line).getD 0 []=[102,97,118,111,117,114]):a2j line a:=by
 have nv:∀ l:BS,l≠[102,97,118,111,117,114]->¬(wdL line).getD 0 []=l:=fun l hl g=>hl (g.symm.trans h)
 have nE:∀ l:BS,l≠[102,97,118,111,117,114]->(32:UInt8)∉l->¬line=l:=fun l hl hs g=>nv l hl ((a1g hs line).1 g).2
 have e:doP line a=a0Z [102,97,118,111,117,114] line a:=by unfold doP;rw [if_neg (nv _ (by decide)),if_neg (fun g=>g.elim (nv _ (by decide)) (nv _ (by decide))),if_pos (.inr (.inr h)),h]
 unfold a2j;rw [e];unfold a0Z;by_cases c:(wdL line).length=2/\0<=a1J ((wdL line).getD 1 [])
 ·rw [if_pos c]
  have e2:rfP line (a2l a)=(okT,true,a2l (b73 a [102,97,118,111,117,114] (a1J ((wdL line).getD 1 [])))):=by
   rw [rfA (fun g=>nv _ (by decide) g.2.1),rfB (fun g=>g.2.1.elim (nv _ (by decide)) (nv _ (by decide))),rfC (fun g=>nv _ (by decide) g.2)];unfold rf3;rw [a4O c.1,if_neg (fun g=>nv _ (by decide) g.2),if_neg (fun g=>nv _ (by decide) g.2),if_pos ⟨c.2,h⟩];rfl
  rw [e2];exact .inl ⟨rfl,rfl,rfl,rfl⟩
 ·rw [if_neg c]
  have hn:¬(0<=rfN line):=fun g=>by
   by_cases c2:(wdL line).length=2
   ·rw [a4O c2] at g;exact c ⟨c2,g⟩
   ·rw [b0S c2] at g;exact absurd g (by decide)
  rw [a2b h (fun g=>nv _ (by decide) g.2.1) (fun g=>g.2.1.elim (nv _ (by decide)) (nv _ (by decide))) (fun g=>nv _ (by decide) g.2) (fun g=>nv _ (by decide) g.2) (fun g=>nv _ (by decide) g.2) (fun g=>hn g.1) (nE _ (by decide) (by decide)) (fun g=>g.elim (fun g=>nv _ (by decide) g.2) (fun g=>nv _ (by decide) g.2.1)) (a2Y (nE _ (by decide) (by decide)) (nE _ (by decide) (by decide)) (nE _ (by decide) (by decide)) (nE _ (by decide) (by decide)) (fun g=>nv _ (by decide) g.2.1) (fun g=>nv _ (by decide) g.2.1))];exact .inl ⟨rfl,rfl,rfl,rfl⟩
theorem b35 {line:BS} {a:Ss} (h:(wdL line).getD 0 []=[108,97,98,101,108,115]):a2j line a:=by
 have nv:∀ l:BS,l≠[108,97,98,101,108,115]->¬(wdL line).getD 0 []=l:=fun l hl g=>hl (g.symm.trans h)
 have nE:∀ l:BS,l≠[108,97,98,101,108,115]->(32:UInt8)∉l->¬line=l:=fun l hl hs g=>nv l hl ((a1g hs line).1 g).2
 have e:doP line a=a2Q line a:=by unfold doP;rw [if_neg (nv _ (by decide)),if_neg (fun g=>g.elim (nv _ (by decide)) (nv _ (by decide))),if_neg (fun g=>g.elim (nv _ (by decide)) (fun g=>g.elim (nv _ (by decide)) (nv _ (by decide)))),if_pos h]
 unfold a2j;rw [e];unfold a2Q;by_cases c:(wdL line).length=4
 ·rw [if_pos c]
  have e2:rfP line (a2l a)=(okT,true,(a.1,((a6V ((wdL line).getD 1 []),a6V ((wdL line).getD 2 []),a6V ((wdL line).getD 3 [])),a.2.1.2),a.2.2.isSome)):=by
   rw [rfA (fun g=>nv _ (by decide) g.2.1),rfB (fun g=>g.2.1.elim (nv _ (by decide)) (nv _ (by decide)))];unfold rf2;rw [if_pos ⟨c,h⟩];rfl
  rw [e2];exact .inl ⟨rfl,rfl,rfl,rfl⟩
 ·rw [if_neg c];rw [a2b h (fun g=>nv _ (by decide) g.2.1) (fun g=>g.2.1.elim (nv _ (by decide)) (nv _ (by decide))) (fun g=>c g.1) (fun g=>nv _ (by decide) g.2) (fun g=>nv _ (by decide) g.2) (fun g=>nv _ (by decide) g.2) (nE _ (by decide) (by decide)) (fun g=>g.elim (fun g=>nv _ (by decide) g.2) (fun g=>nv _ (by decide) g.2.1)) (a2Y (nE _ (by decide) (by decide)) (nE _ (by decide) (by decide)) (nE _ (by decide) (by decide)) (nE _ (by decide) (by decide)) (fun g=>nv _ (by decide) g.2.1) (fun g=>nv _ (by decide) g.2.1))];exact .inl ⟨rfl,rfl,rfl,rfl⟩
theorem b7m {line:BS} {a:Ss} (h:(wdL line).getD 0 []=[109,101,114,103,101]):a2j line a:=by
 have nv:∀ l:BS,l≠[109,101,114,103,101]->¬(wdL line).getD 0 []=l:=fun l hl g=>hl (g.symm.trans h)
 have nE:∀ l:BS,l≠[109,101,114,103,101]->(32:UInt8)∉l->¬line=l:=fun l hl hs g=>nv l hl ((a1g hs line).1 g).2
 have e:doP line a=a05 line a:=by unfold doP;rw [if_neg (nv _ (by decide)),if_neg (fun g=>g.elim (nv _ (by decide)) (nv _ (by decide))),if_neg (fun g=>g.elim (nv _ (by decide)) (fun g=>g.elim (nv _ (by decide)) (nv _ (by decide)))),if_neg (nv _ (by decide)),if_pos h]
 unfold a2j;rw [e];unfold a05;by_cases c:(wdL line).length=1
 ·rw [if_pos c];have hl:line=[109,101,114,103,101]:=(a1g (by decide) line).2 ⟨c,h⟩;have e1:rfP line (a2l a)=rf4 line (a2l a):=by rw [rfA (fun g=>nv _ (by decide) g.2.1),rfB (fun g=>g.2.1.elim (nv _ (by decide)) (nv _ (by decide))),rfC (fun g=>nv _ (by decide) g.2),rfD (fun g=>nv _ (by decide) g.2) (fun g=>nv _ (by decide) g.2) (fun g=>nv _ (by decide) g.2)]
  by_cases hz:a5E a.2.1=0
  ·rw [if_pos hz]
   have e2:rfP line (a2l a)=([],false,(a.1,a.2.1,true)):=by
    rw [e1];unfold rf4;rw [if_pos hl,if_pos (show a5E (a2l a).2.1=0 from hz)];rfl
   rw [e2];refine .inr ⟨rfl,fun w hw=>⟨.inl h,?_,?_,?_⟩⟩
   ·unfold anP;rw [if_pos h];rfl
   ·unfold anP;rw [if_pos h];rfl
   ·unfold anP;rw [if_pos h];intro m hm;exact oJI hm
  ·rw [if_neg hz]
   have e2:rfP line (a2l a)=(a7t (a5E a.2.1),true,a2l a):=by
    rw [e1];unfold rf4;rw [if_pos hl,if_neg (show ¬a5E (a2l a).2.1=0 from hz)];rfl
   rw [e2];exact .inl ⟨rfl,rfl,rfl,rfl⟩
 ·rw [if_neg c];rw [a2b h (fun g=>nv _ (by decide) g.2.1) (fun g=>g.2.1.elim (nv _ (by decide)) (nv _ (by decide))) (fun g=>nv _ (by decide) g.2) (fun g=>nv _ (by decide) g.2) (fun g=>nv _ (by decide) g.2) (fun g=>nv _ (by decide) g.2) (fun g=>c ((a1g (by decide) line).1 g).1) (fun g=>g.elim (fun g=>nv _ (by decide) g.2) (fun g=>nv _ (by decide) g.2.1)) (a2Y (nE _ (by decide) (by decide)) (nE _ (by decide) (by decide)) (nE _ (by decide) (by decide)) (nE _ (by decide) (by decide)) (fun g=>nv _ (by decide) g.2.1) (fun g=>nv _ (by decide) g.2.1))];exact .inl ⟨rfl,rfl,rfl,rfl⟩
theorem b8c {line:BS} {a:Ss} (ha:a7Y 9400 a) (h:(wdL line).getD 0 []=[116,101,120,116]):a2j line a:=by
 have nv:∀ l:BS,l≠[116,101,120,116]->¬(wdL line).getD 0 []=l:=fun l hl g=>hl (g.symm.trans h)
 have nE:∀ l:BS,l≠[116,101,120,116]->(32:UInt8)∉l->¬line=l:=fun l hl hs g=>nv l hl ((a1g hs line).1 g).2
 have e:doP line a=(a1a [116,101,120,116] line a,a):=by unfold doP;rw [if_neg (nv _ (by decide)),if_neg (fun g=>g.elim (nv _ (by decide)) (nv _ (by decide))),if_neg (fun g=>g.elim (nv _ (by decide)) (fun g=>g.elim (nv _ (by decide)) (nv _ (by decide)))),if_neg (nv _ (by decide)),if_neg (nv _ (by decide)),if_pos (.inl h),h]
 unfold a2j;rw [e];unfold a1a;by_cases c:(wdL line).length=1
 ·rw [if_pos c];have hl:line=[116,101,120,116]:=(a1g (by decide) line).2 ⟨c,h⟩;have hA:a1l line=true:=by unfold a1l;rw [decide_eq_true hl];simp
  have e1:rfP line (a2l a)=rf6 line (a2l a):=by rw [rfA (fun g=>nv _ (by decide) g.2.1),rfB (fun g=>g.2.1.elim (nv _ (by decide)) (nv _ (by decide))),rfC (fun g=>nv _ (by decide) g.2),rfD (fun g=>nv _ (by decide) g.2) (fun g=>nv _ (by decide) g.2) (fun g=>nv _ (by decide) g.2),rfE (nE _ (by decide) (by decide)),rfF (fun g=>g.elim (fun g=>nv _ (by decide) g.2) (fun g=>nv _ (by decide) g.2.1))]
  rw [e1,a9Y hA];cases hb:a.2.2 with
  | none=>exact .inl ⟨rfl,rfl,rfl,rfl⟩
  | some m=>
    refine .inr ⟨rfl,fun w hw=>?_⟩;have hwm:=hw m hb
    have ea:∀ x,anP line w x=(a5t [116,101,120,116] (wM w),w,x):=fun x=>by
     unfold anP;rw [if_neg (nv _ (by decide)),if_pos (.inl h),h]
    refine⟨.inr (.inl ⟨(.inl h),by rw [hwm];exact ha.mg m hb⟩),?_,?_,?_⟩
    ·rw [ea,hwm]
    ·rw [ea]
    ·rw [ea];exact hw
 ·rw [if_neg c];rw [a2b h (fun g=>nv _ (by decide) g.2.1) (fun g=>g.2.1.elim (nv _ (by decide)) (nv _ (by decide))) (fun g=>nv _ (by decide) g.2) (fun g=>nv _ (by decide) g.2) (fun g=>nv _ (by decide) g.2) (fun g=>nv _ (by decide) g.2) (nE _ (by decide) (by decide)) (fun g=>g.elim (fun g=>nv _ (by decide) g.2) (fun g=>nv _ (by decide) g.2.1)) (a2Y (fun g=>c ((a1g (by decide) line).1 g).1) (nE _ (by decide) (by decide)) (nE _ (by decide) (by decide)) (nE _ (by decide) (by decide)) (fun g=>nv _ (by decide) g.2.1) (fun g=>nv _ (by decide) g.2.1))];exact .inl ⟨rfl,rfl,rfl,rfl⟩
theorem c06 {line:BS} {a:Ss} (ha:a7Y 9400 a) (h:(wdL line).getD 0 []=[119,105,100,101]):a2j line a:=by
 have nv:∀ l:BS,l≠[119,105,100,101]->¬(wdL line).getD 0 []=l:=fun l hl g=>hl (g.symm.trans h)
 have nE:∀ l:BS,l≠[119,105,100,101]->(32:UInt8)∉l->¬line=l:=fun l hl hs g=>nv l hl ((a1g hs line).1 g).2
 have e:doP line a=(a1a [119,105,100,101] line a,a):=by unfold doP;rw [if_neg (nv _ (by decide)),if_neg (fun g=>g.elim (nv _ (by decide)) (nv _ (by decide))),if_neg (fun g=>g.elim (nv _ (by decide)) (fun g=>g.elim (nv _ (by decide)) (nv _ (by decide)))),if_neg (nv _ (by decide)),if_neg (nv _ (by decide)),if_pos (.inr (.inl h)),h]
 unfold a2j;rw [e];unfold a1a;by_cases c:(wdL line).length=1
 ·rw [if_pos c];have hl:line=[119,105,100,101]:=(a1g (by decide) line).2 ⟨c,h⟩;have hA:a1l line=true:=by unfold a1l;rw [decide_eq_true hl];simp
  have e1:rfP line (a2l a)=rf6 line (a2l a):=by rw [rfA (fun g=>nv _ (by decide) g.2.1),rfB (fun g=>g.2.1.elim (nv _ (by decide)) (nv _ (by decide))),rfC (fun g=>nv _ (by decide) g.2),rfD (fun g=>nv _ (by decide) g.2) (fun g=>nv _ (by decide) g.2) (fun g=>nv _ (by decide) g.2),rfE (nE _ (by decide) (by decide)),rfF (fun g=>g.elim (fun g=>nv _ (by decide) g.2) (fun g=>nv _ (by decide) g.2.1))]
  rw [e1,a9Y hA];cases hb:a.2.2 with
  | none=>exact .inl ⟨rfl,rfl,rfl,rfl⟩
  | some m=>
    refine .inr ⟨rfl,fun w hw=>?_⟩;have hwm:=hw m hb
    have ea:∀ x,anP line w x=(a5t [119,105,100,101] (wM w),w,x):=fun x=>by
     unfold anP;rw [if_neg (nv _ (by decide)),if_pos (.inr (.inl h)),h]
    refine⟨.inr (.inl ⟨(.inr (.inl h)),by rw [hwm];exact ha.mg m hb⟩),?_,?_,?_⟩
    ·rw [ea,hwm]
    ·rw [ea]
    ·rw [ea];exact hw
 ·rw [if_neg c];rw [a2b h (fun g=>nv _ (by decide) g.2.1) (fun g=>g.2.1.elim (nv _ (by decide)) (nv _ (by decide))) (fun g=>nv _ (by decide) g.2) (fun g=>nv _ (by decide) g.2) (fun g=>nv _ (by decide) g.2) (fun g=>nv _ (by decide) g.2) (nE _ (by decide) (by decide)) (fun g=>g.elim (fun g=>nv _ (by decide) g.2) (fun g=>nv _ (by decide) g.2.1)) (a2Y (nE _ (by decide) (by decide)) (fun g=>c ((a1g (by decide) line).1 g).1) (nE _ (by decide) (by decide)) (nE _ (by decide) (by decide)) (fun g=>nv _ (by decide) g.2.1) (fun g=>nv _ (by decide) g.2.1))];exact .inl ⟨rfl,rfl,rfl,rfl⟩
theorem b4i {line:BS} {a:Ss} (ha:a7Y 9400 a) (h:(wdL line).getD 0 []=[99,104,117,110,107,115]):a2j line a:=by
 have nv:∀ l:BS,l≠[99,104,117,110,107,115]->¬(wdL line).getD 0 []=l:=fun l hl g=>hl (g.symm.trans h)
 have nE:∀ l:BS,l≠[99,104,117,110,107,115]->(32:UInt8)∉l->¬line=l:=fun l hl hs g=>nv l hl ((a1g hs line).1 g).2
 have e:doP line a=(a1a [99,104,117,110,107,115] line a,a):=by unfold doP;rw [if_neg (nv _ (by decide)),if_neg (fun g=>g.elim (nv _ (by decide)) (nv _ (by decide))),if_neg (fun g=>g.elim (nv _ (by decide)) (fun g=>g.elim (nv _ (by decide)) (nv _ (by decide)))),if_neg (nv _ (by decide)),if_neg (nv _ (by decide)),if_pos (.inr (.inr (.inl h))),h]
 unfold a2j;rw [e];unfold a1a;by_cases c:(wdL line).length=1
 ·rw [if_pos c];have hl:line=[99,104,117,110,107,115]:=(a1g (by decide) line).2 ⟨c,h⟩;have hA:a1l line=true:=by unfold a1l;rw [decide_eq_true hl];simp
  have e1:rfP line (a2l a)=rf6 line (a2l a):=by rw [rfA (fun g=>nv _ (by decide) g.2.1),rfB (fun g=>g.2.1.elim (nv _ (by decide)) (nv _ (by decide))),rfC (fun g=>nv _ (by decide) g.2),rfD (fun g=>nv _ (by decide) g.2) (fun g=>nv _ (by decide) g.2) (fun g=>nv _ (by decide) g.2),rfE (nE _ (by decide) (by decide)),rfF (fun g=>g.elim (fun g=>nv _ (by decide) g.2) (fun g=>nv _ (by decide) g.2.1))]
  rw [e1,a9Y hA];cases hb:a.2.2 with
  | none=>exact .inl ⟨rfl,rfl,rfl,rfl⟩
  | some m=>
    refine .inr ⟨rfl,fun w hw=>?_⟩;have hwm:=hw m hb
    have ea:∀ x,anP line w x=(a5t [99,104,117,110,107,115] (wM w),w,x):=fun x=>by
     unfold anP;rw [if_neg (nv _ (by decide)),if_pos (.inr (.inr (.inl h))),h]
    refine⟨.inr (.inl ⟨(.inr (.inr (.inl h))),by rw [hwm];exact ha.mg m hb⟩),?_,?_,?_⟩
    ·rw [ea,hwm]
    ·rw [ea]
    ·rw [ea];exact hw
 ·rw [if_neg c];rw [a2b h (fun g=>nv _ (by decide) g.2.1) (fun g=>g.2.1.elim (nv _ (by decide)) (nv _ (by decide))) (fun g=>nv _ (by decide) g.2) (fun g=>nv _ (by decide) g.2) (fun g=>nv _ (by decide) g.2) (fun g=>nv _ (by decide) g.2) (nE _ (by decide) (by decide)) (fun g=>g.elim (fun g=>nv _ (by decide) g.2) (fun g=>nv _ (by decide) g.2.1)) (a2Y (nE _ (by decide) (by decide)) (nE _ (by decide) (by decide)) (fun g=>c ((a1g (by decide) line).1 g).1) (nE _ (by decide) (by decide)) (fun g=>nv _ (by decide) g.2.1) (fun g=>nv _ (by decide) g.2.1))];exact .inl ⟨rfl,rfl,rfl,rfl⟩
theorem c1e {line:BS} {a:Ss} (ha:a7Y 9400 a) (h:(wdL line).getD 0 []=[115,104,111,119]):a2j line a:=by
 have nv:∀ l:BS,l≠[115,104,111,119]->¬(wdL line).getD 0 []=l:=fun l hl g=>hl (g.symm.trans h)
 have nE:∀ l:BS,l≠[115,104,111,119]->(32:UInt8)∉l->¬line=l:=fun l hl hs g=>nv l hl ((a1g hs line).1 g).2
 have e:doP line a=(a1a [115,104,111,119] line a,a):=by unfold doP;rw [if_neg (nv _ (by decide)),if_neg (fun g=>g.elim (nv _ (by decide)) (nv _ (by decide))),if_neg (fun g=>g.elim (nv _ (by decide)) (fun g=>g.elim (nv _ (by decide)) (nv _ (by decide)))),if_neg (nv _ (by decide)),if_neg (nv _ (by decide)),if_pos (.inr (.inr (.inr h))),h]
 unfold a2j;rw [e];unfold a1a;by_cases c:(wdL line).length=1
 ·rw [if_pos c];have hl:line=[115,104,111,119]:=(a1g (by decide) line).2 ⟨c,h⟩;have hA:a1l line=true:=by unfold a1l;rw [decide_eq_true hl];simp
  have e1:rfP line (a2l a)=rf6 line (a2l a):=by rw [rfA (fun g=>nv _ (by decide) g.2.1),rfB (fun g=>g.2.1.elim (nv _ (by decide)) (nv _ (by decide))),rfC (fun g=>nv _ (by decide) g.2),rfD (fun g=>nv _ (by decide) g.2) (fun g=>nv _ (by decide) g.2) (fun g=>nv _ (by decide) g.2),rfE (nE _ (by decide) (by decide)),rfF (fun g=>g.elim (fun g=>nv _ (by decide) g.2) (fun g=>nv _ (by decide) g.2.1))]
  rw [e1,a9Y hA];cases hb:a.2.2 with
  | none=>exact .inl ⟨rfl,rfl,rfl,rfl⟩
  | some m=>
    refine .inr ⟨rfl,fun w hw=>?_⟩;have hwm:=hw m hb
    have ea:∀ x,anP line w x=(a5t [115,104,111,119] (wM w),w,x):=fun x=>by
     unfold anP;rw [if_neg (nv _ (by decide)),if_pos (.inr (.inr (.inr h))),h]
    refine⟨.inr (.inl ⟨(.inr (.inr (.inr h))),by rw [hwm];exact ha.mg m hb⟩),?_,?_,?_⟩
    ·rw [ea,hwm]
    ·rw [ea]
    ·rw [ea];exact hw
 ·rw [if_neg c];rw [a2b h (fun g=>nv _ (by decide) g.2.1) (fun g=>g.2.1.elim (nv _ (by decide)) (nv _ (by decide))) (fun g=>nv _ (by decide) g.2) (fun g=>nv _ (by decide) g.2) (fun g=>nv _ (by decide) g.2) (fun g=>nv _ (by decide) g.2) (nE _ (by decide) (by decide)) (fun g=>g.elim (fun g=>nv _ (by decide) g.2) (fun g=>nv _ (by decide) g.2.1)) (a2Y (nE _ (by decide) (by decide)) (nE _ (by decide) (by decide)) (nE _ (by decide) (by decide)) (fun g=>c ((a1g (by decide) line).1 g).1) (fun g=>nv _ (by decide) g.2.1) (fun g=>nv _ (by decide) g.2.1))];exact .inl ⟨rfl,rfl,rfl,rfl⟩
theorem b2d {line:BS} {a:Ss} (ha:a7Y 9400 a) (h:(wdL line).getD 0 []=[114,101,115,111,108,118,101]):a2j line a:=by
 have nv:∀ l:BS,l≠[114,101,115,111,108,118,101]->¬(wdL line).getD 0 []=l:=fun l hl g=>hl (g.symm.trans h)
 have nE:∀ l:BS,l≠[114,101,115,111,108,118,101]->(32:UInt8)∉l->¬line=l:=fun l hl hs g=>nv l hl ((a1g hs line).1 g).2
 have e:doP line a=(a3x line a,a):=by unfold doP;rw [if_neg (nv _ (by decide)),if_neg (fun g=>g.elim (nv _ (by decide)) (nv _ (by decide))),if_neg (fun g=>g.elim (nv _ (by decide)) (fun g=>g.elim (nv _ (by decide)) (nv _ (by decide)))),if_neg (nv _ (by decide)),if_neg (nv _ (by decide)),if_neg (fun g=>g.elim (nv _ (by decide)) (fun g=>g.elim (nv _ (by decide)) (fun g=>g.elim (nv _ (by decide)) (nv _ (by decide))))),if_pos h]
 unfold a2j;rw [e];unfold a3x;by_cases c:(wdL line).length=2/\(a0B ((wdL line).getD 1 [])).2=true
 ·rw [if_pos c];have hA:a1l line=true:=by unfold a1l;rw [decide_eq_true (⟨c.1,h,(a8e _).2 c.2⟩:(wdL line).length=2/\(wdL line).getD 0 []=[114,101,115,111,108,118,101]/\0<(a0B ((wdL line).getD 1 [])).1)];simp
  have e1:rfP line (a2l a)=rf6 line (a2l a):=by rw [rfA (fun g=>nv _ (by decide) g.2.1),rfB (fun g=>g.2.1.elim (nv _ (by decide)) (nv _ (by decide))),rfC (fun g=>nv _ (by decide) g.2),rfD (fun g=>nv _ (by decide) g.2) (fun g=>nv _ (by decide) g.2) (fun g=>nv _ (by decide) g.2),rfE (nE _ (by decide) (by decide)),rfF (fun g=>g.elim (fun g=>nv _ (by decide) g.2) (fun g=>nv _ (by decide) g.2.1))]
  rw [e1,a9Y hA];cases hb:a.2.2 with
  | none=>exact .inl ⟨rfl,rfl,rfl,rfl⟩
  | some m=>
    refine .inr ⟨rfl,fun w hw=>?_⟩;have hwm:=hw m hb;have h1:w.1=m.1:=congrArg Prod.fst hwm
    have ea:∀ x,anP line w x=(a1G (a9B w.1 (a0B ((wdL line).getD 1 [])).1).1 (a9B w.1 (a0B ((wdL line).getD 1 [])).1).2,w,x):=fun x=>by
     unfold anP;rw [if_neg (nv _ (by decide)),if_neg (fun g=>g.elim (nv _ (by decide)) (fun g=>g.elim (nv _ (by decide)) (fun g=>g.elim (nv _ (by decide)) (nv _ (by decide))))),if_pos h]
    refine⟨.inr (.inr (.inl ⟨h,c.1,by rw [hwm];exact ha.mg m hb⟩)),?_,?_,?_⟩
    ·rw [ea,h1]
    ·rw [ea]
    ·rw [ea];exact hw
 ·rw [if_neg c];rw [a2b h (fun g=>nv _ (by decide) g.2.1) (fun g=>g.2.1.elim (nv _ (by decide)) (nv _ (by decide))) (fun g=>nv _ (by decide) g.2) (fun g=>nv _ (by decide) g.2) (fun g=>nv _ (by decide) g.2) (fun g=>nv _ (by decide) g.2) (nE _ (by decide) (by decide)) (fun g=>g.elim (fun g=>nv _ (by decide) g.2) (fun g=>nv _ (by decide) g.2.1)) (a2Y (nE _ (by decide) (by decide)) (nE _ (by decide) (by decide)) (nE _ (by decide) (by decide)) (nE _ (by decide) (by decide)) (fun g=>c ⟨g.1,(a8e _).1 g.2.2⟩) (fun g=>nv _ (by decide) g.2.1))];exact .inl ⟨rfl,rfl,rfl,rfl⟩
theorem c0o {line:BS} {a:Ss} (ha:a7Y 9400 a) (h:(wdL line).getD 0 []=[112,105,99,107]):a2j line a:=by
 have nv:∀ l:BS,l≠[112,105,99,107]->¬(wdL line).getD 0 []=l:=fun l hl g=>hl (g.symm.trans h)
 have nE:∀ l:BS,l≠[112,105,99,107]->(32:UInt8)∉l->¬line=l:=fun l hl hs g=>nv l hl ((a1g hs line).1 g).2
 have e:doP line a=a09 line a:=by unfold doP;rw [if_neg (nv _ (by decide)),if_neg (fun g=>g.elim (nv _ (by decide)) (nv _ (by decide))),if_neg (fun g=>g.elim (nv _ (by decide)) (fun g=>g.elim (nv _ (by decide)) (nv _ (by decide)))),if_neg (nv _ (by decide)),if_neg (nv _ (by decide)),if_neg (fun g=>g.elim (nv _ (by decide)) (fun g=>g.elim (nv _ (by decide)) (fun g=>g.elim (nv _ (by decide)) (nv _ (by decide))))),if_neg (nv _ (by decide)),if_pos h]
 unfold a2j;rw [e];unfold a09;by_cases c:(wdL line).length=3/\(a3o ((wdL line).getD 1 [])).isSome=true/\(a0B ((wdL line).getD 2 [])).2=true
 ·rw [if_pos c];have hA:a1l line=true:=by unfold a1l;rw [decide_eq_true (⟨c.1,h,(a89 _).2 c.2.1,(a8e _).2 c.2.2⟩:(wdL line).length=3/\(wdL line).getD 0 []=[112,105,99,107]/\0<=a1J ((wdL line).getD 1 [])/\0<(a0B ((wdL line).getD 2 [])).1)];simp
  have e1:rfP line (a2l a)=rf6 line (a2l a):=by rw [rfA (fun g=>nv _ (by decide) g.2.1),rfB (fun g=>g.2.1.elim (nv _ (by decide)) (nv _ (by decide))),rfC (fun g=>nv _ (by decide) g.2),rfD (fun g=>nv _ (by decide) g.2) (fun g=>nv _ (by decide) g.2) (fun g=>nv _ (by decide) g.2),rfE (nE _ (by decide) (by decide)),rfF (fun g=>g.elim (fun g=>nv _ (by decide) g.2) (fun g=>nv _ (by decide) g.2.1))]
  rw [e1,a9Y hA];cases hb:a.2.2 with
  | none=>exact .inl ⟨rfl,rfl,rfl,hb⟩
  | some m=>
    refine .inr ⟨rfl,fun w hw=>?_⟩;have hwm:=hw m hb;have h1:w.1=m.1:=congrArg Prod.fst hwm;have h2:(wM w).2=m.2:=congrArg Prod.snd hwm;have hask:b7h line w:=.inr (.inr (.inr (.inl ⟨h,c.1,Option.isSome_iff_exists.1 c.2.1,by rw [hwm];exact ha.mg m hb⟩)));dsimp only;by_cases hz:(a38 m.1 (a1J ((wdL line).getD 1 [])) (a0B ((wdL line).getD 2 [])).1).2=0
    ·have ea:∀ x,anP line w x=(Lib.itoa (a0k (a38 m.1 (a1J ((wdL line).getD 1 [])) (a0B ((wdL line).getD 2 [])).1).1:Nat),((a38 m.1 (a1J ((wdL line).getD 1 [])) (a0B ((wdL line).getD 2 [])).1).1,w.2),x):=fun x=>by
      unfold anP;rw [if_neg (nv _ (by decide)),if_neg (fun g=>g.elim (nv _ (by decide)) (fun g=>g.elim (nv _ (by decide)) (fun g=>g.elim (nv _ (by decide)) (nv _ (by decide))))),if_neg (nv _ (by decide)),if_pos h,h1,if_pos hz]
     rw [if_pos hz];refine⟨hask,?_,?_,?_⟩
     ·rw [ea]
     ·rw [ea];show (a.1,a.2.1,a.2.2.isSome)=(a.1,a.2.1,true);rw [hb];rfl
     ·rw [ea];intro m' hm';have hm':=oJI hm';rw [<-hm'];exact Prod.ext rfl h2
    ·have ea:∀ x,anP line w x=(a7t (a38 m.1 (a1J ((wdL line).getD 1 [])) (a0B ((wdL line).getD 2 [])).1).2,w,x):=fun x=>by
      unfold anP;rw [if_neg (nv _ (by decide)),if_neg (fun g=>g.elim (nv _ (by decide)) (fun g=>g.elim (nv _ (by decide)) (fun g=>g.elim (nv _ (by decide)) (nv _ (by decide))))),if_neg (nv _ (by decide)),if_pos h,h1,if_neg hz]
     rw [if_neg hz];refine⟨hask,?_,?_,?_⟩
     ·rw [ea]
     ·rw [ea]
     ·rw [ea];exact hw
 ·rw [if_neg c];rw [a2b h (fun g=>nv _ (by decide) g.2.1) (fun g=>g.2.1.elim (nv _ (by decide)) (nv _ (by decide))) (fun g=>nv _ (by decide) g.2) (fun g=>nv _ (by decide) g.2) (fun g=>nv _ (by decide) g.2) (fun g=>nv _ (by decide) g.2) (nE _ (by decide) (by decide)) (fun g=>g.elim (fun g=>nv _ (by decide) g.2) (fun g=>nv _ (by decide) g.2.1)) (a2Y (nE _ (by decide) (by decide)) (nE _ (by decide) (by decide)) (nE _ (by decide) (by decide)) (nE _ (by decide) (by decide)) (fun g=>nv _ (by decide) g.2.1) (fun g=>c ⟨g.1,(a89 _).1 g.2.2.1,(a8e _).1 g.2.2.2⟩))];exact .inl ⟨rfl,rfl,rfl,rfl⟩
theorem c1D {line:BS} {a:Ss} (h:(wdL line).getD 0 []=[100,105,102,102]):a2j line a:=by
 have nv:∀ l:BS,l≠[100,105,102,102]->¬(wdL line).getD 0 []=l:=fun l hl g=>hl (g.symm.trans h)
 have nE:∀ l:BS,l≠[100,105,102,102]->(32:UInt8)∉l->¬line=l:=fun l hl hs g=>nv l hl ((a1g hs line).1 g).2
 have e:doP line a=(a1w line a,a):=by unfold doP;rw [if_neg (nv _ (by decide)),if_neg (fun g=>g.elim (nv _ (by decide)) (nv _ (by decide))),if_neg (fun g=>g.elim (nv _ (by decide)) (fun g=>g.elim (nv _ (by decide)) (nv _ (by decide)))),if_neg (nv _ (by decide)),if_neg (nv _ (by decide)),if_neg (fun g=>g.elim (nv _ (by decide)) (fun g=>g.elim (nv _ (by decide)) (fun g=>g.elim (nv _ (by decide)) (nv _ (by decide))))),if_neg (nv _ (by decide)),if_neg (nv _ (by decide)),if_pos h]
 unfold a2j;rw [e];unfold a1w;by_cases c:(wdL line).length=3/\0<=a0M ((wdL line).getD 1 [])/\0<=a1J ((wdL line).getD 2 [])/\a1J ((wdL line).getD 2 [])<=100
 ·rw [if_pos c]
  have e2:rfP line (a2l a)=([],false,a2l a):=by
   rw [rfA (fun g=>nv _ (by decide) g.2.1),rfB (fun g=>g.2.1.elim (nv _ (by decide)) (nv _ (by decide))),rfC (fun g=>nv _ (by decide) g.2),rfD (fun g=>nv _ (by decide) g.2) (fun g=>nv _ (by decide) g.2) (fun g=>nv _ (by decide) g.2),rfE (nE _ (by decide) (by decide))];unfold rf5;rw [if_pos (.inr ⟨c.1,h,c.2.1,c.2.2.1,c.2.2.2⟩)]
  rw [e2];refine .inr ⟨rfl,fun w hw=>?_⟩
  have ea:∀ x,anP line w x=(a2P (a86 x.1.1 (rtx x (a0M ((wdL line).getD 1 []))) (a1J ((wdL line).getD 2 [])).toNat),w,x):=fun x=>by
   unfold anP;rw [if_neg (nv _ (by decide)),if_neg (fun g=>g.elim (nv _ (by decide)) (fun g=>g.elim (nv _ (by decide)) (fun g=>g.elim (nv _ (by decide)) (nv _ (by decide))))),if_neg (nv _ (by decide)),if_neg (nv _ (by decide)),if_pos h]
  obtain⟨n,hn⟩:=Option.isSome_iff_exists.1 ((a89 _).1 c.2.2.1);refine⟨.inr (.inr (.inr (.inr (.inl ⟨h,c.1,c.2.1,n,?_,hn⟩)))),?_,?_,?_⟩
  ·have:=c.2.2.2;rw [a1m hn] at this;omega
  ·rw [ea];rfl
  ·rw [ea]
  ·rw [ea];exact hw
 ·rw [if_neg c];rw [a2b h (fun g=>nv _ (by decide) g.2.1) (fun g=>g.2.1.elim (nv _ (by decide)) (nv _ (by decide))) (fun g=>nv _ (by decide) g.2) (fun g=>nv _ (by decide) g.2) (fun g=>nv _ (by decide) g.2) (fun g=>nv _ (by decide) g.2) (nE _ (by decide) (by decide)) (fun g=>g.elim (fun g=>nv _ (by decide) g.2) (fun g=>c ⟨g.1,g.2.2⟩)) (a2Y (nE _ (by decide) (by decide)) (nE _ (by decide) (by decide)) (nE _ (by decide) (by decide)) (nE _ (by decide) (by decide)) (fun g=>nv _ (by decide) g.2.1) (fun g=>nv _ (by decide) g.2.1))];exact .inl ⟨rfl,rfl,rfl,rfl⟩
theorem b70 {line:BS} {a:Ss} (h:(wdL line).getD 0 []=[112,97,114,115,101]):a2j line a:=by
 have nv:∀ l:BS,l≠[112,97,114,115,101]->¬(wdL line).getD 0 []=l:=fun l hl g=>hl (g.symm.trans h)
 have nE:∀ l:BS,l≠[112,97,114,115,101]->(32:UInt8)∉l->¬line=l:=fun l hl hs g=>nv l hl ((a1g hs line).1 g).2
 have e:doP line a=a04 line a:=by unfold doP;rw [if_neg (nv _ (by decide)),if_neg (fun g=>g.elim (nv _ (by decide)) (nv _ (by decide))),if_neg (fun g=>g.elim (nv _ (by decide)) (fun g=>g.elim (nv _ (by decide)) (nv _ (by decide)))),if_neg (nv _ (by decide)),if_neg (nv _ (by decide)),if_neg (fun g=>g.elim (nv _ (by decide)) (fun g=>g.elim (nv _ (by decide)) (fun g=>g.elim (nv _ (by decide)) (nv _ (by decide))))),if_neg (nv _ (by decide)),if_neg (nv _ (by decide)),if_neg (nv _ (by decide)),if_pos h]
 unfold a2j;rw [e];unfold a04;by_cases c:(wdL line).length=2/\(a3o ((wdL line).getD 1 [])).isSome=true
 ·rw [if_pos c]
  have e2:rfP line (a2l a)=([],false,a2l a):=by
   rw [rfA (fun g=>nv _ (by decide) g.2.1),rfB (fun g=>g.2.1.elim (nv _ (by decide)) (nv _ (by decide))),rfC (fun g=>nv _ (by decide) g.2),rfD (fun g=>nv _ (by decide) g.2) (fun g=>nv _ (by decide) g.2) (fun g=>nv _ (by decide) g.2),rfE (nE _ (by decide) (by decide))];unfold rf5;rw [a4O c.1,if_pos (.inl ⟨(a89 _).2 c.2,h⟩)]
  rw [e2];refine .inr ⟨rfl,fun w hw=>?_⟩;have hask:b7h line w:=.inr (.inr (.inr (.inr (.inr ⟨h,c.1,Option.isSome_iff_exists.1 c.2⟩))));by_cases hz:(a0V a.1.1 (a1J ((wdL line).getD 1 []))).2.1=0
  ·have ea:anP line w (a2l a)=(Lib.itoa (a0k (a0V a.1.1 (a1J ((wdL line).getD 1 []))).1:Nat),((a0V a.1.1 (a1J ((wdL line).getD 1 []))).1,([],[],[],[],a.1.1,a1J ((wdL line).getD 1 []),0)),(a.1,a.2.1,true)):=by
    unfold anP;rw [if_neg (nv _ (by decide)),if_neg (fun g=>g.elim (nv _ (by decide)) (fun g=>g.elim (nv _ (by decide)) (fun g=>g.elim (nv _ (by decide)) (nv _ (by decide))))),if_neg (nv _ (by decide)),if_neg (nv _ (by decide)),if_neg (nv _ (by decide)),if_pos (show (a0V (a2l a).1.1 (a1J ((wdL line).getD 1 []))).2.1=0 from hz)];rfl
   rw [if_pos hz];refine⟨hask,?_,?_,?_⟩
   ·rw [ea]
   ·rw [ea];rfl
   ·rw [ea];intro m hm;exact oJI hm
  ·have ea:anP line w (a2l a)=(a7t (a0V a.1.1 (a1J ((wdL line).getD 1 []))).2.1++[32]++Lib.itoa (a0V a.1.1 (a1J ((wdL line).getD 1 []))).2.2,w,a2l a):=by
    unfold anP;rw [if_neg (nv _ (by decide)),if_neg (fun g=>g.elim (nv _ (by decide)) (fun g=>g.elim (nv _ (by decide)) (fun g=>g.elim (nv _ (by decide)) (nv _ (by decide))))),if_neg (nv _ (by decide)),if_neg (nv _ (by decide)),if_neg (nv _ (by decide)),if_neg (show ¬(a0V (a2l a).1.1 (a1J ((wdL line).getD 1 []))).2.1=0 from hz)];rfl
   rw [if_neg hz];refine⟨hask,?_,?_,?_⟩
   ·rw [ea]
   ·rw [ea]
   ·rw [ea];exact hw
 ·rw [if_neg c]
  have hn:¬(0<=rfN line):=fun g=>by
   by_cases c2:(wdL line).length=2
   ·rw [a4O c2] at g;exact c ⟨c2,(a89 _).1 g⟩
   ·rw [b0S c2] at g;exact absurd g (by decide)
  rw [a2b h (fun g=>nv _ (by decide) g.2.1) (fun g=>g.2.1.elim (nv _ (by decide)) (nv _ (by decide))) (fun g=>nv _ (by decide) g.2) (fun g=>nv _ (by decide) g.2) (fun g=>nv _ (by decide) g.2) (fun g=>nv _ (by decide) g.2) (nE _ (by decide) (by decide)) (fun g=>g.elim (fun g=>hn g.1) (fun g=>nv _ (by decide) g.2.1)) (a2Y (nE _ (by decide) (by decide)) (nE _ (by decide) (by decide)) (nE _ (by decide) (by decide)) (nE _ (by decide) (by decide)) (fun g=>nv _ (by decide) g.2.1) (fun g=>nv _ (by decide) g.2.1))];exact .inl ⟨rfl,rfl,rfl,rfl⟩
theorem d90 (line:BS) {a:Ss} (ha:a7Y 9400 a):a2j line a:=by
 by_cases h_add:(wdL line).getD 0 []=[97,100,100]
 ·exact c3d h_add
 by_cases h_bare:(wdL line).getD 0 []=[98,97,114,101]
 ·exact b55 h_bare (.inl rfl)
 by_cases h_clear:(wdL line).getD 0 []=[99,108,101,97,114]
 ·exact b55 h_clear (.inr rfl)
 by_cases h_style:(wdL line).getD 0 []=[115,116,121,108,101]
 ·exact b6U h_style
 by_cases h_width:(wdL line).getD 0 []=[119,105,100,116,104]
 ·exact b7W h_width
 by_cases h_favour:(wdL line).getD 0 []=[102,97,118,111,117,114]
 ·exact b4b h_favour
 by_cases h_labels:(wdL line).getD 0 []=[108,97,98,101,108,115]
 ·exact b35 h_labels
 by_cases h_merge:(wdL line).getD 0 []=[109,101,114,103,101]
 ·exact b7m h_merge
 by_cases h_text:(wdL line).getD 0 []=[116,101,120,116]
 ·exact b8c ha h_text
 by_cases h_wide:(wdL line).getD 0 []=[119,105,100,101]
 ·exact c06 ha h_wide
 by_cases h_chunks:(wdL line).getD 0 []=[99,104,117,110,107,115]
 ·exact b4i ha h_chunks
 by_cases h_show:(wdL line).getD 0 []=[115,104,111,119]
 ·exact c1e ha h_show
 by_cases h_resolve:(wdL line).getD 0 []=[114,101,115,111,108,118,101]
 ·exact b2d ha h_resolve
 by_cases h_pick:(wdL line).getD 0 []=[112,105,99,107]
 ·exact c0o ha h_pick
 by_cases h_diff:(wdL line).getD 0 []=[100,105,102,102]
 ·exact c1D h_diff
 by_cases h_parse:(wdL line).getD 0 []=[112,97,114,115,101]
 ·exact b70 h_parse
 have e:doP line a=(a0q,a):=by unfold doP;rw [if_neg h_add,if_neg (fun g=>g.elim h_bare h_clear),if_neg (fun g=>g.elim h_style (fun g=>g.elim h_width h_favour)),if_neg h_labels,if_neg h_merge,if_neg (fun g=>g.elim h_text (fun g=>g.elim h_wide (fun g=>g.elim h_chunks h_show))),if_neg h_resolve,if_neg h_pick,if_neg h_diff,if_neg h_parse]
 unfold a2j;rw [e];rw [a2b rfl (fun g=>h_add g.2.1) (fun g=>g.2.1.elim h_bare h_clear) (fun g=>h_labels g.2) (fun g=>h_style g.2) (fun g=>h_width g.2) (fun g=>h_favour g.2) (fun g=>h_merge ((a1g (by decide) line).1 g).2) (fun g=>g.elim (fun g=>h_parse g.2) (fun g=>h_diff g.2.1)) (a2Y (fun g=>h_text ((a1g (by decide) line).1 g).2) (fun g=>h_wide ((a1g (by decide) line).1 g).2) (fun g=>h_chunks ((a1g (by decide) line).1 g).2) (fun g=>h_show ((a1g (by decide) line).1 g).2) (fun g=>h_resolve g.2.1) (fun g=>h_pick g.2.1))];exact .inl ⟨rfl,rfl,rfl,rfl⟩
end
section
section
variable {P:Program} {Γ:Gam} {ops:Array Oper} {st:AS} {K:AS->Prop}
def a3g (P:Program) (Γ:Gam) (ops:Array Oper):List Nat->List Oper->AS->(AS->Prop)->Prop
 | _,[],st,K=>K st
 | 0::W,o::r,st,K=>match gop P Γ ops st o with
   | some (pre,z,row)=>(a0w st.sz o.dst/\pre)/\a3g P Γ ops W r (st.put o.dst z row) K
   | none=>o.guard=none/\bop P Γ st o fun st'=>a3g P Γ ops W r st' K
 | 1::W,o::r,st,K=>gOK ops st.fr o.guard/\match gop P Γ ops st (b3R o) with
   | some (pre,z,row)=>(a0w st.sz o.dst/\pre)/\a3g P Γ ops W r (st.put o.dst z row) K
   | none=>bop P Γ st (b3R o) fun st'=>a3g P Γ ops W r st' K
 | _::W,o::r,st,K=>gNO ops st.fr o.guard/\a0w st.sz o.dst/\a3g P Γ ops W r (st.put o.dst (.gd false .any) .dead) K
 | [],l,st,K=>a7I P Γ ops l st K
def b9g (P:Program) (Γ:Gam) (ops:Array Oper) (W:List Nat) (r:List Oper) (K:AS->Prop):AS->Prop:=fun st=>a3g P Γ ops W r st K
theorem c2h {W:List Nat} {r:List Oper}:b9g P Γ ops W r K st=a3g P Γ ops W r st K:=a1T rfl
def d59 (P:Program) (Γ:Gam) (ops:Array Oper) (W:List Nat) (o:Oper) (r:List Oper) (K:AS->Prop) (st:AS):b1Y->Prop
 | some (pre,z,row)=>(a0w st.sz o.dst/\pre)/\a3g P Γ ops W r (st.put o.dst z row) K
 | none=>o.guard=none/\bop P Γ st o (b9g P Γ ops W r K)
theorem b19 {W:List Nat} {o:Oper} {r:List Oper} {pre:Prop} {z:AV} {row:Row}:d59 P Γ ops W o r K st (some (pre,z,row))=((a0w st.sz o.dst/\pre)/\a3g P Γ ops W r (st.put o.dst z row) K):=a1T rfl
theorem b25 {W:List Nat} {o:Oper} {r:List Oper}:d59 P Γ ops W o r K st none=(o.guard=none/\bop P Γ st o (b9g P Γ ops W r K)):=a1T rfl
def d6k (P:Program) (Γ:Gam) (ops:Array Oper) (W:List Nat) (o:Oper) (r:List Oper) (K:AS->Prop) (st:AS):b1Y->Prop
 | some (pre,z,row)=>(a0w st.sz o.dst/\pre)/\a3g P Γ ops W r (st.put o.dst z row) K
 | none=>bop P Γ st (b3R o) (b9g P Γ ops W r K)
theorem b3f {W:List Nat} {o:Oper} {r:List Oper} {pre:Prop} {z:AV} {row:Row}:d6k P Γ ops W o r K st (some (pre,z,row))=((a0w st.sz o.dst/\pre)/\a3g P Γ ops W r (st.put o.dst z row) K):=a1T rfl
theorem b2R {W:List Nat} {o:Oper} {r:List Oper}:d6k P Γ ops W o r K st none=bop P Γ st (b3R o) (b9g P Γ ops W r K):=a1T rfl
theorem c1s {W:List Nat}:a3g P Γ ops W [] st K=K st:=a1T (by rcases W with _|⟨_|_|b,W⟩<;>rfl)
theorem c1k {o:Oper} {r:List Oper}:a3g P Γ ops [] (o::r) st K=a7I P Γ ops (o::r) st K:=a1T rfl
theorem c1x {W:List Nat} {o:Oper} {r:List Oper}:a3g P Γ ops (0::W) (o::r) st K=d59 P Γ ops W o r K st (gop P Γ ops st o):=a1T rfl
theorem c1l {W:List Nat} {o:Oper} {r:List Oper}:a3g P Γ ops (1::W) (o::r) st K=(gOK ops st.fr o.guard/\d6k P Γ ops W o r K st (gop P Γ ops st (b3R o))):=a1T rfl
theorem c9u {W:List Nat} {o:Oper} {r:List Oper}:a3g P Γ ops (2::W) (o::r) st K=(gNO ops st.fr o.guard/\a0w st.sz o.dst/\a3g P Γ ops W r (st.put o.dst (.gd false .any) .dead) K):=a1T rfl
theorem a34 (hΓ:GOK P Γ) {ops:Array Oper} {Q:Exit->Act->World->Prop}:∀ (W:List Nat) (l:List Oper) (c:Ctx) (st:AS) (K:AS->Prop) (η:Env) (a:Act) (w:World),SR c st η a w->a3g P Γ ops W l st K->
  (∀ st' η' a' w',SR c st' η' a' w'->K st'->Q .normal a' w')->wpList P ops Q l a w
 | [],[],_,_,_,η,a,w,hsr,h,hQ=>hQ _ η a w hsr h
 | 0::_,[],_,_,_,η,a,w,hsr,h,hQ=>hQ _ η a w hsr (by unfold a3g at h;exact h)
 | 1::_,[],_,_,_,η,a,w,hsr,h,hQ=>hQ _ η a w hsr (by unfold a3g at h;exact h)
 | (n+2)::_,[],_,_,_,η,a,w,hsr,h,hQ=>hQ _ η a w hsr (by unfold a3g at h;exact h)
 | [],o::r,c,st,K,η,a,w,hsr,h,hQ=>a55 hΓ (o::r) c st K η a w hsr h hQ
 | 0::W,o::r,c,st,K,η,a,w,hsr,h,hQ=>by
   rw [c1x] at h;cases hg:gop P Γ ops st o with
   | some t=>
     obtain⟨pre,z,row⟩:=t;rw [hg,b19] at h;exact wpList_step fun KK hKK=>b0l hΓ hsr hg h.1.2 h.1.1 fun η' a' w' hsr'=>hKK _ _ (a34 hΓ W r c _ K η' a' w' hsr' h.2 hQ)
   | none=>
     rw [hg,b25] at h;refine wpList_step fun KK hKK=>?_
     rw [if_pos (a4a h.1)];exact b17 hΓ h.2 c η a w KK Q hsr fun st' η' a' w' hsr' hx=>hKK _ _ (a34 hΓ W r c st' K η' a' w' hsr' hx hQ)
 | 1::W,o::r,c,st,K,η,a,w,hsr,h,hQ=>by
   rw [c1l] at h;obtain⟨hg0,h⟩:=h;refine wpList_step fun KK hKK=>?_
   rw [if_pos (b21 hsr hg0)];have eo:∀ K':Act->World->Prop,(b3R o).wp P a w K' Q->o.wp P a w K' Q:=fun K' hh=>hh
   refine eo KK ?_;cases hg:gop P Γ ops st (b3R o) with
   | some t=>
     obtain⟨pre,z,row⟩:=t;rw [hg,b3f] at h;have:=b0l hΓ hsr (o:=b3R o) (ops:=ops) hg h.1.2 h.1.1 (Q:=Q) (K:=KK) fun η' a' w' hsr'=>hKK _ _ (a34 hΓ W r c _ K η' a' w' hsr' h.2 hQ)
     rw [if_pos (a4a rfl)] at this;exact this
   | none=>
     rw [hg,b2R] at h;exact b17 hΓ h c η a w KK Q hsr fun st' η' a' w' hsr' hx=>hKK _ _ (a34 hΓ W r c st' K η' a' w' hsr' hx hQ)
 | (n+2)::W,o::r,c,st,K,η,a,w,hsr,h,hQ=>by
   have h:gNO ops st.fr o.guard/\a0w st.sz o.dst/\a3g P Γ ops W r (st.put o.dst (.gd false .any) .dead) K:=h;refine wpList_step fun KK hKK=>?_
   rw [b2p hsr h.1];simp only [Bool.false_eq_true,if_false];exact hKK _ _ (a34 hΓ W r c _ K η _ w (hsr.skip h.2.1 (.inl rfl)) h.2.2 hQ)
theorem AW.regionG (hΓ:GOK P Γ) {Q:Exit->AS->Prop} {id:Nat} {l:List Oper} (W:List Nat) (h:a3g P Γ l.toArray W l st (Q .normal)):AW P (.region id l.toArray false) Q st:=by
 intro c η a w hsr;exact wp_region_lit (a34 hΓ W l c st _ η a w hsr h fun st' η' a' w' hsr' hq=>⟨st',η',hq,hsr'⟩)
end
attribute [go_sem high] c1x c1l c9u
attribute [go_sem] c2h b19 b25 b3f b2R c1s c1k a4o a3h b5i
end
section
attribute [local irreducible] AW a0h a0H a0c a3o
theorem c4v {line:BS} (h:3<=(wdL line).length):line.length=((wdL line).getD 0 []).length+((wdL line).getD 1 []).length+2+(a4B 2 line).length:=by
 rcases a2f 32 line with h1|⟨p,r,rfl,h1⟩
 ·rw [a4X line h1] at h;exact absurd h (by simp)
 ·rw [a4b p r h1] at h ⊢;rcases a2f 32 r with h2|⟨q,t,rfl,h2⟩
  ·rw [a4X r h2] at h;exact absurd h (by simp)
  ·rw [a4b q t h2,a4J 2 p _ h1,if_neg (by decide),a4J 1 q t h2,if_pos rfl];simp only [lAp,lCo,List.getD_cons_zero,List.getD_cons_succ];omega
theorem c5C {w:BS} (h:0<=a0M w):4<=w.length:=by
 unfold a0M at h;by_cases h1:w=[98,97,115,101]
 ·rw [h1];decide
 ·rw [if_neg h1] at h;by_cases h2:w=[108,101,102,116]
  ·rw [h2];decide
  ·rw [if_neg h2] at h;by_cases h3:w=[114,105,103,104,116]
   ·rw [h3];decide
   ·rw [if_neg h3] at h;exact absurd h (by decide)
theorem a7Y.mono {B C:Nat} {a:Ss} (h:a7Y B a) (hl:B<=C):a7Y C a:=⟨Nat.le_trans h.txt hl,h.lb,h.mg⟩
theorem c4k (a:Ss) (k:Int) (t:BS):(b2n a k t).1.1.length+(b2n a k t).1.2.1.length+(b2n a k t).1.2.2.length+(txt a k).length=a.1.1.length+a.1.2.1.length+a.1.2.2.length+t.length:=by
 unfold b2n txt;by_cases h0:k=0
 ·rw [if_pos h0,if_pos h0];dsimp only;omega
 ·rw [if_neg h0,if_neg h0];by_cases h1:k=1
  ·rw [if_pos h1,if_pos h1];dsimp only;omega
  ·rw [if_neg h1,if_neg h1];dsimp only;omega
theorem b4w {B C:Nat} {a:Ss} (h:a7Y B a) (k:Int) (t:BS) (hl:B+t.length<=C+(txt a k).length):a7Y C (b2n a k t):=by
 have e:=b1b a k t;have hs:=c4k a k t;have:=h.txt;refine⟨by omega,?_,?_⟩
 ·rw [e];exact h.lb
 ·rw [e];exact h.mg
theorem b9S (w:BS):(a6V w).length<=w.length:=by
 unfold a6V;split
 ·exact nZL _
 ·exact nLR _
theorem d4l {w:BS} {n:Nat} (h:a3o w=some n):n<=1000000:=by
 have ht:=a2D w;rw [h] at ht;rcases ht with⟨k,h1,h4,h3⟩|⟨h4,h3⟩
 ·have:=oJI h3;omega
 ·cases h3
theorem d2x {B:Nat} {a:Ss} {line:BS} (h:a7Y B a) (hl:line.length<=1000) (hB:B+(line.length-8)<=9400):a7Y (B+(line.length-8)) (doP line a).2:=by
 have hm:=h.mono (Nat.le_add_right B (line.length-8));have h9:a7Y 9400 a:=h.mono (by omega);unfold doP;split
 ·rename_i hv;unfold a1Q;split
  ·rename_i c;have e:=c4v c.1;have f:=c5C c.2;rw [hv] at e;simp only [lCo,List.length_nil] at e;refine b4w h _ _ ?_;simp only [lAp,lCo,List.length_nil];omega
  ·exact hm
 split
 ·unfold a0P;split
  ·unfold a3i;split
   ·exact b4w h _ _ (by simp;omega)
   ·rw [b6i];by_cases he:a0C (txt a (a0M ((wdL line).getD 1 [])))=true
    ·rw [if_pos he];exact b4w h _ _ (by rw [List.length_take];omega)
    ·rw [if_neg he];exact hm
  ·exact hm
 split
 ·unfold a0Z;split
  ·refine⟨hm.txt,?_,hm.mg⟩;unfold b73;dsimp only
   repeat' split
   all_goals exact h.lb
  ·exact hm
 split
 ·unfold a2Q;split
  ·refine⟨hm.txt,?_,hm.mg⟩;have g1:=b1m line 1;have g2:=b1m line 2;have g3:=b1m line 3;have k1:=b9S ((wdL line).getD 1 []);have k2:=b9S ((wdL line).getD 2 []);have k3:=b9S ((wdL line).getD 3 []);unfold lbN;dsimp only;omega
  ·exact hm
 split
 ·unfold a05;split
  ·split
   ·rename_i hz;refine⟨hm.txt,hm.lb,fun m e=>?_⟩;have e:=oJI e;rw [<-e];exact b6H h9.txt hz h.lb
   ·exact hm
  ·exact hm
 split
 ·exact hm
 split
 ·exact hm
 split
 ·unfold a09;split
  ·cases hb:a.2.2 with
   | none=>exact hm
   | some m=>
     dsimp only;split
     ·refine⟨hm.txt,hm.lb,fun m' e=>?_⟩;have e:=oJI e;rw [<-e];exact (h.mg m hb).pick _ _
     ·exact hm
  ·exact hm
 split
 ·exact hm
 split
 ·unfold a04;split
  ·rename_i c;obtain⟨n,hn⟩:=Option.isSome_iff_exists.1 c.2;split
   ·refine⟨hm.txt,hm.lb,fun m' e=>?_⟩;have e:=oJI e;rw [<-e,a1m hn];have:=h9.txt;exact b7T (by omega) (d4l hn)
   ·exact hm
  ·exact hm
 exact hm
theorem c7f:a7Y 0 ss0:=⟨nLR _,nZL _,fun m h=>by cases h⟩
noncomputable def a8l (a:Ss) (l:List BS):Ss:=l.foldl (fun a x=>(doP x a).2) a
theorem b2x (a:Ss) (l:List BS) (x:BS):a8l a (l++[x])=(doP x (a8l a l)).2:=by unfold a8l;rw [List.foldl_append];rfl
theorem c09 {l:List BS} (h1:l.length<=100) (h2:∀ s∈l,s.length<=100):∀ i,i<=l.length->a7Y (92*i) (a8l ss0 (l.take i))
 | 0,_=>c7f
 | i+1,hi=>by
   have ih:=c09 h1 h2 i (by omega);have hx:=h2 _ (a0F l [] (by omega:i<l.length)▸List.getElem_mem (by omega));rw [a0K l [] (by omega),b2x];exact (d2x ih (by omega) (by omega)).mono (by omega)
theorem d0j {l:List BS}:c7c l=true↔l.length<=100/\∀ s∈l,s.length<=100:=by
 unfold c7c;rw [Bool.and_eq_true,decide_eq_true_iff,decide_eq_true_iff]
def tA:BS:=[97,100,100,32,98,97,115,101,32,97]
def tB:BS:=[97,100,100,32,108,101,102,116,32,98]
def tC:BS:=[97,100,100,32,114,105,103,104,116,32,99]
def tM:BS:=[109,101,114,103,101]
def tT:BS:=[116,101,120,116]
def tR:BS:=[114,101,115,111,108,118,101,32,114,105,103,104,116]
def tK:BS:=[99,104,117,110,107,115]
def tX:BS:=[120]
def op0:Op:=(([],[],[]),0,7,0)
def t1:Ss:=(([97,10],[],[]),op0,none)
def t2:Ss:=(([97,10],[98,10],[]),op0,none)
def t3:Ss:=(([97,10],[98,10],[99,10]),op0,none)
def tMg:Mg:=([([],[],[],true,[],[98,10],[],[99,10],false)],[60,60,60,60,60,60,60,10,98,10,61,61,61,61,61,61,61,10,99,10,62,62,62,62,62,62,62,10],7,[(false,(0,1),(0,1),(0,1))])
def t4:Ss:=(([97,10],[98,10],[99,10]),op0,some tMg)
theorem i1:Lib.itoa 1=[49]:=by
 rw [show (1:Int)=((1:Nat):Int) from rfl,a23,Lib.decDigits,dif_pos (by decide)];rfl
theorem i0:Lib.itoa 0=[48]:=by
 rw [show (0:Int)=((0:Nat):Int) from rfl,a23,Lib.decDigits,dif_pos (by decide)];rfl
theorem dA:doP tA ss0=(okT,t1):=by rfl
theorem dB:doP tB t1=(okT,t2):=by rfl
theorem dC:doP tC t2=(okT,t3):=by rfl
theorem dM:doP tM t3=([49],t4):=by
 have e:doP tM t3=a05 tM t3:=by rfl
 rw [e];unfold a05;rw [if_pos (by decide),if_pos (by decide)];have e2:c2S t3=_:=d0D;rw [e2];show (Lib.itoa 1,_)=_;rw [i1];rfl
theorem dT:doP tT t4=([60,60,60,60,60,60,60,59,98,59,61,61,61,61,61,61,61,59,99,59,62,62,62,62,62,62,62,59],t4):=by rfl
theorem dR:doP tR t4=([99,59],t4):=by rfl
theorem dK:doP tK t4=([99,32,48,32,49,32,48,32,49,32,48,32,49],t4):=by
 have e:doP tK t4=(a7D [(false,(0,1),(0,1),(0,1))],t4):=by rfl
 rw [e];unfold a7D a5V;rw [if_neg (by simp)];rw [List.map_cons,List.map_nil,i0,i1];rfl
theorem dX:doP tX t4=(a0q,t4):=by rfl
@[go_sem] def c8G:a0j:=a0j.f0 (kB.enc true)
theorem d5Q:a7Y 9400 t1:=⟨by decide,by decide,fun m h=>by cases h⟩
theorem d6y:a7Y 9400 t2:=⟨by decide,by decide,fun m h=>by cases h⟩
theorem d5X:a7Y 9400 t3:=⟨by decide,by decide,fun m h=>by cases h⟩
theorem c5m:a7Y 9400 t4:=by
 have h:=(d2x (B:=6) (line:=tM) (a:=t3) ⟨by decide,by decide,fun m h=>by cases h⟩ (by decide) (by decide)).mono (C:=9400) (by decide);rw [dM] at h;exact h
theorem c4j:a0b Tryz.prog 16 c8G:=by
 refine a0b.f0 Tryz.func16 rfl (by decide) Tryz.results16 Tryz.ntmps16 ?_;have hΓ:=gkM c6c (gkM d1q gkN);refine awL hΓ [4] rfl ?_;simp only [go_sem];refine .inl (a1D (R:=a9s) (a:=ss0) (b:=t1) (r:=.st okT) (v:=0) (v1:=1) (v2:=2) (v3:=3) (v4:=0) ⟨tA,rfl,by decide,c7f.mono (by decide),by rw [dA],by rw [dA]⟩ (by decide) (by decide)  rlR   rlR   rlR   rlR   rlR  fun u1 u2 u3 u4 nx g1 g2 g3 g4 hn=>?_);simp only [go_sem];refine .inl (a1D (R:=a9s) (a:=t1) (b:=t2) (r:=.st okT) (v:=0) (v1:=u1) (v2:=u2) (v3:=u3) (v4:=u4) ⟨tB,rfl,by decide,d5Q,by rw [dB],by rw [dB]⟩ (by decide) (by decide)  rlR   rlR   rlR   rlR   rlR  fun u1 u2 u3 u4 nx g1 g2 g3 g4 hn=>?_);simp only [go_sem];refine .inl (a1D (R:=a9s) (a:=t2) (b:=t3) (r:=.st okT) (v:=0) (v1:=u1) (v2:=u2) (v3:=u3) (v4:=u4) ⟨tC,rfl,by decide,d6y,by rw [dC],by rw [dC]⟩ (by decide) (by decide)  rlR   rlR   rlR   rlR   rlR  fun u1 u2 u3 u4 nx g1 g2 g3 g4 hn=>?_);simp only [go_sem];refine AW.cut ⟨[(1,.pt 0 0 0),(2,.st okT),(3,.st okT),(4,.st okT)],[(0,.box 0 106 10 (shC 1 2 3 4 u1 u2 u3 u4 t3)),(1,a0i u1 [97,10]),(2,a0i u2 [98,10]),(3,a0i u3 [99,10]),(4,mgR u4 none)],49,5,nx,[]⟩ ?_ ?_
 ·simp only [go_sem];exact⟨rlR,rlR,rlR,rlR,rlR⟩
 refine AW.fork (AW.regionG hΓ [0,0,0,1,1,0,0,1,1,0,0,1,1,1,0,0,1,1,1,0,0,1,1,1,0,0,1,1,1,0,0,1,1,1,0,0] ?_);simp only [go_sem];refine .inl (a1D (R:=a9s) (a:=t3) (b:=t4) (r:=.st [49]) (v:=0) (v1:=u1) (v2:=u2) (v3:=u3) (v4:=u4) ⟨tM,rfl,by decide,d5X,by rw [dM],by rw [dM]⟩ (by decide) (by decide)  rlR   rlR   rlR   rlR   rlR  fun u1 u2 u3 u4 nx g1 g2 g3 g4 hn=>?_);simp only [go_sem];refine .inl (a1D (R:=a9s) (a:=t4) (b:=t4) (r:=.st [60,60,60,60,60,60,60,59,98,59,61,61,61,61,61,61,61,59,99,59,62,62,62,62,62,62,62,59]) (v:=0) (v1:=u1) (v2:=u2) (v3:=u3) (v4:=u4) ⟨tT,rfl,by decide,c5m,by rw [dT],by rw [dT]⟩ (by decide) (by decide)  rlR   rlR   rlR   rlR   rlR  fun u1 u2 u3 u4 nx g1 g2 g3 g4 hn=>?_);simp only [go_sem];refine .inl (a1D (R:=a9s) (a:=t4) (b:=t4) (r:=.st [99,59]) (v:=0) (v1:=u1) (v2:=u2) (v3:=u3) (v4:=u4) ⟨tR,rfl,by decide,c5m,by rw [dR],by rw [dR]⟩ (by decide) (by decide)  rlR   rlR   rlR   rlR   rlR  fun u1 u2 u3 u4 nx g1 g2 g3 g4 hn=>?_);simp only [go_sem];refine .inl (a1D (R:=a9s) (a:=t4) (b:=t4) (r:=.st [99,32,48,32,49,32,48,32,49,32,48,32,49]) (v:=0) (v1:=u1) (v2:=u2) (v3:=u3) (v4:=u4) ⟨tK,rfl,by decide,c5m,by rw [dK],by rw [dK]⟩ (by decide) (by decide)  rlR   rlR   rlR   rlR   rlR  fun u1 u2 u3 u4 nx g1 g2 g3 g4 hn=>?_);simp only [go_sem];refine .inl (a1D (R:=a9s) (a:=t4) (b:=t4) (r:=.st a0q) (v:=0) (v1:=u1) (v2:=u2) (v3:=u3) (v4:=u4) ⟨tX,rfl,by decide,c5m,by rw [dX],by rw [dX]⟩ (by decide) (by decide)  rlR   rlR   rlR   rlR   rlR  fun u1 u2 u3 u4 nx g1 g2 g3 g4 hn=>?_);simp only [go_sem];refine awN hΓ rfl ?_;simp only [go_sem]
theorem d1V {line:BS} {x:Rsh} {p0 v:Nat} {hp:Nat->Row} {top nx:Nat} {K:AV->(Nat->Row)->Nat->Nat->Prop} (hd:line.length<=1000/\d8N x/\lbN x.2.1.1<=3000) (ht:p0<top) (h0:a0c (hp p0) (.box v 110 16 (rsC x)))
  (hK:∀ nx',nx<=nx'->K (tu2 (.st (rfP line x).1) (kB.enc (rfP line x).2.1)) (a0y hp p0 (.box v 110 16 (rsC (rfP line x).2.2))) top nx'):a0U c8p [.pt p0 v 0,.st line] hp top nx K:=by
 have w0:(hp p0).ver=some v:=h0.vers.symm;refine⟨[p0],[.pt 0 v 0,.st line],rws [(0,.box v 110 16 (rsC x))],by simp,by simpa using ht,.cons a0h.pt (a3q.same _),fun i o hq=>?_,fun i hi=>a1b (top:=1) (by simp) i (by simpa using hi),v,line,x,rfl,rfl,rfl,hd,fun nx' hn=>?_⟩
 ·match i with
  | 0=>
    simp only [gCZ,oSI] at hq;subst hq;exact h0
  | i+1=>simp at hq
 ·refine⟨_,_,avR,fun i o ho=>?_,fun o ho=>?_,fun o ho w hv=>?_,hK nx' hn⟩
  ·match i with
   | 0=>
     simp only [gCZ,oSI] at ho;subst ho;rw [a0g];exact rlR
   | i+1=>simp at ho
  ·simp only [List.mem_cons,List.not_mem_nil,or_false] at ho;rw [a0d _ _ ho]
  ·simp only [List.mem_cons,List.not_mem_nil,or_false] at ho;subst ho;rw [a0g] at hv;have:some v=some w:=hv;obtain rfl:=oJI this;exact .inl w0
theorem d2q {hp:Nat->Row} {p q:Nat} {a b:Row} (h:a0c (hp p) a) (h2:a0c (hp q) b):∀ (i o:Nat),[p,q][i]?=some o->a0c (hp o) (rws [(0,a),(1,b)] i):=by
 intro i o hq
 match i with
 | 0=>simp only [gCZ,oSI] at hq;subst hq;exact h
 | 1=>simp only [gCS,gCZ,oSI] at hq;subst hq;exact h2
 | i+2=>simp at hq
theorem d1E {line:BS} {w:Wl} {x:Rsh} {p0 p1 v u:Nat} {hp:Nat->Row} {top nx:Nat} {K:AV->(Nat->Row)->Nat->Nat->Prop} (hd:line.length<=1000/\x.1.1.length+x.1.2.1.length+x.1.2.2.length<=9400/\lbN x.2.1.1<=3000/\b7h line w) (hne:p0≠p1) (ht:p0<top) (ht1:p1<top)
  (h0:a0c (hp p0) (.box v 50 8 (eWl.enc w))) (h1:a0c (hp p1) (.box u 110 16 (rsC x)))
  (hK:∀ nx',nx<=nx'->K (.st (anP line w x).1) (a0y (a0y hp p1 (.box u 110 16 (rsC (anP line w x).2.2))) p0 (.box v 50 8 (eWl.enc (anP line w x).2.1))) top nx'):a0U b8H [.pt p0 v 0,.pt p1 u 0,.st line] hp top nx K:=by
 have w0:(hp p0).ver=some v:=h0.vers.symm;have w1:(hp p1).ver=some u:=h1.vers.symm;refine⟨[p0,p1],[.pt 0 v 0,.pt 1 u 0,.st line],rws [(0,.box v 50 8 (eWl.enc w)),(1,.box u 110 16 (rsC x))],by simp [hne],fun p hp=>?_,.cons a0h.pt (.cons a0h.pt (a3q.same _)),d2q h0 h1,fun i hi=>a1b (top:=2) (by simp) i (by simpa using hi),v,u,line,w,x,rfl,rfl,rfl,hd,fun nx' hn=>?_⟩
 ·simp only [List.mem_cons,List.not_mem_nil,or_false] at hp;rcases hp with rfl|rfl
  ·exact ht
  ·exact ht1
 ·refine⟨_,_,avR,fun i o ho=>?_,fun o ho=>?_,fun o ho w hv=>?_,hK nx' hn⟩
  ·match i with
   | 0=>
     simp only [gCZ,oSI] at ho;subst ho;rw [a0g];exact rlR
   | 1=>
     simp only [gCS,gCZ,oSI] at ho;subst ho;rw [a0d _ _ (Ne.symm hne),a0g];exact rlR
   | i+2=>simp at ho
  ·simp only [List.mem_cons,List.not_mem_nil,or_false,not_or] at ho;rw [a0d _ _ ho.1,a0d _ _ ho.2]
  ·simp only [List.mem_cons,List.not_mem_nil,or_false] at ho;rcases ho with rfl|rfl
   ·rw [a0g] at hv;have:some v=some w:=hv;obtain rfl:=oJI this;exact .inl w0
   ·rw [a0d _ _ (Ne.symm hne),a0g] at hv;have:some u=some w:=hv;obtain rfl:=oJI this;exact .inl w1
theorem d0e {line:BS} {x:Rsh} (h:(rfP line x).2.1=false):(rfP line x).2.2.1=x.1/\(rfP line x).2.2.2.1=x.2.1:=by
 revert h
 unfold rfP rf1 rf2 rf3 rf4 rf5 rf6
 repeat' split
 all_goals first|exact fun _=>⟨rfl,rfl⟩|exact fun h=>absurd h (by simp)
def wl0:Wl:=([],[],[],[],[],[],0,0)
structure Rr (l:List BS) where
 i:Nat
 u1:Nat
 u2:Nat
 u3:Nat
 u4:Nat
 nx:Nat
 w:Wl
 hi:i<=l.length
 hw:d68 (a8l ss0 (l.take i)) w
def b1W:a0j:=a0j.f1 (kL eS) (fun l=>l.length<=140737488351232) (fun _=>kB.enc true)
theorem okShellReplies:a0b Tryz.prog 4 b1W:=by
 refine a0b.f1 Tryz.func4 rfl (by decide) Tryz.results4 Tryz.ntmps4 (by decide) fun l hl=>?_
 have hΓ:=gkC c4j (gkC d4p (gkM c6c (gkM d1H (gkM d1q (gkM d50 (gkM d1C gkN))))));cases hf:c7c l with
 | false=>
   refine awN hΓ rfl ?_;simp only [go_sem,hf];omega
 | true=>
   obtain⟨hl1,hl2⟩:=d0j.1 hf;refine awZ hΓ rfl ?_;simp only [go_sem,hf];refine⟨by omega,?_⟩
   refine AW.round (α:=Rr l) (fun x=>⟨[(0,sL eS l),(3,.pt 0 0 0),(4,.pt 5 4 0),(5,.pt 6 5 0),(6,.val (.int .i64 x.i))],[(0,.box 0 106 10 (shC 1 2 3 4 x.u1 x.u2 x.u3 x.u4 (a8l ss0 (l.take x.i)))),(1,a0i x.u1 (a8l ss0 (l.take x.i)).1.1),(2,a0i x.u2 (a8l ss0 (l.take x.i)).1.2.1),(3,a0i x.u3 (a8l ss0 (l.take x.i)).1.2.2),(4,mgR x.u4 (a8l ss0 (l.take x.i)).2.2),
    (5,.box 4 110 16 (rsC (a2l (a8l ss0 (l.take x.i))))),(6,.box 5 50 8 (eWl.enc x.w))],55,7,x.nx,[]⟩) (fun x=>l.length-x.i) ⟨0,1,2,3,0,6,wl0,nZL _,fun m h=>by cases h⟩ ?_ ?_
   ·simp only [go_sem];refine⟨rlR,rlR,rlR,rlR,rlR,rlR,a0c.box fun j hj=>?_⟩;have hc:j=0\/j=1\/j=2\/j=3\/j=4\/j=5\/j=6\/j=7:=by omega
    rcases hc with rfl|rfl|rfl|rfl|rfl|rfl|rfl|rfl<;>first|exact avR|exact a2K _
   ·rintro⟨i,u1,u2,u3,u4,nx,w,hi,hw⟩;have hrun:=c09 hl1 hl2 i hi;rcases Nat.lt_or_ge i l.length with hlt|hge
    ·have hlI:((i:Int)<(l.length:Nat))=True:=eq_true (by omega);have hsn:a8l ss0 (l.take (i+1))=(doP (l.getD i []) (a8l ss0 (l.take i))).2:=by rw [a0K l [] hlt,b2x]
     have hx:=hl2 _ (a0F l [] hlt▸List.getElem_mem hlt);have ha:a7Y 9400 (a8l ss0 (l.take i)):=hrun.mono (by omega);have hsy:=d90 (l.getD i []) ha;obtain⟨line,hln⟩:∃ line,l.getD i []=line:=⟨_,rfl⟩;rw [hln] at hsn hx hsy;have htx:=ha.txt;refine awZ hΓ rfl ?_;simp only [go_sem,hlI,hln];refine⟨by omega,.inl (a1D (R:=a9s) (a:=(a8l ss0 (l.take i))) (b:=(doP line (a8l ss0 (l.take i))).2) (r:=.st (doP line (a8l ss0 (l.take i))).1) (v:=0) (v1:=u1) (v2:=u2) (v3:=u3) (v4:=u4) ⟨line,rfl,by omega,ha,rfl,rfl⟩ (by decide) (by decide)  rlR   rlR   rlR   rlR   rlR  fun y1 y2 y3 y4 nx1 g1 g2 g3 g4 hn=>?_)⟩;simp only [go_sem,hln];refine⟨by omega,?_⟩;refine d1V (x:=a2l (a8l ss0 (l.take i))) ⟨by omega,⟨show (a8l ss0 (l.take i)).1.1.length<=_ by omega,show (a8l ss0 (l.take i)).1.2.1.length<=_ by omega,show (a8l ss0 (l.take i)).1.2.2.length<=_ by omega⟩,ha.lb⟩ (by decide)  rlR  fun nx2 hn2=>?_
     rcases hsy with⟨s1,s2,s3,s4⟩|⟨s1,s2⟩
     ·simp only [go_sem,s1,s2,s3,hln];refine AW.fork ?_;refine awZ hΓ rfl ?_;simp only [go_sem,s1,s2,s3,hln];refine awZ hΓ rfl ?_;simp only [go_sem,s1,s2,s3,hln];refine⟨⟨by omega,by omega⟩,⟨i+1,y1,y2,y3,y4,nx2,w,hlt,fun m hm=>hw m (by rw [<-s4];rw [hsn] at hm;exact hm)⟩,⟨nLR _,rfl,?_⟩,by dsimp only;omega⟩;dsimp only;rw [hsn];exact⟨rlR,rlR,rlR,rlR,rlR,rlR,rlR⟩
     ·obtain⟨q1,q2,q3,q4⟩:=s2 w hw;simp only [go_sem,s1,hln];refine AW.fork ?_;refine awZ hΓ rfl ?_;simp only [go_sem,s1,hln];obtain⟨k1,k2⟩:=d0e s1;refine⟨⟨by omega,by omega⟩,?_⟩;refine d1E (w:=w) (x:=(rfP line (a2l (a8l ss0 (l.take i)))).2.2) ⟨by omega,by rw [k1];exact ha.txt,by rw [k2];exact ha.lb,q1⟩ (by decide) (by decide) (by decide)  rlR   rlR  fun nx3 hn3=>?_
      simp only [go_sem,q2,q3,hln];refine awZ hΓ rfl ?_;simp only [go_sem,q2,q3,hln];refine⟨⟨by omega,by omega⟩,⟨i+1,y1,y2,y3,y4,nx3,(anP line w (rfP line (a2l (a8l ss0 (l.take i)))).2.2).2.1,hlt,by rw [hsn];exact q4⟩,⟨nLR _,rfl,?_⟩,by dsimp only;omega⟩;dsimp only;rw [hsn];exact⟨rlR,rlR,rlR,rlR,rlR,rlR,rlR⟩
    ·obtain rfl:i=l.length:=by omega
     have hlI:((l.length:Int)<(l.length:Nat))=False:=eq_false (by omega);refine awN hΓ rfl ?_;simp only [go_sem,hlI]
structure R2 (l o:List BS) where
 i:Nat
 u1:Nat
 u2:Nat
 u3:Nat
 u4:Nat
 v1:Nat
 v2:Nat
 v3:Nat
 v4:Nat
 nx:Nat
 hi:i<=l.length
end
section
open Go Go.ChangeShapes Go.WideShapes Go.ChangeAt Go.RowKit
theorem returns_laid {H:Type} {enc:TypeId×Value->H} {a:Assume} {C:Checked} {os:Go.Os} {f:FuncId} {fn:Func} {s:ChangeSpec} {conds:List PathCond} {apart fresh handsOn b3v:Bool} {X:World->Array Value->Prop}
  (hX:∀ (w w':World) (args:Array Value),w.heap=w'.heap->X w args->X w' args)
  (own:ownKnob C.prog.godebug=none) (started:os.Started) (noInit:C.prog.inits.idxOf? f=none) (hfn:C.prog.funcs[f]?=some fn)
  (witness:∃ (w:World) (tape:Tape) (i:Input),w.os=os/\(w.forCall tape i).Shaped C.prog/\i.vars=[]/\Input.okWide C.prog (w.forCall tape i) .any w.heap.size f i/\
   ((s.pre enc C.prog fn conds apart (w.forCall tape i).memory i.args/\X (w.forCall tape i).memory i.args)/\sizedMet enc C.prog fn (OpenSpec.ofChange s) apart (w.forCall tape i).memory i.args)/\a.holds C.prog (lone (Frame.enter C.prog f i.args .normal) [] (w.forCall tape i)))
  (contract:∀ (W:World) (base:Nat) (args:Array Value) (ds gs:List (DataW H)) (before:List MemPlace),
   (∀ (j:Nat) t v,fn.params[j]?=some t->args[j]?=some v->Value.okWide C.prog W .any base t v)->
   DataW.Whole enc C.prog fn.params.toList s.vars apart W args.toList ds gs before->
   conds.all (PathCond.test C.prog ⟨fn.params.toList,ds,s.plain.varTypes C.prog,gs⟩)=true->
   (DataW.weightsEach C.prog (fn.params.toList++s.plain.varTypes C.prog) (ds++gs)).all (·<=reachBytes)=true->X W args->W.ShapedOpen C.prog->
   a.holds C.prog (lone (Frame.enter C.prog f args .normal) [] W)->
   Calls C.prog f args W fun e W'=>∃ v,e=.returned v/\s.post enc C.prog fn apart fresh handsOn b3v W args v W') :
  ReturnsInHanded a C os f .any (fun w args=>(s.pre enc C.prog fn conds apart w args/\X w args)/\sizedMet enc C.prog fn (OpenSpec.ofChange s) apart w args) (s.post enc C.prog fn apart fresh handsOn b3v):=by
 refine returnsInHanded_of_calls own started noInit witness ?_;intro w tape i _ hsh _ hok hpre hholds;obtain⟨_,_,_,fn',hfn',_,_,_,_,hval⟩:=hok;have e:fn'=fn:=oJI (hfn'.symm.trans hfn);subst e;obtain⟨⟨⟨ds,gs,before,hw,hc⟩,hx⟩,hz⟩:=hpre;have hw':=DataW.Whole.of_heap (w':=w.forCall tape i) (by rfl) hw;refine (contract (w.forCall tape i) w.heap.size i.args ds gs before hval hw' hc (hz.weights hw) (hX _ _ _ (by rfl) hx) hsh hholds).mono fun e W' ⟨v,he,hp⟩=>?_
 subst he;exact ChangeSpec.post_blind hp
theorem len_shaped {P:Program} {w:World} {g:Nat} {t:TypeId} {zero:Array Value} (h:w.ShapedOpen P) (hg:g<P.globals.size)
  (h0:((begin P (fun _ _=>0) default).world.heap[g]?).bind Obj.row?=some (zero,t)) (hz:zero.size=1) (hb:P.buildable t=true) (hc:P.cellTypes P.depth t=some [t]) (hu:P.underlying t=some (.int .i64)) :
  ∃ o,w.heap[g]?=some o/\∃ m t' f,o=.cells #[.int .i64 m] t' f:=by
 obtain⟨cs,hh,hs,hr⟩:=h.1 g zero t hg h0;obtain⟨ts,hts,_,hall⟩:=hr hb;rw [hc] at hts;cases hts;have h1:0<cs.size:=by omega
 obtain⟨u,hu',hok⟩:=hall 0 cs[0] (by simp [h1]);have:u=t:=by simpa using hu'.symm
 subst this;unfold Cell.ok at hok;rw [hu] at hok
 have hcs:cs=#[cs[0]]:=by
  apply Array.ext
  ·simp;omega
  ·intro i h2 h3;have:i=0:=by omega
   subst this;rfl
 cases hv:cs[0]<;>rw [hv] at hok<;>simp at hok
 case int k' n=>
  rw [hok.1] at hv;rw [hv] at hcs;exact⟨_,hh,n,_,_,by rw [hcs]⟩
theorem c3S {P:Program} {w:World} {name:String} {k:IntKind} {zs:List Int} {g:Nat} (h:Lib.TabIs P w name k zs) (hg:P.globalNamed name=some g):∃ o,w.heap[g]?=some o/\∃ t f,o=.cells (zs.map fun z=>Value.int k z).toArray t f:=by
 unfold Lib.TabIs World.var? at h;rw [hg] at h;simp only [Option.bind_some] at h;split at h
 ·rename_i cs t f hh;exact⟨_,hh,t,f,by rw [oJI h]⟩
 ·cases h
theorem b5B {P:Program} {W:World} {name:String} {k:IntKind} {zs:List Int} {g:Nat} {t e:TypeId} {n:Nat}
  (hg:P.globalNamed name=some g) (hty:(P.globals[g]?).map (·.type)=some t) (ht:P.underlying t=some (.array n e)) (he:P.underlying e=some (.int k)) (hce:P.cellsOf e=1) (hct:P.cellsOf t=n) :
  ∀ (l:List (String×DataW Unit)) (ps:List MemPlace),(name,Lib.tabData k zs)∈l->DataW.LaidVars P W l ps->Lib.TabIs P W name k zs
 | [],_,hm,_=>by cases hm
 | (m,d)::r,ps,hm,⟨g',t',cs,fuel,p,q,hg',ht',hvar,hd,hs,_⟩=>by
   rcases List.mem_cons.1 hm with e'|hm
   ·obtain⟨rfl,rfl⟩:=Prod.mk.inj e';obtain rfl:=oJI (hg.symm.trans hg');obtain rfl:=oJI (hty.symm.trans ht');unfold Lib.TabIs;rw [hvar,<-Lib.cells_of_tab ht he hce hct hd]
   ·exact b5B hg hty ht he hce hct r q hm hs
theorem tab_met {P:Program} {W:World} {name:String} {k:IntKind} {zs:List Int} {g:Nat} {t e:TypeId} {n:Nat} {l:List (String×DataW Unit)}
  (hg:P.globalNamed name=some g) (hty:(P.globals[g]?).map (·.type)=some t) (ht:P.underlying t=some (.array n e)) (he:P.underlying e=some (.int k)) (hce:P.cellsOf e=1) (hct:P.cellsOf t=n)
  (hp:(l.all fun x=>x.2.handleName?.isNone)=true) (hm:(name,Lib.tabData k zs)∈l) (h:laidMetH P l W):∃ o,W.heap[g]?=some o/\∃ t f,o=.cells (zs.map fun z=>Value.int k z).toArray t f:=by
 rw [MakeChecks.laidMetH_plain _ _ _ hp] at h;obtain⟨ps,h,_⟩:=h;exact c3S (b5B hg hty ht he hce hct l ps hm h) hg
theorem b4R {P:Program} {W:World} {name nm:String} {d0:DataW Unit} {g:Nat} {t:TypeId} {ms:Array (String×TypeId)}
  (hg:P.globalNamed name=some g) (hty:(P.globals[g]?).map (·.type)=some t) (ht:P.underlying t=some (.interface ms)) :
  ∀ (l:List (String×DataW Unit)) (ps:List MemPlace),(name,DataW.iface nm d0)∈l->DataW.LaidVars P W l ps->∃ u v,W.var? P name=some #[.iface u v]
 | [],_,hm,_=>by cases hm
 | (m,d)::r,ps,hm,⟨g',t',cs,fuel,p,q,hg',ht',hvar,hd,hs,_⟩=>by
   rcases List.mem_cons.1 hm with e'|hm
   ·obtain⟨rfl,rfl⟩:=Prod.mk.inj e';obtain rfl:=oJI (hg.symm.trans hg');obtain rfl:=oJI (hty.symm.trans ht');obtain⟨_,u,v,hc,_⟩:=iface_of_trod ht hd;exact⟨u,v,by rw [hvar,<-hc]⟩
   ·exact b4R hg hty ht r q hm hs
theorem sen_met {P:Program} {W:World} {name nm:String} {d0:DataW Unit} {g:Nat} {t:TypeId} {ms:Array (String×TypeId)} {l:List (String×DataW Unit)}
  (hg:P.globalNamed name=some g) (hty:(P.globals[g]?).map (·.type)=some t) (ht:P.underlying t=some (.interface ms))
  (hp:(l.all fun x=>x.2.handleName?.isNone)=true) (hm:(name,DataW.iface nm d0)∈l) (h:laidMetH P l W):∃ o,W.heap[g]?=some o/\∃ u v t f,o=.cells #[.iface u v] t f:=by
 rw [MakeChecks.laidMetH_plain _ _ _ hp] at h;obtain⟨ps,h,_⟩:=h;obtain⟨u,v,h⟩:=b4R hg hty ht l ps hm h;unfold World.var? at h;rw [hg] at h;simp only [Option.bind_some] at h;split at h
 ·rename_i cs t f hh;exact⟨_,hh,u,v,t,f,by rw [oJI h]⟩
 ·cases h
theorem witness_zip {H:Type} {enc:TypeId×Value->H} {C:Checked} {os:Go.Os} {f:FuncId} {fn:Func} {s:ChangeSpec} {conds:List PathCond} {apart:Bool} {X:World->Array Value->Prop} (modest:Bool) (w0:World) (args:Array Value) (fuel:Nat) (hos:w0.os=os)
  (hv:(w0.forCall (fun _ _=>0) ⟨#[],args,[]⟩).variablesZipB C.prog=true)
  (hr:((w0.forCall (fun _ _=>0) ⟨#[],args,[]⟩).heap.toList.drop C.prog.globals.size).take ((begin C.prog (fun _ _=>0) default).world.heap.size-C.prog.globals.size) =
   (begin C.prog (fun _ _=>0) default).world.heap.toList.drop C.prog.globals.size)
  (hok:Input.okWideB C.prog (w0.forCall (fun _ _=>0) ⟨#[],args,[]⟩) f ⟨#[],args,[]⟩=true)
  (hpre:s.preB enc C.prog fn conds apart (w0.forCall (fun _ _=>0) ⟨#[],args,[]⟩).memory args fuel=true)
  (hsz:s.sizedB enc C.prog fn apart (w0.forCall (fun _ _=>0) ⟨#[],args,[]⟩).memory args fuel=true)
  (hx:X (w0.forCall (fun _ _=>0) ⟨#[],args,[]⟩).memory args) :
  ∃ (w:World) (tape:Tape) (i:Input),w.os=os/\(w.forCall tape i).Shaped C.prog/\i.vars=[]/\Input.okWide C.prog (w.forCall tape i) .any w.heap.size f i/\
   ((s.pre enc C.prog fn conds apart (w.forCall tape i).memory i.args/\X (w.forCall tape i).memory i.args)/\sizedMet enc C.prog fn (OpenSpec.ofChange s) apart (w.forCall tape i).memory i.args)/\({ modest:=modest }:Assume).holds C.prog (lone (Frame.enter C.prog f i.args .normal) [] (w.forCall tape i)):=
 ⟨w0,fun _ _=>0,⟨#[],args,[]⟩,hos,World.shaped_of_ZipB hv hr,(Input.okWide_of_okWideB (base:=0) hok).1,(Input.okWide_of_okWideB hok).2,⟨⟨ChangeSpec.pre_of_preB hpre,hx⟩,sizedMet_of_sizedB hsz⟩,by
  simp only [Assume.holds]
  exact⟨by simp,by simp,fun _=>Modest.zero,by simp,by simp⟩⟩
theorem met_laid {P:Program} {os:Go.Os} {laid:List (String×DataW Unit)} (args:Array Value) (hp:(laid.all fun x=>x.2.handleName?.isNone)=true)
  (hf:(World.holding P os ⟨#[],#[],[]⟩).layFits P laid []=true)
  (hi:(World.holding P os ⟨#[],#[],[]⟩).layIfaces P laid (World.laidAll P os laid)=true) :
  laidMetH P laid ((World.laidAll P os laid).forCall (fun _ _=>0) ⟨#[],args,[]⟩).memory:=by
 rw [MakeChecks.laidMetH_plain _ _ _ hp];exact laidMet_laidAll args hf hi
end
end Go.Proofs.YthpjjjnbkfnghaaGreatDoor
