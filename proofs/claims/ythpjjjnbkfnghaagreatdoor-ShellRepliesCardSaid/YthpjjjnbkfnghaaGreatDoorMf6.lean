/-
  Part 6 of what the proof rests on: values that are told, code that is walked, what comes out.
-/
import Derived.Test.YthpjjjnbkfnghaaGreatDoorMf5
import Derived.Laws.CopyRow
set_option maxRecDepth 100000
set_option maxHeartbeats 2000000
set_option linter.all false
namespace Go.Proofs.YthpjjjnbkfnghaaGreatDoor
section
attribute [local irreducible] AW a0h a0H a0c
theorem c3M (d:List Pt):a24 d<=a5x d:=by
 induction d with
 | nil=>exact nLR _
 | cons p d ih=>
   have e1:a24 (p::d)=(txP p).length+a24 d:=by
    rw [show p::d=[p]++d from rfl,a14,a10]
   have e2:a5x (p::d)=b3k p+a5x d:=by
    unfold a5x;rw [List.map_cons,List.sum_cons]
   rw [e1,e2];unfold b3k txP;omega
theorem b8h:∀ (d:List Pt) (k:Nat) (t:BS),t.length<=b3k (d.getD k ePt.dflt)->a5x (d.set k (a0Q t))<=a5x d
 | [],_,_,_=>nLR _
 | p::d,0,t,h=>by
   have h:t.length<=b3k p:=h
   have e:∀ q,a5x (q::d)=b3k q+a5x d:=fun q=>by
    unfold a5x;rw [List.map_cons,List.sum_cons]
   rw [List.set_cons_zero,e,e]
   have:b3k (a0Q t)=t.length:=by
    show t.length+(0+0+0)=_;omega
   omega
 | p::d,k+1,t,h=>by
   have ih:=b8h d k t (by simpa using h)
   have e:∀ l,a5x (p::l)=b3k p+a5x l:=fun l=>by
    unfold a5x;rw [List.map_cons,List.sum_cons]
   rw [List.set_cons_succ,e,e];omega
@[go_sem] def c8m:a0p:=fun args hp top nx K=>∃ x l,args=[x]/\a0h x (sL ePt l)/\l.length<100000000/\∀ ver nx',nx<=ver->ver<nx'->K (.ow top ver l.length) (a0y hp top (a0G ver 179 ePt l)) (top+1) nx'
theorem c3r:a0f Tryz.prog 133 c8m:=by
 refine a0f.mk Tryz.func133 rfl (by decide) Tryz.results133 Tryz.ntmps133 ?_;rintro args hp top nx K ⟨x,l,rfl,hx,hl,hK⟩;have hΓ:=gkN;refine⟨Nat.le_of_ble_eq_true rfl,?_⟩;refine AW.le (a7o (.cons hx .nil)) ?_;refine awL hΓ [2,99999] rfl ?_;simp only [go_sem];refine⟨fun h0=>?_,?_⟩
 ·refine AW.adopt 2 179 9 (fun i=>ePt.enc (l.getD i ePt.dflt)) rfl ?_;refine awZ hΓ rfl ?_;simp only [go_sem];obtain rfl:=List.length_eq_zero_iff.1 h0;exact hK nx (nx+1) (nLR _) (Nat.lt_succ_self _)
 ·exact⟨by omega,hK nx (nx+1) (nLR _) (Nat.lt_succ_self _)⟩
@[go_sem] def d6t:a0j:=a0j.f3 (kL ePt) kI kI (fun d n _=>d.length<100000000/\(∀ p∈d,b22 p)/\a5x d<=100000000/\gI n) (fun d n s=>tu2 (sL ePt (a38 d n s).1) (kI.enc (a38 d n s).2))
theorem c63:a0b Tryz.prog 77 d6t:=by
 refine a0b.f3 Tryz.func77 rfl (by decide) Tryz.results77 Tryz.ntmps77 (by decide) fun d n side ⟨hd,hp,hw,hn⟩=>?_
 have hΓ:=gkC b1S (gkC c7u (gkC d3G (gkC a7X (gkM c3r (gkC c7V gkN)))));unfold a38;by_cases hr:a2v d=false
 ·rw [if_pos hr];refine awZ hΓ rfl ?_;simp only [go_sem,hr];exact⟨⟨hd,hp⟩,a2K _⟩
 have hr':a2v d=true:=by simpa using hr
 rw [if_neg hr]
 have hpl:a1r d 0 n=-1\/∃ k:Nat,a1r d 0 n=(k:Int)/\k<d.length:=by
  rcases Int.lt_or_le n 0 with g|g
  ·exact .inl (a6y d 0 n g)
  ·rcases Int.lt_or_le n (a0k d) with g2|g2
   ·obtain⟨k,g1,g3,_,_⟩:=(a3R d 0 n g).2 g2;exact .inr ⟨k,by simpa using g1,g3⟩
   ·exact .inl ((a3R d 0 n g).1 g2)
 rcases hpl with hpl|⟨k,hpl,hk⟩
 ·rw [hpl,if_pos (by omega)];refine awZ hΓ rfl ?_;simp only [go_sem,hr',hpl];exact⟨⟨hd,hp⟩,⟨hd,hn⟩,a2K _⟩
 rw [hpl,if_neg (by omega),Int.toNat_natCast];generalize hpe:d.getD k ePt.dflt=p at *
 have hwp:=b1o p side;generalize ho:ofS p side=o at *
 obtain⟨t,e⟩:=o;dsimp only at hwp ⊢
 have hpk:b22 p:=by
  rw [<-hpe,a0F d _ hk];exact hp _ (List.getElem_mem _)
 have htl:t.length<=100000000000:=by
  have:=hpk.2.2;omega
 by_cases hz:e≠0
 ·rw [if_pos hz];refine awZ hΓ rfl ?_;simp only [go_sem,hr',hpl,hpe,ho,hz];exact⟨⟨hd,hp⟩,⟨hd,hn⟩,fun h=>absurd h (by omega),fun _=>⟨by omega,a2K _⟩⟩
 rw [if_neg hz];have hz:e=0:=by simpa using hz
 subst hz;by_cases ht:t≠[]/\a0C t=false/\(k:Int)<(d.length:Int)-1
 ·rw [if_pos ht];obtain⟨h1,h2,h3⟩:=ht;refine awZ hΓ rfl ?_;simp only [go_sem,hr',hpl,hpe,ho,h1,h2];exact⟨⟨hd,hp⟩,⟨hd,hn⟩,fun h=>absurd h (by omega),fun _=>⟨by omega,htl,by omega,fun _=>a2K _,fun h=>absurd h3 h⟩⟩
 ·rw [if_neg ht];refine awL hΓ [11,12] rfl ?_;simp only [go_sem,hr',hpl,hpe,ho];refine⟨⟨hd,hp⟩,⟨hd,hn⟩,fun h=>absurd h (by omega),fun _=>⟨by omega,fun _=>htl,fun _=>by omega,fun⟨⟨g1,g2⟩,g3⟩=>ht ⟨g1,by simpa using g2,g3⟩,fun _=>⟨_,d,rfl,avR,hd,fun ver nx' g1 g2=>?_⟩⟩⟩;refine awL hΓ [12] rfl ?_;simp only [go_sem];refine⟨by omega,hk,?_⟩;refine AW.cut ⟨[(11,.ow 0 ver (d.set k (a0Q t)).length)],[(0,a0G ver 179 ePt (d.set k (a0Q t)))],55,1,nx',[]⟩ ?_ ?_
  ·simp only [go_sem,List.length_set];refine a0c.sl (by simp) fun k' hk' j hj=>?_
   refine c0n (E:=ePt) (n:=d.length) hk (fun _ _ _ _=>avR) (fun j hj=>?_) k' hk' j hj
   match j,hj with
   | 0,_=>exact avR
   | 1,_=>exact avR
   | 2,_=>exact avR
   | 3,_=>exact avR
   | 4,_=>exact avR
   | 5,_=>exact avR
   | 6,_=>exact avR
   | 7,_=>exact avR
   | 8,_=>exact avR
  have hws:=b8h d k t (by rw [hpe];unfold b3k;omega);have hls:(d.set k (a0Q t)).length=d.length:=by simp
  have hst:=c3M (d.set k (a0Q t));generalize d.set k (a0Q t)=d' at *
  refine AW.freeze 0 ver 179 9 d'.length (fun i=>ePt.enc (d'.getD i ePt.dflt)) rfl (fun _ _ j hj=>match j,hj with|0,_=>rfl|1,_=>rfl|2,_=>rfl|3,_=>rfl|4,_=>rfl|5,_=>rfl|6,_=>rfl|7,_=>rfl|8,_=>rfl) ?_;refine AW.cut ⟨[(11,sL ePt d')],[],55,1,nx',[]⟩ ?_ ?_
  ·simp only [go_sem];exact a3A (E:=ePt) rfl rfl rfl
  refine awZ hΓ rfl ?_;simp only [go_sem];exact⟨by omega,by omega⟩
end
section
def obS (v k n:Nat):AV:=.ob fun η u=>∃ g cap,η v=some (some g,cap)/\u=.slice (some ⟨g,k,none⟩) (n-k) (cap-k)
def cpC (cc:Nat->Nat->AV) (k m:Nat) (dd:Nat->Nat->AV):Nat->Nat->AV:=fun i j=>if k<=i/\i<k+m then dd (i-k) j else cc i j
section
variable {P:Program} {st:AS} {o:Oper} {K:AS->Prop}
theorem c4J {t e:TypeId} {x y:Operand} {p v n:Nat} {k:Int} (ho:o.op=.slice t x (some y) none none) (ht:P.underlying t=some (.slice e)) (hs:P.cellsOf e=1) (hx:st.ev x=.ow p v n) (hy:st.ev y=.val (.int .i64 k)) (h0:0<=k) (hn:k<n) (hd:a0w st.sz o.dst)
  (hK:K ⟨a1t st.fr o.dst (obS v k.toNat n),st.hp,st.sz,st.top,st.nx,st.df⟩):OpM P o st K:=by
 intro fr' hl;have ex:=hl x (by rw [ho];simp [Op.operands]);have ey:=hl y (by rw [ho];simp [Op.operands]);refine a5J (z:=obS v k.toNat n) hd (fun c η a w hsr=>?_) ⟨_,rfl,rfl,hK⟩;have hev:∀ x,Rep w η (a0D c η st.hp) (a7k fr' x) (a.eval x):=a1h hsr.slots;have hxv:=hev x;have hyv:=hev y;rw [ex,show a7k st.fr x=_ from hx] at hxv;rw [ey,show a7k st.fr y=_ from hy] at hyv;obtain⟨g,cap,hη,hv⟩:=hxv;have hyv:a.eval y=.int .i64 k:=hyv;cases g with
 | none=>obtain⟨hv,_⟩:=hv;omega
 | some g=>
   obtain⟨hv,hcap⟩:=hv;refine⟨.slice (some ⟨g,k.toNat,none⟩) (n-k.toNat) (cap-k.toNat),?_,η,fun _ _ h=>h,g,cap,hη,rfl⟩;have hb:=a3b (P:=P) (w:=w) (η:=η) (L:=fun _=>False) (isS:=true) (len:=n) (cap:=cap) (lo:=some (.val (.int .i64 k))) (hi:=none) (vlo:=some (.int .i64 k)) (vhi:=none) (a:=k) (b:=n) rfl rfl h0 (by omega) (by omega) (.some rfl) .none;unfold execOp;rw [ho];simp [Instr.sliceAt,run_underlying ht,Instr.slice,hb,a0v (P:=P) (w:=w) hs Nat.one_pos,hv,hyv];rw [if_neg (by omega)];simp [a2C]
theorem c19 {t t' e:TypeId} {x y:Operand} {p v n k m:Nat} {cc dd:Nat->Nat->AV} (ho:o.op=.call ⟨.builtin .copy,⟨[x,y]⟩,⟨[t,t']⟩⟩) (ht:P.underlying t=some (.slice e)) (hs:(P.info? e).map (·.size)=some 1) (hrow:st.hp p=.sl v e 1 n cc) (hd:a0w st.sz o.dst)
  (h:∀ (c:Ctx) (η:Env) (a:Act) (w:World),SR c st η a w->∃ g cap dl dc,η v=some (some g,cap)/\a.eval x=.slice (some ⟨g,k,none⟩) dl dc/\k+dl<=n/\∃ ad sl sc,a.eval y=.slice (some ad) sl sc/\m=Nat.min sl dl/\
   ∀ i,i<m->∃ u,w.cell? (ad.add i)=some u/\u.oneCell'=true/\Rep w η (a0D c η st.hp) (dd i 0) u)
  (hK:K ⟨a1t st.fr o.dst (.val (.int .i64 m)),a0y st.hp p (.sl v e 1 n (cpC cc k m dd)),st.sz,st.top,st.nx,st.df⟩):OpW P o st K:=by
 intro c η a w next Q hsr hnext
 obtain⟨g,cap,dl,dc,hη,hxv,hkd,ad,sl,sc,hyv,hm,hcell⟩:=h c η a w hsr;have hr:=hsr.hs.rows p;rw [hrow] at hr;obtain⟨cur,hh,hsz,hnc,hcm,hc⟩:=hr _ _ hη;have hmd:m<=dl:=by rw [hm];exact Nat.min_le_right _ _
 obtain⟨cs,hcl,hcs⟩:∃ cs:List Value,cs.length=m/\∀ i,i<m->w.cell? (ad.add i)=cs[i]?/\∃ u,cs[i]?=some u/\u.oneCell'=true/\Rep w η (a0D c η st.hp) (dd i 0) u:=by
  refine⟨(List.range m).map fun i=>(w.cell? (ad.add i)).getD undef,by simp,fun i hi=>?_⟩;obtain⟨u,hu,h1,h2⟩:=hcell i hi;have:((List.range m).map fun i=>(w.cell? (ad.add i)).getD undef)[i]?=some u:=by simp [hi,hu]
  rw [this,hu];exact⟨rfl,u,rfl,h1,h2⟩
 have hblk:(st.hp p).blk η=some g:=by rw [hrow];simp [Row.blk,Row.ver,hη]
 have hf:=a4T w g (cur.toList.take k++cs++cur.toList.drop (k+cs.length)).toArray;have hO:∀ k,k<w.heap.size->k=g->a0D c η st.hp k:=fun k _ e=>.inr ⟨p,by rw [e];exact hblk⟩
 have hcur:cur.size=cap:=by rw [hsz,Nat.mul_one]
 have hrun:=run_copy_row P w t t' o.type e g k dl dc ad sl sc cur e cs ht hs hh (by rw [hcl,hm]) (fun j u hj=>by
   have hj':j<m:=by rw [<-hcl];exact (List.getElem?_eq_some_iff.1 hj).1
   rw [(hcs j hj').1,hj]) (by rw [hcl];omega) (fun u hu=>by
   obtain⟨j,hj,rfl⟩:=List.getElem_of_mem hu;obtain⟨_,u,h1,h2,_⟩:=hcs j (by omega);rw [List.getElem?_eq_getElem hj] at h1;rw [oJI h1]
   exact h2)
 rw [hcl] at hrun
 have hwr:=hsr.hs.write (row:=.sl v e 1 n (cpC cc k m dd)) hblk (by rw [hrow];rfl) hf (by
  intro g' cap' he;rw [hη] at he;simp only [oSI,pMI] at he;obtain⟨rfl,rfl⟩:=he;refine⟨_,setRow_heap w g cur _ e (0,0) hh,by simp [hcl];omega,hnc,hcm,fun i hi j hj=>?_⟩;obtain rfl:j=0:=by omega
  rw [a8p cur cs k _ (by omega)];unfold cpC;by_cases hki:k<=i/\i<k+m
  ·rw [if_pos (by omega),if_pos hki];obtain⟨_,u,h1,h2,h3⟩:=hcs (i-k) (by omega);exact⟨u,by rw [show i*1+0-k=i-k by omega];exact h1,h2,Rep.keep hf hO (fun _ _ h=>h) _ _ _ _ (Env.le_refl _) h3⟩
  ·rw [if_neg (by omega),if_neg hki];obtain⟨u,hu,h1,hrep⟩:=hc i hi 0 hj
   exact⟨u,hu,h1,Rep.keep hf hO (fun _ _ h=>h) _ _ _ _ (Env.le_refl _) hrep⟩)
 unfold Oper.wp
 have:(execOp a.eval o).run P w=.ok (.value (.int .i64 m)) (w.setRow g (cur.toList.take k++cs++cur.toList.drop (k+cs.length)).toArray):=by
  unfold execOp;rw [ho];simp only [resolve,invoke,builtin,hxv,hyv,List.map_cons,List.map_nil];simp [hxv,hyv,hrun,goInt,hcl]
 rw [this];refine hnext _ η _ _ (hsr.put (z:=.val (.int .i64 m)) hd hwr.1 (fun q hq=>?_) hwr.2 rfl) hK;by_cases e:q=p
 ·subst e;rw [hsr.dead q hq] at hrow;cases hrow
 ·rw [a0d _ _ e];exact hsr.dead q hq
theorem c9A {t t' e:TypeId} {x y:Operand} {p q v n k l:Nat} {cc:Nat->Nat->AV} (ho:o.op=.call ⟨.builtin .copy,⟨[x,y]⟩,⟨[t,t']⟩⟩) (ht:P.underlying t=some (.slice e)) (hs:(P.info? e).map (·.size)=some 1) (hx:st.ev x=obS v k n) (hy:st.ev y=.ow q v l) (hl:l<=n) (hk:k<=n)
  (hrow:st.hp p=.sl v e 1 n cc) (hd:a0w st.sz o.dst)
  (hK:K ⟨a1t st.fr o.dst (.val (.int .i64 (Nat.min l (n-k):Nat))),a0y st.hp p (.sl v e 1 n (cpC cc k (Nat.min l (n-k)) cc)),st.sz,st.top,st.nx,st.df⟩):OpM P o st K:=by
 intro fr' hlk;have ex:=hlk x (by rw [ho];simp [Op.operands,Call.operands]);have ey:=hlk y (by rw [ho];simp [Op.operands,Call.operands]);refine c19 (st:=⟨fr',st.hp,st.sz,st.top,st.nx,st.df⟩) ho ht hs hrow hd (k:=k) (m:=Nat.min l (n-k)) (dd:=cc) (fun c η a w hsr=>?_) ⟨_,rfl,rfl,hK⟩;have hev:∀ x,Rep w η (a0D c η st.hp) (a7k fr' x) (a.eval x):=a1h hsr.slots;have hxv:=hev x;have hyv:=hev y;rw [ex,show a7k st.fr x=_ from hx] at hxv;rw [ey,show a7k st.fr y=_ from hy] at hyv;obtain⟨η0,hle,g,cap,hη,hxv⟩:=hxv;have hη:=hle _ _ hη;obtain⟨g',cap',hη',hyv⟩:=hyv;rw [hη] at hη';simp only [oSI,pMI] at hη';obtain⟨rfl,rfl⟩:=hη';obtain⟨hyv,hlc⟩:=hyv;have hr:=hsr.hs.rows p;rw [show (⟨fr',st.hp,st.sz,st.top,st.nx,st.df⟩:AS).hp p=_ from hrow] at hr;obtain⟨cur,hh,hsz,hnc,hcm,hc⟩:=hr _ _ hη;have hmin:Nat.min l (n-k)<=n:=Nat.le_trans (Nat.min_le_left _ _) hl;refine⟨g,cap,n-k,cap-k,hη,hxv,by omega,⟨g,0,none⟩,l,cap,hyv,rfl,fun i hi=>?_⟩;obtain⟨u,hu,h1,h2⟩:=hc i (by omega) 0 Nat.one_pos;exact⟨u,by rw [a2C,a0E hh,<-hu];congr 1,h1,h2⟩
theorem d0u {t t' e:TypeId} {x y:Operand} {p v n l:Nat} {cc dd:Nat->Nat->AV} (ho:o.op=.call ⟨.builtin .copy,⟨[x,y]⟩,⟨[t,t']⟩⟩) (ht:P.underlying t=some (.slice e)) (hs:(P.info? e).map (·.size)=some 1) (hx:st.ev x=.ow p v n) (hy:st.ev y=.sn l 1 dd) (hn:0<n) (hl:0<l)
  (hrow:st.hp p=.sl v e 1 n cc) (hd:a0w st.sz o.dst)
  (hK:K ⟨a1t st.fr o.dst (.val (.int .i64 (Nat.min l n:Nat))),a0y st.hp p (.sl v e 1 n (cpC cc 0 (Nat.min l n) dd)),st.sz,st.top,st.nx,st.df⟩):OpW P o st K:=by
 refine c19 ho ht hs hrow hd (k:=0) (m:=Nat.min l n) (dd:=dd) (fun c η a w hsr=>?_) hK;have hxv:=a1h hsr.slots x;have hyv:=a1h hsr.slots y;rw [show a7k st.fr x=_ from hx] at hxv;rw [show a7k st.fr y=_ from hy] at hyv;obtain⟨g,cap,hη,hxv⟩:=hxv;obtain⟨ad,cap',hyv,_,hc⟩:=hyv;obtain⟨b,off,rfl,_,hc⟩:=hc hl Nat.one_pos;cases g with
 | none=>obtain⟨h,_⟩:=hxv;omega
 | some g=>
   obtain⟨hxv,hcap⟩:=hxv;refine⟨g,cap,n,cap,hη,hxv,by omega,_,l,cap',hyv,rfl,fun i hi=>?_⟩;have:Nat.min l n<=l:=Nat.min_le_left _ _;obtain⟨u,hu,h1,h2⟩:=hc i (by omega) 0 Nat.one_pos;exact⟨u,by rw [a2C,<-hu];congr 2;omega,h1,h2.up⟩
theorem c4Q {t t' e:TypeId} {x y:Operand} (ho:o.op=.call ⟨.builtin .copy,⟨[x,y]⟩,⟨[t,t']⟩⟩) (ht:P.underlying t=some (.slice e)) (hs:(P.info? e).map (·.size)=some 1) (hd:a0w st.sz o.dst)
  (h:∀ (c:Ctx) (η:Env) (a:Act) (w:World),SR c st η a w->∃ d dl dc s sl sc,a.eval x=.slice d dl dc/\a.eval y=.slice s sl sc/\Nat.min sl dl=0)
  (hK:K ⟨a1t st.fr o.dst (.val (.int .i64 0)),st.hp,st.sz,st.top,st.nx,st.df⟩):OpW P o st K:=by
 refine a5J hd (fun c η a w hsr=>?_) hK;obtain⟨d,dl,dc,s,sl,sc,hxv,hyv,h0⟩:=h c η a w hsr;refine⟨.int .i64 0,?_,rfl⟩;have hrun:=run_copy_none (P:=P) w t t' o.type e d s dl dc sl sc ht hs h0;unfold execOp;rw [ho];simp [resolve,invoke,builtin,hxv,hyv,hrun,goInt]
theorem c07 {t t' e:TypeId} {x y:Operand} {p v l:Nat} {dd:Nat->Nat->AV} (ho:o.op=.call ⟨.builtin .copy,⟨[x,y]⟩,⟨[t,t']⟩⟩) (ht:P.underlying t=some (.slice e)) (hs:(P.info? e).map (·.size)=some 1) (hx:st.ev x=.ow p v 0) (hy:st.ev y=.sn l 1 dd)
  (hd:a0w st.sz o.dst) (hK:K ⟨a1t st.fr o.dst (.val (.int .i64 0)),st.hp,st.sz,st.top,st.nx,st.df⟩):OpW P o st K:=by
 refine c4Q ho ht hs hd (fun c η a w hsr=>?_) hK;have hxv:=a1h hsr.slots x;have hyv:=a1h hsr.slots y;rw [show a7k st.fr x=_ from hx] at hxv;rw [show a7k st.fr y=_ from hy] at hyv;obtain⟨g,cap,hη,hxv⟩:=hxv;obtain⟨ad,cap',hyv,_,hc⟩:=hyv;cases g with
 | none=>
   obtain⟨_,d,hxv⟩:=hxv;exact⟨_,_,_,_,_,_,hxv,hyv,Nat.min_zero _⟩
 | some g=>
   obtain⟨hxv,hcap⟩:=hxv;exact⟨_,_,_,_,_,_,hxv,hyv,Nat.min_zero _⟩
end
end
section
attribute [local irreducible] AW a0h a0H a0c
def kU6:Kd Int:=⟨fun n=>.val (.int .u64 n),AV.int,fun _=>rfl⟩
@[go_sem] theorem d7J (n:Int):kU6.ok (.val (.int .u64 n))=True:=eq_true (kU6.ok_enc n)
@[go_sem] theorem d5G (n:Int):kU6.dec (.val (.int .u64 n))=n:=rfl
@[go_sem] theorem d6B (n:Int):kU6.enc n=.val (.int .u64 n):=rfl
@[go_sem] def d9O:a0j:=a0j.f2 kU6 kU6 (fun a b=>a=1/\0<=b/\b<=100000000) (fun _ b=>tu2 (kU6.enc 0) (kU6.enc b))
theorem d60:a0b Tryz.prog 177 d9O:=by
 refine a0b.raw Tryz.func177 rfl (by decide) ?_;intro args hp w L vs hL ha
 match args,hp with
 | [x,y],hp=>
   obtain⟨h1,h2,h3,h4,h5⟩:=hp;cases ha with
   | cons hx hr=>cases hr with
     | cons hy hr=>cases hr with
       | nil=>
         have ex:=a9y h1 hx;have ey:=a9y h2 hy;obtain rfl:=ex;obtain rfl:=ey;obtain⟨b,hb⟩:∃ b:Nat,kU6.dec y=(b:Int):=⟨(kU6.dec y).toNat,by omega⟩;rw [h3,hb];refine (Calls.mono (Tryz.bits_Mul 1 b (by omega) (by omega) w) ?_);rintro e w' ⟨rfl,rfl⟩;refine⟨_,rfl,Fr.refl _ _,?_⟩;show Rep w' a0N L (tu2 (kU6.enc 0) (kU6.enc (kU6.dec y))) _;rw [hb,show 1*b / 18446744073709551616=0 by omega,show 1*b % 18446744073709551616=b by omega];refine⟨_,rfl,rfl,fun j hj=>?_⟩
         match j,hj with
         | 0,_=>exact⟨_,rfl,rfl⟩
         | 1,_=>exact⟨_,rfl,rfl⟩
def b1F (n k:Nat) (a:Int):List Int:=List.replicate k a++List.replicate (n-k) 0
theorem a8r {n k i:Nat} (a:Int) (hk:k<=n) (hi:i<n):(b1F n k a).getD i 0=if i<k then a else 0:=by
 unfold b1F;by_cases h:i<k
 ·rw [if_pos h];simp [List.getD,List.getElem?_append,h]
 ·rw [if_neg h];simp [List.getD,List.getElem?_append,h,show i-k<n-k by omega]
def d39 (n k:Nat) (a:Int):Row:=.sl 0 3 1 n fun i=>eI.enc ((b1F n k a).getD i 0)
theorem c05 {n k m:Nat} {a:Int} {cc dd:Nat->Nat->AV} (hk:k+m<=n) (hc:∀ i,i<n->cc i 0=.val (.int .i64 (if i<k then a else 0))) (hd:∀ i,i<m->dd i 0=.val (.int .i64 a)):a0c (.sl 0 3 1 n (cpC cc k m dd)) (d39 n (k+m) a):=by
 refine a0c.sl rfl fun i hi j hj=>a0h.of_eq ?_
 obtain rfl:j=0:=by omega
 show _=AV.val (.int .i64 ((b1F n (k+m) a).getD i 0));rw [a8r a hk hi];unfold cpC;by_cases h:k<=i/\i<k+m
 ·rw [if_pos h,if_pos h.2,hd _ (by omega)]
 ·rw [if_neg h,hc i hi];by_cases h2:i<k
  ·rw [if_pos h2,if_pos (by omega)]
  ·rw [if_neg h2,if_neg (by omega)]
theorem b08:(Tryz.prog.info? 3).map (·.size)=some 1:=by kernel_rfl
@[go_sem] def d6T:a0j:=a0j.f2 (kL eI) kI (fun x n=>x.length=1/\0<=n/\n<=100000000) (fun x n=>sL eI (List.replicate n.toNat (x.getD 0 0)))
theorem d26:a0b Tryz.prog 130 d6T:=by
 refine a0b.f2 Tryz.func130 rfl (by decide) Tryz.results130 Tryz.ntmps130 (by decide) fun x n ⟨hx,hn0,hn1⟩=>?_
 have hΓ:=gkC d60 gkN;obtain⟨n,rfl⟩:∃ k:Nat,n=k:=⟨n.toNat,by omega⟩;have hw1:IntKind.u64.wrap (n:Int)=n:=by rw [IntKind.wrap_u64];omega
 have hw2:IntKind.u64.wrap 1=1:=by decide
 refine awL hΓ [6,99999,200009] rfl ?_;simp only [go_sem,hx,hw1,hw2];refine⟨fun h=>absurd h (by omega),fun _=>⟨⟨hn0,hn1⟩,fun h=>?_,fun h=>?_⟩⟩
 ·exact absurd h (by omega)
 refine⟨by omega,by omega,?_⟩;obtain⟨a,rfl⟩:∃ a,x=[a]:=List.length_eq_one_iff.1 hx;refine AW.cut ⟨[(0,sL eI [a]),(7,.ow 0 0 n)],[(0,d39 n 0 a)],48,1,1,[]⟩ ?_ ?_
 ·simp only [go_sem];refine a0c.sl rfl fun i hi j hj=>a0h.of_eq ?_
  obtain rfl:j=0:=by omega
  show _=AV.val (.int .i64 ((b1F n 0 a).getD i 0));rw [a8r a (nZL _) hi];rfl
 refine AW.seqTo (fun _:Unit=>Sh.st ⟨[(7,.ow 0 0 n),(8,.val (.int .i64 (min 1 n:Nat)))],[(0,d39 n (min 1 n) a)],48,1,1,[]⟩) ?_ fun _=>?_
 ·refine AW.regionO hΓ [false,false,true] ?_;simp only [go_sem];rcases Nat.eq_zero_or_pos n with rfl|hn
  ·refine c07 rfl Tryz.underlying63 b08 rfl rfl (by decide:33<48) ?_;simp only [go_sem]
   exact⟨(),a0t (by
    simp only [go_sem]
    exact⟨rfl,rlR⟩)⟩
  ·refine d0u rfl Tryz.underlying63 b08 rfl rfl hn (by simp) rfl (by decide:33<48) ?_;have e:Nat.min [a].length n=1:=Nat.min_eq_left hn;have e2:min 1 n=1:=Nat.min_eq_left hn;rw [e,e2];simp only [go_sem]
   exact⟨(),a0t (by
    simp only [go_sem]
    exact c05 (k:=0) (m:=1) (by omega) (fun i hi=>by rw [a8r a (nZL _) hi];rfl) (fun i hi=>by
     obtain rfl:i=0:=by omega
     rfl))⟩
 refine awL hΓ [200009] rfl ?_;simp only [go_sem];refine AW.round (α:={ k:Nat // k<=n/\(0<n->0<k) }) (fun k=>⟨[(7,.ow 0 0 n),(8,.val (.int .i64 k.1))],[(0,d39 n k.1 a)],48,1,1,[]⟩) (fun k=>n-k.1) ⟨min 1 n,by omega,by omega⟩ ?_ ?_
 ·simp only [go_sem];exact rlR
 ·rintro⟨k,hk,hk0⟩;refine awL hΓ [99999,200009] rfl ?_;simp only [go_sem];refine⟨fun hlt=>?_,fun hge=>?_⟩
  ·refine AW.drawZ hΓ mixed 3 [4,5,6] [6] [] (by kernel_rfl) ?_;simp only [go_sem];refine⟨by omega,c4J (n:=n) (k:=k) (by rfl) Tryz.underlying63 d1B (by rfl) (by rfl) (by omega) (by omega) (by exact (by decide:41<48)) ?_⟩;simp only [go_sem];refine c9A (k:=k) (l:=k) (n:=n) (p:=0) (v:=0) (q:=0) (by rfl) Tryz.underlying63 b08 (by rfl) (by rfl) hk hk (by rfl) (by exact (by decide:45<48)) ?_;simp only [go_sem];have hm:k.min (n-k)<=k:=Nat.min_le_left _ _;have hm2:k.min (n-k)<=n-k:=Nat.min_le_right _ _
   have hm3:0<k.min (n-k):=by
    rcases Nat.le_total k (n-k) with h|h
    ·rw [show k.min (n-k)=k from Nat.min_eq_left h];omega
    ·rw [show k.min (n-k)=n-k from Nat.min_eq_right h];omega
   refine⟨by omega,⟨k+k.min (n-k),by omega,by omega⟩,⟨by dsimp only;omega,c05 (by omega) (fun i hi=>?_) (fun i hi=>?_)⟩,by dsimp only;omega⟩
   ·show AV.val (.int .i64 ((b1F n k a).getD i 0))=_;rw [a8r a hk hi]
   ·show AV.val (.int .i64 ((b1F n k a).getD i 0))=_;rw [a8r a hk (by omega),if_pos (by omega)]
  ·obtain rfl:k=n:=by omega
   have e:b1F k k a=List.replicate k a:=by simp [b1F]
   simp only [d39,e];exact⟨⟨trivial,nLR _,fun i _ j _=>rfl⟩,a3A (E:=eI) rfl rfl (by simp)⟩
@[go_sem] def d6O:a0j:=a0j.f2 (kL ePt) kI (fun d _=>d.length<100000000/\(∀ p∈d,b22 p)/\a5x d<=90000000000) (fun d n=>tu2 (kS.enc (a9B d n).1) (kI.enc (a9B d n).2))
theorem c67:a0b Tryz.prog 76 d6O:=by
 refine a0b.f2 Tryz.func76 rfl (by decide) Tryz.results76 Tryz.ntmps76 (by decide) fun d n ⟨hd,hp,hw⟩=>?_
 have hΓ:=gkC b1S (gkC b43 (gkC a79 (gkC d26 (gkC c8M gkN))));have hcl:=a27 d;unfold a9B;by_cases hr:a2v d=false
 ·rw [if_pos hr];refine awZ hΓ rfl ?_;simp only [go_sem,hr];exact⟨hd,hp⟩
 have hr':a2v d=true:=by simpa using hr
 rw [if_neg hr];by_cases hs:a8z n=false
 ·rw [if_pos hs];refine awZ hΓ rfl ?_;simp only [go_sem,hr',hs];exact⟨hd,hp⟩
 ·rw [if_neg hs];have hs':a8z n=true:=by simpa using hs
  refine awZ hΓ rfl ?_;simp only [go_sem,hr',hs'];exact⟨⟨hd,hp⟩,hd,⟨by omega,by omega⟩,hd,by omega,hw⟩
end
set_option maxHeartbeats 8000000
section
attribute [local irreducible] AW a0h a0H a0c a3o
theorem b9p (p:Pt) (n:Int):0<=(ofS p n).2/\(ofS p n).2<14:=by
 unfold ofS
 repeat' split
 all_goals exact⟨by dsimp only;omega,by dsimp only;omega⟩
theorem b1x:∀ (d:List Pt) (ss:List Int) (acc:List UInt8),(a4Z d ss acc).1.length<=acc.length+a5x d/\0<=(a4Z d ss acc).2/\(a4Z d ss acc).2<14
 | [],_,acc=>⟨Nat.le_add_right _ _,by rw [a4Z];dsimp only;omega,by rw [a4Z];dsimp only;omega⟩
 | p::d,ss,acc=>by
   have e2:a5x (p::d)=b3k p+a5x d:=by
    unfold a5x;rw [List.map_cons,List.sum_cons]
   have hl:=b1o p (ss.getD 0 0);have he:=b9p p (ss.getD 0 0);have h1:=b1x d ss.tail (acc++(ofS p (ss.getD 0 0)).1);have h2:=b1x d ss (acc++p.2.2.2.2.1);rw [lAp] at h1 h2;unfold b3k at e2;rw [a4Z,e2];split
   ·split
    ·exact⟨by simp,he⟩
    ·exact⟨by omega,h1.2⟩
   ·exact⟨by omega,h2.2⟩
theorem c0c (d:List Pt) (n:Int):(a9B d n).1.length<=a5x d/\0<=(a9B d n).2/\(a9B d n).2<14:=by
 unfold a9B;split
 ·exact⟨by simp,by dsimp only;omega,by dsimp only;omega⟩
 ·split
  ·exact⟨by simp,by dsimp only;omega,by dsimp only;omega⟩
  ·have:=b1x d (List.replicate (a0k d) n) [];exact⟨by simpa using this.1,this.2⟩
abbrev a3P:List UInt8:=[110,111,32,100,111,99]
def d57 (m:Mg):Prop:=m.1.length<100000000/\(∀ p∈m.1,b22 p)/\a5x m.1<=100000000
def a3x (line:List UInt8) (a:Ss):List UInt8:=if (wdL line).length=2/\(a0B ((wdL line).getD 1 [])).2=true then match a.2.2 with
 | none=>a3P
 | some m=>a1G (a9B m.1 (a0B ((wdL line).getD 1 [])).1).1 (a9B m.1 (a0B ((wdL line).getD 1 [])).1).2 else a0q
def c5S (xs:List AV) (a:Ss) (r:AV) (b:Ss):Prop:=∃ line:List UInt8,xs=[sL eS (wdL line).tail]/\line.length<=1000/\c6q a/\(∀ m,a.2.2=some m->d57 m)/\r=.st (a3x line a)/\b=a
def c6O:a0p:=sSh c5S
theorem c9x:a0f Tryz.prog 62 c6O:=by
 refine a0f.mk Tryz.func62 rfl (by decide) Tryz.results62 Tryz.ntmps62 ?_;rintro args hp top nx K ⟨v,v1,v2,v3,v4,xs,a,r,b,rfl,⟨line,rfl,hl,hs,hm,rfl,rfl⟩,rfl,rfl,hK⟩;have hΓ:=gkC b9F (gkC c67 (gkC b1y gkN));refine⟨Nat.le_of_ble_eq_true rfl,AW.late ?_⟩;have hk:=a0A hK rfl;by_cases h2:(wdL line).length=2
 ·have hI:((wdL line).tail.length:Int)=1:=by rw [List.length_tail];omega
  cases hsd:(a0B ((wdL line).getD 1 [])).2 with
  | false=>
    have e:a3x line b=a0q:=by unfold a3x;rw [if_neg fun h=>by rw [hsd] at h;exact absurd h.2 (by decide)]
    rw [e] at hk;refine awN hΓ rfl ?_;simp only [go_sem,hI,a0R,hsd];refine⟨_,a0e (fun p=>p) (l:=[(4,.st a0q)]) (r:=[(0,.box v 106 10 (shC 1 2 3 4 v1 v2 v3 v4 b)),(1,a0i v1 b.1.1),(2,a0i v2 b.1.2.1),(3,a0i v3 b.1.2.2),(4,mgR v4 b.2.2)]) (sz:=36) (top:=5) (nx:=nx) (df:=[]) ?_,?_⟩
    ·simp only [go_sem];exact⟨rlR,rlR,rlR,rlR,rlR⟩
    ·simp only [go_sem];exact hk v1 v2 v3 nx (.inl rfl) (.inl rfl) (.inl rfl) (nLR _)
  | true=>
    cases hb:b.2.2 with
    | none=>
      have e:a3x line b=a3P:=by unfold a3x;rw [if_pos ⟨h2,hsd⟩,hb]
      rw [e] at hk;refine awN hΓ rfl ?_;simp only [go_sem,hI,a0R,hsd,b72,hb];refine⟨_,a0e (fun p=>p) (l:=[(4,.st a3P)]) (r:=[(0,.box v 106 10 (shC 1 2 3 4 v1 v2 v3 v4 b)),(1,a0i v1 b.1.1),(2,a0i v2 b.1.2.1),(3,a0i v3 b.1.2.2),(4,mgR v4 b.2.2)]) (sz:=36) (top:=5) (nx:=nx) (df:=[]) ?_,?_⟩
      ·simp only [go_sem];exact⟨rlR,rlR,rlR,rlR,by rw [hb];exact rlR⟩
      ·simp only [go_sem];exact hk v1 v2 v3 nx (.inl rfl) (.inl rfl) (.inl rfl) (nLR _)
    | some m=>
      have e:a3x line b=a1G (a9B m.1 (a0B ((wdL line).getD 1 [])).1).1 (a9B m.1 (a0B ((wdL line).getD 1 [])).1).2:=by unfold a3x;rw [if_pos ⟨h2,hsd⟩,hb]
      rw [e] at hk;refine awN hΓ rfl ?_;simp only [go_sem,hI,a0R,hsd,b72,hb,mgR];obtain⟨m1,m2,m3⟩:=hm m hb;have hin:=c0c m.1 (a0B ((wdL line).getD 1 [])).1;refine⟨⟨m1,m2,by omega⟩,⟨by omega,hin.2⟩,?_⟩;refine⟨_,a0e (fun p=>p) (l:=[(4,.st (a1G (a9B m.1 (a0B ((wdL line).getD 1 [])).1).1 (a9B m.1 (a0B ((wdL line).getD 1 [])).1).2))]) (r:=[(0,.box v 106 10 (shC 1 2 3 4 v1 v2 v3 v4 b)),(1,a0i v1 b.1.1),(2,a0i v2 b.1.2.1),(3,a0i v3 b.1.2.2),(4,mgR v4 b.2.2)]) (sz:=36) (top:=5) (nx:=nx) (df:=[]) ?_,?_⟩
      ·simp only [go_sem];exact⟨rlR,rlR,rlR,rlR,by rw [hb];exact rlR⟩
      ·simp only [go_sem];exact hk v1 v2 v3 nx (.inl rfl) (.inl rfl) (.inl rfl) (nLR _)
 ·have hI:(((wdL line).tail.length:Int)=1)=False:=eq_false (by rw [List.length_tail];have:=List.length_pos_iff.2 (a35 line);omega);have e:a3x line b=a0q:=by unfold a3x;rw [if_neg fun h=>h2 h.1]
  rw [e] at hk;refine awN hΓ rfl ?_;simp only [go_sem,hI];refine⟨_,a0e (fun p=>p) (l:=[(4,.st a0q)]) (r:=[(0,.box v 106 10 (shC 1 2 3 4 v1 v2 v3 v4 b)),(1,a0i v1 b.1.1),(2,a0i v2 b.1.2.1),(3,a0i v3 b.1.2.2),(4,mgR v4 b.2.2)]) (sz:=36) (top:=5) (nx:=nx) (df:=[]) ?_,?_⟩
  ·simp only [go_sem];exact⟨rlR,rlR,rlR,rlR,rlR⟩
  ·simp only [go_sem];exact hk v1 v2 v3 nx (.inl rfl) (.inl rfl) (.inl rfl) (nLR _)
@[go_sem] def d1A:a0p:=a0U c6O
theorem b9D:a0f Tryz.prog 62 d1A:=c9x.frame
theorem c0Z (d:List Pt) (n s:Int):0<=(a38 d n s).2/\(a38 d n s).2<14:=by
 have he:=b9p (d.getD (a1r d 0 n).toNat ePt.dflt) s;unfold a38
 repeat' split
 all_goals first|exact he|exact⟨by dsimp only;omega,by dsimp only;omega⟩
theorem b1V (d:List Pt) (n s:Int):(a38 d n s).1.length<=d.length:=by
 unfold a38
 repeat' split
 all_goals first|exact nZL _|skip
 exact Nat.le_trans (b3K _).2 (by rw [List.length_set];exact nLR _)
noncomputable def a09 (line:List UInt8) (a:Ss):List UInt8×Ss:=if (wdL line).length=3/\(a3o ((wdL line).getD 1 [])).isSome=true/\(a0B ((wdL line).getD 2 [])).2=true then match a.2.2 with
 | none=>(a3P,a)
 | some m=>if (a38 m.1 (a1J ((wdL line).getD 1 [])) (a0B ((wdL line).getD 2 [])).1).2=0 then (Lib.itoa (a0k (a38 m.1 (a1J ((wdL line).getD 1 [])) (a0B ((wdL line).getD 2 [])).1).1:Nat),(a.1,a.2.1,some ((a38 m.1 (a1J ((wdL line).getD 1 [])) (a0B ((wdL line).getD 2 [])).1).1,m.2))) else (a7t (a38 m.1 (a1J ((wdL line).getD 1 [])) (a0B ((wdL line).getD 2 [])).1).2,a)
 else (a0q,a)
def b8p (xs:List AV) (a:Ss) (r:AV) (b:Ss):Prop:=∃ line:List UInt8,xs=[sL eS (wdL line).tail]/\line.length<=1000/\c6q a/\(∀ m,a.2.2=some m->d57 m)/\r=.st (a09 line a).1/\b=(a09 line a).2
def b83:a0p:=sSh b8p
theorem c3E:a0f Tryz.prog 63 b83:=by
 refine a0f.mk Tryz.func63 rfl (by decide) Tryz.results63 Tryz.ntmps63 ?_;rintro args hp top nx K ⟨v,v1,v2,v3,v4,xs,a,r,b,rfl,⟨line,rfl,hl,hs,hm,rfl,rfl⟩,rfl,rfl,hK⟩;have hΓ:=gkC a6b (gkC b9F (gkC c63 (gkC a7N (gkC a79 (gkC a8t gkN)))));refine⟨Nat.le_of_ble_eq_true rfl,AW.late ?_⟩;have hg:=b1m line 1;by_cases h2:(wdL line).length=3
 ·have hI:((wdL line).tail.length:Int)=2:=by rw [List.length_tail];omega
  cases hn:a3o ((wdL line).getD 1 []) with
  | none=>
    have e:a09 line a=(a0q,a):=by unfold a09;rw [if_neg fun h=>by rw [hn] at h;exact absurd h.2.1 (by decide)]
    rw [e] at hK;have hk:=a0A hK rfl;refine awN hΓ rfl ?_;simp only [go_sem,hI,a0R,hn,nuO];refine⟨by omega,?_⟩;refine⟨_,a0e (fun p=>p) (l:=[(4,.st a0q)]) (r:=[(0,.box v 106 10 (shC 1 2 3 4 v1 v2 v3 v4 a)),(1,a0i v1 a.1.1),(2,a0i v2 a.1.2.1),(3,a0i v3 a.1.2.2),(4,mgR v4 a.2.2)]) (sz:=66) (top:=5) (nx:=nx) (df:=[]) ?_,?_⟩
    ·simp only [go_sem];exact⟨rlR,rlR,rlR,rlR,rlR⟩
    ·simp only [go_sem];exact hk v1 v2 v3 nx (.inl rfl) (.inl rfl) (.inl rfl) (nLR _)
  | some n=>
    cases hsd:(a0B ((wdL line).getD 2 [])).2 with
    | false=>
      have e:a09 line a=(a0q,a):=by unfold a09;rw [if_neg fun h=>by rw [hsd] at h;exact absurd h.2.2 (by decide)]
      rw [e] at hK;have hk:=a0A hK rfl;refine awN hΓ rfl ?_;simp only [go_sem,hI,a0R,hn,nuO,hsd];refine⟨by omega,?_⟩;refine⟨_,a0e (fun p=>p) (l:=[(4,.st a0q)]) (r:=[(0,.box v 106 10 (shC 1 2 3 4 v1 v2 v3 v4 a)),(1,a0i v1 a.1.1),(2,a0i v2 a.1.2.1),(3,a0i v3 a.1.2.2),(4,mgR v4 a.2.2)]) (sz:=66) (top:=5) (nx:=nx) (df:=[]) ?_,?_⟩
      ·simp only [go_sem];exact⟨rlR,rlR,rlR,rlR,rlR⟩
      ·simp only [go_sem];exact hk v1 v2 v3 nx (.inl rfl) (.inl rfl) (.inl rfl) (nLR _)
    | true=>
      cases hb:a.2.2 with
      | none=>
        have e:a09 line a=(a3P,a):=by unfold a09;rw [if_pos ⟨h2,by rw [hn];rfl,hsd⟩,hb]
        rw [e] at hK;have hk:=a0A hK rfl;refine awN hΓ rfl ?_;simp only [go_sem,hI,a0R,hn,nuO,hsd,b72,hb];refine⟨by omega,?_⟩;refine⟨_,a0e (fun p=>p) (l:=[(4,.st a3P)]) (r:=[(0,.box v 106 10 (shC 1 2 3 4 v1 v2 v3 v4 a)),(1,a0i v1 a.1.1),(2,a0i v2 a.1.2.1),(3,a0i v3 a.1.2.2),(4,mgR v4 a.2.2)]) (sz:=66) (top:=5) (nx:=nx) (df:=[]) ?_,?_⟩
        ·simp only [go_sem];exact⟨rlR,rlR,rlR,rlR,by rw [hb];exact rlR⟩
        ·simp only [go_sem];exact hk v1 v2 v3 nx (.inl rfl) (.inl rfl) (.inl rfl) (nLR _)
      | some m=>
        obtain⟨m1,m2,m3⟩:=hm m hb
        have gN:gI (n:Int):=by
         have ht:=a2D ((wdL line).getD 1 []);rw [hn] at ht;rcases ht with⟨k,h1,h4,h3⟩|⟨h4,h3⟩
         ·have:=oJI h3;unfold gI;omega
         ·cases h3
        have hin:=c0Z m.1 n (a0B ((wdL line).getD 2 [])).1;refine awN hΓ rfl ?_;simp only [go_sem,hI,a0R,hn,nuO,hsd,b72,hb,mgR];refine⟨by omega,⟨m1,m2,m3,gN⟩,fun hx=>⟨hin,?_⟩,fun hx=>?_⟩
        ·have e:a09 line a=(a7t (a38 m.1 n (a0B ((wdL line).getD 2 [])).1).2,a):=by
          unfold a09;rw [if_pos ⟨h2,by rw [hn];rfl,hsd⟩,hb];dsimp only;rw [a1m hn,if_neg hx]
         rw [e] at hK;have hk:=a0A hK rfl;refine⟨_,a0e (fun p=>p) (l:=[(4,.st (a7t (a38 m.1 n (a0B ((wdL line).getD 2 [])).1).2))]) (r:=[(0,.box v 106 10 (shC 1 2 3 4 v1 v2 v3 v4 a)),(1,a0i v1 a.1.1),(2,a0i v2 a.1.2.1),(3,a0i v3 a.1.2.2),(4,mgR v4 a.2.2)]) (sz:=66) (top:=5) (nx:=nx) (df:=[]) ?_,?_⟩
         ·simp only [go_sem];exact⟨rlR,rlR,rlR,rlR,by rw [hb];exact rlR⟩
         ·simp only [go_sem];exact hk v1 v2 v3 nx (.inl rfl) (.inl rfl) (.inl rfl) (nLR _)
        ·have hx:=Decidable.not_not.1 hx;have hol:=b1V m.1 n (a0B ((wdL line).getD 2 [])).1;have hcl:=a27 (a38 m.1 n (a0B ((wdL line).getD 2 [])).1).1
         have e:a09 line a=(Lib.itoa (a0k (a38 m.1 n (a0B ((wdL line).getD 2 [])).1).1:Nat),(a.1,a.2.1,some ((a38 m.1 n (a0B ((wdL line).getD 2 [])).1).1,m.2))):=by
          unfold a09;rw [if_pos ⟨h2,by rw [hn];rfl,hsd⟩,hb];dsimp only;rw [a1m hn,if_pos hx]
         rw [e] at hK;refine⟨by omega,⟨by omega,by omega⟩,?_⟩;refine⟨_,a0e (fun p=>p) (l:=[(4,.st (Lib.itoa (a0k (a38 m.1 n (a0B ((wdL line).getD 2 [])).1).1:Nat)))]) (r:=[(0,.box v 106 10 (shC 1 2 3 4 v1 v2 v3 v4 (a.1,a.2.1,some ((a38 m.1 n (a0B ((wdL line).getD 2 [])).1).1,m.2)))),(1,a0i v1 a.1.1),(2,a0i v2 a.1.2.1),(3,a0i v3 a.1.2.2),(4,mgR v4 (some ((a38 m.1 n (a0B ((wdL line).getD 2 [])).1).1,m.2)))]) (sz:=66) (top:=5) (nx:=nx) (df:=[]) ?_,?_⟩
         ·simp only [go_sem];refine⟨c1W fun j hj=>?_,rlR,rlR,rlR,a0c.box fun j hj=>?_⟩
          ·have hc:j=0\/j=1\/j=2\/j=3\/j=4\/j=5\/j=6\/j=7\/j=8\/j=9:=by omega
           rcases hc with rfl|rfl|rfl|rfl|rfl|rfl|rfl|rfl|rfl|rfl
           case inr.inr.inr.inr.inr.inr.inr.inr.inr=>rw [b72,b72,hb];rfl
           all_goals rfl
          ·match j,hj with
           | 0,_=>exact avR
           | 1,_=>exact avR
           | 2,_=>exact avR
           | 3,_=>exact avR
         ·simp only [go_sem];exact hK v1 v2 v3 v4 nx (.inl rfl) (.inl rfl) (.inl rfl) (.inl ⟨by rw [hb];rfl,rfl⟩) (nLR _)
 ·have hI:(((wdL line).tail.length:Int)=2)=False:=eq_false (by rw [List.length_tail];have:=List.length_pos_iff.2 (a35 line);omega);have e:a09 line a=(a0q,a):=by unfold a09;rw [if_neg fun h=>h2 h.1]
  rw [e] at hK;have hk:=a0A hK rfl;refine awN hΓ rfl ?_;simp only [go_sem,hI];refine⟨_,a0e (fun p=>p) (l:=[(4,.st a0q)]) (r:=[(0,.box v 106 10 (shC 1 2 3 4 v1 v2 v3 v4 a)),(1,a0i v1 a.1.1),(2,a0i v2 a.1.2.1),(3,a0i v3 a.1.2.2),(4,mgR v4 a.2.2)]) (sz:=66) (top:=5) (nx:=nx) (df:=[]) ?_,?_⟩
  ·simp only [go_sem];exact⟨rlR,rlR,rlR,rlR,rlR⟩
  ·simp only [go_sem];exact hk v1 v2 v3 nx (.inl rfl) (.inl rfl) (.inl rfl) (nLR _)
@[go_sem] noncomputable def c7N:a0p:=a0U b83
theorem b5y:a0f Tryz.prog 63 c7N:=c3E.frame
end
section
theorem c9a (a:Int) (now:BS) (c:Pt) (ps:List Pt) (m:Mk):(0<=(a01 a now c ps m).1/\(a01 a now c ps m).1<14)/\(a01 a now c ps m).2.2.2.length<=ps.length+1:=by
 unfold a01;split
 ·exact⟨⟨by dsimp only;omega,by dsimp only;omega⟩,by dsimp only;omega⟩
 ·split
  ·exact⟨⟨by dsimp only;omega,by dsimp only;omega⟩,by dsimp only;omega⟩
  ·split
   ·exact⟨⟨by dsimp only;omega,by dsimp only;omega⟩,by dsimp only;omega⟩
   ·refine⟨⟨by dsimp only;omega,by dsimp only;omega⟩,?_⟩;dsimp only;unfold a5L
    repeat' split
    all_goals simp
theorem c3N (l:BS) (w:Int):0<=(a0J l w).2.2/\(a0J l w).2.2<14:=by
 unfold a0J
 repeat' split
 all_goals exact⟨by dsimp only;omega,by dsimp only;omega⟩
theorem b3y (w:Int):∀ (ls:List BS) (a:Int) (now:BS) (c:Pt) (ps:List Pt) (i:Nat),(0<=(a7x w ls a now c ps i).2.1/\(a7x w ls a now c ps i).2.1<14)/\(0<=(a7x w ls a now c ps i).2.2/\(a7x w ls a now c ps i).2.2<=i+ls.length+1)/\(a7x w ls a now c ps i).1.length<=ps.length+ls.length+1
 | [],a,now,c,ps,i=>by
   rw [a7x];split
   ·exact⟨⟨by dsimp only;omega,by dsimp only;omega⟩,⟨by dsimp only;omega,by dsimp only [List.length_nil];omega⟩,nZL _⟩
   ·refine⟨⟨by dsimp only;omega,by dsimp only;omega⟩,⟨by dsimp only;omega,by dsimp only;omega⟩,?_⟩;exact Nat.le_trans (b3K _).2 (by simp)
 | l::ls,a,now,c,ps,i=>by
   have ht:=c9a a now c ps (a0J l w).1;have hr:=c3N l w;rw [a7x,lCo];split
   ·split
    ·exact⟨ht.1,⟨by dsimp only;omega,by dsimp only;omega⟩,nZL _⟩
    ·have:=b3y w ls (a01 a now c ps (a0J l w).1).2.1 [] (a01 a now c ps (a0J l w).1).2.2.1 (a01 a now c ps (a0J l w).1).2.2.2 (i+1);exact⟨this.1,⟨this.2.1.1,by omega⟩,by omega⟩
   ·split
    ·exact⟨hr,⟨by dsimp only;omega,by dsimp only;omega⟩,nZL _⟩
    ·have:=b3y w ls a (now++l) c ps (i+1);exact⟨this.1,⟨this.2.1.1,by omega⟩,by omega⟩
theorem b1T (s:BS) (w:Int):(0<=(a0V s w).2.1/\(a0V s w).2.1<14)/\(0<=(a0V s w).2.2/\(a0V s w).2.2<=(a0a s).length+1)/\(a0V s w).1.length<=(a0a s).length+1:=by
 unfold a0V;split
 ·exact⟨⟨by dsimp only;omega,by dsimp only;omega⟩,⟨by dsimp only;omega,by dsimp only;omega⟩,nZL _⟩
 ·have:=b3y w (a0a s) 0 [] ePt.dflt [] 0;exact⟨this.1,⟨this.2.1.1,by have:=this.2.1.2;omega⟩,by have:=this.2.2;simpa using this⟩
end
set_option maxHeartbeats 2000000
section
attribute [local irreducible] AW a0h a0H a0c
theorem c5x (d:List Pt):a5x d<=a2z d:=by
 induction d with
 | nil=>exact nLR _
 | cons p d ih=>
   have e1:a5x (p::d)=b3k p+a5x d:=by unfold a5x;rw [List.map_cons,List.sum_cons]
   have e2:a2z (p::d)=a2X p+a2z d:=by simp [a2z]
   have:b3k p<=a2X p:=by unfold b3k a2X;omega
   omega
end
section
theorem c8B {r:BS} {f:Bool} {l:BS} (h:rdT r=some (f,l)):l.length<=r.length:=by
 unfold rdT at h;dsimp only at h;generalize hr:(if decide (r.getD 0 0=33)=true then r.drop 1 else r)=r1 at h
 have h1:r1.length<=r.length:=by
  rw [<-hr];split
  ·rw [List.length_drop];omega
  ·omega
 generalize hl:(if 1<r1.length/\r1.getD 0 0=32 then (r1.take (r1.length-1)).drop 1 else [])=x at h
 have h2:x.length<=r1.length:=by
  rw [<-hl];split
  ·simp only [List.length_drop,List.length_take];omega
  ·simp
 split at h
 ·injection h with h
  injection h with _ h
  rw [<-h];omega
 ·cases h
theorem c0y (l:BS) (w:Int):(a0J l w).1.2.2.length<=l.length:=by
 unfold a0J;split
 ·exact nZL _
 ·split
  ·exact nZL _
  ·split
   ·rename_i f x h;have:=c8B h;rw [List.length_drop] at this;split
    ·show x.length<=_;omega
    ·exact nZL _
   ·exact nZL _
theorem c3D (s:BS):(a4A s).length<=s.length:=by
 unfold a4A;split
 ·rw [List.length_take];omega
 ·omega
theorem b8b {m:Mk} {now sd:BS} (h:b1t m now=some sd):sd.length<=now.length:=by
 unfold b1t at h;split at h
 ·split at h
  ·cases h
  ·injection h with h
   rw [<-h];exact c3D now
 ·injection h with h
  rw [h];exact nLR _
theorem a6P (t:BS):a2X (a0Q t)=t.length:=by simp [a2X,a0Q]
theorem c2V (a:Int) (sd:BS) (c:Pt):a2X (b16 a sd c)<=a2X c+sd.length:=by
 obtain⟨ll,bl,rl,h,t,l,b,r,hb⟩:=c;unfold b16;split
 ·simp only [a2X,b9J];omega
 ·split
  ·simp only [a2X,b9L];omega
  ·split
   ·simp only [a2X,b5e];omega
   ·omega
theorem c0l (c:Pt) (s:BS):a2X (c1g c s)<=a2X c+s.length:=by
 obtain⟨ll,bl,rl,h,t,l,b,r,hb⟩:=c;simp only [a2X,c1g];omega
theorem c1K (c:Pt) (s:BS):a2X (b2Z c s)<=a2X c+s.length:=by
 obtain⟨ll,bl,rl,h,t,l,b,r,hb⟩:=c;simp only [a2X,b2Z];omega
def c4W (a:Int) (c:Pt):Nat:=if a=0 then 0 else a2X c
theorem c10 (a:Int) (c:Pt):c4W a c<=a2X c:=by
 unfold c4W;split
 ·exact nZL _
 ·exact nLR _
theorem c4q {a:Int} {now:BS} {c:Pt} {ps:List Pt} {m:Mk} (h:(a01 a now c ps m).1=0) :
  a2z (a01 a now c ps m).2.2.2+c4W (a01 a now c ps m).2.1 (a01 a now c ps m).2.2.1<=a2z ps+c4W a c+now.length+m.2.2.length:=by
 unfold a01 at h ⊢;split at h
 ·exact absurd h (show ¬(7:Int)=0 by decide)
 ·rename_i h1;rw [if_neg h1];split at h
  ·exact absurd h (show ¬(8:Int)=0 by decide)
  ·rename_i h2;rw [if_neg h2];split at h
   ·exact absurd h (show ¬(9:Int)=0 by decide)
   ·rename_i sd hs;have hl:=b8b hs;dsimp only;have hS:=c2V a sd c;have hB:=c0l (b16 a sd c) m.2.2;have hR:=c1K (b16 a sd c) m.2.2;by_cases k1:m.1=60
    ·have ea:a=0:=by
      by_cases e:a=0
      ·exact e
      ·exact absurd ⟨k1,e⟩ h1
     have o1:=c10 (if m.1=62 then 0 else m.1) (a90 a m sd c);have e1:a90 a m sd c=(m.2.2,[],[],true,[],[],[],[],false):=by unfold a90;rw [if_pos k1]
     have e2:a5L a m now sd c ps=ps++[a0Q now]:=by unfold a5L;rw [if_pos k1]
     rw [e2,a8F,a6P];have e3:a2X (a90 a m sd c)=m.2.2.length:=by rw [e1];simp [a2X]
     omega
    ·have ea:c4W a c=a2X c:=by
      unfold c4W;rw [if_neg];rintro rfl;apply h2;unfold a5b;rw [if_neg k1];split
      ·rfl
      ·split<;>rfl
     have o1:=c10 (if m.1=62 then 0 else m.1) (a90 a m sd c);by_cases k2:m.1=62
     ·have e1:a90 a m sd c=b2Z (b16 a sd c) m.2.2:=by unfold a90;rw [if_neg k1,if_neg (by omega),if_pos k2]
      have e2:a5L a m now sd c ps=ps++[a90 a m sd c]:=by unfold a5L;rw [if_neg k1,if_pos k2]
      have e3:c4W (if m.1=62 then 0 else m.1) (a90 a m sd c)=0:=by rw [if_pos k2];rfl
      rw [e2,a8F,e3,e1];omega
     ·have e2:a5L a m now sd c ps=ps:=by unfold a5L;rw [if_neg k1,if_neg k2]
      have e3:a2X (a90 a m sd c)<=a2X c+sd.length+m.2.2.length:=by
       unfold a90;rw [if_neg k1];split
       ·omega
       ·first|omega|(rw [if_neg k2];omega)
      rw [e2];omega
theorem b0I (w:Int):∀ (ls:List BS) (a:Int) (now:BS) (c:Pt) (ps:List Pt) (i:Nat),a2z (a7x w ls a now c ps i).1<=a2z ps+c4W a c+now.length+ls.flatten.length
 | [],a,now,c,ps,i=>by
   rw [a7x];split
   ·exact nZL _
   ·have:=b3E (ps++[a0Q now]);rw [a8F,a6P] at this;dsimp only;omega
 | l::ls,a,now,c,ps,i=>by
   have hr:=c0y l w;rw [a7x,List.flatten_cons,lAp];split
   ·split
    ·exact nZL _
    ·rename_i h;have ht:=c4q (Decidable.not_not.1 h);have:=b0I w ls (a01 a now c ps (a0J l w).1).2.1 [] (a01 a now c ps (a0J l w).1).2.2.1 (a01 a now c ps (a0J l w).1).2.2.2 (i+1);rw [List.length_nil] at this;omega
   ·split
    ·exact nZL _
    ·have:=b0I w ls a (now++l) c ps (i+1);rw [lAp] at this;omega
theorem c1b (s:BS) (w:Int):a2z (a0V s w).1<=s.length:=by
 unfold a0V;split
 ·exact nZL _
 ·have:=b0I w (a0a s) 0 [] ePt.dflt [] 0;rw [a0L] at this;have e:a2z ([]:List Pt)=0:=rfl;have e2:c4W 0 ePt.dflt=0:=rfl;rw [e,e2,List.length_nil] at this;omega
theorem c3L {d:List Pt} {k:Nat} {t:BS} (h:t.length<=a2X (d.getD k ePt.dflt)):a2z (d.set k (a0Q t))<=a2z d:=by
 induction d generalizing k with
 | nil=>simp
 | cons p d ih=>
   have e:∀ (q:Pt) (l:List Pt),a2z (q::l)=a2X q+a2z l:=fun q l=>by simp [a2z]
   cases k with
   | zero=>
     rw [List.set_cons_zero,e,e,a6P];have:t.length<=a2X p:=h;omega
   | succ k=>
     rw [List.set_cons_succ,e,e];have:=ih (k:=k) h;omega
theorem c3w (d:List Pt) (n s:Int):a2z (a38 d n s).1<=a2z d:=by
 unfold a38
 repeat' split
 all_goals first|exact nZL _|skip
 refine Nat.le_trans (b3E _) (c3L ?_);have:=b1o (d.getD (a1r d 0 n).toNat ePt.dflt) s;unfold a2X;omega
theorem a8X (w:Int):∀ (d:List Pt),(a07 w d).length<=a0k d*(4*w.toNat+15)+a2z d
 | []=>by simp [a07]
 | p::d=>by
   have h1:=a8X w d;have h2:=a96 w p;have e:a2z (p::d)=a2X p+a2z d:=by simp [a2z]
   have e2:a07 w (p::d)=a3J w p++a07 w d:=by simp [a07]
   rw [e2,lAp,e,a13];by_cases hh:hkP p=true
   ·rw [if_pos hh,Nat.add_mul,Nat.one_mul];omega
   ·rw [if_neg hh,Nat.zero_add];have e3:a3J w p=txP p:=by unfold a3J;rw [if_neg hh]
    have e4:(txP p).length<=a2X p:=by unfold a2X txP;omega
    rw [e3];omega
theorem b7A {l:BS} {w:Int} (h:(a0J l w).2.1=true):w.toNat<=l.length:=by
 unfold a0J at h;split at h
 ·cases h
 ·split at h
  ·cases h
  ·have:=b0V l;omega
theorem b7e {a:Int} {now:BS} {c:Pt} {ps:List Pt} {m:Mk}:a0k (a01 a now c ps m).2.2.2<=a0k ps+1:=by
 unfold a01;split
 ·exact Nat.le_succ _
 ·split
  ·exact Nat.le_succ _
  ·split
   ·exact Nat.le_succ _
   ·dsimp only;unfold a5L;split
    ·rw [a5q];split<;>omega
    ·split
     ·rw [a5q];split<;>omega
     ·exact Nat.le_succ _
theorem a7i (w:Int):∀ (ls:List BS) (a:Int) (now:BS) (c:Pt) (ps:List Pt) (i:Nat),a0k (a7x w ls a now c ps i).1*w.toNat<=a0k ps*w.toNat+ls.flatten.length
 | [],a,now,c,ps,i=>by
   rw [a7x];split
   ·simp [a0k]
   ·dsimp only;rw [b1v,a5q];simp [a0Q]
 | l::ls,a,now,c,ps,i=>by
   rw [a7x,List.flatten_cons,lAp];split
   ·rename_i hr;have hw:=b7A hr;split
    ·simp [a0k]
    ·have ht:a0k (a01 a now c ps (a0J l w).1).2.2.2*w.toNat<=(a0k ps+1)*w.toNat:=Nat.mul_le_mul_right _ b7e;have:=a7i w ls (a01 a now c ps (a0J l w).1).2.1 [] (a01 a now c ps (a0J l w).1).2.2.1 (a01 a now c ps (a0J l w).1).2.2.2 (i+1);rw [Nat.add_mul,Nat.one_mul] at ht;omega
   ·split
    ·simp [a0k]
    ·have:=a7i w ls a (now++l) c ps (i+1);omega
theorem b3L (s:BS) (w:Int):a0k (a0V s w).1*w.toNat<=s.length:=by
 unfold a0V;split
 ·simp [a0k]
 ·have:=a7i w (a0a s) 0 [] ePt.dflt [] 0;rw [a0L] at this;simpa [a0k] using this
theorem b94 {d:List Pt} {k:Nat} {t:BS}:a0k (d.set k (a0Q t))<=a0k d:=by
 induction d generalizing k with
 | nil=>simp
 | cons p d ih=>
   cases k with
   | zero=>rw [List.set_cons_zero,a13,a13];simp [a0Q]
   | succ k=>
     rw [List.set_cons_succ,a13,a13];have:=ih (k:=k);omega
theorem b7x (d:List Pt) (n s:Int):a0k (a38 d n s).1<=a0k d:=by
 unfold a38
 repeat' split
 all_goals first|exact nZL _|skip
 rw [b1v];exact b94
def b7u (l:List Ck):Prop:=l.length<=20000/\∀ c∈l,((0<=c.2.1.1/\c.2.1.1<=1000000)/\0<=c.2.1.2/\c.2.1.2<=1000000)/\((0<=c.2.2.1.1/\c.2.2.1.1<=1000000)/\0<=c.2.2.1.2/\c.2.2.1.2<=1000000)/\(0<=c.2.2.2.1/\c.2.2.2.1<=1000000)/\0<=c.2.2.2.2/\c.2.2.2.2<=1000000
theorem d0p {f:Fl} (h1:f.1.length<=1000000) (h2:f.2.1.length<=1000000) (h3:f.2.2.length<=1000000) (hl:(a3X f).length<=20000):b7u (a3X f):=by
 refine⟨hl,fun c hc=>?_⟩;obtain⟨⟨g1,g2,g3⟩,⟨g4,g5,g6⟩,g7,g8,g9⟩:=c24 (a93 f) c hc;obtain⟨b,⟨x1,x2⟩,⟨y1,y2⟩,z1,z2⟩:=c;simp only [a2O,toP,c6o] at g1 g2 g3 g4 g5 g6 g7 g8 g9;dsimp only;refine⟨⟨⟨?_,?_⟩,?_,?_⟩,⟨⟨?_,?_⟩,?_,?_⟩,⟨?_,?_⟩,?_,?_⟩<;>omega
structure a9q (m:Mg):Prop where
 len:m.1.length<=30000
 sum:a2z m.1<=40000000
 w0:0<=m.2.2.1
 w1:m.2.2.1<=3000001
 pr:a0k m.1*(4*m.2.2.1.toNat+15)<=2000000000
 txt:m.2.1.length<=3000000000
 cks:b7u m.2.2.2
theorem a9q.ok {m:Mg} (h:a9q m):d57 m:=⟨Nat.lt_of_le_of_lt h.len (by decide),b5x (Nat.le_trans h.sum (by decide)),Nat.le_trans (c5x m.1) (Nat.le_trans h.sum (by decide))⟩
theorem a9q.print {m:Mg} (h:a9q m):(a07 m.2.2.1 m.1).length<=3000000000:=by
 have h1:=a8X m.2.2.1 m.1;have h2:=h.pr;have h3:=h.sum;omega
theorem a9q.printR {m:Mg} (h:a9q m):(printR m.1 m.2.2.1).1.length<=3000000000/\0<=(printR m.1 m.2.2.1).2/\(printR m.1 m.2.2.1).2<14:=by
 have:=h.print;unfold Go.Proofs.YthpjjjnbkfnghaaGreatDoor.printR
 repeat' split
 all_goals exact⟨by first|exact this|exact nZL _,by dsimp only;omega,by dsimp only;omega⟩
theorem a9q.pick {m:Mg} (h:a9q m) (n s:Int):a9q ((a38 m.1 n s).1,m.2):=by
 have h1:=b1V m.1 n s;have h2:=c3w m.1 n s;have h3:=h.len;have h4:=h.sum;exact⟨Nat.le_trans h1 h3,Nat.le_trans h2 h4,h.w0,h.w1,Nat.le_trans (Nat.mul_le_mul_right _ (b7x m.1 n s)) h.pr,h.txt,h.cks⟩
theorem b7T {s:BS} (hs:s.length<=9500) {w:Nat} (hw:w<=1000000):a9q ((a0V s w).1,s,(w:Int),[]):=by
 have h1:=(b1T s w).2.2;have h2:=a0l s;have h3:=c1b s w;have h4:(a0V s w).1.length<=9501:=by omega
 refine⟨?_,?_,?_,?_,?_,?_,?_,?_⟩
 ·dsimp only;omega
 ·dsimp only;omega
 ·dsimp only;omega
 ·dsimp only;omega
 ·dsimp only;have h5:=b3L s w;have h6:=a27 (a0V s w).1;rw [Int.toNat_natCast] at h5 ⊢;rw [Nat.mul_add,Nat.mul_left_comm];omega
 ·dsimp only;omega
 ·exact nZL _
 ·intro c hc;cases hc
def mgT (r:Rt):Mg:=(r.1,r.2.2.2.2.1,r.2.2.2.2.2.1,r.2.2.2.1)
theorem a6x {a b c:BS} (h:a.length+b.length+c.length<=9400):okM a b c:=by
 have h1:=a0l a;have h2:=a0l b;refine .inr ⟨by omega,by omega,by omega,?_⟩;rcases Nat.lt_or_ge 4700 (a0a a).length with g|g
 ·exact .inr (by omega)
 ·exact .inl g
theorem b6H {a b c:BS} (h:a.length+b.length+c.length<=9400) {o:Op} (ho:a5E o=0) (hl:lbN o.1<=3000):a9q (mgT (a7s a b c o)):=by
 have hM:=a6x h;obtain⟨p1,p2,p3⟩:=c4w ho;have hF:=a52 (a:=a) (b:=b) (c:=c) hM p2 o.2.1 hl p1 o.2.2.2;have e:a7s a b c o=d2f a b c o.2.2.1 o.2.1 o.1 o.2.2.2:=by unfold a7s;rw [if_pos ho]
 have hW:a5Y o.2.2.1 a b c<=9501/\7<=a5Y o.2.2.1 a b c:=by
  have:=a8K (a:=a) (b:=b) (c:=c) (n:=9400) (by omega) (by omega) (by omega);unfold a5Y;omega
 rw [e];have s1:=a0l a;have s2:=a0l b;have s3:=a0l c;have k1:=hF.dlen;have k2:=hF.sump;refine⟨Nat.le_trans hF.dlen (by decide),hF.sump,?_,?_,?_,?_,d0p ?_ ?_ ?_ (Nat.le_trans hF.len (by decide))⟩
 ·show 0<=a5Y o.2.2.1 a b c;omega
 ·show a5Y o.2.2.1 a b c<=_;omega
 ·show a0k (a68 a b c o.2.1 o.1 o.2.2.2)*(4*(a5Y o.2.2.1 a b c).toNat+15)<=_;exact Nat.le_trans (Nat.mul_le_mul (Nat.le_trans (a27 _) k1) (by omega:4*(a5Y o.2.2.1 a b c).toNat+15<=38100)) (by decide)
 ·show (a07 (a5Y o.2.2.1 a b c) (a68 a b c o.2.1 o.1 o.2.2.2)).length<=_;have g1:=a66 (a5Y o.2.2.1 a b c) (a68 a b c o.2.1 o.1 o.2.2.2);have g2:=Nat.mul_le_mul k1 (by omega:4*(a5Y o.2.2.1 a b c).toNat+15<=38100);omega
 ·show (a0a a).length<=_;omega
 ·show (a0a b).length<=_;omega
 ·show (a0a c).length<=_;omega
end
set_option maxHeartbeats 8000000
section
attribute [local irreducible] AW a0h a0H a0c a3o
@[go_sem] def d22:a0j:=a0j.f2 (kL eS) kS (fun l b=>l.length<=100000000/\(Lib.join l b).length<=100000000000) (fun l b=>kS.enc (Lib.join l b))
theorem c7K:a0b Tryz.prog 110 d22:=by
 refine a0b.raw Tryz.func110 rfl (by decide) fun args hp w L vs hL ha=>?_
 match args,hp with
 | [x,y],hp=>
   obtain⟨h1,h2,h3,h4⟩:=hp;cases ha with
   | cons hx hr=>cases hr with
     | cons hy hr=>cases hr with
       | nil=>
         have ex:=a9y h1 hx;have ey:=a9y h2 hy;show Calls _ _ _ _ fun e w'=>∃ v,e=.returned v/\Fr (fun _=>False) w w'/\Rep w' a0N L (kS.enc (Lib.join ((kL eS).dec x) (kS.dec y))) v
         generalize (kL eS).dec x=l at *
         generalize kS.dec y=sp at *
         obtain⟨a,cap,rfl,hcap,hc⟩:=ex;obtain rfl:=ey;rcases Nat.eq_zero_or_pos l.length with h0|h0
         ·rw [h0];refine (Tryz.strings_Join_none a cap ⟨sp.toArray⟩ w).mono ?_;rintro e w' ⟨rfl,rfl⟩;have:l=[]:=List.length_eq_zero_iff.1 h0;subst this;exact⟨_,rfl,Fr.refl _ _,rfl⟩
         ·obtain⟨b,off,rfl,hb,hcells⟩:=hc h0 (by decide)
          have hget:∀ (j:Nat) y,(l.map fun y=>(⟨y.toArray⟩:ByteArray))[j]?=some y->w.cell? ⟨b,off+j,none⟩=some (.string y):=fun j y hj=>by
           rw [List.getElem?_map] at hj;cases hl:l[j]? with
           | none=>rw [hl] at hj;cases hj
           | some z=>
             rw [hl] at hj;simp only [Option.map_some,oSI] at hj;subst hj;obtain⟨hlt,_⟩:=List.getElem?_eq_some_iff.1 hl;obtain⟨u,hu,_,hrep⟩:=hcells j hlt 0 (by decide);have e:l.getD j eS.dflt=z:=by simp [List.getD,hl]
             have hrep:Rep w a0N L (eS.enc (l.getD j eS.dflt) 0) u:=hrep;rw [e] at hrep;have:u=.string ⟨z.toArray⟩:=hrep;subst this;simpa [d21] using hu
          have e1:(l.map fun y=>(⟨y.toArray⟩:ByteArray)).map (·.data.toList)=l:=by simp [Function.comp_def]
          have hbs:b<w.heap.size:=by
           obtain⟨u,hu,_⟩:=hcells 0 h0 0 (by decide);exact World.block_lt_of_cell? w _ hu
          have hJ:=Tryz.strings_Join b off cap (l.map fun y=>⟨y.toArray⟩) ⟨sp.toArray⟩ w hget hbs (by simp;omega) (by simpa using hcap) (by rw [e1];show (Lib.join l sp).length<=_;omega);rw [e1,List.length_map] at hJ;refine hJ.mono ?_;rintro e w' ⟨rfl,hbel⟩;exact⟨_,rfl,Fr.of_below hbel _,rfl⟩
theorem a88 (sp:List UInt8) {k:Nat}:∀ {l:List (List UInt8)},(∀ x∈l,x.length<=k)->(Lib.joinTail sp l).length<=l.length*(k+sp.length)
 | [],_=>nZL _
 | x::l,h=>by
   have h1:=h x (List.mem_cons_self ..);have h2:=a88 sp fun y hy=>h y (List.mem_cons_of_mem x hy)
   have e:Lib.joinTail sp (x::l)=sp++x++Lib.joinTail sp l:=by simp [Lib.joinTail]
   rw [e,lAp,lAp,lCo,Nat.succ_mul];omega
theorem b04 (sp:List UInt8) {k:Nat} {l:List (List UInt8)} (h:∀ x∈l,x.length<=k):(Lib.join l sp).length<=l.length*(k+sp.length):=by
 cases l with
 | nil=>exact nZL _
 | cons x l=>
   have h1:=h x (List.mem_cons_self ..);have h2:=a88 sp fun y hy=>h y (List.mem_cons_of_mem x hy)
   rw [Lib.join_cons,lAp,lCo,Nat.succ_mul];omega
abbrev d6n:List UInt8:=[110,111,110,101]
def stW (b:Bool):List UInt8:=if b=true then [115] else [99]
def a5V (c:Ck):List UInt8:=Lib.join [stW c.1,Lib.itoa c.2.1.1,Lib.itoa c.2.1.2,Lib.itoa c.2.2.1.1,Lib.itoa c.2.2.1.2,Lib.itoa c.2.2.2.1,Lib.itoa c.2.2.2.2] [32]
def a7D (l:List Ck):List UInt8:=if l=[] then d6n else Lib.join (l.map a5V) [59]
theorem a0s {n:Int} (h:0<=n/\n<=1000000):(Lib.itoa n).length<=7:=by
 obtain⟨k,rfl⟩:=Int.eq_ofNat_of_zero_le h.1;exact b2m (by omega)
theorem b4H (b:Bool):(stW b).length=1:=by cases b<;>rfl
theorem b6s {c:Ck} (h:((0<=c.2.1.1/\c.2.1.1<=1000000)/\0<=c.2.1.2/\c.2.1.2<=1000000)/\((0<=c.2.2.1.1/\c.2.2.1.1<=1000000)/\0<=c.2.2.1.2/\c.2.2.1.2<=1000000)/\(0<=c.2.2.2.1/\c.2.2.2.1<=1000000)/\0<=c.2.2.2.2/\c.2.2.2.2<=1000000):(a5V c).length<=56:=by
 obtain⟨⟨h1,h2⟩,⟨h3,h4⟩,h5,h6⟩:=h;refine Nat.le_trans (b04 (k:=7) [32] fun x hx=>?_) (nLR _);simp only [List.mem_cons,List.not_mem_nil,or_false] at hx;rcases hx with rfl|rfl|rfl|rfl|rfl|rfl|rfl
 ·rw [b4H];omega
 all_goals first|exact a0s h1|exact a0s h2|exact a0s h3|exact a0s h4|exact a0s h5|exact a0s h6
theorem a4c {l:List Ck} (h:b7u l):(Lib.join (l.map a5V) [59]).length<=2000000:=by
 obtain⟨h1,h2⟩:=h
 have:=b04 (k:=56) [59] (l:=l.map a5V) fun x hx=>by
  obtain⟨c,hc,rfl⟩:=List.mem_map.1 hx;exact b6s (h2 c hc)
 rw [List.length_map] at this;have h3:=Nat.mul_le_mul_right 57 h1;simp only [lCo,List.length_nil] at this;omega
theorem a9L {P:Program} {st:AS} {K:AS->Prop} {o:Oper} {t e:TypeId} {x i:Operand} {n m sz:Nat} {k:Int} {c:Nat->AV} (ho:o.op=.index t x i) (hu:P.underlying t=some (.array n e)) (ha:a4j P e=some true) (hs:P.cellsOf e=sz) (h0:0<sz)
  (hx:st.ev x=.ag m c) (hi:st.ev i=.val (.int .i64 k)) (hk:0<=k/\k<n) (hm:k.toNat*sz+sz<=m) (hd:a0w st.sz o.dst)
  (hK:K ⟨a1t st.fr o.dst (.ag sz fun j=>c (k.toNat*sz+j)),st.hp,st.sz,st.top,st.nx,st.df⟩):OpW P o st K:=by
 refine a5J hd (fun c' η a w hsr=>?_) hK;have hv:=a1h hsr.slots x;have hw:=a1h hsr.slots i;unfold AS.ev at hx hi;rw [hx] at hv;rw [hi] at hw;obtain⟨cs,hv,hcm,hc⟩:=hv;have hw:a.eval i=.int .i64 k:=hw;refine⟨.agg (cs.extract (k.toNat*sz) (k.toNat*sz+sz)),?_,cs.extract (k.toNat*sz) (k.toNat*sz+sz),rfl,by simp;omega,fun j hj=>?_⟩
 ·unfold execOp;rw [ho];simp [hv,hw,Instr.index,asIntOf,run_underlying hu,hk,part,a3n ha,a0v (P:=P) (w:=w) hs h0]
 ·obtain⟨r,hr,hrep⟩:=hc (k.toNat*sz+j) (by omega);exact⟨r,by rw [Array.getElem?_extract];simpa [show j<min (k.toNat*sz+sz) cs.size-k.toNat*sz by omega] using hr,hrep⟩
theorem b59 {α:Type} (l:List α) (d:α):(List.range l.length).map (fun i=>l.getD i d)=l:=by
 refine List.ext_getElem (by simp) fun i h1 h2=>?_
 simp only [List.getElem_map,List.getElem_range];exact a0F l d h2
theorem c1H {α:Type} {n:Nat} (l:List α) (d:α) (h:n=l.length):(List.range n).map (fun i=>l.getD i d)=l:=by rw [h];exact b59 l d
@[go_sem] def d1M:a0j:=a0j.f1 (kL eCk) b7u (fun l=>kS.enc (a7D l))
theorem c9O:a0b Tryz.prog 119 d1M:=by
 refine a0b.f1 Tryz.func119 rfl (by decide) Tryz.results119 Tryz.ntmps119 (by decide) fun l hok=>?_
 have hΓ:=gkC a8t (gkC c7K gkN);by_cases h0:l=[]
 ·subst h0;refine awN hΓ rfl ?_;simp only [go_sem];rfl
 have hp:0<l.length:=List.length_pos_iff.2 h0;have hI:((l.length:Int)=0)=False:=eq_false (by omega);refine awZ hΓ rfl ?_;simp only [go_sem,hI];refine AW.adopt 3 9 1 (fun _ _=>.any) rfl ?_;refine AW.round (α:={ x:Nat×Nat×Nat // x.1<=l.length }) (fun x=>⟨[(3,.ow 0 x.1.2.1 x.1.1),(12,sL eCk l),(13,.val (.int .i64 l.length)),(14,.val (.int .i64 x.1.1))],[(0,a0G x.1.2.1 9 eS ((l.take x.1.1).map a5V))],51,1,x.1.2.2,[]⟩) (fun x=>l.length-x.1.1) ⟨(0,0,1),nZL _⟩ ?_ ?_
 ·simp only [go_sem];exact a62 rfl
 rintro⟨⟨i,u,nx⟩,hi⟩;dsimp only at hi;rcases Nat.lt_or_ge i l.length with hlt|hge
 ·have hlI:((i:Int)<(l.length:Nat))=True:=eq_true (by omega);obtain⟨⟨cs,⟨x1,x2⟩,⟨y1,y2⟩,z1,z2⟩,hg⟩:∃ c,l.getD i eCk.dflt=c:=⟨_,rfl⟩;have hc:=hok.2 _ (hg▸a0F l eCk.dflt hlt▸List.getElem_mem hlt);have hw:=b6s hc;dsimp only at hc;obtain⟨⟨⟨c1,c1'⟩,c2,c2'⟩,⟨⟨c3,c3'⟩,c4,c4'⟩,⟨c5,c5'⟩,c6,c6'⟩:=hc;have hall:∀ ws:List BS,ws=[stW cs,Lib.itoa x1,Lib.itoa x2,Lib.itoa y1,Lib.itoa y2,Lib.itoa z1,Lib.itoa z2]->Lib.join ws [32]=a5V (cs,(x1,x2),(y1,y2),z1,z2):=fun ws h=>by rw [h];rfl
  cases cs with
  | true=>
    refine awL hΓ [6] rfl ?_;simp only [go_sem,hlI,hg];refine⟨by omega,AW.fork (AW.regionO hΓ [true] ?_)⟩;simp only [go_sem];refine a71 rfl ?_;simp only [go_sem];refine awZ hΓ rfl ?_;simp only [go_sem];refine AW.fork ?_;refine awZ hΓ rfl ?_;simp only [go_sem];refine AW.seqTo (fun x:Nat×Nat=>Sh.st ⟨[(3,.ow 0 u i),(6,.ow 2 x.1 7),(12,sL eCk l),(13,.val (.int .i64 l.length)),(14,.val (.int .i64 i))],[(0,a0G u 9 eS ((l.take i).map a5V)),(2,a0G x.1 9 eS [stW true,Lib.itoa x1,Lib.itoa x2,Lib.itoa y1,Lib.itoa y2,Lib.itoa z1,Lib.itoa z2])],51,3,x.2,[]⟩) ?_ fun⟨u2,nx2⟩=>?_
    ·refine awZ hΓ rfl ?_;simp only [go_sem];refine AW.round (α:={ x:Nat×Nat×Nat // x.1<=3 }) (fun x=>⟨[(3,.ow 0 u i),(6,.ow 2 x.1.2.1 (1+2*x.1.1)),(12,sL eCk l),(13,.val (.int .i64 l.length)),(14,.val (.int .i64 i)),(29,.ag 6 ((eP eSp (eP eSp eSp)).enc ((x1,x2),(y1,y2),z1,z2))),(30,.val (.int .i64 x.1.1))],[(0,a0G u 9 eS ((l.take i).map a5V)),(2,a0G x.1.2.1 9 eS ([stW true,Lib.itoa x1,Lib.itoa x2,Lib.itoa y1,Lib.itoa y2,Lib.itoa z1,Lib.itoa z2].take (1+2*x.1.1)))],51,3,x.1.2.2,[]⟩) (fun x=>3-x.1.1) ⟨(0,nx+1,nx+2),nZL _⟩ ?_ ?_
     ·simp only [go_sem];refine⟨a0h.ag fun j hj=>?_,rlR,a0c.sl rfl fun i hi j hj=>?_⟩
      ·have hc:j=0\/j=1\/j=2\/j=3\/j=4\/j=5:=by omega
       rcases hc with rfl|rfl|rfl|rfl|rfl|rfl<;>exact avR
      ·obtain rfl:j=0:=by omega
       obtain rfl:i=0:=by omega
       exact avR
     ·rintro⟨⟨k,u2,nx2⟩,hk⟩;have hc:k=0\/k=1\/k=2\/k=3:=by dsimp only at hk;omega
      rcases hc with rfl|rfl|rfl|rfl
      ·refine awL hΓ [11] rfl ?_;simp only [go_sem];refine AW.fork ?_;refine awL hΓ [11] rfl ?_;simp only [go_sem];refine AW.fork (AW.block (AW.fork (AW.regionO hΓ [true] ?_)));simp only [go_sem];refine a9L rfl Tryz.underlying230 a99 a47 (by decide) rfl rfl (by decide) (by decide) (by exact (by decide:32<51)) ?_;simp only [go_sem];refine AW.drawZ hΓ mixed 7 [] [] [] (by kernel_rfl) ?_;simp only [go_sem];refine⟨⟨by omega,by omega⟩,⟨by omega,by omega⟩,rfl,?_⟩;refine awN hΓ rfl ?_;simp only [go_sem];refine⟨⟨(1,nx2+1,nx2+1+1),by dsimp only;omega⟩,⟨nLR _,⟨⟨rfl,rfl⟩,rfl⟩,rlR,a0c.sl rfl fun i hi j hj=>?_⟩,by dsimp only;omega⟩;obtain rfl:j=0:=by omega
       have hc:i=0\/i=1\/i=2:=by omega
       rcases hc with rfl|rfl|rfl<;>exact avR
      ·refine awL hΓ [11] rfl ?_;simp only [go_sem];refine AW.fork ?_;refine awL hΓ [11] rfl ?_;simp only [go_sem];refine AW.fork (AW.block (AW.fork (AW.regionO hΓ [true] ?_)));simp only [go_sem];refine a9L rfl Tryz.underlying230 a99 a47 (by decide) rfl rfl (by decide) (by decide) (by exact (by decide:32<51)) ?_;simp only [go_sem];refine AW.drawZ hΓ mixed 7 [] [] [] (by kernel_rfl) ?_;simp only [go_sem];refine⟨⟨by omega,by omega⟩,⟨by omega,by omega⟩,rfl,?_⟩;refine awN hΓ rfl ?_;simp only [go_sem];refine⟨⟨(2,nx2+1,nx2+1+1),by dsimp only;omega⟩,⟨nLR _,⟨⟨rfl,rfl⟩,rfl⟩,rlR,a0c.sl rfl fun i hi j hj=>?_⟩,by dsimp only;omega⟩;obtain rfl:j=0:=by omega
       have hc:i=0\/i=1\/i=2\/i=3\/i=4:=by omega
       rcases hc with rfl|rfl|rfl|rfl|rfl<;>exact avR
      ·refine awL hΓ [11] rfl ?_;simp only [go_sem];refine AW.fork ?_;refine awL hΓ [11] rfl ?_;simp only [go_sem];refine AW.fork (AW.block (AW.fork (AW.regionO hΓ [true] ?_)));simp only [go_sem];refine a9L rfl Tryz.underlying230 a99 a47 (by decide) rfl rfl (by decide) (by decide) (by exact (by decide:32<51)) ?_;simp only [go_sem];refine AW.drawZ hΓ mixed 7 [] [] [] (by kernel_rfl) ?_;simp only [go_sem];refine⟨⟨by omega,by omega⟩,⟨by omega,by omega⟩,rfl,?_⟩;refine awN hΓ rfl ?_;simp only [go_sem];refine⟨⟨(3,nx2+1,nx2+1+1),by dsimp only;omega⟩,⟨nLR _,⟨⟨rfl,rfl⟩,rfl⟩,rlR,a0c.sl rfl fun i hi j hj=>?_⟩,by dsimp only;omega⟩;obtain rfl:j=0:=by omega
       have hc:i=0\/i=1\/i=2\/i=3\/i=4\/i=5\/i=6:=by omega
       rcases hc with rfl|rfl|rfl|rfl|rfl|rfl|rfl<;>exact avR
      ·refine awN hΓ rfl ?_;simp only [go_sem];refine⟨(u2,nx2),a0t ?_⟩;simp only [go_sem];exact⟨rlR,rlR⟩
    ·refine awN hΓ rfl ?_;simp only [go_sem];have hj:=hall _ rfl;rw [show List.range 0++[0]++[1]++[2]++[3]++[4]++[5]++[6]=[0,1,2,3,4,5,6] from rfl];simp only [List.map_cons,List.map_nil,List.getD_cons_zero,List.getD_cons_succ];rw [hj];have hn:=hok.1;refine⟨⟨by decide,by omega⟩,⟨by omega,by omega⟩,⟨by omega,by omega⟩,⟨(i+1,nx2,nx2+1),hlt⟩,⟨nLR _,⟨⟨rfl,rfl⟩,rfl⟩,?_⟩,by dsimp only;omega⟩;dsimp only;have e:=a02 (E:=eS) (v:=nx2) (e:=9) (s:=1) (d:=[]) (l:=(l.take i).map a5V) (l':=(l.take (i+1)).map a5V) (n:=i) (n':=i+1) (m:=((l.take (i+1)).map a5V).length) (dd:=fun i=>([fun x=>AV.st (a5V (true,(x1,x2),(y1,y2),z1,z2))]:List (Nat->AV)).getD i fun _=>.any) (x:=a5V (true,(x1,x2),(y1,y2),z1,z2)) rfl (by rw [a0K l eCk.dflt hlt,hg,List.map_append];rfl) (by rw [List.length_map,List.length_take];omega) rfl rfl fun _ _=>avR
     rw [List.length_map,List.length_take] at e;exact e
  | false=>
    refine awL hΓ [6] rfl ?_;simp only [go_sem,hlI,hg];refine⟨by omega,AW.fork (AW.regionO hΓ [true] ?_)⟩;simp only [go_sem];refine a71 rfl ?_;simp only [go_sem];refine awZ hΓ rfl ?_;simp only [go_sem];refine AW.fork ?_;refine awZ hΓ rfl ?_;simp only [go_sem];refine AW.seqTo (fun x:Nat×Nat=>Sh.st ⟨[(3,.ow 0 u i),(6,.ow 2 x.1 7),(12,sL eCk l),(13,.val (.int .i64 l.length)),(14,.val (.int .i64 i))],[(0,a0G u 9 eS ((l.take i).map a5V)),(2,a0G x.1 9 eS [stW false,Lib.itoa x1,Lib.itoa x2,Lib.itoa y1,Lib.itoa y2,Lib.itoa z1,Lib.itoa z2])],51,3,x.2,[]⟩) ?_ fun⟨u2,nx2⟩=>?_
    ·refine awZ hΓ rfl ?_;simp only [go_sem];refine AW.round (α:={ x:Nat×Nat×Nat // x.1<=3 }) (fun x=>⟨[(3,.ow 0 u i),(6,.ow 2 x.1.2.1 (1+2*x.1.1)),(12,sL eCk l),(13,.val (.int .i64 l.length)),(14,.val (.int .i64 i)),(29,.ag 6 ((eP eSp (eP eSp eSp)).enc ((x1,x2),(y1,y2),z1,z2))),(30,.val (.int .i64 x.1.1))],[(0,a0G u 9 eS ((l.take i).map a5V)),(2,a0G x.1.2.1 9 eS ([stW false,Lib.itoa x1,Lib.itoa x2,Lib.itoa y1,Lib.itoa y2,Lib.itoa z1,Lib.itoa z2].take (1+2*x.1.1)))],51,3,x.1.2.2,[]⟩) (fun x=>3-x.1.1) ⟨(0,nx+1,nx+2),nZL _⟩ ?_ ?_
     ·simp only [go_sem];refine⟨a0h.ag fun j hj=>?_,rlR,a0c.sl rfl fun i hi j hj=>?_⟩
      ·have hc:j=0\/j=1\/j=2\/j=3\/j=4\/j=5:=by omega
       rcases hc with rfl|rfl|rfl|rfl|rfl|rfl<;>exact avR
      ·obtain rfl:j=0:=by omega
       obtain rfl:i=0:=by omega
       exact avR
     ·rintro⟨⟨k,u2,nx2⟩,hk⟩;have hc:k=0\/k=1\/k=2\/k=3:=by dsimp only at hk;omega
      rcases hc with rfl|rfl|rfl|rfl
      ·refine awL hΓ [11] rfl ?_;simp only [go_sem];refine AW.fork ?_;refine awL hΓ [11] rfl ?_;simp only [go_sem];refine AW.fork (AW.block (AW.fork (AW.regionO hΓ [true] ?_)));simp only [go_sem];refine a9L rfl Tryz.underlying230 a99 a47 (by decide) rfl rfl (by decide) (by decide) (by exact (by decide:32<51)) ?_;simp only [go_sem];refine AW.drawZ hΓ mixed 7 [] [] [] (by kernel_rfl) ?_;simp only [go_sem];refine⟨⟨by omega,by omega⟩,⟨by omega,by omega⟩,rfl,?_⟩;refine awN hΓ rfl ?_;simp only [go_sem];refine⟨⟨(1,nx2+1,nx2+1+1),by dsimp only;omega⟩,⟨nLR _,⟨⟨rfl,rfl⟩,rfl⟩,rlR,a0c.sl rfl fun i hi j hj=>?_⟩,by dsimp only;omega⟩;obtain rfl:j=0:=by omega
       have hc:i=0\/i=1\/i=2:=by omega
       rcases hc with rfl|rfl|rfl<;>exact avR
      ·refine awL hΓ [11] rfl ?_;simp only [go_sem];refine AW.fork ?_;refine awL hΓ [11] rfl ?_;simp only [go_sem];refine AW.fork (AW.block (AW.fork (AW.regionO hΓ [true] ?_)));simp only [go_sem];refine a9L rfl Tryz.underlying230 a99 a47 (by decide) rfl rfl (by decide) (by decide) (by exact (by decide:32<51)) ?_;simp only [go_sem];refine AW.drawZ hΓ mixed 7 [] [] [] (by kernel_rfl) ?_;simp only [go_sem];refine⟨⟨by omega,by omega⟩,⟨by omega,by omega⟩,rfl,?_⟩;refine awN hΓ rfl ?_;simp only [go_sem];refine⟨⟨(2,nx2+1,nx2+1+1),by dsimp only;omega⟩,⟨nLR _,⟨⟨rfl,rfl⟩,rfl⟩,rlR,a0c.sl rfl fun i hi j hj=>?_⟩,by dsimp only;omega⟩;obtain rfl:j=0:=by omega
       have hc:i=0\/i=1\/i=2\/i=3\/i=4:=by omega
       rcases hc with rfl|rfl|rfl|rfl|rfl<;>exact avR
      ·refine awL hΓ [11] rfl ?_;simp only [go_sem];refine AW.fork ?_;refine awL hΓ [11] rfl ?_;simp only [go_sem];refine AW.fork (AW.block (AW.fork (AW.regionO hΓ [true] ?_)));simp only [go_sem];refine a9L rfl Tryz.underlying230 a99 a47 (by decide) rfl rfl (by decide) (by decide) (by exact (by decide:32<51)) ?_;simp only [go_sem];refine AW.drawZ hΓ mixed 7 [] [] [] (by kernel_rfl) ?_;simp only [go_sem];refine⟨⟨by omega,by omega⟩,⟨by omega,by omega⟩,rfl,?_⟩;refine awN hΓ rfl ?_;simp only [go_sem];refine⟨⟨(3,nx2+1,nx2+1+1),by dsimp only;omega⟩,⟨nLR _,⟨⟨rfl,rfl⟩,rfl⟩,rlR,a0c.sl rfl fun i hi j hj=>?_⟩,by dsimp only;omega⟩;obtain rfl:j=0:=by omega
       have hc:i=0\/i=1\/i=2\/i=3\/i=4\/i=5\/i=6:=by omega
       rcases hc with rfl|rfl|rfl|rfl|rfl|rfl|rfl<;>exact avR
      ·refine awN hΓ rfl ?_;simp only [go_sem];refine⟨(u2,nx2),a0t ?_⟩;simp only [go_sem];exact⟨rlR,rlR⟩
    ·refine awN hΓ rfl ?_;simp only [go_sem];have hj:=hall _ rfl;rw [show List.range 0++[0]++[1]++[2]++[3]++[4]++[5]++[6]=[0,1,2,3,4,5,6] from rfl];simp only [List.map_cons,List.map_nil,List.getD_cons_zero,List.getD_cons_succ];rw [hj];have hn:=hok.1;refine⟨⟨by decide,by omega⟩,⟨by omega,by omega⟩,⟨by omega,by omega⟩,⟨(i+1,nx2,nx2+1),hlt⟩,⟨nLR _,⟨⟨rfl,rfl⟩,rfl⟩,?_⟩,by dsimp only;omega⟩;dsimp only;have e:=a02 (E:=eS) (v:=nx2) (e:=9) (s:=1) (d:=[]) (l:=(l.take i).map a5V) (l':=(l.take (i+1)).map a5V) (n:=i) (n':=i+1) (m:=((l.take (i+1)).map a5V).length) (dd:=fun i=>([fun x=>AV.st (a5V (false,(x1,x2),(y1,y2),z1,z2))]:List (Nat->AV)).getD i fun _=>.any) (x:=a5V (false,(x1,x2),(y1,y2),z1,z2)) rfl (by rw [a0K l eCk.dflt hlt,hg,List.map_append];rfl) (by rw [List.length_map,List.length_take];omega) rfl rfl fun _ _=>avR
     rw [List.length_map,List.length_take] at e;exact e
 ·obtain rfl:i=l.length:=by omega
  have hlI:((l.length:Int)<(l.length:Nat))=False:=eq_false (by omega);refine awN hΓ rfl ?_;simp only [go_sem,hlI];have e:=c1H (n:=l.length) (List.map a5V l) [] (by rw [List.length_map]);have hj:=a4c hok;have h1:=hok.1;rw [e,List.length_range];exact⟨⟨by omega,by omega⟩,by unfold a7D;rw [if_neg h0]⟩
abbrev d6Z:List UInt8:=[116,101,120,116]
abbrev d5O:List UInt8:=[119,105,100,101]
abbrev c7y:List UInt8:=[99,104,117,110,107,115]
def a5t (verb:List UInt8) (m:Mg):List UInt8:=if verb=d6Z then a2P m.2.1 else if verb=d5O then Lib.itoa m.2.2.1 else if verb=c7y then a7D m.2.2.2 else a1G (printR m.1 m.2.2.1).1 (printR m.1 m.2.2.1).2
def a1a (verb line:List UInt8) (a:Ss):List UInt8:=if (wdL line).length=1 then match a.2.2 with
 | none=>a3P
 | some m=>a5t verb m else a0q
def a8I (xs:List AV) (a:Ss) (r:AV) (b:Ss):Prop:=∃ verb line:List UInt8,xs=[.st verb,sL eS (wdL line).tail]/\line.length<=1000/\(∀ m,a.2.2=some m->a9q m)/\r=.st (a1a verb line a)/\b=a
def b90:a0p:=sSh a8I
theorem c4t:a0f Tryz.prog 61 b90:=by
 refine a0f.mk Tryz.func61 rfl (by decide) Tryz.results61 Tryz.ntmps61 ?_;rintro args hp top nx K ⟨v,v1,v2,v3,v4,xs,a,r,b,rfl,⟨verb,line,rfl,hl,hm,rfl,rfl⟩,rfl,rfl,hK⟩;have hΓ:=gkC b9y (gkC a8t (gkC c9O (gkC b1A (gkC b1y gkN))));refine⟨Nat.le_of_ble_eq_true rfl,AW.late ?_⟩;have hk:=a0A hK rfl;by_cases h2:(wdL line).length=1
 ·have hI:((wdL line).tail.length:Int)=0:=by rw [List.length_tail];omega
  cases hb:b.2.2 with
  | none=>
    have e:a1a verb line b=a3P:=by unfold a1a;rw [if_pos h2,hb]
    rw [e] at hk;refine awN hΓ rfl ?_;simp only [go_sem,hI,b72,hb];refine⟨_,a0e (fun p=>p) (l:=[(6,.st a3P)]) (r:=[(0,.box v 106 10 (shC 1 2 3 4 v1 v2 v3 v4 b)),(1,a0i v1 b.1.1),(2,a0i v2 b.1.2.1),(3,a0i v3 b.1.2.2),(4,mgR v4 b.2.2)]) (sz:=64) (top:=5) (nx:=nx) (df:=[]) ?_,?_⟩
    ·simp only [go_sem];exact⟨rlR,rlR,rlR,rlR,by rw [hb];exact rlR⟩
    ·simp only [go_sem];exact hk v1 v2 v3 nx (.inl rfl) (.inl rfl) (.inl rfl) (nLR _)
  | some m=>
    have hmm:=hm m hb;have e:a1a verb line b=a5t verb m:=by unfold a1a;rw [if_pos h2,hb]
    rw [e] at hk;by_cases g1:verb=[116,101,120,116]
    ·subst g1;have e2:a5t [116,101,120,116] m=a2P m.2.1:=rfl;rw [e2] at hk;have ht:=hmm.txt;refine awN hΓ rfl ?_;simp only [go_sem,hI,b72,hb,mgR];refine⟨by omega,?_⟩;refine⟨_,a0e (fun p=>p) (l:=[(6,.st (a2P m.2.1))]) (r:=[(0,.box v 106 10 (shC 1 2 3 4 v1 v2 v3 v4 b)),(1,a0i v1 b.1.1),(2,a0i v2 b.1.2.1),(3,a0i v3 b.1.2.2),(4,mgR v4 b.2.2)]) (sz:=64) (top:=5) (nx:=nx) (df:=[]) ?_,?_⟩
     ·simp only [go_sem];exact⟨rlR,rlR,rlR,rlR,by rw [hb];exact rlR⟩
     ·simp only [go_sem];exact hk v1 v2 v3 nx (.inl rfl) (.inl rfl) (.inl rfl) (nLR _)
    by_cases g2:verb=[119,105,100,101]
    ·subst g2;have e2:a5t [119,105,100,101] m=Lib.itoa m.2.2.1:=rfl;rw [e2] at hk;have ht:=hmm.w0;have ht1:=hmm.w1;refine awN hΓ rfl ?_;simp only [go_sem,hI,b72,hb,mgR];refine⟨fun h=>absurd h (by decide),fun _=>⟨⟨by omega,by omega⟩,?_⟩⟩;refine⟨_,a0e (fun p=>p) (l:=[(6,.st (Lib.itoa m.2.2.1))]) (r:=[(0,.box v 106 10 (shC 1 2 3 4 v1 v2 v3 v4 b)),(1,a0i v1 b.1.1),(2,a0i v2 b.1.2.1),(3,a0i v3 b.1.2.2),(4,mgR v4 b.2.2)]) (sz:=64) (top:=5) (nx:=nx) (df:=[]) ?_,?_⟩
     ·simp only [go_sem];exact⟨rlR,rlR,rlR,rlR,by rw [hb];exact rlR⟩
     ·simp only [go_sem];exact hk v1 v2 v3 nx (.inl rfl) (.inl rfl) (.inl rfl) (nLR _)
    by_cases g3:verb=[99,104,117,110,107,115]
    ·subst g3;have e2:a5t [99,104,117,110,107,115] m=a7D m.2.2.2:=rfl;rw [e2] at hk;refine awN hΓ rfl ?_;simp only [go_sem,hI,b72,hb,mgR];refine⟨fun h=>absurd h (by decide),fun _=>⟨fun h=>absurd h (by decide),fun _=>⟨hmm.cks,?_⟩⟩⟩;refine⟨_,a0e (fun p=>p) (l:=[(6,.st (a7D m.2.2.2))]) (r:=[(0,.box v 106 10 (shC 1 2 3 4 v1 v2 v3 v4 b)),(1,a0i v1 b.1.1),(2,a0i v2 b.1.2.1),(3,a0i v3 b.1.2.2),(4,mgR v4 b.2.2)]) (sz:=64) (top:=5) (nx:=nx) (df:=[]) ?_,?_⟩
     ·simp only [go_sem];exact⟨rlR,rlR,rlR,rlR,by rw [hb];exact rlR⟩
     ·simp only [go_sem];exact hk v1 v2 v3 nx (.inl rfl) (.inl rfl) (.inl rfl) (nLR _)
    ·refine awL hΓ [200006] rfl ?_;simp only [go_sem,hI,b72,hb,mgR,g1,g2,g3];have e2:a5t verb m=a1G (printR m.1 m.2.2.1).1 (printR m.1 m.2.2.1).2:=by unfold a5t;rw [if_neg g1,if_neg g2,if_neg g3]
     rw [e2] at hk;have hpr:=hmm.printR;have hpl:=hmm.print;have hok:=hmm.ok;refine AW.drawK hΓ mixed 19 [] [] [] [0,4] (by decide +kernel) ?_;simp only [go_sem,b72,hb,mgR];refine⟨⟨⟨hok.1,hok.2.1⟩,fun _=>by omega⟩,⟨by omega,hpr.2⟩,?_⟩;refine⟨_,a0e (fun p=>p) (l:=[(6,.st (a1G (printR m.1 m.2.2.1).1 (printR m.1 m.2.2.1).2))]) (r:=[(0,.box v 106 10 (shC 1 2 3 4 v1 v2 v3 v4 b)),(1,a0i v1 b.1.1),(2,a0i v2 b.1.2.1),(3,a0i v3 b.1.2.2),(4,mgR v4 b.2.2)]) (sz:=64) (top:=5) (nx:=nx) (df:=[]) ?_,?_⟩
     ·simp only [go_sem];exact⟨rlR,rlR,rlR,rlR,by rw [hb];exact rlR⟩
     ·simp only [go_sem];exact hk v1 v2 v3 nx (.inl rfl) (.inl rfl) (.inl rfl) (nLR _)
 ·have hI:(((wdL line).tail.length:Int)=0)=False:=eq_false (by rw [List.length_tail];have:=List.length_pos_iff.2 (a35 line);omega);have e:a1a verb line b=a0q:=by unfold a1a;rw [if_neg h2]
  rw [e] at hk;refine awN hΓ rfl ?_;simp only [go_sem,hI];refine⟨_,a0e (fun p=>p) (l:=[(6,.st a0q)]) (r:=[(0,.box v 106 10 (shC 1 2 3 4 v1 v2 v3 v4 b)),(1,a0i v1 b.1.1),(2,a0i v2 b.1.2.1),(3,a0i v3 b.1.2.2),(4,mgR v4 b.2.2)]) (sz:=64) (top:=5) (nx:=nx) (df:=[]) ?_,?_⟩
  ·simp only [go_sem];exact⟨rlR,rlR,rlR,rlR,rlR⟩
  ·simp only [go_sem];exact hk v1 v2 v3 nx (.inl rfl) (.inl rfl) (.inl rfl) (nLR _)
@[go_sem] def d3y:a0p:=a0U b90
theorem b8K:a0f Tryz.prog 61 d3y:=c4t.frame
end
set_option maxHeartbeats 2000000
section
abbrev Rs:=BS×Nat×Nat×Int×Pt×List Pt
def rdC (x:Rs) (r u:Nat):Nat->AV:=fun j=>if j=0 then .st x.1 else if j=1 then .val (.int .i64 x.2.1) else if j=2 then .val (.int .i64 x.2.2.1) else if j=3 then .val (.int .u8 x.2.2.2.1) else if j<13 then ePt.enc x.2.2.2.2.1 (j-4) else .ow r u x.2.2.2.2.2.length
section
variable (x:Rs) (r u:Nat)
@[go_sem] theorem e0v:rdC x r u 0=.st x.1:=rfl
@[go_sem] theorem e0p:rdC x r u 1=.val (.int .i64 x.2.1):=rfl
@[go_sem] theorem d97:rdC x r u 2=.val (.int .i64 x.2.2.1):=rfl
@[go_sem] theorem d95:rdC x r u 3=.val (.int .u8 x.2.2.2.1):=rfl
@[go_sem] theorem d9W:rdC x r u 13=.ow r u x.2.2.2.2.2.length:=rfl
@[go_sem] theorem e0t:rdC x r u 4=.st x.2.2.2.2.1.1:=rfl
@[go_sem] theorem e0f:rdC x r u 5=.st x.2.2.2.2.1.2.1:=rfl
@[go_sem] theorem e0B:rdC x r u 6=.st x.2.2.2.2.1.2.2.1:=rfl
@[go_sem] theorem e0a:rdC x r u 7=.val (.bool x.2.2.2.2.1.2.2.2.1):=rfl
@[go_sem] theorem e0C:rdC x r u 8=.st x.2.2.2.2.1.2.2.2.2.1:=rfl
@[go_sem] theorem e0y:rdC x r u 9=.st x.2.2.2.2.1.2.2.2.2.2.1:=rfl
@[go_sem] theorem d9M:rdC x r u 10=.st x.2.2.2.2.1.2.2.2.2.2.2.1:=rfl
@[go_sem] theorem d89:rdC x r u 11=.st x.2.2.2.2.1.2.2.2.2.2.2.2.1:=rfl
@[go_sem] theorem d9B:rdC x r u 12=.val (.bool x.2.2.2.2.1.2.2.2.2.2.2.2.2):=rfl
end
theorem a4x {v:Nat} {t:TypeId} {c:Nat->AV} {x:Rs} {r u:Nat} (h0:c 0=rdC x r u 0) (h1:c 1=rdC x r u 1) (h2:c 2=rdC x r u 2) (h3:c 3=rdC x r u 3) (h4:c 4=rdC x r u 4) (h5:c 5=rdC x r u 5) (h6:c 6=rdC x r u 6) (h7:c 7=rdC x r u 7)
  (h8:c 8=rdC x r u 8) (h9:c 9=rdC x r u 9) (h10:c 10=rdC x r u 10) (h11:c 11=rdC x r u 11) (h12:c 12=rdC x r u 12) (h13:c 13=rdC x r u 13):a0c (.box v t 14 c) (.box v t 14 (rdC x r u)):=a0c.box fun j hj=>a0h.of_eq (match j,hj with
 | 0,_=>h0
 | 1,_=>h1
 | 2,_=>h2
 | 3,_=>h3
 | 4,_=>h4
 | 5,_=>h5
 | 6,_=>h6
 | 7,_=>h7
 | 8,_=>h8
 | 9,_=>h9
 | 10,_=>h10
 | 11,_=>h11
 | 12,_=>h12
 | 13,_=>h13)
theorem d0a {u n:Nat} {t:TypeId} {l:List Pt} (h:l.length=n):a0c (.sl u t 9 l.length fun i=>ePt.enc (l.getD i ePt.dflt)) (.sl u t 9 n fun i=>ePt.enc (l.getD i ePt.dflt)):=by
 subst h;exact rlR
theorem d4q (x:Rs) (v r r' u:Nat):a0c (.box v 192 14 (rdC x r u)) (.box v 192 14 (rdC x r' u)):=a0c.box fun j hj=>by
 by_cases h:j<13
 ·refine a0h.of_eq ?_;unfold rdC;simp only [h,if_true]
 ·obtain rfl:j=13:=by omega
  exact a0h.ow
def sRd (R:List AV->Rs->AV->Rs->Prop):a0p:=fun args hp top nx K=>∃ (v u:Nat) (xs:List AV) (a:Rs) (r:AV) (b:Rs),args=.pt 0 v 0::xs/\R xs a r b/\
 hp=rws [(0,.box v 192 14 (rdC a 1 u)),(1,a0G u 179 ePt a.2.2.2.2.2)]/\top=2/\
 ∀ u' nx',(u'=u\/nx<=u')->nx<=nx'->K r (rws [(0,.box v 192 14 (rdC b 1 u')),(1,a0G u' 179 ePt b.2.2.2.2.2)]) 2 nx'
theorem c5G {R:List AV->Rs->AV->Rs->Prop} {xs:List AV} {a b:Rs} {z:AV} {p q v u:Nat} {hp:Nat->Row} {top nx:Nat} {K:AV->(Nat->Row)->Nat->Nat->Prop} (hd:R xs a z b) (hpq:p≠q)
  (hr:a0c (hp p) (.box v 192 14 (rdC a q u))) (hr2:a0c (hp q) (a0G u 179 ePt a.2.2.2.2.2)) (ht:p<top/\q<top)
  (hK:∀ u' nx',(u'=u\/nx<=u')->nx<=nx'->K z (a0y (a0y hp p (.box v 192 14 (rdC b q u'))) q (a0G u' 179 ePt b.2.2.2.2.2)) top nx') :
  a0U (sRd R) (.pt p v 0::xs) hp top nx K:=by
 have e1:(hp p).ver=some v:=hr.vers.symm;have e2:(hp q).ver=some u:=hr2.vers.symm;refine⟨[p,q],.pt 0 v 0::xs,rws [(0,.box v 192 14 (rdC a 1 u)),(1,a0G u 179 ePt a.2.2.2.2.2)],by simp [hpq],by simp;omega,.cons a0h.pt (a3q.same xs),b3i (hr.trans (d4q a v q 1 u)) hr2,fun i hi=>a1b (top:=2) (by simp) i (by simpa using hi),v,u,xs,a,z,b,rfl,hd,rfl,rfl,fun u' nx' h1 h3=>?_⟩;refine⟨_,_,avR,fun i o ho=>?_,fun o ho=>?_,fun o ho w hv=>?_,hK u' nx' h1 h3⟩
 ·match i with
  | 0=>
    simp only [gCZ,oSI] at ho;subst ho;rw [a0d _ _ hpq,a0g];exact d4q b v 1 q u'
  | 1=>
    simp only [gCS,gCZ,oSI] at ho;subst ho;rw [a0g];exact rlR
  | i+2=>simp at ho
 ·simp only [List.mem_cons,List.not_mem_nil,or_false,not_or] at ho;rw [a0d _ _ ho.2,a0d _ _ ho.1]
 ·simp only [List.mem_cons,List.not_mem_nil,or_false] at ho;rcases ho with rfl|rfl
  ·rw [a0d _ _ hpq,a0g] at hv;have:some v=some w:=hv;obtain rfl:=oJI this;exact .inl e1
  ·rw [a0g] at hv;have:some u'=some w:=hv;obtain rfl:=oJI this;rcases h1 with rfl|h1
   ·exact .inl e2
   ·exact .inr h1
attribute [local irreducible] AW a0h a0H a0c
@[go_sem] def b9V:a0j:=a0j.f2 kU kU (fun _ _=>True) (fun a k=>kB.enc (a5b a k))
theorem b6Y:a0b Tryz.prog 183 b9V:=by
 refine a0b.f2 Tryz.func183 rfl (by decide) Tryz.results183 Tryz.ntmps183 (by decide) fun a k _=>?_
 have hΓ:=gkN;by_cases h1:k=60
 ·subst h1;refine awZ hΓ rfl ?_;simp only [go_sem];rfl
 by_cases h2:k=124
 ·subst h2;refine awZ hΓ rfl ?_;simp only [go_sem];rfl
 by_cases h3:k=61
 ·subst h3;refine awZ hΓ rfl ?_;simp only [go_sem];exact⟨fun h=>by rw [decide_eq_false h];rfl,rfl⟩
 ·refine awZ hΓ rfl ?_;simp only [go_sem,h1,h2,h3];simp [a5b,h1,h2,h3]
def c60:a0j:=a0j.f2 kS kS (fun a b=>a.length<=100000000000/\b=[10]) (fun a _=>kS.enc (a4A a))
theorem c9t:a0b Tryz.prog 190 c60:=by
 refine a0b.f2 Tryz.func190 rfl (by decide) Tryz.results190 Tryz.ntmps190 (by decide) fun a b ⟨ha,h⟩=>?_
 have hΓ:=gkC a8T gkN;subst h;unfold a4A;refine awZ hΓ rfl ?_;simp only [go_sem]
 have hp:a0C a=true->0<a.length:=fun h=>by
  cases a with
  | nil=>cases h
  | cons _ _=>simp
 refine⟨ha,fun h=>?_,fun h=>?_⟩
 ·have:=hp h;refine⟨by omega,by omega,?_⟩;rw [if_pos h]
  congr 1
  omega
 ·rw [if_neg (by simp [h])]
@[go_sem] def d4r:a0j:=a0j.f2 kS kS (fun a b=>a.length<=100000000000/\b=[10]) (fun a _=>kS.enc (a4A a))
theorem c87:a0b Tryz.prog 141 d4r:=by
 refine a0b.f2 Tryz.func141 rfl (by decide) Tryz.results141 Tryz.ntmps141 (by decide) fun a b ⟨ha,h⟩=>?_
 have hΓ:=gkC c9t gkN;subst h;refine awZ hΓ rfl ?_;simp only [go_sem,c60];exact ha
def a4S (a:Rs):BS:=(a.1.take a.2.2.1).drop a.2.1
def d0b (a:Rs):Prop:=a.2.1<=a.2.2.1/\a.2.2.1<=a.1.length/\a.1.length<=100000000/\a.2.2.2.2.2.length<1000000000
def a9b (a:Rs) (ps:List Pt):Rs:=(a.1,a.2.1,a.2.2.1,a.2.2.2.1,a.2.2.2.2.1,ps)
def c6s:a0p:=sRd fun xs a r b=>xs=[]/\r=.val (.tuple #[])/\d0b a/\b=a9b a (a.2.2.2.2.2++[a0Q (a4S a)])
theorem d0s:a0f Tryz.prog 137 c6s:=by
 refine a0f.mk Tryz.func137 rfl (by decide) Tryz.results137 Tryz.ntmps137 ?_;rintro args hp top nx K ⟨v,u,xs,a,r,b,rfl,⟨rfl,rfl,⟨g1,g2,g3,g4⟩,rfl⟩,rfl,rfl,hK⟩;have hΓ:=gkN;refine⟨Nat.le_of_ble_eq_true rfl,AW.late ?_⟩;refine awL hΓ [200000] rfl ?_;simp only [go_sem];refine AW.drawT hΓ mixed 20 [] (by decide +kernel) ?_;simp only [go_sem];refine⟨⟨by omega,by omega,by omega⟩,by omega,_,a0e (fun p=>p) (l:=[]) (r:=[(0,.box v 192 14 (rdC (a9b a (a.2.2.2.2.2++[a0Q (a4S a)])) 1 nx)),(1,a0G nx 179 ePt (a.2.2.2.2.2++[a0Q (a4S a)]))]) (sz:=25) (top:=2) (nx:=nx+1) (df:=[]) ?_,?_⟩
 ·simp only [go_sem];refine⟨a4x rfl rfl rfl rfl rfl rfl rfl rfl rfl rfl rfl rfl rfl ?_,?_⟩
  ·exact congrArg (AV.ow 1 nx) (by simp [a9b])
  ·refine a02 (E:=ePt) rfl rfl rfl rfl (by simp) fun j hj=>?_
   match j,hj with
   | 0,_=>exact avR
   | 1,_=>exact avR
   | 2,_=>exact avR
   | 3,_=>exact avR
   | 4,_=>exact avR
   | 5,_=>exact avR
   | 6,_=>exact avR
   | 7,_=>exact avR
   | 8,_=>exact avR
 ·exact⟨rfl,hK nx (nx+1) (.inr (nLR _)) (by omega)⟩
@[go_sem] def d5U:a0p:=a0U c6s
theorem c6Q:a0f Tryz.prog 137 d5U:=d0s.frame
def c6j:a0p:=sRd fun xs a r b=>∃ (m:Mk) (sd:BS),xs=[(kA eMk).enc m,.st sd]/\r=.val (.tuple #[])/\d0b a/\b67 m.1/\b=(a.1,a.2.1,a.2.2.1,a.2.2.2.1,a90 a.2.2.2.1 m sd a.2.2.2.2.1,a5L a.2.2.2.1 m (a4S a) sd a.2.2.2.2.1 a.2.2.2.2.2)
theorem c9U:a0f Tryz.prog 184 c6j:=by
 refine a0f.mk Tryz.func184 rfl (by decide) Tryz.results184 Tryz.ntmps184 ?_;rintro args hp top nx K ⟨v,u,xs,a,r,b,rfl,⟨m,sd,rfl,rfl,⟨g1,g2,g3,g4⟩,hsg,rfl⟩,rfl,rfl,hK⟩;have hΓ:=gkM c6Q gkN;refine⟨Nat.le_of_ble_eq_true rfl,AW.late ?_⟩;obtain⟨s,fr,at_,af,c,ps⟩:=a;obtain⟨k,f,lab⟩:=m;simp only at g1 g2 g3 g4 hsg hK;refine awL hΓ [0,200014,200017] rfl ?_;simp only [go_sem];refine AW.cut ⟨[(0,.pt 0 v 0),(2,.st sd),(4,.pt 2 nx 0)],[(0,.box v 192 14 (rdC (s,fr,at_,af,c,ps) 1 u)),(1,a0G u 179 ePt ps),(2,.box nx 188 3 (eMk.enc (k,f,lab)))],83,3,nx+1,[]⟩ ?_ ?_
 ·simp only [go_sem];exact⟨rlR,rlR,rlR⟩
 refine AW.still 4 2 nx 188 3 _ rfl rfl (fun j hj=>match j,hj with|0,_=>rfl|1,_=>rfl|2,_=>rfl) ?_;refine AW.seqTo (fun _:Unit=>Sh.st ⟨[(0,.pt 0 v 0),(2,.st sd),(4,.ps 3 (eMk.enc (k,f,lab)))],[(0,.box v 192 14 (rdC (s,fr,at_,af,b16 af sd c,ps) 1 u)),(1,a0G u 179 ePt ps)],83,3,nx+1,[]⟩) ?_ fun _=>?_
 ·by_cases h1:af=60
  ·subst h1;refine awL hΓ [200014,200017] rfl ?_;simp only [go_sem];refine⟨(),a0e (fun p=>p) ?_⟩;simp only [go_sem];exact⟨a4x rfl rfl rfl rfl rfl rfl rfl rfl rfl rfl rfl rfl rfl rfl,rlR⟩
  by_cases h2:af=124
  ·subst h2;refine awL hΓ [200014,200017] rfl ?_;simp only [go_sem];refine⟨(),a0e (fun p=>p) ?_⟩;simp only [go_sem];exact⟨a4x rfl rfl rfl rfl rfl rfl rfl rfl rfl rfl rfl rfl rfl rfl,rlR⟩
  by_cases h3:af=61
  ·subst h3;refine awL hΓ [200014,200017] rfl ?_;simp only [go_sem];refine⟨(),a0e (fun p=>p) ?_⟩;simp only [go_sem];exact⟨a4x rfl rfl rfl rfl rfl rfl rfl rfl rfl rfl rfl rfl rfl rfl,rlR⟩
  ·refine awL hΓ [200014,200017] rfl ?_;simp only [go_sem,h1,h2,h3];refine⟨(),a0e (fun p=>p) ?_⟩
   have e:b16 af sd c=c:=by
    unfold b16;rw [if_neg h1,if_neg h2,if_neg h3]
   simp only [go_sem,e];exact⟨rlR,rlR⟩
 have hpc:a90 af (k,f,lab) sd c=if k=60 then (lab,[],[],true,[],[],[],[],false) else if k=124 then c1g (b16 af sd c) lab else if k=62 then b2Z (b16 af sd c) lab else b16 af sd c:=rfl
 have hpl:a5L af (k,f,lab) (a4S (s,fr,at_,af,c,ps)) sd c ps=if k=60 then ps++[a0Q ((s.take at_).drop fr)] else if k=62 then ps++[a90 af (k,f,lab) sd c] else ps:=rfl
 rw [hpl,hpc] at hK;generalize b16 af sd c=d at *
 rcases hsg with rfl|rfl|rfl|rfl
 ·rw [if_pos rfl,if_pos rfl] at hK;refine awL hΓ [200014,200017] rfl ?_;simp only [go_sem];refine c5G (a:=(s,fr,at_,af,d,ps)) ⟨rfl,rfl,⟨g1,g2,g3,g4⟩,rfl⟩ (by decide)  rlR   rlR  (by decide) fun u1 n1 q1 h1=>?_
  simp only [go_sem];refine⟨_,a0e (fun p=>p) (l:=[]) (r:=[(0,.box v 192 14 (rdC (s,fr,at_,af,(lab,[],[],true,[],[],[],[],false),ps++[a0Q ((s.take at_).drop fr)]) 1 u1)),(1,a0G u1 179 ePt (ps++[a0Q ((s.take at_).drop fr)]))]) (sz:=83) (top:=2) (nx:=n1) (df:=[]) ?_,?_⟩
  ·simp only [go_sem];exact⟨a4x rfl rfl rfl rfl rfl rfl rfl rfl rfl rfl rfl rfl rfl (congrArg (AV.ow 1 u1) (by simp [a9b])),d0a (by simp [a9b])⟩
  ·exact⟨rfl,hK u1 n1 (by omega) (by omega)⟩
 ·rw [if_neg (by decide),if_pos rfl,if_neg (by decide),if_neg (by decide)] at hK;refine awL hΓ [200014,200017] rfl ?_;simp only [go_sem];refine AW.drawZ hΓ mixed 7 [8,9,10,11] [2,3,8,9,10,11] [] (by decide +kernel) ?_;simp only [go_sem];refine⟨_,a0e (fun p=>p) (l:=[]) (r:=[(0,.box v 192 14 (rdC (s,fr,at_,af,c1g d lab,ps) 1 u)),(1,a0G u 179 ePt (ps))]) (sz:=83) (top:=2) (nx:=nx+1) (df:=[]) ?_,?_⟩
  ·simp only [go_sem];exact⟨a4x rfl rfl rfl rfl rfl rfl rfl rfl rfl rfl rfl rfl rfl rfl,rlR⟩
  ·exact⟨rfl,hK u (nx+1) (.inl rfl) (by omega)⟩
 ·rw [if_neg (by decide),if_neg (by decide),if_neg (by decide),if_neg (by decide),if_neg (by decide)] at hK;refine awL hΓ [200014,200017] rfl ?_;simp only [go_sem];refine⟨_,a0e (fun p=>p) (l:=[]) (r:=[(0,.box v 192 14 (rdC (s,fr,at_,af,d,ps) 1 u)),(1,a0G u 179 ePt (ps))]) (sz:=83) (top:=2) (nx:=nx+1) (df:=[]) ?_,?_⟩
  ·simp only [go_sem];exact⟨rlR,rlR⟩
  ·exact⟨rfl,hK u (nx+1) (.inl rfl) (by omega)⟩
 ·rw [if_neg (by decide),if_neg (by decide),if_pos rfl,if_neg (by decide),if_pos rfl] at hK;refine awL hΓ [200014,200017] rfl ?_;simp only [go_sem];refine AW.drawT hΓ mixed 10 [] (by decide +kernel) ?_;simp only [go_sem];refine⟨by omega,_,a0e (fun p=>p) (l:=[]) (r:=[(0,.box v 192 14 (rdC (s,fr,at_,af,b2Z d lab,ps++[b2Z d lab]) 1 (nx+1))),(1,a0G (nx+1) 179 ePt (ps++[b2Z d lab]))]) (sz:=83) (top:=2) (nx:=nx+2) (df:=[]) ?_,?_⟩
  ·simp only [go_sem];refine⟨a4x rfl rfl rfl rfl rfl rfl rfl rfl rfl rfl rfl rfl rfl (congrArg (AV.ow 1 (nx+1)) (by simp)),?_⟩;refine a02 (E:=ePt) rfl rfl rfl rfl (by simp) fun j hj=>?_
   match j,hj with
   | 0,_=>exact avR
   | 1,_=>exact avR
   | 2,_=>exact avR
   | 3,_=>exact avR
   | 4,_=>exact avR
   | 5,_=>exact avR
   | 6,_=>exact avR
   | 7,_=>exact avR
   | 8,_=>exact avR
  ·exact⟨rfl,hK (nx+1) (nx+2) (.inr (by omega)) (by omega)⟩
@[go_sem] def d5I:a0p:=a0U c6j
theorem d3f:a0f Tryz.prog 184 d5I:=c9U.frame
def c71 (a:Rs) (m:Mk) (line:BS):Rs:=if (a01 a.2.2.2.1 (a4S a) a.2.2.2.2.1 a.2.2.2.2.2 m).1=0 then
    (a.1,a.2.2.1+line.length,a.2.2.1,(a01 a.2.2.2.1 (a4S a) a.2.2.2.2.1 a.2.2.2.2.2 m).2.1,(a01 a.2.2.2.1 (a4S a) a.2.2.2.2.1 a.2.2.2.2.2 m).2.2.1,(a01 a.2.2.2.1 (a4S a) a.2.2.2.2.1 a.2.2.2.2.2 m).2.2.2) else a
def c58:a0p:=sRd fun xs a r b=>∃ (m:Mk) (line:BS),xs=[(kA eMk).enc m,.st line]/\r=.val (.int .i64 (a01 a.2.2.2.1 (a4S a) a.2.2.2.2.1 a.2.2.2.2.2 m).1)/\d0b a/\b67 m.1/\line.length<=100000000/\b=c71 a m line
theorem c9V:a0f Tryz.prog 136 c58:=by
 refine a0f.mk Tryz.func136 rfl (by decide) Tryz.results136 Tryz.ntmps136 ?_;rintro args hp top nx K ⟨v,u,xs,a,r,b,rfl,⟨m,line,rfl,rfl,⟨g1,g2,g3,g4⟩,hsg,hll,rfl⟩,rfl,rfl,hK⟩;have hΓ:=gkC b6Y (gkC c87 (gkC a7X (gkM d3f gkN)));refine⟨Nat.le_of_ble_eq_true rfl,AW.late ?_⟩;obtain⟨s,fr,at_,af,c,ps⟩:=a;obtain⟨k,f,lab⟩:=m;simp only at g1 g2 g3 g4 hsg hK;generalize hnow:a4S (s,fr,at_,af,c,ps)=now at *
 have hnow':(s.take at_).drop fr=now:=hnow
 have hnl:now.length<=100000000:=by
  rw [<-hnow',List.length_drop,List.length_take];omega
 unfold c71 at hK;simp only [hnow] at hK;refine awL hΓ [0,200012] rfl ?_;simp only [go_sem];refine AW.cut ⟨[(0,.pt 0 v 0),(2,.st line),(4,.pt 2 nx 0)],[(0,.box v 192 14 (rdC (s,fr,at_,af,c,ps) 1 u)),(1,a0G u 179 ePt ps),(2,.box nx 188 3 (eMk.enc (k,f,lab)))],76,3,nx+1,[]⟩ ?_ ?_
 ·simp only [go_sem];exact⟨rlR,rlR,rlR⟩
 refine AW.still 4 2 nx 188 3 _ rfl rfl (fun j hj=>match j,hj with|0,_=>rfl|1,_=>rfl|2,_=>rfl) ?_
 have fin:∀ e:Int,(a01 af now c ps (k,f,lab)).1=e->e≠0->K (.val (.int .i64 e)) (rws [(0,.box v 192 14 (rdC (s,fr,at_,af,c,ps) 1 u)),(1,a0G u 179 ePt ps)]) 2 (nx+1):=fun e he h0=>by
  have:=hK u (nx+1) (.inl rfl) (by omega);rw [he,if_neg h0] at this;exact this
 by_cases hn:k=60/\af≠0
 ·have ht:(a01 af now c ps (k,f,lab)).1=7:=by
   unfold a01;rw [if_pos hn]
  refine awL hΓ [200012] rfl ?_;simp only [go_sem,hn.1,hn.2];refine⟨_,a0e (fun p=>p) (l:=[(6,.val (.int .i64 7))]) (r:=[(0,.box v 192 14 (rdC (s,fr,at_,af,c,ps) 1 u)),(1,a0G u 179 ePt ps)]) (sz:=76) (top:=2) (nx:=nx+1) (df:=[]) ?_,?_⟩
  ·simp only [go_sem];exact⟨rlR,rlR⟩
  ·exact⟨rfl,trivial,fin 7 ht (by decide)⟩
 have hn1:(decide (k=60)&&decide (¬af=0))=false:=by
  by_cases h1:k=60
  ·rw [decide_eq_false (p:=¬af=0) fun h=>hn ⟨h1,h⟩,Bool.and_false]
  ·rw [decide_eq_false h1,Bool.false_and]
 by_cases hf:a5b af k=false
 ·have ht:(a01 af now c ps (k,f,lab)).1=8:=by
   unfold a01;rw [if_neg hn,if_pos hf]
  refine awL hΓ [200012] rfl ?_;simp only [go_sem,hn1,hf];refine⟨_,a0e (fun p=>p) (l:=[(6,.val (.int .i64 8))]) (r:=[(0,.box v 192 14 (rdC (s,fr,at_,af,c,ps) 1 u)),(1,a0G u 179 ePt ps)]) (sz:=76) (top:=2) (nx:=nx+1) (df:=[]) ?_,?_⟩
  ·simp only [go_sem];exact⟨rlR,rlR⟩
  ·exact⟨rfl,trivial,fin 8 ht (by decide)⟩
 have hf':a5b af k=true:=by simpa using hf
 have htk:a01 af now c ps (k,f,lab)=(match b1t (k,f,lab) now with
  | none=>(9,af,c,ps)
  | some sd=>(0,if k=62 then 0 else k,a90 af (k,f,lab) sd c,a5L af (k,f,lab) now sd c ps)):=by
  unfold a01;rw [if_neg hn,if_neg hf];rfl
 refine awL hΓ [5,200012] rfl ?_;simp only [go_sem,hn1,hf'];refine⟨⟨by omega,by omega,by omega⟩,?_⟩;refine AW.cut ⟨[(0,.pt 0 v 0),(2,.st line),(4,.ps 3 (eMk.enc (k,f,lab))),(7,.st now)],[(0,.box v 192 14 (rdC (s,fr,at_,af,c,ps) 1 u)),(1,a0G u 179 ePt ps)],76,3,nx+1,[]⟩ ?_ ?_
 ·rw [hnow'];simp only [go_sem];exact⟨rlR,rlR⟩
 by_cases hb:f=true/\(a4A now=[]\/a0C (a4A now)=true)
 ·obtain⟨rfl,hb⟩:=hb
  have ht:(a01 af now c ps (k,true,lab)).1=9:=by
   rw [htk];unfold b1t;rw [if_pos rfl,if_pos hb]
  have hb2:(decide (a4A now=[])||a0C (a4A now))=true:=by simpa using hb
  have hcl:=b3Z now;refine AW.fork ?_;refine awL hΓ [200012] rfl ?_;simp only [go_sem,hb2];refine⟨by omega,fun _=>by omega,fun h=>by rw [decide_eq_false h];rfl,?_⟩;refine⟨_,a0e (fun p=>p) (l:=[(6,.val (.int .i64 9))]) (r:=[(0,.box v 192 14 (rdC (s,fr,at_,af,c,ps) 1 u)),(1,a0G u 179 ePt ps)]) (sz:=76) (top:=2) (nx:=nx+1) (df:=[]) ?_,?_⟩
  ·simp only [go_sem];exact⟨rlR,rlR⟩
  ·exact⟨rfl,trivial,fin 9 ht (by decide)⟩
 obtain⟨sd,hsd⟩:∃ sd,b1t (k,f,lab) now=some sd:=by
  unfold b1t;cases f with
  | false=>exact⟨now,rfl⟩
  | true=>
    refine⟨a4A now,?_⟩;rw [if_pos rfl,if_neg fun h=>hb ⟨rfl,h⟩]
 rw [hsd] at htk;dsimp only at htk;rw [htk] at hK;refine AW.seqTo (fun _:Unit=>Sh.st ⟨[(0,.pt 0 v 0),(2,.st line),(4,.ps 3 (eMk.enc (k,f,lab))),(7,.st sd)],[(0,.box v 192 14 (rdC (s,fr,at_,af,c,ps) 1 u)),(1,a0G u 179 ePt ps)],76,3,nx+1,[]⟩) ?_ fun _=>?_
 ·have hcl:=b3Z now;cases f with
  | false=>
    have e:sd=now:=by
     unfold b1t at hsd;rw [if_neg (by simp)] at hsd;exact (oJI hsd).symm
    subst e;refine awL hΓ [200012] rfl ?_;simp only [go_sem];refine⟨(),a0e (fun p=>p) ?_⟩;simp only [go_sem];exact⟨rlR,rlR⟩
  | true=>
    have hb3:¬(a4A now=[]\/a0C (a4A now)=true):=fun h=>hb ⟨rfl,h⟩
    have hb2:(decide (a4A now=[])||a0C (a4A now))=false:=by
     rw [decide_eq_false fun h=>hb3 (.inl h),Bool.false_or];cases h:a0C (a4A now) with
     | false=>rfl
     | true=>exact absurd (.inr h) hb3
    have e:sd=a4A now:=by
     unfold b1t at hsd;rw [if_pos rfl,if_neg hb3] at hsd;exact (oJI hsd).symm
    subst e;refine awL hΓ [200012] rfl ?_;simp only [go_sem,hb2];refine⟨by omega,fun _=>by omega,fun h=>by rw [decide_eq_false h];rfl,(),a0e (fun p=>p) ?_⟩;simp only [go_sem];exact⟨rlR,rlR⟩
 refine awL hΓ [200012] rfl ?_;simp only [go_sem];refine c5G (a:=(s,fr,at_,af,c,ps)) ⟨(k,f,lab),sd,rfl,rfl,⟨g1,g2,g3,g4⟩,hsg,rfl⟩ (by decide)  rlR   rlR  (by decide) fun u1 n1 q1 h1=>?_
 rw [hnow];dsimp only;generalize a90 af (k,f,lab) sd c=c1 at *
 generalize a5L af (k,f,lab) now sd c ps=ps1 at *
 simp only [go_sem];refine AW.drawZ hΓ mixed 13 [] [9,10] [] (by decide +kernel) ?_;simp only [go_sem];refine⟨by omega,?_⟩;have hK':∀ u' nx',(u'=u\/nx<=u')->nx<=nx'->K (.val (.int .i64 0)) (rws [(0,.box v 192 14 (rdC (s,at_+line.length,at_,if k=62 then 0 else k,c1,ps1) 1 u')),(1,a0G u' 179 ePt ps1)]) 2 nx':=hK;refine AW.cut ⟨[(0,.pt 0 v 0),(4,.ps 3 (eMk.enc (k,f,lab)))],[(0,.box v 192 14 (rdC (s,at_+line.length,at_,k,c1,ps1) 1 u1)),(1,a0G u1 179 ePt ps1)],76,3,n1,[]⟩ ?_ ?_
 ·simp only [go_sem];exact⟨a4x rfl rfl rfl rfl rfl rfl rfl rfl rfl rfl rfl rfl rfl rfl,rlR⟩
 by_cases hk:k=62
 ·subst hk;refine awZ hΓ rfl ?_;simp only [go_sem];refine AW.fork ?_;refine awZ hΓ rfl ?_;simp only [go_sem];refine awZ hΓ rfl ?_;simp only [go_sem];refine⟨_,a0e (fun p=>p) (l:=[(6,.val (.int .i64 0))]) (r:=[(0,.box v 192 14 (rdC (s,at_+line.length,at_,0,c1,ps1) 1 u1)),(1,a0G u1 179 ePt ps1)]) (sz:=76) (top:=2) (nx:=n1) (df:=[]) ?_,?_⟩
  ·simp only [go_sem];exact⟨a4x rfl rfl rfl rfl rfl rfl rfl rfl rfl rfl rfl rfl rfl rfl,rlR⟩
  ·exact⟨rfl,trivial,hK' u1 n1 (by omega) (by omega)⟩
 ·rw [if_neg hk] at hK';refine awZ hΓ rfl ?_;simp only [go_sem,hk];refine AW.fork ?_;refine awZ hΓ rfl ?_;simp only [go_sem,hk];refine awZ hΓ rfl ?_;simp only [go_sem];refine⟨_,a0e (fun p=>p) (l:=[(6,.val (.int .i64 0))]) (r:=[(0,.box v 192 14 (rdC (s,at_+line.length,at_,k,c1,ps1) 1 u1)),(1,a0G u1 179 ePt ps1)]) (sz:=76) (top:=2) (nx:=n1) (df:=[]) ?_,?_⟩
  ·simp only [go_sem];exact⟨rlR,rlR⟩
  ·exact⟨rfl,trivial,hK' u1 n1 (by omega) (by omega)⟩
@[go_sem] def d7o:a0p:=a0U c58
theorem d19:a0f Tryz.prog 136 d7o:=c9V.frame
end
section
attribute [local irreducible] AW a0h a0H a0c
def c6C (s:BS) (w:Int) (i fr at_:Nat) (af:Int) (c:Pt) (ps:List Pt):Prop:=
 i<=(a0a s).length/\((a0a s).take i).flatten=s.take at_/\at_<=s.length/\fr<=at_/\txP c=[]/\a24 ps<=fr/\ps.length<=2*i/\
 a7x w (a0a s) 0 [] ePt.dflt [] 0=a7x w ((a0a s).drop i) af (a4S (s,fr,at_,af,c,ps)) c ps i
theorem b5M (a:Int) (m:Mk) (sd:BS) {c:Pt} (h:txP c=[]):txP (a90 a m sd c)=[]:=by
 have hp:txP (b16 a sd c)=[]:=by
  unfold b16;split
  ·exact h
  ·split
   ·exact h
   ·split
    ·exact h
    ·exact h
 unfold a90;split
 ·rfl
 ·split
  ·exact hp
  ·split
   ·exact hp
   ·exact hp
theorem b1d {s:BS} {i at_:Nat} (h:((a0a s).take i).flatten=s.take at_) (ha:at_<=s.length) (hi:i<(a0a s).length) :
  at_+((a0a s).getD i []).length<=s.length/\s.take (at_+((a0a s).getD i []).length)=s.take at_++(a0a s).getD i []/\((a0a s).take (i+1)).flatten=s.take (at_+((a0a s).getD i []).length):=by
 have e1:((a0a s).take (i+1)).flatten=s.take at_++(a0a s).getD i []:=by
  rw [a1U _ [] hi,List.flatten_append,h];simp
 have e2:s=((a0a s).take (i+1)).flatten++((a0a s).drop (i+1)).flatten:=by
  rw [<-List.flatten_append,List.take_append_drop,a0L]
 rw [e1] at e2;generalize (a0a s).getD i []=l at *
 generalize ((a0a s).drop (i+1)).flatten=r at *
 have hl:(s.take at_).length=at_:=by rw [List.length_take];omega
 have e3:=congrArg List.length e2;simp only [lAp,hl] at e3
 have e4:s.take (at_+l.length)=s.take at_++l:=by
  have h5:(s.take at_++l).length=at_+l.length:=by rw [lAp,hl]
  conv=>lhs;rw [e2]
  rw [<-h5,List.take_left]
 exact⟨by omega,e4,by rw [e1,e4]⟩
theorem c3s {s:BS} {fr at_ n:Nat} {l:BS} (h:s.take n=s.take at_++l) (hf:fr<=at_) (ha:at_<=s.length):(s.take n).drop fr=(s.take at_).drop fr++l:=by
 rw [h,List.drop_append_of_le_length (by rw [List.length_take];omega)]
theorem c5O {s:BS} {w:Int} {i fr at_:Nat} {af:Int} {c:Pt} {ps:List Pt} (h:c6C s w i fr at_ af c ps) (hi:i<(a0a s).length) (hr:(a0J ((a0a s).getD i []) w).2.1=false) (he:(a0J ((a0a s).getD i []) w).2.2=0) :
  c6C s w (i+1) fr (at_+((a0a s).getD i []).length) af c ps:=by
 obtain⟨h1,h2,h3,h4,h5,h6,h7,h8⟩:=h;obtain⟨t1,t2,t3⟩:=b1d h2 h3 hi;refine⟨hi,t3,t1,by omega,h5,h6,by omega,?_⟩;rw [h8,List.drop_eq_getElem_cons hi,<-a0F _ [] hi,a7x,if_neg (by rw [hr];simp),if_neg (by rw [he];simp)]
 congr 1
 exact (c3s t2 h4 h3).symm
theorem c29 {s:BS} {w:Int} {i fr at_:Nat} {af:Int} {c:Pt} {ps:List Pt} (h:c6C s w i fr at_ af c ps) (hi:i<(a0a s).length) (hr:(a0J ((a0a s).getD i []) w).2.1=true)
  (he:(a01 af (a4S (s,fr,at_,af,c,ps)) c ps (a0J ((a0a s).getD i []) w).1).1=0) :
  c6C s w (i+1) (at_+((a0a s).getD i []).length) (at_+((a0a s).getD i []).length) (a01 af (a4S (s,fr,at_,af,c,ps)) c ps (a0J ((a0a s).getD i []) w).1).2.1
   (a01 af (a4S (s,fr,at_,af,c,ps)) c ps (a0J ((a0a s).getD i []) w).1).2.2.1 (a01 af (a4S (s,fr,at_,af,c,ps)) c ps (a0J ((a0a s).getD i []) w).1).2.2.2:=by
 obtain⟨h1,h2,h3,h4,h5,h6,h7,h8⟩:=h;obtain⟨t1,t2,t3⟩:=b1d h2 h3 hi
 have hnl:(a4S (s,fr,at_,af,c,ps)).length=at_-fr:=by
  unfold a4S;simp only [List.length_drop,List.length_take];omega
 have hk:txP (a01 af (a4S (s,fr,at_,af,c,ps)) c ps (a0J ((a0a s).getD i []) w).1).2.2.1=[]/\a24 (a01 af (a4S (s,fr,at_,af,c,ps)) c ps (a0J ((a0a s).getD i []) w).1).2.2.2<=at_/\(a01 af (a4S (s,fr,at_,af,c,ps)) c ps (a0J ((a0a s).getD i []) w).1).2.2.2.length<=ps.length+1:=by
  generalize (a0J ((a0a s).getD i []) w).1=m;generalize a4S (s,fr,at_,af,c,ps)=now at *
  have h0:txP c=[]/\a24 ps<=at_/\ps.length<=ps.length+1:=⟨h5,by omega,by omega⟩;unfold a01;split
  ·exact h0
  ·split
   ·exact h0
   ·split
    ·exact h0
    ·rename_i sd _;refine⟨b5M _ _ _ h5,?_,?_⟩
     ·dsimp only;unfold a5L;split
      ·rw [a14,a10];show a24 ps+now.length<=at_;omega
      ·split
       ·rw [a14,a10,b5M _ _ _ h5];simp;omega
       ·omega
     ·dsimp only;unfold a5L;split
      ·simp
      ·split
       ·simp
       ·omega
 refine⟨hi,t3,t1,nLR _,hk.1,by omega,by omega,?_⟩;rw [h8,List.drop_eq_getElem_cons hi,<-a0F _ [] hi,a7x,if_pos hr,if_neg (by rw [he];simp)]
 congr 1
 unfold a4S;simp only;exact (List.drop_of_length_le (by rw [List.length_take];omega)).symm
theorem c2F {s:BS} {w:Int} {i fr at_:Nat} {af:Int} {c:Pt} {ps:List Pt} (h:c6C s w i fr at_ af c ps) (hi:i<(a0a s).length) (hr:(a0J ((a0a s).getD i []) w).2.1=false) (he:(a0J ((a0a s).getD i []) w).2.2≠0) :
  a7x w (a0a s) 0 [] ePt.dflt [] 0=([],(a0J ((a0a s).getD i []) w).2.2,(i:Int)+1):=by
 rw [h.2.2.2.2.2.2.2,List.drop_eq_getElem_cons hi,<-a0F _ [] hi,a7x,if_neg (by rw [hr];simp),if_pos he]
theorem c4E {s:BS} {w:Int} {i fr at_:Nat} {af:Int} {c:Pt} {ps:List Pt} (h:c6C s w i fr at_ af c ps) (hi:i<(a0a s).length) (hr:(a0J ((a0a s).getD i []) w).2.1=true)
  (he:(a01 af (a4S (s,fr,at_,af,c,ps)) c ps (a0J ((a0a s).getD i []) w).1).1≠0) :
  a7x w (a0a s) 0 [] ePt.dflt [] 0=([],(a01 af (a4S (s,fr,at_,af,c,ps)) c ps (a0J ((a0a s).getD i []) w).1).1,(i:Int)+1):=by
 rw [h.2.2.2.2.2.2.2,List.drop_eq_getElem_cons hi,<-a0F _ [] hi,a7x,if_pos hr,if_pos he]
theorem c92 (w:Int):a0J [] w=(mk0,false,if a4i w=false then 4 else 0):=by
 unfold a0J;by_cases h:a4i w=false
 ·rw [if_pos h,if_pos h]
 ·rw [if_neg h,if_neg h,if_pos];have h2:=(a5h.1 (by simpa using h)).1;show ((0:Nat):Int)<w;omega
@[go_sem] def d3S:a0j:=a0j.f2 kS kI (fun s _=>s.length<=10000000) (fun s w=>tu3 (sL ePt (a0V s w).1) (kI.enc (a0V s w).2.1) (kI.enc (a0V s w).2.2))
theorem c2l:a0b Tryz.prog 79 d3S:=by
 refine a0b.f2 Tryz.func79 rfl (by decide) Tryz.results79 Tryz.ntmps79 (by decide) fun s w hs=>?_
 have hΓ:=gkC c8O (gkC a8Y (gkM d19 (gkM c6Q (gkC c7V gkN))));have hem:=c92 w;unfold a0V;by_cases hw:a4i w=false
 ·rw [if_pos hw] at hem ⊢;refine awZ hΓ rfl ?_;simp only [go_sem,hem];exact a2K ePt
 rw [if_neg hw] at hem ⊢;have hw':a4i w=true:=by simpa using hw
 refine awL hΓ [4] rfl ?_;simp only [go_sem,hem];refine AW.cut ⟨[(0,.st s),(1,.val (.int .i64 w)),(10,.pt 1 1 0)],[(1,.box 1 192 14 fun j=>if j=13 then .em else rdC (s,0,0,0,ePt.dflt,[]) 2 2 j)],70,2,2,[]⟩ ?_ ?_
 ·simp only [go_sem];refine a0c.box fun j hj=>a0h.of_eq ?_
  match j,hj with
  | 0,_=>rfl
  | 1,_=>rfl
  | 2,_=>rfl
  | 3,_=>rfl
  | 4,_=>rfl
  | 5,_=>rfl
  | 6,_=>rfl
  | 7,_=>rfl
  | 8,_=>rfl
  | 9,_=>rfl
  | 10,_=>rfl
  | 11,_=>rfl
  | 12,_=>rfl
  | 13,_=>rfl
 refine AW.adoptB (q:=1) 13 179 9 (fun i=>ePt.enc (([]:List Pt).getD i ePt.dflt)) rfl rfl ?_;refine AW.cut ⟨[(0,.st s),(1,.val (.int .i64 w)),(10,.pt 1 1 0)],[(1,.box 1 192 14 (rdC (s,0,0,0,ePt.dflt,[]) 2 2)),(2,a0G 2 179 ePt [])],70,3,3,[]⟩ ?_ ?_
 ·simp only [go_sem];exact⟨a4x rfl rfl rfl rfl rfl rfl rfl rfl rfl rfl rfl rfl rfl rfl,rlR⟩
 refine awL hΓ [18] rfl ?_;simp only [go_sem];have hsp:=b0b (s:=s) (by omega);have hsl:=a0l s;have hI0:c6C s w 0 0 0 0 ePt.dflt []:=⟨nZL _,rfl,nZL _,nLR _,rfl,nZL _,nZL _,rfl⟩;generalize hT:a7x w (a0a s) 0 [] ePt.dflt [] 0=T at *
 refine⟨by omega,?_⟩
 refine AW.round (α:={ x:Nat×Nat×Nat×Int×Pt×List Pt×Nat×Nat // c6C s w x.1 x.2.1 x.2.2.1 x.2.2.2.1 x.2.2.2.2.1 x.2.2.2.2.2.1 })
  (fun x=>⟨[(1,.val (.int .i64 w)),(10,.pt 1 1 0),(11,sL eS (a0a s)),(30,sL eS (a0a s)),(31,.val (.int .i64 (a0a s).length)),(32,.val (.int .i64 x.1.1))],
   [(1,.box 1 192 14 (rdC (s,x.1.2.1,x.1.2.2.1,x.1.2.2.2.1,x.1.2.2.2.2.1,x.1.2.2.2.2.2.1) 2 x.1.2.2.2.2.2.2.1)),(2,a0G x.1.2.2.2.2.2.2.1 179 ePt x.1.2.2.2.2.2.1)],70,3,x.1.2.2.2.2.2.2.2,[]⟩) (fun x=>(a0a s).length-x.1.1) ⟨(0,0,0,0,ePt.dflt,[],2,3),hI0⟩ ?_ ?_
 ·simp only [go_sem];exact⟨rlR,rlR⟩
 ·rintro⟨⟨i,fr,at_,af,c,ps,u,nx⟩,hI⟩;simp only at hI;refine awL hΓ [9,99999] rfl ?_;simp only [go_sem];refine⟨fun hlt=>?_,fun hge=>?_⟩
  ·have hi:i<(a0a s).length:=by omega
   have hll:((a0a s).getD i []).length<=10000000:=by
    rw [a0F _ _ hi];have:=b2Y (List.getElem_mem hi);omega
   have t1:=c5O hI hi;have t2:=c29 hI hi;have t3:=c2F hI hi;have t4:=c4E hI hi;rw [hT] at t3 t4;generalize hle:(a0a s).getD i []=l at *
   have hpl:=b1d hI.2.1 hI.2.2.1 hi;rw [hle] at hpl;have hI':=hI;obtain⟨_,_,i3,i4,i5,i6,i7,_⟩:=hI';refine⟨by omega,by omega,?_⟩
   refine AW.cut ⟨[(1,.val (.int .i64 w)),(10,.pt 1 1 0),(11,sL eS (a0a s)),(12,.val (.int .i64 i)),(13,.st l),(14,.pt 3 nx 0),(15,.val (.bool (a0J l w).2.1)),(16,.val (.int .i64 (a0J l w).2.2)),(30,sL eS (a0a s)),(31,.val (.int .i64 (a0a s).length)),(32,.val (.int .i64 i))],
    [(1,.box 1 192 14 (rdC (s,fr,at_,af,c,ps) 2 u)),(2,a0G u 179 ePt ps),(3,.box nx 188 3 (eMk.enc (a0J l w).1))],70,4,nx+1,[]⟩ ?_ ?_
   ·simp only [go_sem];exact⟨rlR,rlR,a0c.box fun j hj=>a0h.of_eq (a8D (nZL _) (by omega))⟩
   refine AW.still 14 3 nx 188 3 _ rfl rfl (fun j hj=>match j,hj with|0,_=>rfl|1,_=>rfl|2,_=>rfl) ?_;cases hm:(a0J l w).2.1 with
   | false=>
     refine AW.fork ?_;refine awN hΓ rfl ?_;simp only [go_sem];refine awN hΓ rfl ?_;simp only [go_sem];refine⟨fun h=>?_,fun h=>⟨by omega,by omega,⟨(i+1,fr,at_+l.length,af,c,ps,u,nx+1),t1 hm (Decidable.not_not.1 h)⟩,⟨nLR _,by dsimp only;omega,a4x rfl rfl rfl rfl rfl rfl rfl rfl rfl rfl rfl rfl rfl rfl,rlR⟩,by dsimp only;omega⟩⟩;rw [t3 hm h];exact⟨by omega,a2K ePt,rfl,rfl⟩
   | true=>
     have hsg:b67 (a0J l w).1.1:=by
      have he:a0J l w=((a0J l w).1,true,(a0J l w).2.2):=by rw [<-hm]
      exact c2M (b9G he).2.1
     refine AW.fork ?_;refine awN hΓ rfl ?_;simp only [go_sem];refine c5G (a:=(s,fr,at_,af,c,ps)) ⟨(a0J l w).1,l,rfl,rfl,⟨i4,i3,by dsimp only;omega,by dsimp only;omega⟩,hsg,by omega,rfl⟩ (by decide)  rlR   rlR  (by decide) fun u1 n1 q1 h1=>?_
     have t2:=t2 hm;have t4:=t4 hm;dsimp only at t2 t4 ⊢;have htb:(a01 af (a4S (s,fr,at_,af,c,ps)) c ps (a0J l w).1).1=0->c71 (s,fr,at_,af,c,ps) (a0J l w).1 l=(s,at_+l.length,at_,(a01 af (a4S (s,fr,at_,af,c,ps)) c ps (a0J l w).1).2.1,(a01 af (a4S (s,fr,at_,af,c,ps)) c ps (a0J l w).1).2.2.1,(a01 af (a4S (s,fr,at_,af,c,ps)) c ps (a0J l w).1).2.2.2):=fun h=>if_pos h
     generalize a01 af (a4S (s,fr,at_,af,c,ps)) c ps (a0J l w).1=t at *
     simp only [go_sem];by_cases he:t.1=0
     ·rw [htb he];have he2:(decide ¬t.1=0)=false:=by simp [he]
      refine awN hΓ rfl ?_;simp only [go_sem,he];exact⟨by omega,by omega,⟨(i+1,at_+l.length,at_+l.length,t.2.1,t.2.2.1,t.2.2.2,u1,n1),t2 he⟩,⟨nLR _,by dsimp only;omega,a4x rfl rfl rfl rfl rfl rfl rfl rfl rfl rfl rfl rfl rfl rfl,rlR⟩,by dsimp only;omega⟩
     ·have he2:(decide ¬t.1=0)=true:=by simp [he]
      refine awN hΓ rfl ?_;simp only [go_sem,he];rw [t4 he];exact⟨by omega,a2K ePt,rfl,rfl⟩
  ·obtain⟨i1,_,i3,i4,i5,i6,i7,i8⟩:=hI;obtain rfl:i=(a0a s).length:=by omega
   rw [List.drop_length,a7x,hT] at i8;refine⟨fun h=>?_,fun h=>?_⟩
   ·rw [if_pos h] at i8;rw [i8];exact⟨by omega,a2K ePt,rfl,rfl⟩
   ·rw [if_neg h] at i8
    have hnl:(a4S (s,fr,at_,af,c,ps)).length=at_-fr:=by
     unfold a4S;simp only [List.length_drop,List.length_take];omega
    refine c5G (a:=(s,fr,at_,af,c,ps)) ⟨rfl,rfl,⟨i4,i3,by dsimp only;omega,by dsimp only;omega⟩,rfl⟩ (by decide)  rlR   rlR  (by decide) fun u1 n1 q1 h1=>?_
    have hsm:a24 (ps++[a0Q (a4S (s,fr,at_,af,c,ps))])<=at_:=by
     rw [a14,a10];show a24 ps+(a4S (s,fr,at_,af,c,ps)).length<=at_;omega
    dsimp only;generalize a4S (s,fr,at_,af,c,ps)=now at *
    simp only [go_sem];refine AW.freeze 2 u1 179 9 (ps++[a0Q now]).length (fun i=>ePt.enc ((ps++[a0Q now]).getD i ePt.dflt)) rfl (fun i _ j hj=>match j,hj with|0,_=>rfl|1,_=>rfl|2,_=>rfl|3,_=>rfl|4,_=>rfl|5,_=>rfl|6,_=>rfl|7,_=>rfl|8,_=>rfl) ?_;refine AW.cut ⟨[(10,.pt 1 1 0)],[(1,.box 1 192 14 (fun j=>if j=13 then sL ePt (ps++[a0Q now]) else .any))],70,2,n1,[]⟩ ?_ ?_
    ·simp only [go_sem];refine a0c.box fun j hj=>?_
     by_cases e:j=13
     ·subst e;rw [if_pos rfl];have:fz 2 u1 (ps.length+1) 9 (fun i=>ePt.enc ((ps++[a0Q now]).getD i ePt.dflt)) (rdC (a9b (s,fr,at_,af,c,ps) (ps++[a0Q now])) 2 u1 13)=sL ePt (ps++[a0Q now]):=if_pos ⟨rfl,rfl,by simp [a9b]⟩;rw [this];exact avR
     ·rw [if_neg e];exact a0h.any _
    refine awZ hΓ rfl ?_;simp only [go_sem];rw [i8];exact⟨⟨by omega,by omega⟩,avR,rfl,rfl⟩
end
set_option maxHeartbeats 8000000
section
attribute [local irreducible] AW a0h a0H a0c a3o
theorem c3A (t:List UInt8) (i:Nat):b3n (a1y t i 0)=t.getD i 0:=by
 show UInt8.ofNat _=_;simp
theorem a2I (t:List UInt8):(List.range t.length).map (fun i=>b3n (a1y t i 0))=t:=by
 have:=b59 t 0;simpa only [c3A] using this
theorem b6v (e:Int):(a7t e).length<=9:=by
 unfold a7t;rcases Nat.lt_or_ge e.toNat wdE.length with h|h
 ·rw [a0F _ _ h];have:∀ w∈wdE,w.length<=9:=by decide
  exact this _ (List.getElem_mem h)
 ·rw [List.getD,List.getElem?_eq_none h];exact nZL _
theorem a4f (t:List UInt8) (n:Nat):(∀ i,i<n->∃ b:UInt8,a1y t i 0=.val (.int .u8 b.toNat))=True:=eq_true fun i _=>⟨_,rfl⟩
noncomputable def a04 (line:List UInt8) (a:Ss):List UInt8×Ss:=if (wdL line).length=2/\(a3o ((wdL line).getD 1 [])).isSome=true then (if (a0V a.1.1 (a1J ((wdL line).getD 1 []))).2.1=0 then (Lib.itoa (a0k (a0V a.1.1 (a1J ((wdL line).getD 1 []))).1:Nat),(a.1,a.2.1,some ((a0V a.1.1 (a1J ((wdL line).getD 1 []))).1,a.1.1,a1J ((wdL line).getD 1 []),[]))) else (a7t (a0V a.1.1 (a1J ((wdL line).getD 1 []))).2.1++[32]++Lib.itoa (a0V a.1.1 (a1J ((wdL line).getD 1 []))).2.2,a))
 else (a0q,a)
def b40 (xs:List AV) (a:Ss) (r:AV) (b:Ss):Prop:=∃ line:List UInt8,xs=[sL eS (wdL line).tail]/\line.length<=1000/\(c6q a/\a.1.1.length<=1000000)/\r=.st (a04 line a).1/\b=(a04 line a).2
def b5N:a0p:=sSh b40
theorem c0N:a0f Tryz.prog 65 b5N:=by
 refine a0f.mk Tryz.func65 rfl (by decide) Tryz.results65 Tryz.ntmps65 ?_;rintro args hp top nx K ⟨v,v1,v2,v3,v4,xs,a,r,b,rfl,⟨line,rfl,hl,⟨hs,hs0⟩,rfl,rfl⟩,rfl,rfl,hK⟩;have hΓ:=gkC a6b (gkC c2l (gkC a7N (gkC a79 (gkC a8t gkN))));refine⟨Nat.le_of_ble_eq_true rfl,AW.late ?_⟩;have hg:=b1m line 1;by_cases h2:(wdL line).length=2
 ·have hI:((wdL line).tail.length:Int)=1:=by rw [List.length_tail];omega
  cases hn:a3o ((wdL line).getD 1 []) with
  | none=>
    have e:a04 line a=(a0q,a):=by unfold a04;rw [if_neg fun h=>by rw [hn] at h;exact absurd h.2 (by decide)]
    rw [e] at hK;have hk:=a0A hK rfl;refine awN hΓ rfl ?_;simp only [go_sem,hI,a0R,hn,nuO];refine⟨by omega,?_⟩;refine⟨_,a0e (fun p=>p) (l:=[(4,.st a0q)]) (r:=[(0,.box v 106 10 (shC 1 2 3 4 v1 v2 v3 v4 a)),(1,a0i v1 a.1.1),(2,a0i v2 a.1.2.1),(3,a0i v3 a.1.2.2),(4,mgR v4 a.2.2)]) (sz:=55) (top:=5) (nx:=nx) (df:=[]) ?_,?_⟩
    ·simp only [go_sem];exact⟨rlR,rlR,rlR,rlR,rlR⟩
    ·simp only [go_sem];exact hk v1 v2 v3 nx (.inl rfl) (.inl rfl) (.inl rfl) (nLR _)
  | some n=>
    have hin:=b1T a.1.1 n;have hsl:=a0l a.1.1
    have gN:0<=(n:Int)/\(n:Int)<=1000000:=by
     have ht:=a2D ((wdL line).getD 1 []);rw [hn] at ht;rcases ht with⟨k,h1,h4,h3⟩|⟨h4,h3⟩
     ·have:=oJI h3;omega
     ·cases h3
    by_cases hx:(a0V a.1.1 n).2.1=0
    ·have e:a04 line a=(Lib.itoa (a0k (a0V a.1.1 n).1:Nat),(a.1,a.2.1,some ((a0V a.1.1 n).1,a.1.1,(n:Int),[]))):=by
      unfold a04;rw [if_pos ⟨h2,by rw [hn];rfl⟩,a1m hn,if_pos hx]
     rw [e] at hK;have hcl:=a27 (a0V a.1.1 n).1;refine awN hΓ rfl ?_;simp only [go_sem,hI,a0R,hn,nuO,a0i,a2I,a4f,hx];refine⟨by omega,by omega,by omega,⟨by omega,by omega⟩,?_⟩;refine⟨_,a0e (fun p=>if p=4 then 5 else p) (l:=[(4,.st (Lib.itoa (a0k (a0V a.1.1 n).1:Nat)))]) (r:=[(0,.box v 106 10 (shC 1 2 3 4 v1 v2 v3 nx (a.1,a.2.1,some ((a0V a.1.1 n).1,a.1.1,(n:Int),[])))),(1,a0i v1 a.1.1),(2,a0i v2 a.1.2.1),(3,a0i v3 a.1.2.2),(4,mgR nx (some ((a0V a.1.1 n).1,a.1.1,(n:Int),[])))]) (sz:=55) (top:=5) (nx:=nx+1) (df:=[]) ?_,?_⟩
     ·simp only [go_sem];refine⟨a0c.box fun j hj=>?_,rlR,rlR,rlR,a0c.box fun j hj=>?_⟩
      ·have hc:j=0\/j=1\/j=2\/j=3\/j=4\/j=5\/j=6\/j=7\/j=8\/j=9:=by omega
       rcases hc with rfl|rfl|rfl|rfl|rfl|rfl|rfl|rfl|rfl|rfl<;>first|exact avR|exact a0h.pt
      ·match j,hj with
       | 0,_=>exact avR
       | 1,_=>exact avR
       | 2,_=>exact avR
       | 3,_=>exact a2K _
     ·simp only [go_sem];exact hK v1 v2 v3 nx (nx+1) (.inl rfl) (.inl rfl) (.inl rfl) (.inr (nLR _)) (Nat.le_succ _)
    ·have e:a04 line a=(a7t (a0V a.1.1 n).2.1++[32]++Lib.itoa (a0V a.1.1 n).2.2,a):=by
      unfold a04;rw [if_pos ⟨h2,by rw [hn];rfl⟩,a1m hn,if_neg hx]
     rw [e] at hK;have hk:=a0A hK rfl;have hel:=b6v (a0V a.1.1 n).2.1;have hil:=a3j (n:=(a0V a.1.1 n).2.2) (by omega) (by omega);refine awN hΓ rfl ?_;simp only [go_sem,hI,a0R,hn,nuO,a0i,a2I,a4f,hx];refine⟨by omega,by omega,hin.1,by omega,⟨by omega,by omega⟩,by omega,?_⟩;refine⟨_,a0e (fun p=>p) (l:=[(4,.st (a7t (a0V a.1.1 n).2.1++[32]++Lib.itoa (a0V a.1.1 n).2.2))]) (r:=[(0,.box v 106 10 (shC 1 2 3 4 v1 v2 v3 v4 a)),(1,a0i v1 a.1.1),(2,a0i v2 a.1.2.1),(3,a0i v3 a.1.2.2),(4,mgR v4 a.2.2)]) (sz:=55) (top:=5) (nx:=nx) (df:=[]) ?_,?_⟩
     ·simp only [go_sem];exact⟨rlR,rlR,rlR,rlR,rlR⟩
     ·simp only [go_sem];exact hk v1 v2 v3 nx (.inl rfl) (.inl rfl) (.inl rfl) (nLR _)
 ·have hI:(((wdL line).tail.length:Int)=1)=False:=eq_false (by rw [List.length_tail];have:=List.length_pos_iff.2 (a35 line);omega);have e:a04 line a=(a0q,a):=by unfold a04;rw [if_neg fun h=>h2 h.1]
  rw [e] at hK;have hk:=a0A hK rfl;refine awN hΓ rfl ?_;simp only [go_sem,hI];refine⟨_,a0e (fun p=>p) (l:=[(4,.st a0q)]) (r:=[(0,.box v 106 10 (shC 1 2 3 4 v1 v2 v3 v4 a)),(1,a0i v1 a.1.1),(2,a0i v2 a.1.2.1),(3,a0i v3 a.1.2.2),(4,mgR v4 a.2.2)]) (sz:=55) (top:=5) (nx:=nx) (df:=[]) ?_,?_⟩
  ·simp only [go_sem];exact⟨rlR,rlR,rlR,rlR,rlR⟩
  ·simp only [go_sem];exact hk v1 v2 v3 nx (.inl rfl) (.inl rfl) (.inl rfl) (nLR _)
@[go_sem] noncomputable def c2C:a0p:=a0U b5N
theorem b2z:a0f Tryz.prog 65 c2C:=c0N.frame
def c2S (a:Ss):Rt:=a7s a.1.1 a.1.2.1 a.1.2.2 a.2.1
noncomputable def a05 (line:List UInt8) (a:Ss):List UInt8×Ss:=if (wdL line).length=1 then (if a5E a.2.1=0 then (Lib.itoa (c2S a).2.2.2.2.2.2,(a.1,a.2.1,some (mgT (c2S a)))) else (a7t (a5E a.2.1),a)) else (a0q,a)
def d2b (a:Ss):Prop:=okM a.1.1 a.1.2.1 a.1.2.2/\lbN a.2.1.1<=3000
noncomputable def b6z (xs:List AV) (a:Ss) (r:AV) (b:Ss):Prop:=∃ line:List UInt8,xs=[sL eS (wdL line).tail]/\line.length<=1000/\d2b a/\(0<=(c2S a).2.2.2.2.2.2/\(c2S a).2.2.2.2.2.2<=1000000)/\r=.st (a05 line a).1/\b=(a05 line a).2
noncomputable def b6m:a0p:=sSh b6z
theorem c61 (o:Op):0<=a5E o/\a5E o<14:=by
 unfold a5E
 repeat' split
 all_goals exact⟨by omega,by omega⟩
theorem c0J:a0f Tryz.prog 60 b6m:=by
 refine a0f.mk Tryz.func60 rfl (by decide) Tryz.results60 Tryz.ntmps60 ?_;rintro args hp top nx K ⟨v,v1,v2,v3,v4,xs,a,r,b,rfl,⟨line,rfl,hl,hs,hcn,rfl,rfl⟩,rfl,rfl,hK⟩;have hΓ:=gkC c0G (gkC a7N (gkC a8t gkN));obtain⟨⟨ta,tb,tc⟩,⟨⟨l1,l2,l3⟩,sty,wid,fv⟩,om⟩:=a;refine⟨Nat.le_of_ble_eq_true rfl,AW.late ?_⟩;by_cases h2:(wdL line).length=1
 ·have hI:((wdL line).tail.length:Int)=0:=by rw [List.length_tail];omega
  obtain⟨s1,s2⟩:=hs;dsimp only at s1 s2 hcn;have hwi:=c61 ((l1,l2,l3),sty,wid,fv);unfold c2S at hcn;dsimp only at hcn;by_cases hx:a5E ((l1,l2,l3),sty,wid,fv)=0
  ·have e:a05 line ((ta,tb,tc),((l1,l2,l3),sty,wid,fv),om)=(Lib.itoa (a7s ta tb tc ((l1,l2,l3),sty,wid,fv)).2.2.2.2.2.2,((ta,tb,tc),((l1,l2,l3),sty,wid,fv),some (mgT (a7s ta tb tc ((l1,l2,l3),sty,wid,fv))))):=by
    unfold a05;rw [if_pos h2,if_pos hx];rfl
   rw [e] at hK;generalize hR:a7s ta tb tc ((l1,l2,l3),sty,wid,fv)=R at *
   obtain⟨d,p1,p2,k,t,w,n⟩:=R;refine awL hΓ [200003] rfl ?_;simp only [go_sem,hI];refine AW.drawK hΓ mixed 27 [28] [25,28] [] [0,1,2,3] (by decide +kernel) ?_;simp only [go_sem,a0i,a2I,a4f,hR,hx];refine⟨⟨s1,s2⟩,⟨hcn.1,Int.le_trans hcn.2 (by decide)⟩,?_⟩;refine⟨_,a0e (fun p=>if p=4 then 6 else p) (l:=[(4,.st (Lib.itoa n))]) (r:=[(0,.box v 106 10 (shC 1 2 3 4 v1 v2 v3 (nx+1) ((ta,tb,tc),((l1,l2,l3),sty,wid,fv),some (d,t,w,k)))),(1,a0i v1 ta),(2,a0i v2 tb),(3,a0i v3 tc),(4,mgR (nx+1) (some (d,t,w,k)))]) (sz:=56) (top:=5) (nx:=nx+1+1) (df:=[]) ?_,?_⟩
   ·simp only [go_sem];refine⟨a0c.box fun j hj=>?_,rlR,rlR,rlR,a0c.box fun j hj=>?_⟩
    ·have hc:j=0\/j=1\/j=2\/j=3\/j=4\/j=5\/j=6\/j=7\/j=8\/j=9:=by omega
     rcases hc with rfl|rfl|rfl|rfl|rfl|rfl|rfl|rfl|rfl|rfl<;>first|exact avR|exact a0h.pt
    ·match j,hj with
     | 0,_=>exact avR
     | 1,_=>exact avR
     | 2,_=>exact avR
     | 3,_=>exact avR
   ·simp only [go_sem];exact hK v1 v2 v3 (nx+1) (nx+1+1) (.inl rfl) (.inl rfl) (.inl rfl) (.inr (Nat.le_succ _)) (by omega)
  ·have e:a05 line ((ta,tb,tc),((l1,l2,l3),sty,wid,fv),om)=(a7t (a5E ((l1,l2,l3),sty,wid,fv)),((ta,tb,tc),((l1,l2,l3),sty,wid,fv),om)):=by
    unfold a05;rw [if_pos h2,if_neg hx]
   rw [e] at hK;have hk:=a0A hK rfl;generalize hR:a7s ta tb tc ((l1,l2,l3),sty,wid,fv)=R at *
   obtain⟨d,p1,p2,k,t,w,n⟩:=R;refine awL hΓ [200003] rfl ?_;simp only [go_sem,hI];refine AW.drawK hΓ mixed 27 [28] [25,28] [] [0,1,2,3] (by decide +kernel) ?_;simp only [go_sem,a0i,a2I,a4f,hR,hx];refine⟨⟨s1,s2⟩,hwi,?_⟩;refine⟨_,a0e (fun p=>p) (l:=[(4,.st (a7t (a5E ((l1,l2,l3),sty,wid,fv))))]) (r:=[(0,.box v 106 10 (shC 1 2 3 4 v1 v2 v3 v4 ((ta,tb,tc),((l1,l2,l3),sty,wid,fv),om))),(1,a0i v1 ta),(2,a0i v2 tb),(3,a0i v3 tc),(4,mgR v4 om)]) (sz:=56) (top:=5) (nx:=nx+1) (df:=[]) ?_,?_⟩
   ·simp only [go_sem];exact⟨rlR,rlR,rlR,rlR,rlR⟩
   ·simp only [go_sem];exact hk v1 v2 v3 (nx+1) (.inl rfl) (.inl rfl) (.inl rfl) (Nat.le_succ _)
 ·have hI:(((wdL line).tail.length:Int)=0)=False:=eq_false (by rw [List.length_tail];have:=List.length_pos_iff.2 (a35 line);omega);have e:a05 line ((ta,tb,tc),((l1,l2,l3),sty,wid,fv),om)=(a0q,((ta,tb,tc),((l1,l2,l3),sty,wid,fv),om)):=by unfold a05;rw [if_neg h2]
  rw [e] at hK;have hk:=a0A hK rfl;refine awL hΓ [200003] rfl ?_;simp only [go_sem,hI];refine⟨_,a0e (fun p=>p) (l:=[(4,.st a0q)]) (r:=[(0,.box v 106 10 (shC 1 2 3 4 v1 v2 v3 v4 ((ta,tb,tc),((l1,l2,l3),sty,wid,fv),om))),(1,a0i v1 ta),(2,a0i v2 tb),(3,a0i v3 tc),(4,mgR v4 om)]) (sz:=56) (top:=5) (nx:=nx) (df:=[]) ?_,?_⟩
  ·simp only [go_sem];exact⟨rlR,rlR,rlR,rlR,rlR⟩
  ·simp only [go_sem];exact hk v1 v2 v3 nx (.inl rfl) (.inl rfl) (.inl rfl) (nLR _)
@[go_sem] noncomputable def c9M:a0p:=a0U b6m
theorem b4Q:a0f Tryz.prog 60 c9M:=c0J.frame
end
section
attribute [local irreducible] AW a0h a0H a0c a3o
abbrev Rsh:=(BS×BS×BS)×Op×Bool
def rsC (x:Rsh):Nat->AV:=fun j=>if j=0 then .st x.1.1 else if j=1 then .st x.1.2.1 else if j=2 then .st x.1.2.2 else if j=3 then .val (.int .i64 x.2.1.2.1) else if j=4 then .val (.int .i64 x.2.1.2.2.1) else if j=5 then .val (.int .i64 x.2.1.2.2.2)
 else if j=6 then .st x.2.1.1.1 else if j=7 then .st x.2.1.1.2.1 else if j=8 then .st x.2.1.1.2.2 else if j=9 then .val (.bool false) else if j=10 then .st [] else if j=11 then .st [] else if j=12 then .st [] else if j=13 then .st [] else if j=14 then .val (.bool false) else .val (.bool x.2.2)
section
variable (x:Rsh)
@[go_sem] theorem e0A:rsC x 0=.st x.1.1:=rfl
@[go_sem] theorem e0r:rsC x 1=.st x.1.2.1:=rfl
@[go_sem] theorem e0E:rsC x 2=.st x.1.2.2:=rfl
@[go_sem] theorem d96:rsC x 3=.val (.int .i64 x.2.1.2.1):=rfl
@[go_sem] theorem e0b:rsC x 4=.val (.int .i64 x.2.1.2.2.1):=rfl
@[go_sem] theorem e0K:rsC x 5=.val (.int .i64 x.2.1.2.2.2):=rfl
@[go_sem] theorem e0u:rsC x 6=.st x.2.1.1.1:=rfl
@[go_sem] theorem d98:rsC x 7=.st x.2.1.1.2.1:=rfl
@[go_sem] theorem e0o:rsC x 8=.st x.2.1.1.2.2:=rfl
@[go_sem] theorem e0h:rsC x 9=.val (.bool false):=rfl
@[go_sem] theorem d9P:rsC x 10=.st []:=rfl
@[go_sem] theorem d9q:rsC x 11=.st []:=rfl
@[go_sem] theorem d9s:rsC x 12=.st []:=rfl
@[go_sem] theorem d93:rsC x 13=.st []:=rfl
@[go_sem] theorem d9w:rsC x 14=.val (.bool false):=rfl
@[go_sem] theorem d9C:rsC x 15=.val (.bool x.2.2):=rfl
end
def rtx (x:Rsh) (k:Int):BS:=if k=0 then x.1.1 else if k=1 then x.1.2.1 else x.1.2.2
def rtS (x:Rsh) (k:Int) (t:BS):Rsh:=if k=0 then ((t,x.1.2.1,x.1.2.2),x.2) else if k=1 then ((x.1.1,t,x.1.2.2),x.2) else ((x.1.1,x.1.2.1,t),x.2)
noncomputable def rfN (line:BS):Int:=if (wdL line).length=2 then a1J ((wdL line).getD 1 []) else -1
noncomputable def a1l (line:BS):Bool:=decide (line=[116,101,120,116])||(decide (line=[119,105,100,101])||(decide (line=[99,104,117,110,107,115])||(decide (line=[115,104,111,119]) ||
 (decide ((wdL line).length=2/\(wdL line).getD 0 []=[114,101,115,111,108,118,101]/\0<(a0B ((wdL line).getD 1 [])).1)||decide ((wdL line).length=3/\(wdL line).getD 0 []=[112,105,99,107]/\0<=a1J ((wdL line).getD 1 [])/\0<(a0B ((wdL line).getD 2 [])).1)))))
noncomputable def rf6 (line:BS) (x:Rsh):BS×Bool×Rsh:=if a1l line=true then (if x.2.2=true then ([],false,x) else (a3P,true,x)) else (a0q,true,x)
noncomputable def rf5 (line:BS) (x:Rsh):BS×Bool×Rsh:=if (0<=rfN line/\(wdL line).getD 0 []=[112,97,114,115,101])\/((wdL line).length=3/\(wdL line).getD 0 []=[100,105,102,102]/\0<=a0M ((wdL line).getD 1 [])/\0<=a1J ((wdL line).getD 2 [])/\a1J ((wdL line).getD 2 [])<=100) then ([],false,x) else rf6 line x
noncomputable def rf4 (line:BS) (x:Rsh):BS×Bool×Rsh:=if line=[109,101,114,103,101] then (if a5E x.2.1=0 then ([],false,(x.1,x.2.1,true)) else (a7t (a5E x.2.1),true,x)) else rf5 line x
noncomputable def rf3 (line:BS) (x:Rsh):BS×Bool×Rsh:=if 0<=rfN line/\(wdL line).getD 0 []=[115,116,121,108,101] then (okT,true,(x.1,(x.2.1.1,rfN line,x.2.1.2.2),x.2.2))
 else if 0<=rfN line/\(wdL line).getD 0 []=[119,105,100,116,104] then (okT,true,(x.1,(x.2.1.1,x.2.1.2.1,rfN line,x.2.1.2.2.2),x.2.2))
 else if 0<=rfN line/\(wdL line).getD 0 []=[102,97,118,111,117,114] then (okT,true,(x.1,(x.2.1.1,x.2.1.2.1,x.2.1.2.2.1,rfN line),x.2.2)) else rf4 line x
noncomputable def rf2 (line:BS) (x:Rsh):BS×Bool×Rsh:=if (wdL line).length=4/\(wdL line).getD 0 []=[108,97,98,101,108,115] then (okT,true,(x.1,((a6V ((wdL line).getD 1 []),a6V ((wdL line).getD 2 []),a6V ((wdL line).getD 3 [])),x.2.1.2),x.2.2)) else rf3 line x
def b3l (verb t:BS):Option BS:=if verb=a2g then some [] else if a0C t=true then some (t.take (t.length-1)) else none
noncomputable def rf1 (line:BS) (x:Rsh):BS×Bool×Rsh:=if (wdL line).length=2/\((wdL line).getD 0 []=[98,97,114,101]\/(wdL line).getD 0 []=a2g)/\0<=a0M ((wdL line).getD 1 []) then match b3l ((wdL line).getD 0 []) (rtx x (a0M ((wdL line).getD 1 []))) with
 | some t=>(okT,true,rtS x (a0M ((wdL line).getD 1 [])) t)
 | none=>(a0q,true,x) else rf2 line x
noncomputable def rfP (line:BS) (x:Rsh):BS×Bool×Rsh:=if 3<=(wdL line).length/\(wdL line).getD 0 []=[97,100,100]/\0<=a0M ((wdL line).getD 1 []) then (okT,true,rtS x (a0M ((wdL line).getD 1 [])) (rtx x (a0M ((wdL line).getD 1 []))++a4B 2 line++[10])) else rf1 line x
def d8N (x:Rsh):Prop:=x.1.1.length<=100000000/\x.1.2.1.length<=100000000/\x.1.2.2.length<=100000000
noncomputable def c8p:a0p:=fun args hp top nx K=>∃ (v:Nat) (line:BS) (x:Rsh),args=[.pt 0 v 0,.st line]/\hp=rws [(0,.box v 110 16 (rsC x))]/\top=1/\(line.length<=1000/\d8N x/\lbN x.2.1.1<=3000)/\
 ∀ nx',nx<=nx'->K (tu2 (.st (rfP line x).1) (kB.enc (rfP line x).2.1)) (rws [(0,.box v 110 16 (rsC (rfP line x).2.2))]) 1 nx'
theorem d2n:a0f Tryz.prog 21 c8p:=by
 refine a0f.mk Tryz.func21 rfl (by decide) Tryz.results21 Tryz.ntmps21 ?_;rintro args hp top nx K ⟨v,line,x,rfl,rfl,rfl,⟨hl,⟨hx1,hx2,hx3⟩,hlb⟩,hK⟩;have hΓ:=gkC a92 (gkC a65 (gkC c4l (gkC b8e (gkC b4t (gkC b2M (gkC c3V (gkC a64 (gkC a9S gkN))))))));refine⟨Nat.le_of_ble_eq_true rfl,AW.late ?_⟩;have hw0:=List.length_pos_iff.2 (a35 line);have hbl:=a5l line 2;generalize hv:(wdL line).getD 0 []=verb at *
 generalize hv1:(wdL line).getD 1 []=w1 at *
 generalize hv2:(wdL line).getD 2 []=w2 at *
 generalize hv3:(wdL line).getD 3 []=w3 at *
 refine awL hΓ [1] rfl ?_;simp only [go_sem];refine⟨by omega,?_⟩;refine AW.seqTo (fun _:{ u:Unit // ¬(3<=(wdL line).length/\verb=[97,100,100]/\0<=a0M w1) }=>Sh.st ⟨[(0,.pt 0 v 0),(1,.st line),(6,sL eS (wdL line))],[(0,.box v 110 16 (rsC x))],302,1,nx,[]⟩) ?_ ?_
 ·by_cases c1:3<=(wdL line).length
  ·have i1:(3<=((wdL line).length:Int))=True:=eq_true (by omega);by_cases c2:verb=[97,100,100]
   ·have i2:=eq_true c2;rcases b0u w1 with⟨f1,f2⟩|⟨f1,f2⟩|⟨f1,f2⟩|⟨f1,f2⟩
    ·refine awN hΓ rfl ?_;simp only [go_sem,hv,hv1,hv2,hv3,i1,i2,f1,a2A]
     repeat (refine⟨by omega,?_⟩)
     refine⟨⟨(),fun h=>by rw [f1] at h;exact absurd h.2.2 (by decide)⟩,a0t ?_⟩;simp only [go_sem];exact rlR
    ·have e:rfP line x=(okT,true,((x.1.1++a4B 2 line++[10],x.1.2.1,x.1.2.2),x.2)):=by unfold rfP;rw [hv,hv1,f1,if_pos ⟨c1,c2,by decide⟩];rfl
     refine awL hΓ [200004] rfl ?_;simp only [go_sem,hv,hv1,hv2,hv3,i1,i2,f1]
     repeat (refine⟨by omega,?_⟩)
     refine AW.drawZ hΓ mixed 15 [] [] [] (by kernel_rfl) ?_;simp only [go_sem]
     repeat (refine⟨by omega,?_⟩)
     rw [e] at hK;refine⟨_,a0e (fun p=>p) (l:=[(4,.st (okT)),(5,.val (.bool true))]) (r:=[(0,.box v 110 16 (rsC (((x.1.1++a4B 2 line++[10],x.1.2.1,x.1.2.2),x.2))))]) (sz:=302) (top:=1) (nx:=nx) (df:=[]) ?_,?_⟩
     ·simp only [go_sem];refine a0c.box fun j hj=>?_
      have hc:j=0\/j=1\/j=2\/j=3\/j=4\/j=5\/j=6\/j=7\/j=8\/j=9\/j=10\/j=11\/j=12\/j=13\/j=14\/j=15:=by omega
      rcases hc with rfl|rfl|rfl|rfl|rfl|rfl|rfl|rfl|rfl|rfl|rfl|rfl|rfl|rfl|rfl|rfl<;>exact avR
     ·simp only [go_sem];exact hK nx (nLR _)
    ·have e:rfP line x=(okT,true,((x.1.1,x.1.2.1++a4B 2 line++[10],x.1.2.2),x.2)):=by unfold rfP;rw [hv,hv1,f1,if_pos ⟨c1,c2,by decide⟩];rfl
     refine awL hΓ [200004] rfl ?_;simp only [go_sem,hv,hv1,hv2,hv3,i1,i2,f1]
     repeat (refine⟨by omega,?_⟩)
     refine AW.drawZ hΓ mixed 15 [] [] [] (by kernel_rfl) ?_;simp only [go_sem]
     repeat (refine⟨by omega,?_⟩)
     rw [e] at hK;refine⟨_,a0e (fun p=>p) (l:=[(4,.st (okT)),(5,.val (.bool true))]) (r:=[(0,.box v 110 16 (rsC (((x.1.1,x.1.2.1++a4B 2 line++[10],x.1.2.2),x.2))))]) (sz:=302) (top:=1) (nx:=nx) (df:=[]) ?_,?_⟩
     ·simp only [go_sem];refine a0c.box fun j hj=>?_
      have hc:j=0\/j=1\/j=2\/j=3\/j=4\/j=5\/j=6\/j=7\/j=8\/j=9\/j=10\/j=11\/j=12\/j=13\/j=14\/j=15:=by omega
      rcases hc with rfl|rfl|rfl|rfl|rfl|rfl|rfl|rfl|rfl|rfl|rfl|rfl|rfl|rfl|rfl|rfl<;>exact avR
     ·simp only [go_sem];exact hK nx (nLR _)
    ·have e:rfP line x=(okT,true,((x.1.1,x.1.2.1,x.1.2.2++a4B 2 line++[10]),x.2)):=by unfold rfP;rw [hv,hv1,f1,if_pos ⟨c1,c2,by decide⟩];rfl
     refine awL hΓ [200004] rfl ?_;simp only [go_sem,hv,hv1,hv2,hv3,i1,i2,f1]
     repeat (refine⟨by omega,?_⟩)
     refine AW.drawZ hΓ mixed 15 [] [] [] (by kernel_rfl) ?_;simp only [go_sem]
     repeat (refine⟨by omega,?_⟩)
     rw [e] at hK;refine⟨_,a0e (fun p=>p) (l:=[(4,.st (okT)),(5,.val (.bool true))]) (r:=[(0,.box v 110 16 (rsC (((x.1.1,x.1.2.1,x.1.2.2++a4B 2 line++[10]),x.2))))]) (sz:=302) (top:=1) (nx:=nx) (df:=[]) ?_,?_⟩
     ·simp only [go_sem];refine a0c.box fun j hj=>?_
      have hc:j=0\/j=1\/j=2\/j=3\/j=4\/j=5\/j=6\/j=7\/j=8\/j=9\/j=10\/j=11\/j=12\/j=13\/j=14\/j=15:=by omega
      rcases hc with rfl|rfl|rfl|rfl|rfl|rfl|rfl|rfl|rfl|rfl|rfl|rfl|rfl|rfl|rfl|rfl<;>exact avR
     ·simp only [go_sem];exact hK nx (nLR _)
   ·have i2:=eq_false c2;refine awN hΓ rfl ?_;simp only [go_sem,hv,hv1,hv2,hv3,i1,i2]
    repeat (refine⟨by omega,?_⟩)
    refine⟨⟨(),fun h=>c2 h.2.1⟩,a0t ?_⟩;simp only [go_sem];exact rlR
  ·have i1:(3<=((wdL line).length:Int))=False:=eq_false (by omega);refine awN hΓ rfl ?_;simp only [go_sem,hv,hv1,hv2,hv3,i1]
   repeat (refine⟨by omega,?_⟩)
   refine⟨⟨(),fun h=>c1 h.1⟩,a0t ?_⟩;simp only [go_sem];exact rlR
 rintro⟨_,nA⟩;have eA:rfP line x=rf1 line x:=by unfold rfP;rw [hv,hv1,if_neg nA]
 rw [eA] at hK;refine AW.seqTo (fun _:{ u:Unit // ¬((wdL line).length=2/\(verb=[98,97,114,101]\/verb=a2g)/\0<=a0M w1) }=>Sh.st ⟨[(0,.pt 0 v 0),(1,.st line),(6,sL eS (wdL line))],[(0,.box v 110 16 (rsC x))],302,1,nx,[]⟩) ?_ ?_
 ·by_cases c1:(wdL line).length=2
  ·have i1:(((wdL line).length:Int)=2)=True:=eq_true (by omega);by_cases c2:verb=[98,97,114,101]
   ·have i2:=eq_true c2;have i3:(verb=[99,108,101,97,114])=False:=eq_false (by rw [c2];decide);rcases b0u w1 with⟨f1,f2⟩|⟨f1,f2⟩|⟨f1,f2⟩|⟨f1,f2⟩
    ·refine awN hΓ rfl ?_;simp only [go_sem,hv,hv1,hv2,hv3,i1,i2,i3,f1,a2A]
     repeat (refine⟨by omega,?_⟩)
     refine⟨⟨(),fun h=>by rw [f1] at h;exact absurd h.2.2 (by decide)⟩,a0t ?_⟩;simp only [go_sem];exact rlR
    ·have e1:rf1 line x=match b3l verb x.1.1 with
       | some t=>(okT,true,rtS x 0 t)
       | none=>(a0q,true,x):=by unfold rf1;rw [hv,hv1,f1,if_pos ⟨c1,.inl c2,by decide⟩];rfl
     by_cases hz:a0C x.1.1=true
     ·have hne:x.1.1≠[]:=fun h=>by rw [h] at hz;exact absurd hz (by decide)
      have hpos:=List.length_pos_iff.2 hne;have e:rf1 line x=(okT,true,((x.1.1.take (x.1.1.length-1),x.1.2.1,x.1.2.2),x.2)):=by rw [e1];unfold b3l;rw [if_neg (fun h=>by rw [c2] at h;exact absurd h (by decide)),if_pos hz];rfl
      refine awL hΓ [200014] rfl ?_;simp only [go_sem,hv,hv1,hv2,hv3,i1,i2,i3,f1,hz]
      repeat (refine⟨by omega,?_⟩)
      refine AW.drawZ hΓ mixed 10 [] [] [] (by kernel_rfl) ?_;have hn1:((x.1.1.length:Int)-1).toNat=x.1.1.length-1:=by omega
      simp only [go_sem,hn1]
      repeat (refine⟨by omega,?_⟩)
      rw [e] at hK;refine⟨_,a0e (fun p=>p) (l:=[(4,.st (okT)),(5,.val (.bool true))]) (r:=[(0,.box v 110 16 (rsC (((x.1.1.take (x.1.1.length-1),x.1.2.1,x.1.2.2),x.2))))]) (sz:=302) (top:=1) (nx:=nx) (df:=[]) ?_,?_⟩
      ·simp only [go_sem];refine a0c.box fun j hj=>?_
       have hc:j=0\/j=1\/j=2\/j=3\/j=4\/j=5\/j=6\/j=7\/j=8\/j=9\/j=10\/j=11\/j=12\/j=13\/j=14\/j=15:=by omega
       rcases hc with rfl|rfl|rfl|rfl|rfl|rfl|rfl|rfl|rfl|rfl|rfl|rfl|rfl|rfl|rfl|rfl<;>exact avR
      ·simp only [go_sem];exact hK nx (nLR _)
     ·have e:rf1 line x=(a0q,true,x):=by rw [e1];unfold b3l;rw [if_neg (fun h=>by rw [c2] at h;exact absurd h (by decide)),if_neg hz]
      refine awL hΓ [200014] rfl ?_;simp only [go_sem,hv,hv1,hv2,hv3,i1,i2,i3,f1,hz]
      repeat (refine⟨by omega,?_⟩)
      rw [e] at hK;refine⟨_,a0e (fun p=>p) (l:=[(4,.st (a0q)),(5,.val (.bool true))]) (r:=[(0,.box v 110 16 (rsC (x)))]) (sz:=302) (top:=1) (nx:=nx) (df:=[]) ?_,?_⟩
      ·simp only [go_sem];exact rlR
      ·simp only [go_sem];exact hK nx (nLR _)
    ·have e1:rf1 line x=match b3l verb x.1.2.1 with
       | some t=>(okT,true,rtS x 1 t)
       | none=>(a0q,true,x):=by unfold rf1;rw [hv,hv1,f1,if_pos ⟨c1,.inl c2,by decide⟩];rfl
     by_cases hz:a0C x.1.2.1=true
     ·have hne:x.1.2.1≠[]:=fun h=>by rw [h] at hz;exact absurd hz (by decide)
      have hpos:=List.length_pos_iff.2 hne;have e:rf1 line x=(okT,true,((x.1.1,x.1.2.1.take (x.1.2.1.length-1),x.1.2.2),x.2)):=by rw [e1];unfold b3l;rw [if_neg (fun h=>by rw [c2] at h;exact absurd h (by decide)),if_pos hz];rfl
      refine awL hΓ [200014] rfl ?_;simp only [go_sem,hv,hv1,hv2,hv3,i1,i2,i3,f1,hz]
      repeat (refine⟨by omega,?_⟩)
      refine AW.drawZ hΓ mixed 10 [] [] [] (by kernel_rfl) ?_;have hn1:((x.1.2.1.length:Int)-1).toNat=x.1.2.1.length-1:=by omega
      simp only [go_sem,hn1]
      repeat (refine⟨by omega,?_⟩)
      rw [e] at hK;refine⟨_,a0e (fun p=>p) (l:=[(4,.st (okT)),(5,.val (.bool true))]) (r:=[(0,.box v 110 16 (rsC (((x.1.1,x.1.2.1.take (x.1.2.1.length-1),x.1.2.2),x.2))))]) (sz:=302) (top:=1) (nx:=nx) (df:=[]) ?_,?_⟩
      ·simp only [go_sem];refine a0c.box fun j hj=>?_
       have hc:j=0\/j=1\/j=2\/j=3\/j=4\/j=5\/j=6\/j=7\/j=8\/j=9\/j=10\/j=11\/j=12\/j=13\/j=14\/j=15:=by omega
       rcases hc with rfl|rfl|rfl|rfl|rfl|rfl|rfl|rfl|rfl|rfl|rfl|rfl|rfl|rfl|rfl|rfl<;>exact avR
      ·simp only [go_sem];exact hK nx (nLR _)
     ·have e:rf1 line x=(a0q,true,x):=by rw [e1];unfold b3l;rw [if_neg (fun h=>by rw [c2] at h;exact absurd h (by decide)),if_neg hz]
      refine awL hΓ [200014] rfl ?_;simp only [go_sem,hv,hv1,hv2,hv3,i1,i2,i3,f1,hz]
      repeat (refine⟨by omega,?_⟩)
      rw [e] at hK;refine⟨_,a0e (fun p=>p) (l:=[(4,.st (a0q)),(5,.val (.bool true))]) (r:=[(0,.box v 110 16 (rsC (x)))]) (sz:=302) (top:=1) (nx:=nx) (df:=[]) ?_,?_⟩
      ·simp only [go_sem];exact rlR
      ·simp only [go_sem];exact hK nx (nLR _)
    ·have e1:rf1 line x=match b3l verb x.1.2.2 with
       | some t=>(okT,true,rtS x 2 t)
       | none=>(a0q,true,x):=by unfold rf1;rw [hv,hv1,f1,if_pos ⟨c1,.inl c2,by decide⟩];rfl
     by_cases hz:a0C x.1.2.2=true
     ·have hne:x.1.2.2≠[]:=fun h=>by rw [h] at hz;exact absurd hz (by decide)
      have hpos:=List.length_pos_iff.2 hne;have e:rf1 line x=(okT,true,((x.1.1,x.1.2.1,x.1.2.2.take (x.1.2.2.length-1)),x.2)):=by rw [e1];unfold b3l;rw [if_neg (fun h=>by rw [c2] at h;exact absurd h (by decide)),if_pos hz];rfl
      refine awL hΓ [200014] rfl ?_;simp only [go_sem,hv,hv1,hv2,hv3,i1,i2,i3,f1,hz]
      repeat (refine⟨by omega,?_⟩)
      refine AW.drawZ hΓ mixed 10 [] [] [] (by kernel_rfl) ?_;have hn1:((x.1.2.2.length:Int)-1).toNat=x.1.2.2.length-1:=by omega
      simp only [go_sem,hn1]
      repeat (refine⟨by omega,?_⟩)
      rw [e] at hK;refine⟨_,a0e (fun p=>p) (l:=[(4,.st (okT)),(5,.val (.bool true))]) (r:=[(0,.box v 110 16 (rsC (((x.1.1,x.1.2.1,x.1.2.2.take (x.1.2.2.length-1)),x.2))))]) (sz:=302) (top:=1) (nx:=nx) (df:=[]) ?_,?_⟩
      ·simp only [go_sem];refine a0c.box fun j hj=>?_
       have hc:j=0\/j=1\/j=2\/j=3\/j=4\/j=5\/j=6\/j=7\/j=8\/j=9\/j=10\/j=11\/j=12\/j=13\/j=14\/j=15:=by omega
       rcases hc with rfl|rfl|rfl|rfl|rfl|rfl|rfl|rfl|rfl|rfl|rfl|rfl|rfl|rfl|rfl|rfl<;>exact avR
      ·simp only [go_sem];exact hK nx (nLR _)
     ·have e:rf1 line x=(a0q,true,x):=by rw [e1];unfold b3l;rw [if_neg (fun h=>by rw [c2] at h;exact absurd h (by decide)),if_neg hz]
      refine awL hΓ [200014] rfl ?_;simp only [go_sem,hv,hv1,hv2,hv3,i1,i2,i3,f1,hz]
      repeat (refine⟨by omega,?_⟩)
      rw [e] at hK;refine⟨_,a0e (fun p=>p) (l:=[(4,.st (a0q)),(5,.val (.bool true))]) (r:=[(0,.box v 110 16 (rsC (x)))]) (sz:=302) (top:=1) (nx:=nx) (df:=[]) ?_,?_⟩
      ·simp only [go_sem];exact rlR
      ·simp only [go_sem];exact hK nx (nLR _)
   ·have i2:=eq_false c2;by_cases c3:verb=[99,108,101,97,114]
    ·have i3:=eq_true c3;rcases b0u w1 with⟨f1,f2⟩|⟨f1,f2⟩|⟨f1,f2⟩|⟨f1,f2⟩
     ·refine awN hΓ rfl ?_;simp only [go_sem,hv,hv1,hv2,hv3,i1,i2,i3,f1,a2A]
      repeat (refine⟨by omega,?_⟩)
      refine⟨⟨(),fun h=>by rw [f1] at h;exact absurd h.2.2 (by decide)⟩,a0t ?_⟩;simp only [go_sem];exact rlR
     ·have e:rf1 line x=(okT,true,(([],x.1.2.1,x.1.2.2),x.2)):=by unfold rf1 b3l;rw [hv,hv1,f1,if_pos ⟨c1,.inr c3,by decide⟩,if_pos (show verb=a2g from c3)];rfl
      refine awL hΓ [200014] rfl ?_;simp only [go_sem,hv,hv1,hv2,hv3,i1,i2,i3,f1]
      repeat (refine⟨by omega,?_⟩)
      rw [e] at hK;refine⟨_,a0e (fun p=>p) (l:=[(4,.st (okT)),(5,.val (.bool true))]) (r:=[(0,.box v 110 16 (rsC ((([],x.1.2.1,x.1.2.2),x.2))))]) (sz:=302) (top:=1) (nx:=nx) (df:=[]) ?_,?_⟩
      ·simp only [go_sem];refine a0c.box fun j hj=>?_
       have hc:j=0\/j=1\/j=2\/j=3\/j=4\/j=5\/j=6\/j=7\/j=8\/j=9\/j=10\/j=11\/j=12\/j=13\/j=14\/j=15:=by omega
       rcases hc with rfl|rfl|rfl|rfl|rfl|rfl|rfl|rfl|rfl|rfl|rfl|rfl|rfl|rfl|rfl|rfl<;>exact avR
      ·simp only [go_sem];exact hK nx (nLR _)
     ·have e:rf1 line x=(okT,true,((x.1.1,[],x.1.2.2),x.2)):=by unfold rf1 b3l;rw [hv,hv1,f1,if_pos ⟨c1,.inr c3,by decide⟩,if_pos (show verb=a2g from c3)];rfl
      refine awL hΓ [200014] rfl ?_;simp only [go_sem,hv,hv1,hv2,hv3,i1,i2,i3,f1]
      repeat (refine⟨by omega,?_⟩)
      rw [e] at hK;refine⟨_,a0e (fun p=>p) (l:=[(4,.st (okT)),(5,.val (.bool true))]) (r:=[(0,.box v 110 16 (rsC (((x.1.1,[],x.1.2.2),x.2))))]) (sz:=302) (top:=1) (nx:=nx) (df:=[]) ?_,?_⟩
      ·simp only [go_sem];refine a0c.box fun j hj=>?_
       have hc:j=0\/j=1\/j=2\/j=3\/j=4\/j=5\/j=6\/j=7\/j=8\/j=9\/j=10\/j=11\/j=12\/j=13\/j=14\/j=15:=by omega
       rcases hc with rfl|rfl|rfl|rfl|rfl|rfl|rfl|rfl|rfl|rfl|rfl|rfl|rfl|rfl|rfl|rfl<;>exact avR
      ·simp only [go_sem];exact hK nx (nLR _)
     ·have e:rf1 line x=(okT,true,((x.1.1,x.1.2.1,[]),x.2)):=by unfold rf1 b3l;rw [hv,hv1,f1,if_pos ⟨c1,.inr c3,by decide⟩,if_pos (show verb=a2g from c3)];rfl
      refine awL hΓ [200014] rfl ?_;simp only [go_sem,hv,hv1,hv2,hv3,i1,i2,i3,f1]
      repeat (refine⟨by omega,?_⟩)
      rw [e] at hK;refine⟨_,a0e (fun p=>p) (l:=[(4,.st (okT)),(5,.val (.bool true))]) (r:=[(0,.box v 110 16 (rsC (((x.1.1,x.1.2.1,[]),x.2))))]) (sz:=302) (top:=1) (nx:=nx) (df:=[]) ?_,?_⟩
      ·simp only [go_sem];refine a0c.box fun j hj=>?_
       have hc:j=0\/j=1\/j=2\/j=3\/j=4\/j=5\/j=6\/j=7\/j=8\/j=9\/j=10\/j=11\/j=12\/j=13\/j=14\/j=15:=by omega
       rcases hc with rfl|rfl|rfl|rfl|rfl|rfl|rfl|rfl|rfl|rfl|rfl|rfl|rfl|rfl|rfl|rfl<;>exact avR
      ·simp only [go_sem];exact hK nx (nLR _)
    ·have i3:=eq_false c3;refine awN hΓ rfl ?_;simp only [go_sem,hv,hv1,hv2,hv3,i1,i2,i3]
     repeat (refine⟨by omega,?_⟩)
     refine⟨⟨(),fun h=>h.2.1.elim c2 c3⟩,a0t ?_⟩;simp only [go_sem];exact rlR
  ·have i1:(((wdL line).length:Int)=2)=False:=eq_false (by omega);refine awN hΓ rfl ?_;simp only [go_sem,hv,hv1,hv2,hv3,i1]
   repeat (refine⟨by omega,?_⟩)
   refine⟨⟨(),fun h=>c1 h.1⟩,a0t ?_⟩;simp only [go_sem];exact rlR
 rintro⟨_,nB⟩;have eB:rf1 line x=rf2 line x:=by unfold rf1;rw [hv,hv1,if_neg nB]
 rw [eB] at hK;refine AW.seqTo (fun _:{ u:Unit // ¬((wdL line).length=4/\verb=[108,97,98,101,108,115]) }=>Sh.st ⟨[(0,.pt 0 v 0),(1,.st line),(6,sL eS (wdL line))],[(0,.box v 110 16 (rsC x))],302,1,nx,[]⟩) ?_ ?_
 ·by_cases c1:(wdL line).length=4
  ·have i1:(((wdL line).length:Int)=4)=True:=eq_true (by omega);by_cases c2:verb=[108,97,98,101,108,115]
   ·have i2:=eq_true c2;have e:rf2 line x=(okT,true,(x.1,((a6V w1,a6V w2,a6V w3),x.2.1.2),x.2.2)):=by unfold rf2;rw [hv,hv1,hv2,hv3,if_pos ⟨c1,c2⟩]
    refine awL hΓ [200017] rfl ?_;simp only [go_sem,hv,hv1,hv2,hv3,i1,i2]
    repeat (refine⟨by omega,?_⟩)
    refine AW.drawZ hΓ mixed 16 [] [] [] (by kernel_rfl) ?_;simp only [go_sem,hv,hv1,hv2,hv3]
    repeat (refine⟨by omega,?_⟩)
    rw [e] at hK;refine⟨_,a0e (fun p=>p) (l:=[(4,.st (okT)),(5,.val (.bool true))]) (r:=[(0,.box v 110 16 (rsC ((x.1,((a6V w1,a6V w2,a6V w3),x.2.1.2),x.2.2))))]) (sz:=302) (top:=1) (nx:=nx) (df:=[]) ?_,?_⟩
    ·simp only [go_sem];refine a0c.box fun j hj=>?_
     have hc:j=0\/j=1\/j=2\/j=3\/j=4\/j=5\/j=6\/j=7\/j=8\/j=9\/j=10\/j=11\/j=12\/j=13\/j=14\/j=15:=by omega
     rcases hc with rfl|rfl|rfl|rfl|rfl|rfl|rfl|rfl|rfl|rfl|rfl|rfl|rfl|rfl|rfl|rfl<;>exact avR
    ·simp only [go_sem];exact hK nx (nLR _)
   ·have i2:=eq_false c2;refine awN hΓ rfl ?_;simp only [go_sem,hv,hv1,hv2,hv3,i1,i2]
    repeat (refine⟨by omega,?_⟩)
    refine⟨⟨(),fun h=>c2 h.2⟩,a0t ?_⟩;simp only [go_sem];exact rlR
  ·have i1:(((wdL line).length:Int)=4)=False:=eq_false (by omega);refine awN hΓ rfl ?_;simp only [go_sem,hv,hv1,hv2,hv3,i1]
   repeat (refine⟨by omega,?_⟩)
   refine⟨⟨(),fun h=>c1 h.1⟩,a0t ?_⟩;simp only [go_sem];exact rlR
 rintro⟨_,nC⟩;have eC:rf2 line x=rf3 line x:=by unfold rf2;rw [hv,if_neg nC]
 rw [eC] at hK;refine awL hΓ [19] rfl ?_;simp only [go_sem];refine AW.seqTo (fun _:Unit=>Sh.st ⟨[(0,.pt 0 v 0),(1,.st line),(6,sL eS (wdL line)),(10,.val (.int .i64 (rfN line)))],[(0,.box v 110 16 (rsC x))],302,1,nx,[]⟩) ?_ ?_
 ·by_cases c1:(wdL line).length=2
  ·have i1:(((wdL line).length:Int)=2)=True:=eq_true (by omega);have eN:rfN line=a1J w1:=by unfold rfN;rw [hv1,if_pos c1]
   refine awN hΓ rfl ?_;simp only [go_sem,hv,hv1,hv2,hv3,i1]
   repeat (refine⟨by omega,?_⟩)
   refine a0t ?_;rw [eN];simp only [go_sem];exact rlR
  ·have i1:(((wdL line).length:Int)=2)=False:=eq_false (by omega);have eN:rfN line=-1:=by unfold rfN;rw [if_neg c1]
   refine awN hΓ rfl ?_;simp only [go_sem,hv,hv1,hv2,hv3,i1]
   repeat (refine⟨by omega,?_⟩)
   refine a0t ?_;rw [eN];simp only [go_sem];exact rlR
 rintro _
 have hN2:0<=rfN line->(wdL line).length=2:=fun h=>by
  by_cases c:(wdL line).length=2
  ·exact c
  ·unfold rfN at h;rw [if_neg c] at h;exact absurd h (by decide)
 generalize hN:rfN line=n at *
 refine AW.seqTo (fun _:{ u:Unit // ¬(0<=n/\verb=[115,116,121,108,101]) }=>Sh.st ⟨[(0,.pt 0 v 0),(1,.st line),(6,sL eS (wdL line)),(10,.val (.int .i64 n))],[(0,.box v 110 16 (rsC x))],302,1,nx,[]⟩) ?_ ?_
 ·by_cases c1:0<=n
  ·have i1:=eq_true c1;have hlen:=hN2 c1;by_cases c2:verb=[115,116,121,108,101]
   ·have i2:=eq_true c2;have e:rf3 line x=(okT,true,(x.1,(x.2.1.1,n,x.2.1.2.2),x.2.2)):=by unfold rf3;rw [hv,hN,if_pos ⟨c1,c2⟩]
    refine awN hΓ rfl ?_;simp only [go_sem,hv,hv1,hv2,hv3,i1,i2]
    repeat (refine⟨by omega,?_⟩)
    rw [e] at hK;refine⟨_,a0e (fun p=>p) (l:=[(4,.st (okT)),(5,.val (.bool true))]) (r:=[(0,.box v 110 16 (rsC ((x.1,(x.2.1.1,n,x.2.1.2.2),x.2.2))))]) (sz:=302) (top:=1) (nx:=nx) (df:=[]) ?_,?_⟩
    ·simp only [go_sem];refine a0c.box fun j hj=>?_
     have hc:j=0\/j=1\/j=2\/j=3\/j=4\/j=5\/j=6\/j=7\/j=8\/j=9\/j=10\/j=11\/j=12\/j=13\/j=14\/j=15:=by omega
     rcases hc with rfl|rfl|rfl|rfl|rfl|rfl|rfl|rfl|rfl|rfl|rfl|rfl|rfl|rfl|rfl|rfl<;>exact avR
    ·simp only [go_sem];exact hK nx (nLR _)
   ·have i2:=eq_false c2;refine awN hΓ rfl ?_;simp only [go_sem,hv,hv1,hv2,hv3,i1,i2]
    repeat (refine⟨by omega,?_⟩)
    refine⟨⟨(),fun h=>c2 h.2⟩,a0t ?_⟩;simp only [go_sem];exact rlR
  ·have i1:=eq_false c1;refine awN hΓ rfl ?_;simp only [go_sem,hv,hv1,hv2,hv3,i1]
   repeat (refine⟨by omega,?_⟩)
   refine⟨⟨(),fun h=>c1 h.1⟩,a0t ?_⟩;simp only [go_sem];exact rlR
 rintro⟨_,nD0⟩;refine AW.seqTo (fun _:{ u:Unit // ¬(0<=n/\verb=[119,105,100,116,104]) }=>Sh.st ⟨[(0,.pt 0 v 0),(1,.st line),(6,sL eS (wdL line)),(10,.val (.int .i64 n))],[(0,.box v 110 16 (rsC x))],302,1,nx,[]⟩) ?_ ?_
 ·by_cases c1:0<=n
  ·have i1:=eq_true c1;have hlen:=hN2 c1;by_cases c2:verb=[119,105,100,116,104]
   ·have i2:=eq_true c2;have e:rf3 line x=(okT,true,(x.1,(x.2.1.1,x.2.1.2.1,n,x.2.1.2.2.2),x.2.2)):=by unfold rf3;rw [hv,hN,if_neg nD0,if_pos ⟨c1,c2⟩]
    refine awN hΓ rfl ?_;simp only [go_sem,hv,hv1,hv2,hv3,i1,i2]
    repeat (refine⟨by omega,?_⟩)
    rw [e] at hK;refine⟨_,a0e (fun p=>p) (l:=[(4,.st (okT)),(5,.val (.bool true))]) (r:=[(0,.box v 110 16 (rsC ((x.1,(x.2.1.1,x.2.1.2.1,n,x.2.1.2.2.2),x.2.2))))]) (sz:=302) (top:=1) (nx:=nx) (df:=[]) ?_,?_⟩
    ·simp only [go_sem];refine a0c.box fun j hj=>?_
     have hc:j=0\/j=1\/j=2\/j=3\/j=4\/j=5\/j=6\/j=7\/j=8\/j=9\/j=10\/j=11\/j=12\/j=13\/j=14\/j=15:=by omega
     rcases hc with rfl|rfl|rfl|rfl|rfl|rfl|rfl|rfl|rfl|rfl|rfl|rfl|rfl|rfl|rfl|rfl<;>exact avR
    ·simp only [go_sem];exact hK nx (nLR _)
   ·have i2:=eq_false c2;refine awN hΓ rfl ?_;simp only [go_sem,hv,hv1,hv2,hv3,i1,i2]
    repeat (refine⟨by omega,?_⟩)
    refine⟨⟨(),fun h=>c2 h.2⟩,a0t ?_⟩;simp only [go_sem];exact rlR
  ·have i1:=eq_false c1;refine awN hΓ rfl ?_;simp only [go_sem,hv,hv1,hv2,hv3,i1]
   repeat (refine⟨by omega,?_⟩)
   refine⟨⟨(),fun h=>c1 h.1⟩,a0t ?_⟩;simp only [go_sem];exact rlR
 rintro⟨_,nD1⟩;refine AW.seqTo (fun _:{ u:Unit // ¬(0<=n/\verb=[102,97,118,111,117,114]) }=>Sh.st ⟨[(0,.pt 0 v 0),(1,.st line),(6,sL eS (wdL line)),(10,.val (.int .i64 n))],[(0,.box v 110 16 (rsC x))],302,1,nx,[]⟩) ?_ ?_
 ·by_cases c1:0<=n
  ·have i1:=eq_true c1;have hlen:=hN2 c1;by_cases c2:verb=[102,97,118,111,117,114]
   ·have i2:=eq_true c2;have e:rf3 line x=(okT,true,(x.1,(x.2.1.1,x.2.1.2.1,x.2.1.2.2.1,n),x.2.2)):=by unfold rf3;rw [hv,hN,if_neg nD0,if_neg nD1,if_pos ⟨c1,c2⟩]
    refine awN hΓ rfl ?_;simp only [go_sem,hv,hv1,hv2,hv3,i1,i2]
    repeat (refine⟨by omega,?_⟩)
    rw [e] at hK;refine⟨_,a0e (fun p=>p) (l:=[(4,.st (okT)),(5,.val (.bool true))]) (r:=[(0,.box v 110 16 (rsC ((x.1,(x.2.1.1,x.2.1.2.1,x.2.1.2.2.1,n),x.2.2))))]) (sz:=302) (top:=1) (nx:=nx) (df:=[]) ?_,?_⟩
    ·simp only [go_sem];refine a0c.box fun j hj=>?_
     have hc:j=0\/j=1\/j=2\/j=3\/j=4\/j=5\/j=6\/j=7\/j=8\/j=9\/j=10\/j=11\/j=12\/j=13\/j=14\/j=15:=by omega
     rcases hc with rfl|rfl|rfl|rfl|rfl|rfl|rfl|rfl|rfl|rfl|rfl|rfl|rfl|rfl|rfl|rfl<;>exact avR
    ·simp only [go_sem];exact hK nx (nLR _)
   ·have i2:=eq_false c2;refine awN hΓ rfl ?_;simp only [go_sem,hv,hv1,hv2,hv3,i1,i2]
    repeat (refine⟨by omega,?_⟩)
    refine⟨⟨(),fun h=>c2 h.2⟩,a0t ?_⟩;simp only [go_sem];exact rlR
  ·have i1:=eq_false c1;refine awN hΓ rfl ?_;simp only [go_sem,hv,hv1,hv2,hv3,i1]
   repeat (refine⟨by omega,?_⟩)
   refine⟨⟨(),fun h=>c1 h.1⟩,a0t ?_⟩;simp only [go_sem];exact rlR
 rintro⟨_,nD2⟩;have eD:rf3 line x=rf4 line x:=by unfold rf3;rw [hv,hN,if_neg nD0,if_neg nD1,if_neg nD2]
 rw [eD] at hK;refine AW.seqTo (fun _:{ u:Unit // ¬(line=[109,101,114,103,101]) }=>Sh.st ⟨[(0,.pt 0 v 0),(1,.st line),(6,sL eS (wdL line)),(10,.val (.int .i64 n))],[(0,.box v 110 16 (rsC x))],302,1,nx,[]⟩) ?_ ?_
 ·by_cases c1:line=[109,101,114,103,101]
  ·have i1:=eq_true c1;have hwi:=c61 x.2.1;have c3:a5E (lbP (x.2.1.1.1,x.2.1.1.2.1,x.2.1.1.2.2,false,[],[],[],[],false),x.2.1.2.1,x.2.1.2.2.1,x.2.1.2.2.2)=a5E x.2.1:=rfl;by_cases c2:a5E x.2.1=0
   ·have e:rf4 line x=([],false,(x.1,x.2.1,true)):=by unfold rf4;rw [if_pos c1,if_pos c2]
    refine awN hΓ rfl ?_;simp only [go_sem,hv,hv1,hv2,hv3,i1,c3,c2];refine⟨hlb,?_⟩
    repeat (refine⟨by omega,?_⟩)
    rw [e] at hK;refine⟨_,a0e (fun p=>p) (l:=[(4,.st ([])),(5,.val (.bool false))]) (r:=[(0,.box v 110 16 (rsC ((x.1,x.2.1,true))))]) (sz:=302) (top:=1) (nx:=nx) (df:=[]) ?_,?_⟩
    ·simp only [go_sem];refine a0c.box fun j hj=>?_
     have hc:j=0\/j=1\/j=2\/j=3\/j=4\/j=5\/j=6\/j=7\/j=8\/j=9\/j=10\/j=11\/j=12\/j=13\/j=14\/j=15:=by omega
     rcases hc with rfl|rfl|rfl|rfl|rfl|rfl|rfl|rfl|rfl|rfl|rfl|rfl|rfl|rfl|rfl|rfl<;>exact avR
    ·simp only [go_sem];exact hK nx (nLR _)
   ·have e:rf4 line x=(a7t (a5E x.2.1),true,x):=by unfold rf4;rw [if_pos c1,if_neg c2]
    refine awN hΓ rfl ?_;simp only [go_sem,hv,hv1,hv2,hv3,i1,c3,c2];refine⟨hlb,?_⟩
    repeat (refine⟨by omega,?_⟩)
    rw [e] at hK;refine⟨_,a0e (fun p=>p) (l:=[(4,.st (a7t (a5E x.2.1))),(5,.val (.bool true))]) (r:=[(0,.box v 110 16 (rsC (x)))]) (sz:=302) (top:=1) (nx:=nx) (df:=[]) ?_,?_⟩
    ·simp only [go_sem];exact rlR
    ·simp only [go_sem];exact hK nx (nLR _)
  ·have i1:=eq_false c1;refine awN hΓ rfl ?_;simp only [go_sem,hv,hv1,hv2,hv3,i1]
   repeat (refine⟨by omega,?_⟩)
   refine⟨⟨(),c1⟩,a0t ?_⟩;simp only [go_sem];exact rlR
 rintro⟨_,nE⟩;have eE:rf4 line x=rf5 line x:=by unfold rf4;rw [if_neg nE]
 rw [eE] at hK;refine AW.seqTo (fun _:{ u:Unit // ¬((0<=n/\verb=[112,97,114,115,101])\/((wdL line).length=3/\verb=[100,105,102,102]/\0<=a0M w1/\0<=a1J w2/\a1J w2<=100)) }=>Sh.st ⟨[(0,.pt 0 v 0),(1,.st line),(6,sL eS (wdL line)),(10,.val (.int .i64 n))],[(0,.box v 110 16 (rsC x))],302,1,nx,[]⟩) ?_ ?_
 ·by_cases c1:0<=n
  ·have i1:=eq_true c1;have hlen:=hN2 c1;have i3:(((wdL line).length:Int)=3)=False:=eq_false (by omega);by_cases c2:verb=[112,97,114,115,101]
   ·have i2:=eq_true c2;have e:rf5 line x=([],false,x):=by unfold rf5;rw [hv,hv1,hv2,hN,if_pos (.inl ⟨c1,c2⟩)]
    refine awN hΓ rfl ?_;simp only [go_sem,hv,hv1,hv2,hv3,i1,i2,i3]
    repeat (refine⟨by omega,?_⟩)
    rw [e] at hK;refine⟨_,a0e (fun p=>p) (l:=[(4,.st ([])),(5,.val (.bool false))]) (r:=[(0,.box v 110 16 (rsC (x)))]) (sz:=302) (top:=1) (nx:=nx) (df:=[]) ?_,?_⟩
    ·simp only [go_sem];exact rlR
    ·simp only [go_sem];exact hK nx (nLR _)
   ·have i2:=eq_false c2;refine awN hΓ rfl ?_;simp only [go_sem,hv,hv1,hv2,hv3,i1,i2,i3]
    repeat (refine⟨by omega,?_⟩)
    refine⟨⟨(),fun h=>h.elim (fun h=>c2 h.2) (fun h=>by omega)⟩,a0t ?_⟩;simp only [go_sem];exact rlR
  ·have i1:=eq_false c1;by_cases c3:(wdL line).length=3
   ·have i3:(((wdL line).length:Int)=3)=True:=eq_true (by omega);by_cases c4:verb=[100,105,102,102]
    ·have i4:=eq_true c4;by_cases c5:0<=a0M w1
     ·have i5:=eq_true c5;by_cases c6:0<=a1J w2
      ·have i6:=eq_true c6;by_cases c7:a1J w2<=100
       ·have i7:=eq_true c7;have e:rf5 line x=([],false,x):=by unfold rf5;rw [hv,hv1,hv2,hN,if_pos (.inr ⟨c3,c4,c5,c6,c7⟩)]
        refine awN hΓ rfl ?_;simp only [go_sem,hv,hv1,hv2,hv3,i1,i3,i4,i5,i6,i7]
        repeat (refine⟨by omega,?_⟩)
        rw [e] at hK;refine⟨_,a0e (fun p=>p) (l:=[(4,.st ([])),(5,.val (.bool false))]) (r:=[(0,.box v 110 16 (rsC (x)))]) (sz:=302) (top:=1) (nx:=nx) (df:=[]) ?_,?_⟩
        ·simp only [go_sem];exact rlR
        ·simp only [go_sem];exact hK nx (nLR _)
       ·have i7:=eq_false c7;refine awN hΓ rfl ?_;simp only [go_sem,hv,hv1,hv2,hv3,i1,i3,i4,i5,i6,i7]
        repeat (refine⟨by omega,?_⟩)
        refine⟨⟨(),fun h=>h.elim (fun h=>c1 h.1) (fun h=>c7 h.2.2.2.2)⟩,a0t ?_⟩;simp only [go_sem];exact rlR
      ·have i6:=eq_false c6;refine awN hΓ rfl ?_;simp only [go_sem,hv,hv1,hv2,hv3,i1,i3,i4,i5,i6]
       repeat (refine⟨by omega,?_⟩)
       refine⟨⟨(),fun h=>h.elim (fun h=>c1 h.1) (fun h=>c6 h.2.2.2.1)⟩,a0t ?_⟩;simp only [go_sem];exact rlR
     ·have i5:=eq_false c5;refine awN hΓ rfl ?_;simp only [go_sem,hv,hv1,hv2,hv3,i1,i3,i4,i5]
      repeat (refine⟨by omega,?_⟩)
      refine⟨⟨(),fun h=>h.elim (fun h=>c1 h.1) (fun h=>c5 h.2.2.1)⟩,a0t ?_⟩;simp only [go_sem];exact rlR
    ·have i4:=eq_false c4;refine awN hΓ rfl ?_;simp only [go_sem,hv,hv1,hv2,hv3,i1,i3,i4]
     repeat (refine⟨by omega,?_⟩)
     refine⟨⟨(),fun h=>h.elim (fun h=>c1 h.1) (fun h=>c4 h.2.1)⟩,a0t ?_⟩;simp only [go_sem];exact rlR
   ·have i3:(((wdL line).length:Int)=3)=False:=eq_false (by omega);refine awN hΓ rfl ?_;simp only [go_sem,hv,hv1,hv2,hv3,i1,i3]
    repeat (refine⟨by omega,?_⟩)
    refine⟨⟨(),fun h=>h.elim (fun h=>c1 h.1) (fun h=>c3 h.1)⟩,a0t ?_⟩;simp only [go_sem];exact rlR
 rintro⟨_,nF⟩;have eF:rf5 line x=rf6 line x:=by unfold rf5;rw [hv,hv1,hv2,hN,if_neg nF]
 rw [eF] at hK;refine AW.seqTo (fun _:Unit=>Sh.st ⟨[(0,.pt 0 v 0),(1,.st line),(6,sL eS (wdL line)),(12,.val (.bool (a1l line)))],[(0,.box v 110 16 (rsC x))],302,1,nx,[]⟩) ?_ ?_
 ·skip
  by_cases a_text:line=[116,101,120,116]
  ·have j_text:(line=[116,101,120,116])=True:=eq_true (a_text);refine awN hΓ rfl ?_;simp only [go_sem,hv,hv1,hv2,hv3,j_text]
   repeat (refine⟨by omega,?_⟩)
   refine a0t ?_
   have eK:a1l line=true:=by
    unfold a1l;rw [hv,hv1,hv2];simp [a_text]
   rw [eK];simp only [go_sem];exact rlR
  ·have j_text:(line=[116,101,120,116])=False:=eq_false (a_text);by_cases a_wide:line=[119,105,100,101]
   ·have j_wide:(line=[119,105,100,101])=True:=eq_true (a_wide);refine awN hΓ rfl ?_;simp only [go_sem,hv,hv1,hv2,hv3,j_text,j_wide]
    repeat (refine⟨by omega,?_⟩)
    refine a0t ?_
    have eK:a1l line=true:=by
     unfold a1l;rw [hv,hv1,hv2];simp [a_text,a_wide]
    rw [eK];simp only [go_sem];exact rlR
   ·have j_wide:(line=[119,105,100,101])=False:=eq_false (a_wide);by_cases a_chunks:line=[99,104,117,110,107,115]
    ·have j_chunks:(line=[99,104,117,110,107,115])=True:=eq_true (a_chunks);refine awN hΓ rfl ?_;simp only [go_sem,hv,hv1,hv2,hv3,j_text,j_wide,j_chunks]
     repeat (refine⟨by omega,?_⟩)
     refine a0t ?_
     have eK:a1l line=true:=by
      unfold a1l;rw [hv,hv1,hv2];simp [a_text,a_wide,a_chunks]
     rw [eK];simp only [go_sem];exact rlR
    ·have j_chunks:(line=[99,104,117,110,107,115])=False:=eq_false (a_chunks);by_cases a_show:line=[115,104,111,119]
     ·have j_show:(line=[115,104,111,119])=True:=eq_true (a_show);refine awN hΓ rfl ?_;simp only [go_sem,hv,hv1,hv2,hv3,j_text,j_wide,j_chunks,j_show]
      repeat (refine⟨by omega,?_⟩)
      refine a0t ?_
      have eK:a1l line=true:=by
       unfold a1l;rw [hv,hv1,hv2];simp [a_text,a_wide,a_chunks,a_show]
      rw [eK];simp only [go_sem];exact rlR
     ·have j_show:(line=[115,104,111,119])=False:=eq_false (a_show);by_cases a_two:(wdL line).length=2
      ·have j_two:(((wdL line).length:Int)=2)=True:=eq_true (by omega);by_cases a_res:verb=[114,101,115,111,108,118,101]
       ·have j_res:(verb=[114,101,115,111,108,118,101])=True:=eq_true (a_res);by_cases a_sd:0<(a0B w1).1
        ·have j_sd:(0<(a0B w1).1)=True:=eq_true (a_sd);refine awN hΓ rfl ?_;simp only [go_sem,hv,hv1,hv2,hv3,j_text,j_wide,j_chunks,j_show,j_two,j_res,j_sd]
         repeat (refine⟨by omega,?_⟩)
         refine a0t ?_
         have eK:a1l line=true:=by
          unfold a1l;rw [hv,hv1,hv2];simp [a_text,a_wide,a_chunks,a_show,a_two,a_res,a_sd]
         rw [eK];simp only [go_sem];exact rlR
        ·have j_sd:(0<(a0B w1).1)=False:=eq_false (a_sd);have a_three:¬(wdL line).length=3:=by omega
         have j_three:(((wdL line).length:Int)=3)=False:=eq_false (by omega);refine awN hΓ rfl ?_;simp only [go_sem,hv,hv1,hv2,hv3,j_text,j_wide,j_chunks,j_show,j_two,j_res,j_sd,j_three]
         repeat (refine⟨by omega,?_⟩)
         refine a0t ?_
         have eK:a1l line=false:=by
          unfold a1l;rw [hv,hv1,hv2];simp [a_text,a_wide,a_chunks,a_show,a_two,a_res,a_sd,a_three]
         rw [eK];simp only [go_sem];exact rlR
       ·have j_res:(verb=[114,101,115,111,108,118,101])=False:=eq_false (a_res);have a_three:¬(wdL line).length=3:=by omega
        have j_three:(((wdL line).length:Int)=3)=False:=eq_false (by omega);refine awN hΓ rfl ?_;simp only [go_sem,hv,hv1,hv2,hv3,j_text,j_wide,j_chunks,j_show,j_two,j_res,j_three]
        repeat (refine⟨by omega,?_⟩)
        refine a0t ?_
        have eK:a1l line=false:=by
         unfold a1l;rw [hv,hv1,hv2];simp [a_text,a_wide,a_chunks,a_show,a_two,a_res,a_three]
        rw [eK];simp only [go_sem];exact rlR
      ·have j_two:(((wdL line).length:Int)=2)=False:=eq_false (by omega);by_cases a_three:(wdL line).length=3
       ·have j_three:(((wdL line).length:Int)=3)=True:=eq_true (by omega);by_cases a_pick:verb=[112,105,99,107]
        ·have j_pick:(verb=[112,105,99,107])=True:=eq_true (a_pick);by_cases a_num:0<=a1J w1
         ·have j_num:(0<=a1J w1)=True:=eq_true (a_num);by_cases a_sd2:0<(a0B w2).1
          ·have j_sd2:(0<(a0B w2).1)=True:=eq_true (a_sd2);refine awN hΓ rfl ?_;simp only [go_sem,hv,hv1,hv2,hv3,j_text,j_wide,j_chunks,j_show,j_two,j_three,j_pick,j_num,j_sd2]
           repeat (refine⟨by omega,?_⟩)
           refine a0t ?_
           have eK:a1l line=true:=by
            unfold a1l;rw [hv,hv1,hv2];simp [a_text,a_wide,a_chunks,a_show,a_two,a_three,a_pick,a_num,a_sd2]
           rw [eK];simp only [go_sem];exact rlR
          ·have j_sd2:(0<(a0B w2).1)=False:=eq_false (a_sd2);refine awN hΓ rfl ?_;simp only [go_sem,hv,hv1,hv2,hv3,j_text,j_wide,j_chunks,j_show,j_two,j_three,j_pick,j_num,j_sd2]
           repeat (refine⟨by omega,?_⟩)
           refine a0t ?_
           have eK:a1l line=false:=by
            unfold a1l;rw [hv,hv1,hv2];simp [a_text,a_wide,a_chunks,a_show,a_two,a_three,a_pick,a_num,a_sd2]
           rw [eK];simp only [go_sem];exact rlR
         ·have j_num:(0<=a1J w1)=False:=eq_false (a_num);refine awN hΓ rfl ?_;simp only [go_sem,hv,hv1,hv2,hv3,j_text,j_wide,j_chunks,j_show,j_two,j_three,j_pick,j_num]
          repeat (refine⟨by omega,?_⟩)
          refine a0t ?_
          have eK:a1l line=false:=by
           unfold a1l;rw [hv,hv1,hv2];simp [a_text,a_wide,a_chunks,a_show,a_two,a_three,a_pick,a_num]
          rw [eK];simp only [go_sem];exact rlR
        ·have j_pick:(verb=[112,105,99,107])=False:=eq_false (a_pick);refine awN hΓ rfl ?_;simp only [go_sem,hv,hv1,hv2,hv3,j_text,j_wide,j_chunks,j_show,j_two,j_three,j_pick]
         repeat (refine⟨by omega,?_⟩)
         refine a0t ?_
         have eK:a1l line=false:=by
          unfold a1l;rw [hv,hv1,hv2];simp [a_text,a_wide,a_chunks,a_show,a_two,a_three,a_pick]
         rw [eK];simp only [go_sem];exact rlR
       ·have j_three:(((wdL line).length:Int)=3)=False:=eq_false (by omega);refine awN hΓ rfl ?_;simp only [go_sem,hv,hv1,hv2,hv3,j_text,j_wide,j_chunks,j_show,j_two,j_three]
        repeat (refine⟨by omega,?_⟩)
        refine a0t ?_
        have eK:a1l line=false:=by
         unfold a1l;rw [hv,hv1,hv2];simp [a_text,a_wide,a_chunks,a_show,a_two,a_three]
        rw [eK];simp only [go_sem];exact rlR
 rintro _;cases hA:a1l line with
 | false=>
   have e:rf6 line x=(a0q,true,x):=by unfold rf6;rw [if_neg (by rw [hA];decide)]
   refine awN hΓ rfl ?_;simp only [go_sem,hA]
   repeat (refine⟨by omega,?_⟩)
   rw [e] at hK;refine⟨_,a0e (fun p=>p) (l:=[(4,.st (a0q)),(5,.val (.bool true))]) (r:=[(0,.box v 110 16 (rsC (x)))]) (sz:=302) (top:=1) (nx:=nx) (df:=[]) ?_,?_⟩
   ·simp only [go_sem];exact rlR
   ·simp only [go_sem];exact hK nx (nLR _)
 | true=>
   cases hB:x.2.2 with
   | false=>
     have e:rf6 line x=(a3P,true,x):=by unfold rf6;rw [if_pos hA,if_neg (by rw [hB];decide)]
     refine awN hΓ rfl ?_;simp only [go_sem,hA,hB]
     repeat (refine⟨by omega,?_⟩)
     rw [e] at hK;refine⟨_,a0e (fun p=>p) (l:=[(4,.st (a3P)),(5,.val (.bool true))]) (r:=[(0,.box v 110 16 (rsC (x)))]) (sz:=302) (top:=1) (nx:=nx) (df:=[]) ?_,?_⟩
     ·simp only [go_sem];exact rlR
     ·simp only [go_sem];exact hK nx (nLR _)
   | true=>
     have e:rf6 line x=([],false,x):=by unfold rf6;rw [if_pos hA,if_pos hB]
     refine awN hΓ rfl ?_;simp only [go_sem,hA,hB]
     repeat (refine⟨by omega,?_⟩)
     rw [e] at hK;refine⟨_,a0e (fun p=>p) (l:=[(4,.st ([])),(5,.val (.bool false))]) (r:=[(0,.box v 110 16 (rsC (x)))]) (sz:=302) (top:=1) (nx:=nx) (df:=[]) ?_,?_⟩
     ·simp only [go_sem];exact rlR
     ·simp only [go_sem];exact hK nx (nLR _)
@[go_sem] noncomputable def d9L:a0p:=a0U c8p
theorem d50:a0f Tryz.prog 21 d9L:=d2n.frame
end
section
attribute [local irreducible] AW a0h a0H a0c a3o
def rs0:Rsh:=(([],[],[]),(([],[],[]),0,7,0),false)
@[go_sem] def d67:a0p:=fun args hp top nx K=>args=[]/\K (.pt top nx 0) (a0y hp top (.box nx 110 16 (rsC rs0))) (top+1) (nx+1)
theorem d1H:a0f Tryz.prog 19 d67:=by
 refine a0f.mk Tryz.func19 rfl (by decide) Tryz.results19 Tryz.ntmps19 ?_;rintro args hp top nx K ⟨rfl,hK⟩;have hΓ:=gkN;refine⟨Nat.le_of_ble_eq_true rfl,AW.know fun hd=>AW.late ?_⟩;refine awN hΓ rfl ?_;simp only [go_sem];refine⟨⟨frm [(0,.pt top nx 0)],a0y hp top (.box nx 110 16 (rsC rs0)),3,top+1,nx+1,[]⟩,a0H.mk rfl rfl (fun t=>?_) (fun p=>.inr ?_) (fun p hp'=>?_) (nLR _),?_⟩
 ·by_cases h:t=0
  ·subst h;exact avR
  ·have:frm [(0,.pt top nx 0)] t=.any:=by
    show (if t=0 then _ else _)=_;rw [if_neg h];rfl
   show a0h _ (frm [(0,.pt top nx 0)] t);rw [this];exact a0h.any _
 ·by_cases h0:p=top
  ·subst h0;dsimp only;rw [a0g,a0g];refine a0c.box fun j hj=>?_
   have hc:j=0\/j=1\/j=2\/j=3\/j=4\/j=5\/j=6\/j=7\/j=8\/j=9\/j=10\/j=11\/j=12\/j=13\/j=14\/j=15:=by omega
   rcases hc with rfl|rfl|rfl|rfl|rfl|rfl|rfl|rfl|rfl|rfl|rfl|rfl|rfl|rfl|rfl|rfl<;>exact avR
  ·dsimp only;rw [a0d _ _ h0,a0d _ _ h0];exact rlR
 ·have h':top+1<=p:=hp';show a0y hp top _ p=.dead;rw [a0d _ _ (by omega)];exact hd p (by exact (by omega:top<=p))
 ·simp only [go_sem];exact hK
def c7c (l:List BS):Bool:=decide (l.length<=100)&&decide (∀ s∈l,s.length<=100)
@[go_sem] def d7m:a0j:=a0j.f1 (kL eS) (fun l=>l.length<=140737488355328) (fun l=>kB.enc (c7c l))
theorem d4p:a0b Tryz.prog 17 d7m:=by
 refine a0b.f1 Tryz.func17 rfl (by decide) Tryz.results17 Tryz.ntmps17 (by decide) fun l hl=>?_
 have hΓ:=gkN;by_cases h1:100<l.length
 ·have hI:(100<(l.length:Int))=True:=eq_true (by omega);have e:c7c l=false:=by unfold c7c;rw [decide_eq_false (by omega)];rfl
  rw [e];refine awN hΓ rfl ?_;simp only [go_sem,hI]
 ·have hI:(100<(l.length:Int))=False:=eq_false (by omega);have e:c7c l=decide (∀ s∈l,s.length<=100):=by unfold c7c;rw [decide_eq_true (by omega)];rfl
  rw [e];refine awZ hΓ rfl ?_;simp only [go_sem,hI];refine AW.round (α:={ i:Nat // i<=l.length/\∀ s∈l.take i,s.length<=100 }) (fun i=>⟨[(0,sL eS l),(3,.val (.int .i64 i.1))],[],19,0,0,[]⟩) (fun i=>l.length-i.1) ⟨0,nZL _,by simp⟩ ?_ ?_
  ·simp only [go_sem]
  ·rintro⟨i,hi,hall⟩;rcases Nat.lt_or_ge i l.length with hlt|hge
   ·have hlI:((i:Int)<(l.length:Nat))=True:=eq_true (by omega);refine awN hΓ rfl ?_;simp only [go_sem,hlI];refine⟨by omega,fun hc=>?_,fun hc=>⟨by omega,⟨i+1,hlt,fun s hs=>?_⟩,by dsimp only;omega,by dsimp only;omega⟩⟩
    ·intro h;have:=h _ (a0F l [] hlt▸List.getElem_mem hlt);omega
    ·rw [a0K l [] hlt,List.mem_append,List.mem_singleton] at hs;rcases hs with hs|rfl
     ·exact hall s hs
     ·omega
   ·obtain rfl:i=l.length:=by omega
    have hlI:((l.length:Int)<(l.length:Nat))=False:=eq_false (by omega);rw [List.take_length] at hall;have e2:decide (∀ s∈l,s.length<=100)=true:=decide_eq_true hall;rw [e2];refine awN hΓ rfl ?_;simp only [go_sem,hlI]
theorem sn6 (a b c d e f:Int):a0h (.sn 6 1 fun i=>([fun _=>AV.val (.int .i64 a),fun _=>AV.val (.int .i64 b),fun _=>AV.val (.int .i64 c),fun _=>AV.val (.int .i64 d),fun _=>AV.val (.int .i64 e),fun _=>AV.val (.int .i64 f)]:List (Nat->AV)).getD i fun _=>AV.any) (sL eI [a,b,c,d,e,f]):=a0h.sn fun i hi j hj=>by
 have hc:i=0\/i=1\/i=2\/i=3\/i=4\/i=5:=by omega
 rcases hc with rfl|rfl|rfl|rfl|rfl|rfl<;>exact avR
@[go_sem] def d0t:a0j:=a0j.f2 (kA eRt) kI (fun r i=>b7u r.2.2.2.1/\0<=i/\i<r.2.2.2.1.length) (fun r i=>kS.enc (a5V (r.2.2.2.1.getD i.toNat eCk.dflt)))
theorem c4e:a0b Tryz.prog 123 d0t:=by
 refine a0b.f2 Tryz.func123 rfl (by decide) Tryz.results123 Tryz.ntmps123 (by decide) fun r i ⟨hok,hi0,hi1⟩=>?_
 have hΓ:=gkC b1O gkN;obtain⟨d,p1,p2,l,t,w,n⟩:=r;dsimp only at hok hi1 ⊢;obtain⟨k,rfl⟩:=Int.eq_ofNat_of_zero_le hi0;have hlt:k<l.length:=by omega
 rw [Int.toNat_natCast];obtain⟨⟨cs,⟨x1,x2⟩,⟨y1,y2⟩,z1,z2⟩,hg⟩:∃ c,l.getD k eCk.dflt=c:=⟨_,rfl⟩;have hc:=hok.2 _ (hg▸a0F l eCk.dflt hlt▸List.getElem_mem hlt);rw [hg];dsimp only at hc;obtain⟨⟨⟨c1,c1'⟩,c2,c2'⟩,⟨⟨c3,c3'⟩,c4,c4'⟩,⟨c5,c5'⟩,c6,c6'⟩:=hc;cases cs with
 | true=>
   refine awZ hΓ rfl ?_;simp only [go_sem,hg,a19];refine⟨⟨by omega,by omega⟩,AW.fork ?_⟩;refine awZ hΓ rfl ?_;simp only [go_sem,a19];refine awZ hΓ rfl ?_;simp only [go_sem,a19];refine AW.round (α:={ k:Nat // k<=6 }) (fun k=>⟨[(6,.st (Lib.join ([stW true,Lib.itoa x1,Lib.itoa x2,Lib.itoa y1,Lib.itoa y2,Lib.itoa z1,Lib.itoa z2].take (k.1+1)) [32])),(7,sL eI [x1,x2,y1,y2,z1,z2]),(8,.val (.int .i64 k.1))],[],48,0,2,[]⟩) (fun k=>6-k.1) ⟨0,nZL _⟩ ?_ ?_
   ·simp only [go_sem];exact⟨rfl,sn6 x1 x2 y1 y2 z1 z2⟩
   ·rintro⟨k,hk⟩;have hc:k=0\/k=1\/k=2\/k=3\/k=4\/k=5\/k=6:=by omega
    have hb:∀ m,(Lib.join ([stW true,Lib.itoa x1,Lib.itoa x2,Lib.itoa y1,Lib.itoa y2,Lib.itoa z1,Lib.itoa z2].take m) [32]).length<=7*8:=fun m=>by
     refine Nat.le_trans (b04 (k:=7) [32] fun x hx=>?_) (Nat.mul_le_mul_right 8 (by rw [List.length_take];exact Nat.min_le_right _ _));have hx:=List.mem_of_mem_take hx;simp only [List.mem_cons,List.not_mem_nil,or_false] at hx;rcases hx with rfl|rfl|rfl|rfl|rfl|rfl|rfl
     ·rw [b4H];omega
     ·exact a0s ⟨c1,c1'⟩
     ·exact a0s ⟨c2,c2'⟩
     ·exact a0s ⟨c3,c3'⟩
     ·exact a0s ⟨c4,c4'⟩
     ·exact a0s ⟨c5,c5'⟩
     ·exact a0s ⟨c6,c6'⟩
    rcases hc with rfl|rfl|rfl|rfl|rfl|rfl|rfl
    ·have hs:Lib.join ([stW true,Lib.itoa x1,Lib.itoa x2,Lib.itoa y1,Lib.itoa y2,Lib.itoa z1,Lib.itoa z2].take (0+1+1)) [32]=Lib.join ([stW true,Lib.itoa x1,Lib.itoa x2,Lib.itoa y1,Lib.itoa y2,Lib.itoa z1,Lib.itoa z2].take (0+1)) [32]++[32]++Lib.itoa x1:=by simp [Lib.join_cons,Lib.joinTail,Lib.join_nil]
     have hb1:=hb (0+1);have hi:=a0s (n:=x1) ⟨by omega,by omega⟩;generalize Lib.join ([stW true,Lib.itoa x1,Lib.itoa x2,Lib.itoa y1,Lib.itoa y2,Lib.itoa z1,Lib.itoa z2].take (0+1)) [32]=T1 at *
     refine awN hΓ rfl ?_;simp only [go_sem,a19];refine⟨by omega,⟨⟨by omega,by omega⟩,by omega⟩,by omega,⟨1,by omega⟩,⟨hs.symm,rfl⟩,by dsimp only;omega⟩
    ·have hs:Lib.join ([stW true,Lib.itoa x1,Lib.itoa x2,Lib.itoa y1,Lib.itoa y2,Lib.itoa z1,Lib.itoa z2].take (1+1+1)) [32]=Lib.join ([stW true,Lib.itoa x1,Lib.itoa x2,Lib.itoa y1,Lib.itoa y2,Lib.itoa z1,Lib.itoa z2].take (1+1)) [32]++[32]++Lib.itoa x2:=by simp [Lib.join_cons,Lib.joinTail,Lib.join_nil]
     have hb1:=hb (1+1);have hi:=a0s (n:=x2) ⟨by omega,by omega⟩;generalize Lib.join ([stW true,Lib.itoa x1,Lib.itoa x2,Lib.itoa y1,Lib.itoa y2,Lib.itoa z1,Lib.itoa z2].take (1+1)) [32]=T1 at *
     refine awN hΓ rfl ?_;simp only [go_sem,a19];refine⟨by omega,⟨⟨by omega,by omega⟩,by omega⟩,by omega,⟨2,by omega⟩,⟨hs.symm,rfl⟩,by dsimp only;omega⟩
    ·have hs:Lib.join ([stW true,Lib.itoa x1,Lib.itoa x2,Lib.itoa y1,Lib.itoa y2,Lib.itoa z1,Lib.itoa z2].take (2+1+1)) [32]=Lib.join ([stW true,Lib.itoa x1,Lib.itoa x2,Lib.itoa y1,Lib.itoa y2,Lib.itoa z1,Lib.itoa z2].take (2+1)) [32]++[32]++Lib.itoa y1:=by simp [Lib.join_cons,Lib.joinTail,Lib.join_nil]
     have hb1:=hb (2+1);have hi:=a0s (n:=y1) ⟨by omega,by omega⟩;generalize Lib.join ([stW true,Lib.itoa x1,Lib.itoa x2,Lib.itoa y1,Lib.itoa y2,Lib.itoa z1,Lib.itoa z2].take (2+1)) [32]=T1 at *
     refine awN hΓ rfl ?_;simp only [go_sem,a19];refine⟨by omega,⟨⟨by omega,by omega⟩,by omega⟩,by omega,⟨3,by omega⟩,⟨hs.symm,rfl⟩,by dsimp only;omega⟩
    ·have hs:Lib.join ([stW true,Lib.itoa x1,Lib.itoa x2,Lib.itoa y1,Lib.itoa y2,Lib.itoa z1,Lib.itoa z2].take (3+1+1)) [32]=Lib.join ([stW true,Lib.itoa x1,Lib.itoa x2,Lib.itoa y1,Lib.itoa y2,Lib.itoa z1,Lib.itoa z2].take (3+1)) [32]++[32]++Lib.itoa y2:=by simp [Lib.join_cons,Lib.joinTail,Lib.join_nil]
     have hb1:=hb (3+1);have hi:=a0s (n:=y2) ⟨by omega,by omega⟩;generalize Lib.join ([stW true,Lib.itoa x1,Lib.itoa x2,Lib.itoa y1,Lib.itoa y2,Lib.itoa z1,Lib.itoa z2].take (3+1)) [32]=T1 at *
     refine awN hΓ rfl ?_;simp only [go_sem,a19];refine⟨by omega,⟨⟨by omega,by omega⟩,by omega⟩,by omega,⟨4,by omega⟩,⟨hs.symm,rfl⟩,by dsimp only;omega⟩
    ·have hs:Lib.join ([stW true,Lib.itoa x1,Lib.itoa x2,Lib.itoa y1,Lib.itoa y2,Lib.itoa z1,Lib.itoa z2].take (4+1+1)) [32]=Lib.join ([stW true,Lib.itoa x1,Lib.itoa x2,Lib.itoa y1,Lib.itoa y2,Lib.itoa z1,Lib.itoa z2].take (4+1)) [32]++[32]++Lib.itoa z1:=by simp [Lib.join_cons,Lib.joinTail,Lib.join_nil]
     have hb1:=hb (4+1);have hi:=a0s (n:=z1) ⟨by omega,by omega⟩;generalize Lib.join ([stW true,Lib.itoa x1,Lib.itoa x2,Lib.itoa y1,Lib.itoa y2,Lib.itoa z1,Lib.itoa z2].take (4+1)) [32]=T1 at *
     refine awN hΓ rfl ?_;simp only [go_sem,a19];refine⟨by omega,⟨⟨by omega,by omega⟩,by omega⟩,by omega,⟨5,by omega⟩,⟨hs.symm,rfl⟩,by dsimp only;omega⟩
    ·have hs:Lib.join ([stW true,Lib.itoa x1,Lib.itoa x2,Lib.itoa y1,Lib.itoa y2,Lib.itoa z1,Lib.itoa z2].take (5+1+1)) [32]=Lib.join ([stW true,Lib.itoa x1,Lib.itoa x2,Lib.itoa y1,Lib.itoa y2,Lib.itoa z1,Lib.itoa z2].take (5+1)) [32]++[32]++Lib.itoa z2:=by simp [Lib.join_cons,Lib.joinTail,Lib.join_nil]
     have hb1:=hb (5+1);have hi:=a0s (n:=z2) ⟨by omega,by omega⟩;generalize Lib.join ([stW true,Lib.itoa x1,Lib.itoa x2,Lib.itoa y1,Lib.itoa y2,Lib.itoa z1,Lib.itoa z2].take (5+1)) [32]=T1 at *
     refine awN hΓ rfl ?_;simp only [go_sem,a19];refine⟨by omega,⟨⟨by omega,by omega⟩,by omega⟩,by omega,⟨6,by omega⟩,⟨hs.symm,rfl⟩,by dsimp only;omega⟩
    ·refine awN hΓ rfl ?_;simp only [go_sem];rfl
 | false=>
   refine awZ hΓ rfl ?_;simp only [go_sem,hg,a19];refine⟨⟨by omega,by omega⟩,AW.fork ?_⟩;refine awZ hΓ rfl ?_;simp only [go_sem,a19];refine awZ hΓ rfl ?_;simp only [go_sem,a19];refine AW.round (α:={ k:Nat // k<=6 }) (fun k=>⟨[(6,.st (Lib.join ([stW false,Lib.itoa x1,Lib.itoa x2,Lib.itoa y1,Lib.itoa y2,Lib.itoa z1,Lib.itoa z2].take (k.1+1)) [32])),(7,sL eI [x1,x2,y1,y2,z1,z2]),(8,.val (.int .i64 k.1))],[],48,0,2,[]⟩) (fun k=>6-k.1) ⟨0,nZL _⟩ ?_ ?_
   ·simp only [go_sem];exact⟨rfl,sn6 x1 x2 y1 y2 z1 z2⟩
   ·rintro⟨k,hk⟩;have hc:k=0\/k=1\/k=2\/k=3\/k=4\/k=5\/k=6:=by omega
    have hb:∀ m,(Lib.join ([stW false,Lib.itoa x1,Lib.itoa x2,Lib.itoa y1,Lib.itoa y2,Lib.itoa z1,Lib.itoa z2].take m) [32]).length<=7*8:=fun m=>by
     refine Nat.le_trans (b04 (k:=7) [32] fun x hx=>?_) (Nat.mul_le_mul_right 8 (by rw [List.length_take];exact Nat.min_le_right _ _));have hx:=List.mem_of_mem_take hx;simp only [List.mem_cons,List.not_mem_nil,or_false] at hx;rcases hx with rfl|rfl|rfl|rfl|rfl|rfl|rfl
     ·rw [b4H];omega
     ·exact a0s ⟨c1,c1'⟩
     ·exact a0s ⟨c2,c2'⟩
     ·exact a0s ⟨c3,c3'⟩
     ·exact a0s ⟨c4,c4'⟩
     ·exact a0s ⟨c5,c5'⟩
     ·exact a0s ⟨c6,c6'⟩
    rcases hc with rfl|rfl|rfl|rfl|rfl|rfl|rfl
    ·have hs:Lib.join ([stW false,Lib.itoa x1,Lib.itoa x2,Lib.itoa y1,Lib.itoa y2,Lib.itoa z1,Lib.itoa z2].take (0+1+1)) [32]=Lib.join ([stW false,Lib.itoa x1,Lib.itoa x2,Lib.itoa y1,Lib.itoa y2,Lib.itoa z1,Lib.itoa z2].take (0+1)) [32]++[32]++Lib.itoa x1:=by simp [Lib.join_cons,Lib.joinTail,Lib.join_nil]
     have hb1:=hb (0+1);have hi:=a0s (n:=x1) ⟨by omega,by omega⟩;generalize Lib.join ([stW false,Lib.itoa x1,Lib.itoa x2,Lib.itoa y1,Lib.itoa y2,Lib.itoa z1,Lib.itoa z2].take (0+1)) [32]=T1 at *
     refine awN hΓ rfl ?_;simp only [go_sem,a19];refine⟨by omega,⟨⟨by omega,by omega⟩,by omega⟩,by omega,⟨1,by omega⟩,⟨hs.symm,rfl⟩,by dsimp only;omega⟩
    ·have hs:Lib.join ([stW false,Lib.itoa x1,Lib.itoa x2,Lib.itoa y1,Lib.itoa y2,Lib.itoa z1,Lib.itoa z2].take (1+1+1)) [32]=Lib.join ([stW false,Lib.itoa x1,Lib.itoa x2,Lib.itoa y1,Lib.itoa y2,Lib.itoa z1,Lib.itoa z2].take (1+1)) [32]++[32]++Lib.itoa x2:=by simp [Lib.join_cons,Lib.joinTail,Lib.join_nil]
     have hb1:=hb (1+1);have hi:=a0s (n:=x2) ⟨by omega,by omega⟩;generalize Lib.join ([stW false,Lib.itoa x1,Lib.itoa x2,Lib.itoa y1,Lib.itoa y2,Lib.itoa z1,Lib.itoa z2].take (1+1)) [32]=T1 at *
     refine awN hΓ rfl ?_;simp only [go_sem,a19];refine⟨by omega,⟨⟨by omega,by omega⟩,by omega⟩,by omega,⟨2,by omega⟩,⟨hs.symm,rfl⟩,by dsimp only;omega⟩
    ·have hs:Lib.join ([stW false,Lib.itoa x1,Lib.itoa x2,Lib.itoa y1,Lib.itoa y2,Lib.itoa z1,Lib.itoa z2].take (2+1+1)) [32]=Lib.join ([stW false,Lib.itoa x1,Lib.itoa x2,Lib.itoa y1,Lib.itoa y2,Lib.itoa z1,Lib.itoa z2].take (2+1)) [32]++[32]++Lib.itoa y1:=by simp [Lib.join_cons,Lib.joinTail,Lib.join_nil]
     have hb1:=hb (2+1);have hi:=a0s (n:=y1) ⟨by omega,by omega⟩;generalize Lib.join ([stW false,Lib.itoa x1,Lib.itoa x2,Lib.itoa y1,Lib.itoa y2,Lib.itoa z1,Lib.itoa z2].take (2+1)) [32]=T1 at *
     refine awN hΓ rfl ?_;simp only [go_sem,a19];refine⟨by omega,⟨⟨by omega,by omega⟩,by omega⟩,by omega,⟨3,by omega⟩,⟨hs.symm,rfl⟩,by dsimp only;omega⟩
    ·have hs:Lib.join ([stW false,Lib.itoa x1,Lib.itoa x2,Lib.itoa y1,Lib.itoa y2,Lib.itoa z1,Lib.itoa z2].take (3+1+1)) [32]=Lib.join ([stW false,Lib.itoa x1,Lib.itoa x2,Lib.itoa y1,Lib.itoa y2,Lib.itoa z1,Lib.itoa z2].take (3+1)) [32]++[32]++Lib.itoa y2:=by simp [Lib.join_cons,Lib.joinTail,Lib.join_nil]
     have hb1:=hb (3+1);have hi:=a0s (n:=y2) ⟨by omega,by omega⟩;generalize Lib.join ([stW false,Lib.itoa x1,Lib.itoa x2,Lib.itoa y1,Lib.itoa y2,Lib.itoa z1,Lib.itoa z2].take (3+1)) [32]=T1 at *
     refine awN hΓ rfl ?_;simp only [go_sem,a19];refine⟨by omega,⟨⟨by omega,by omega⟩,by omega⟩,by omega,⟨4,by omega⟩,⟨hs.symm,rfl⟩,by dsimp only;omega⟩
    ·have hs:Lib.join ([stW false,Lib.itoa x1,Lib.itoa x2,Lib.itoa y1,Lib.itoa y2,Lib.itoa z1,Lib.itoa z2].take (4+1+1)) [32]=Lib.join ([stW false,Lib.itoa x1,Lib.itoa x2,Lib.itoa y1,Lib.itoa y2,Lib.itoa z1,Lib.itoa z2].take (4+1)) [32]++[32]++Lib.itoa z1:=by simp [Lib.join_cons,Lib.joinTail,Lib.join_nil]
     have hb1:=hb (4+1);have hi:=a0s (n:=z1) ⟨by omega,by omega⟩;generalize Lib.join ([stW false,Lib.itoa x1,Lib.itoa x2,Lib.itoa y1,Lib.itoa y2,Lib.itoa z1,Lib.itoa z2].take (4+1)) [32]=T1 at *
     refine awN hΓ rfl ?_;simp only [go_sem,a19];refine⟨by omega,⟨⟨by omega,by omega⟩,by omega⟩,by omega,⟨5,by omega⟩,⟨hs.symm,rfl⟩,by dsimp only;omega⟩
    ·have hs:Lib.join ([stW false,Lib.itoa x1,Lib.itoa x2,Lib.itoa y1,Lib.itoa y2,Lib.itoa z1,Lib.itoa z2].take (5+1+1)) [32]=Lib.join ([stW false,Lib.itoa x1,Lib.itoa x2,Lib.itoa y1,Lib.itoa y2,Lib.itoa z1,Lib.itoa z2].take (5+1)) [32]++[32]++Lib.itoa z2:=by simp [Lib.join_cons,Lib.joinTail,Lib.join_nil]
     have hb1:=hb (5+1);have hi:=a0s (n:=z2) ⟨by omega,by omega⟩;generalize Lib.join ([stW false,Lib.itoa x1,Lib.itoa x2,Lib.itoa y1,Lib.itoa y2,Lib.itoa z1,Lib.itoa z2].take (5+1)) [32]=T1 at *
     refine awN hΓ rfl ?_;simp only [go_sem,a19];refine⟨by omega,⟨⟨by omega,by omega⟩,by omega⟩,by omega,⟨6,by omega⟩,⟨hs.symm,rfl⟩,by dsimp only;omega⟩
    ·refine awN hΓ rfl ?_;simp only [go_sem];rfl
theorem c1M (l:List BS) (y sp:BS) (h:l≠[]):Lib.join (l++[y]) sp=Lib.join l sp++sp++y:=by
 cases l with
 | nil=>exact absurd rfl h
 | cons x r=>rw [List.cons_append,Lib.join_cons,Lib.join_cons];simp [Lib.joinTail,List.append_assoc]
@[go_sem] def c5M:a0j:=a0j.f1 (kA eRt) (fun r=>b7u r.2.2.2.1) (fun r=>kS.enc (a7D r.2.2.2.1))
theorem c13:a0b Tryz.prog 73 c5M:=by
 refine a0b.f1 Tryz.func73 rfl (by decide) Tryz.results73 Tryz.ntmps73 (by decide) fun r hok=>?_
 have hΓ:=gkC c4e gkN;obtain⟨d,p1,p2,l,t,w,n⟩:=r;dsimp only at hok ⊢;have hll:=hok.1;have hjl:=a4c hok;by_cases h0:l=[]
 ·subst h0;refine awN hΓ rfl ?_;simp only [go_sem];rfl
 have hp:0<l.length:=List.length_pos_iff.2 h0;have hI:((l.length:Int)=0)=False:=eq_false (by omega);have e:a7D l=Lib.join (l.map a5V) [59]:=by unfold a7D;rw [if_neg h0]
 have hb:∀ i,(Lib.join ((l.take i).map a5V) [59]).length<=2000000:=fun i=>a4c ⟨by rw [List.length_take];omega,fun c hc=>hok.2 c (List.mem_of_mem_take hc)⟩
 rw [e]
 have h1:Lib.join ((l.take 1).map a5V) [59]=a5V (l.getD 0 eCk.dflt):=by
  rw [a0K l eCk.dflt hp];simp [Lib.join_one]
 refine awZ hΓ rfl ?_;simp only [go_sem,hI];refine⟨⟨hok,by omega⟩,?_⟩;refine AW.round (α:={ i:Nat // 1<=i/\i<=l.length }) (fun i=>⟨[(1,.pt 0 0 0),(3,.st (Lib.join ((l.take i.1).map a5V) [59])),(4,.val (.int .i64 i.1))],[(0,.box 0 48 7 (eRt.enc (d,p1,p2,l,t,w,n)))],25,1,1,[]⟩) (fun i=>l.length-i.1) ⟨1,nLR _,hp⟩ ?_ ?_
 ·simp only [go_sem];exact⟨h1.symm,rlR⟩
 ·rintro⟨i,hi1,hi⟩;rcases Nat.lt_or_ge i l.length with hlt|hge
  ·have hlI:((i:Int)<(l.length:Nat))=True:=eq_true (by omega)
   have hs:Lib.join ((l.take (i+1)).map a5V) [59]=Lib.join ((l.take i).map a5V) [59]++[59]++a5V (l.getD i eCk.dflt):=by
    rw [a0K l eCk.dflt hlt,List.map_append]
    exact c1M _ _ _ fun h=>by
     have:=congrArg List.length h;rw [List.length_map,List.length_take,List.length_nil] at this;omega
   have hb1:=hb i;have hb2:=hb (i+1);rw [hs] at hb2;simp only [lAp,lCo,List.length_nil] at hb2;refine awN hΓ rfl ?_;simp only [go_sem,hlI];exact⟨by omega,⟨hok,by omega⟩,by omega,⟨by omega,by omega⟩,⟨i+1,by omega,hlt⟩,⟨⟨hs.symm,rfl⟩,rlR⟩,by dsimp only;omega⟩
  ·obtain rfl:i=l.length:=by omega
   have hlI:((l.length:Int)<(l.length:Nat))=False:=eq_false (by omega);refine awN hΓ rfl ?_;simp only [go_sem,hlI]
end
set_option maxHeartbeats 4000000
section
attribute [local irreducible] AW a0h a0H a0c
abbrev rSt (v:Nat) (l:List StE):Row:=a0G v 86 (eP eI (eL eS)) l
theorem b2o {l:List StE} {k:Int} {ts:List (List UInt8)} {q v:Nat} {d:Nat->Nat->AV} (h0:d 0 0=.val (.int .i64 k)) (h1:d 0 1=.ow q v ts.length) :
  ∀ i,i<l.length+1->∀ j,j<2->a0h (fz q v ts.length 1 (fun i=>eS.enc (ts.getD i [])) (apC l.length (fun i=>(eP eI (eL eS)).enc (l.getD i (0,[]))) d i j)) ((eP eI (eL eS)).enc ((l++[(k,ts)]).getD i (0,[])) j):=fun i hi j hj=>by
 unfold apC;by_cases h:i<l.length
 ·rw [if_pos h];rw [show (l++[(k,ts)]).getD i (0,[])=l.getD i (0,[]) by simp [List.getD,List.getElem?_append_left h]]
  match j,hj with
  | 0,_=>exact avR
  | 1,_=>exact avR
 ·obtain rfl:i=l.length:=by omega
  rw [if_neg h,Nat.sub_self];rw [show (l++[(k,ts)]).getD l.length (0,[])=(k,ts) by simp [List.getD]]
  match j,hj with
  | 0,_=>rw [h0];exact avR
  | 1,_=>
    rw [h1];simp only [fz,and_self,if_true,nLR];exact avR
def c6B:a0p:=fun args hp top nx K=>∃ l v k y ts,a0h y (sL eS ts)/\args=[.ow 0 v l.length,kI.enc k,y]/\hp=rws [(0,rSt v l)]/\top=1/\l.length<10000000/\ts.length<1000000000/\
 ∀ v' nx',(v'=v\/nx<=v')->nx<=nx'->K (.ow 0 v' (a2V l k ts).length) (rws [(0,rSt v' (a2V l k ts))]) 1 nx'
theorem c8n:a0f Tryz.prog 43 c6B:=by
 refine a0f.mk Tryz.func43 rfl (by decide) Tryz.results43 Tryz.ntmps43 ?_;rintro args hp top nx K ⟨l,v,k,y,ts,hy,rfl,rfl,rfl,hl,ht,hK⟩;have hΓ:=gkM a7O gkN;refine⟨Nat.le_of_ble_eq_true rfl,AW.late ?_⟩;refine AW.le (a7o (.cons  avR  (.cons  avR  (.cons hy .nil)))) ?_;by_cases h0:ts.length=0
 ·obtain rfl:=List.length_eq_zero_iff.1 h0;refine awN hΓ rfl ?_;simp only [go_sem,a1f];refine⟨_,a0H.refl _,?_⟩;simp only [go_sem];exact hK v nx (.inl rfl) (nLR _)
 ·have hts:((ts.length:Int)=0)=False:=eq_false (by omega);refine awN hΓ rfl ?_;simp only [go_sem,a1f,hts];refine⟨sL eS ts,ts,rfl,avR,ht,fun ver nx' h1 h2=>⟨by omega,_,(a0H.freeze 1 ver 9 1 ts.length (fun i=>eS.enc (ts.getD i [])) rfl fun i _ j _=>rfl).trans (a0e (fun p=>p) (l:=[(6,.ow 0 (nx'+1) (l.length+1))]) (r:=[(0,rSt (nx'+1) (a2V l k ts))]) (sz:=18) (top:=1) (nx:=nx'+1+1) (df:=[]) ?_),?_⟩⟩
  ·rw [a3m h0];simp only [go_sem,a1f];exact a0c.sl (by simp) (b2o rfl rfl)
  ·simp only [go_sem];have:=hK (nx'+1) (nx'+1+1) (.inr (by omega)) (by omega)
   rwa [show (a2V l k ts).length=l.length+1 by rw [a3m h0];simp] at this
def c6w:a0p:=fun args hp top nx K=>∃ k y ts,a0h y (sL eS ts)/\args=[.em,kI.enc k,y]/\hp=(fun _=>.dead)/\top=0/\ts.length<1000000000/\∀ v' nx',nx<=v'->v'<nx'->K (.ow 0 v' (a2V [] k ts).length) (rws [(0,rSt v' (a2V [] k ts))]) 1 nx'
theorem c7S:a0f Tryz.prog 43 c6w:=by
 refine a0f.mk Tryz.func43 rfl (by decide) Tryz.results43 Tryz.ntmps43 ?_;rintro args hp top nx K ⟨k,y,ts,hy,rfl,rfl,rfl,ht,hK⟩;have hΓ:=gkM a7O gkN;refine⟨Nat.le_of_ble_eq_true rfl,AW.late ?_⟩;refine AW.le (a7o (.cons  avR  (.cons  avR  (.cons hy .nil)))) ?_;refine AW.adopt 0 86 2 (fun i=>(eP eI (eL eS)).enc (([]:List StE).getD i (0,[]))) rfl ?_;by_cases h0:ts.length=0
 ·obtain rfl:=List.length_eq_zero_iff.1 h0;refine awN hΓ rfl ?_;simp only [go_sem,a1f];refine⟨_,a0e (fun p=>p) (l:=[(6,.ow 0 nx 0)]) (r:=[(0,rSt nx [])]) (sz:=18) (top:=1) (nx:=nx+1) (df:=[]) ?_,?_⟩
  ·simp only [go_sem,a1f];exact rlR
  ·simp only [go_sem];exact hK nx (nx+1) (nLR _) (by omega)
 ·have hts:((ts.length:Int)=0)=False:=eq_false (by omega);refine awN hΓ rfl ?_;simp only [go_sem,a1f,hts];refine⟨sL eS ts,ts,rfl,avR,ht,fun ver nx' h1 h2=>⟨_,(a0H.freeze 1 ver 9 1 ts.length (fun i=>eS.enc (ts.getD i [])) rfl fun i _ j _=>rfl).trans (a0e (fun p=>p) (l:=[(6,.ow 0 (nx'+1) 1)]) (r:=[(0,rSt (nx'+1) (a2V [] k ts))]) (sz:=18) (top:=1) (nx:=nx'+1+1) (df:=[]) ?_),?_⟩⟩
  ·rw [a3m h0];simp only [go_sem,a1f];exact a0c.sl (by simp) (b2o (l:=[]) rfl rfl)
  ·simp only [go_sem];have:=hK (nx'+1) (nx'+1+1) (by omega) (by omega)
   rwa [show (a2V [] k ts).length=1 by rw [a3m h0];simp] at this
@[go_sem] def c3c:a0p:=fun args hp top nx K=>a0U c6B args hp top nx K\/c50 c6w args hp top nx K
theorem d3c:a0f Tryz.prog 43 c3c:=c8n.frame.or c7S.fresh
theorem b3F {l:List StE} {v q n:Nat} {k:Int} {y:AV} {ts:List (List UInt8)} {hp:Nat->Row} {top nx:Nat} {K:AV->(Nat->Row)->Nat->Nat->Prop} (hn:n=l.length) (hy:a0h y (sL eS ts)) (hr:a0c (hp q) (rSt v l)) (ht:q<top) (hl:l.length<10000000) (hl2:ts.length<1000000000)
  (hK:∀ v' nx',nx<=nx'->K (.ow q v' (a2V l k ts).length) (a0y hp q (rSt v' (a2V l k ts))) top nx'):c3c [.ow q v n,.val (.int .i64 k),y] hp top nx K:=by
 subst hn;have hver:(hp q).ver=some v:=hr.vers.symm;refine .inl ⟨[q],[.ow 0 v l.length,kI.enc k,y],rws [(0,rSt v l)],by simp,by simpa using ht,.cons a0h.ow (.cons  avR  (.cons  avR  .nil)),a7a hr,fun i hi=>a1b (top:=1) (by simp) i (by simpa using hi),l,v,k,y,ts,hy,rfl,rfl,rfl,hl,hl2,fun v' nx' h1 h3=>?_⟩;refine⟨.ow q v' (a2V l k ts).length,_,a0h.ow,fun i r hr=>?_,fun r hr=>?_,fun r hr w hw=>?_,hK v' nx' h3⟩
 ·cases i with
  | zero=>
    simp only [gCZ,oSI] at hr;subst hr;rw [a0g];exact rlR
  | succ i=>simp at hr
 ·rw [a0d _ _ (by simpa using hr)]
 ·simp only [List.mem_singleton] at hr;subst hr;rw [a0g] at hw;have:some v'=some w:=hw;obtain rfl:=oJI this;rcases h1 with rfl|h1
  ·exact .inl hver
  ·exact .inr h1
theorem c84 {k:Int} {y:AV} {ts:List (List UInt8)} {hp:Nat->Row} {top nx:Nat} {K:AV->(Nat->Row)->Nat->Nat->Prop} (hy:a0h y (sL eS ts)) (hl2:ts.length<1000000000)
  (hK:∀ v' nx',nx<=v'->v'<nx'->K (.ow top v' (a2V [] k ts).length) (a0y hp top (rSt v' (a2V [] k ts))) (top+1) nx'):c3c [.em,.val (.int .i64 k),y] hp top nx K:=
 .inr ⟨[.em,kI.enc k,y],.cons  avR  (.cons  avR  (.cons  avR  .nil)),k,y,ts,hy,rfl,rfl,rfl,hl2,fun v' nx' h1 h2=>⟨v',_,_,rfl,rfl,rfl,h1,hK v' nx' h1 h2⟩⟩
abbrev rHk (v:Nat) (l:List Hk):Row:=a0G v 84 (eP eI (eP eI (eL (eP eI (eL eS))))) l
def b5b:a0p:=fun args hp top nx K=>∃ l v x h,a0h x ((kA (eP eI (eP eI (eL (eP eI (eL eS)))))).enc h)/\args=[.ow 0 v l.length,x]/\hp=rws [(0,rHk v l)]/\top=1/\l.length<1000000/\h.2.2.length<100000000/\
 ∀ v' nx',(v'=v\/nx<=v')->nx<=nx'->K (.ow 0 v' (a5z l h).length) (rws [(0,rHk v' (a5z l h))]) 1 nx'
theorem b8s:a0f Tryz.prog 45 b5b:=by
 refine a0f.mk Tryz.func45 rfl (by decide) Tryz.results45 Tryz.ntmps45 ?_;rintro args hp top nx K ⟨l,v,x,h,hx,rfl,rfl,rfl,hl,hs,hK⟩;have hΓ:=gkC b0p gkN;refine⟨Nat.le_of_ble_eq_true rfl,AW.late ?_⟩;refine AW.le (a7o (.cons  avR  (.cons hx .nil))) ?_;cases hc:a9u h.2.2 with
 | false=>
   have e:a5z l h=l:=by unfold a5z;rw [if_neg (by rw [hc];simp)]
   refine awN hΓ rfl ?_;simp only [go_sem,a2y,b3r,hk0,hk1,hk2,hc];refine⟨hs,_,a0e (fun p=>p) (l:=[(4,.ow 0 v l.length)]) (r:=[(0,rHk v l)]) (sz:=14) (top:=1) (nx:=nx+1) (df:=[]) ?_,?_⟩
   ·simp only [go_sem,a2y,b3r];exact rlR
   ·simp only [go_sem];have:=hK v (nx+1) (.inl rfl) (by omega)
    rwa [e] at this
 | true=>
   have e:a5z l h=l++[h]:=by unfold a5z;rw [if_pos hc]
   refine awN hΓ rfl ?_;simp only [go_sem,a2y,b3r,hk0,hk1,hk2,hc];refine⟨hs,by omega,_,a0e (fun p=>p) (l:=[(4,.ow 0 (nx+1) (l.length+1))]) (r:=[(0,rHk (nx+1) (a5z l h))]) (sz:=14) (top:=1) (nx:=nx+1+1) (df:=[]) ?_,?_⟩
   ·rw [e];simp only [go_sem,a2y,b3r];exact a02 (E:=eHk) rfl rfl rfl rfl (by simp) fun j hj=>avR
   ·simp only [go_sem];have:=hK (nx+1) (nx+1+1) (.inr (by omega)) (by omega)
    rwa [e,show (l++[h]).length=l.length+1 by simp,<-e] at this
def c0a:a0p:=a0U b5b
theorem c14:a0f Tryz.prog 45 c0a:=b8s.frame
@[go_sem] def b47:a0p:=c0a
theorem b2N {l:List Hk} {v q n:Nat} {h:Hk} {x:AV} {hp:Nat->Row} {top nx:Nat} {K:AV->(Nat->Row)->Nat->Nat->Prop} (hn:n=l.length) (hx:a0h x ((kA (eP eI (eP eI (eL (eP eI (eL eS)))))).enc h)) (hr:a0c (hp q) (rHk v l)) (ht:q<top) (hl:l.length<1000000) (hl2:h.2.2.length<100000000)
  (hK:∀ v' nx',nx<=nx'->K (.ow q v' (a5z l h).length) (a0y hp q (rHk v' (a5z l h))) top nx'):b47 [.ow q v n,x] hp top nx K:=by
 subst hn;have hver:(hp q).ver=some v:=hr.vers.symm;refine⟨[q],[.ow 0 v l.length,x],rws [(0,rHk v l)],by simp,by simpa using ht,.cons a0h.ow (.cons  avR  .nil),a7a hr,fun i hi=>a1b (top:=1) (by simp) i (by simpa using hi),l,v,x,h,hx,rfl,rfl,rfl,hl,hl2,fun v' nx' h1 h3=>?_⟩;refine⟨.ow q v' (a5z l h).length,_,a0h.ow,fun i r hr=>?_,fun r hr=>?_,fun r hr w hw=>?_,hK v' nx' h3⟩
 ·cases i with
  | zero=>
    simp only [gCZ,oSI] at hr;subst hr;rw [a0g];exact rlR
  | succ i=>simp at hr
 ·rw [a0d _ _ (by simpa using hr)]
 ·simp only [List.mem_singleton] at hr;subst hr;rw [a0g] at hw;have:some v'=some w:=hw;obtain rfl:=oJI this;rcases h1 with rfl|h1
  ·exact .inl hver
  ·exact .inr h1
end
section
abbrev rHx (v:Nat) (l:List Hk) (A B:Int) (x:AV):Row:=.sl v 84 3 (l.length+1) (apC l.length (fun i=>(eP eI (eP eI (eL (eP eI (eL eS))))).enc (l.getD i (0,0,[]))) fun _ j=>if j=0 then .val (.int .i64 A) else if j=1 then .val (.int .i64 B) else x)
abbrev rSx (v:Nat) (st:List StE) (k:Int) (x:AV):Row:=.sl v 86 2 (st.length+1) (apC st.length (fun i=>(eP eI (eL eS)).enc (st.getD i (0,[]))) fun _ j=>if j=0 then .val (.int .i64 k) else x)
attribute [local irreducible] AW a0h a0H a0c
end
set_option maxHeartbeats 8000000
section
attribute [local irreducible] AW a0h a0H a0c
theorem b9e {l:List Hk} {i:Nat} (h:i<l.length):a5r (l.take (i+1))=a5r (l.take i)++c8f (l.getD i (0,0,[])):=by
 rw [a0K l (0,0,[]) h];simp [a5r]
theorem c8q (l:List Hk) (i:Nat):(a5r (l.take i)).length<=(a5r l).length:=by
 have h:a5r (l.take i++l.drop i)=a5r (l.take i)++a5r (l.drop i):=by unfold a5r;rw [List.map_append,List.flatten_append]
 rw [List.take_append_drop] at h;rw [h,lAp];omega
def a1O (st:List StE):List UInt8:=(st.map c5q).flatten
theorem b3t {l:List StE} {i:Nat} (h:i<l.length):a1O (l.take (i+1))=a1O (l.take i)++c5q (l.getD i (0,[])):=by
 rw [a0K l (0,[]) h];simp [a1O]
theorem b8V (l:List StE) (i:Nat):(a1O (l.take i)).length<=(a1O l).length:=by
 have h:a1O (l.take i++l.drop i)=a1O (l.take i)++a1O (l.drop i):=by unfold a1O;rw [List.map_append,List.flatten_append]
 rw [List.take_append_drop] at h;rw [h,lAp];omega
def a1A (k:Int) (ts:List (List UInt8)):List UInt8:=(ts.map (a5O k)).flatten
theorem b3H {k:Int} {l:List (List UInt8)} {i:Nat} (h:i<l.length):a1A k (l.take (i+1))=a1A k (l.take i)++a5O k (l.getD i []):=by
 rw [a0K l [] h];simp [a1A]
theorem c0s (k:Int) (l:List (List UInt8)) (i:Nat):(a1A k (l.take i)).length<=(a1A k l).length:=by
 have h:a1A k (l.take i++l.drop i)=a1A k (l.take i)++a1A k (l.drop i):=by unfold a1A;rw [List.map_append,List.flatten_append]
 rw [List.take_append_drop] at h;rw [h,lAp];omega
theorem c7v (h:Hk):a5u h≠[]:=by simp [a5u,d7k]
theorem a6J:∀ {l:List Hk} {n s:Int},a1F l n s=true->∀ h∈l,a0r (-1) h.2.2=true
 | [],_,_,_,h,hm=>by cases hm
 | g::r,n,s,hr,h,hm=>by
   rw [a1F,Bool.and_eq_true] at hr;rcases List.mem_cons.1 hm with rfl|hm
   ·have:=hr.1;unfold b4a at this;simp only [Bool.and_eq_true] at this;exact this.1.1
   ·exact a6J hr.2 h hm
theorem d3k (hp:Nat->Row) (h:Hk):(kA (eP eI (eP eI (eL (eP eI (eL eS)))))).dec (.ag 3 fun j=>if j<3 then vw0 hp ((eP eI (eP eI (eL (eP eI (eL eS))))).enc h j) else .any)=h:=by
 show (h.1,h.2.1,gL (eP eI (eL eS)) (sL (eP eI (eL eS)) h.2.2))=h;rw [a4r]
theorem d6Y (hp:Nat->Row) (h:Hk):(kA (eP eI (eP eI (eL (eP eI (eL eS)))))).ok (.ag 3 fun j=>if j<3 then vw0 hp ((eP eI (eP eI (eL (eP eI (eL eS))))).enc h j) else .any)=True:=by
 refine eq_true ?_;unfold Kd.ok;rw [d3k];refine a0h.ag fun j hj=>?_
 match j,hj with
 | 0,_=>exact avR
 | 1,_=>exact avR
 | 2,_=>exact avR
@[go_sem] def c9W:a0j:=a0j.f1 (kL (eP eI (eP eI (eL (eP eI (eL eS)))))) (fun l=>d5h l/\(∀ h∈l,(0<=h.1/\h.1<=1000000)/\0<=h.2.1/\h.2.1<=100000000)/\(a5r l).length<=50000000000) (fun l=>kS.enc (a1E l))
theorem b4X:a0b Tryz.prog 32 c9W:=by
 refine a0b.f1 Tryz.func32 rfl (by decide) Tryz.results32 Tryz.ntmps32 (by decide) fun l ⟨ho,hb,hlen⟩=>?_
 have hΓ:=gkC c28 (gkC c99 (gkM b53 (gkM c27 (gkC b2J (gkM c59 gkN)))));have hR0:a1F l 0 0=true\/a1F l 0 0=false:=by cases a1F l 0 0<;>simp
 rcases hR0 with hR|hR
 ·have eT:a1E l=a5r l:=by unfold a1E;rw [if_pos hR]
  have hl0:=ho.1;rw [eT];refine awL hΓ [0] rfl ?_;simp only [go_sem,a2y];refine AW.seqTo (fun _:Unit=>Sh.st ⟨[(0,sL (eP eI (eP eI (eL (eP eI (eL eS))))) l)],[],50,0,0,[]⟩) ?_ fun _=>?_
  ·refine awZ hΓ rfl ?_;simp only [go_sem,a2y,hR];refine⟨ho,(),a0t ?_⟩;simp only [go_sem]
  refine AW.fork (AW.regionO hΓ [true] ?_);simp only [go_sem];refine b0O rfl b3T (Nat.lt_of_lt_of_le (by decide:3<50) (nLR _)) ?_;simp only [go_sem];refine AW.cut ⟨[(0,sL (eP eI (eP eI (eL (eP eI (eL eS))))) l),(3,.pt 0 0 0)],[(0,.box 0 138 2 (a5P false 0 0 1 0 [])),(1,a6w 0 [])],50,2,1,[]⟩ ?_ ?_
  ·simp only [go_sem];refine⟨a0c.box fun j hj=>?_,rlR⟩
   match j,hj with
   | 0,_=>exact avR
   | 1,_=>exact avR
  refine awZ hΓ rfl ?_;simp only [go_sem,a2y]
  refine AW.round (α:={ x:Nat×Bool×Nat×Nat // x.1<=l.length })
   (fun x=>⟨[(3,.pt 0 0 0),(13,sL (eP eI (eP eI (eL (eP eI (eL eS))))) l),(14,.val (.int .i64 l.length)),(15,.val (.int .i64 x.1.1))],
    [(0,.box 0 138 2 (a5P x.1.2.1 0 0 1 x.1.2.2.1 (a5r (l.take x.1.1)))),(1,a6w x.1.2.2.1 (a5r (l.take x.1.1)))],50,2,x.1.2.2.2,[]⟩) (fun x=>l.length-x.1.1) ⟨(0,false,0,1),nZL _⟩ ?_ ?_
  ·simp only [go_sem,a2y];rw [show a5r (List.take 0 l)=[] by simp [a5r]];exact⟨rlR,rlR⟩
  ·rintro⟨⟨i,f,u,nx⟩,hi⟩;dsimp only at hi;rcases Nat.lt_or_ge i l.length with hlt|hge
   ·have hlI:((i:Int)<(l.length:Nat))=True:=eq_true (by omega)
    have hm:l.getD i (0,0,[])∈l:=by
     simp only [List.getD,List.getElem?_eq_getElem hlt,Option.getD_some];exact List.getElem_mem _
    have hh:=hb _ hm;have hre:=a6J hR _ hm;have hok:=ho.2 _ hm;have e1:=b9e hlt;have e2:=c8q l (i+1);generalize hge:l.getD i (0,0,[])=g at *
    refine awL hΓ [6,8] rfl ?_;simp only [go_sem,a2y,b3r,hlI,hge];refine⟨by omega,?_⟩;obtain⟨A,B,st⟩:=g;dsimp only at hh hre
    refine AW.cut ⟨[(3,.pt 0 0 0),(5,.pt 2 nx 0),(13,sL (eP eI (eP eI (eL (eP eI (eL eS))))) l),(14,.val (.int .i64 l.length)),(15,.val (.int .i64 i))],
     [(0,.box 0 138 2 (a5P f 0 0 1 u (a5r (l.take i)))),(1,a6w u (a5r (l.take i))),(2,.box nx 84 3 ((eP eI (eP eI (eL (eP eI (eL eS))))).enc (A,B,st)))],50,3,nx+1,[]⟩ ?_ ?_
    ·simp only [go_sem,a2y];exact⟨rlR,rlR,a0c.box fun j hj=>a0h.of_eq (a8D (nZL _) (by omega))⟩
    obtain⟨⟨k1,k2⟩,k3,k4⟩:=hok;dsimp only at k1 k2 k3 k4;refine awL hΓ [7,8] rfl ?_;simp only [go_sem,a2y,b3r,hk0,hk1,hk2,d6Y];have hT:c8f (A,B,st)=a5u (A,B,st)++a1O st:=rfl;rw [hT] at e1
    have e3:(a5r (l.take i)).length+(a5u (A,B,st)).length+(a1O st).length<=50000000000:=by
     rw [e1] at e2;simp only [lAp] at e2;omega
    refine⟨⟨hh.1,hh.2,k1,k2⟩,a3H (by decide)  rlR   rlR  (by decide) (by omega) fun u1 n1 g1 h1=>?_⟩;simp only [go_sem,a2y,b3r,hk0,hk1,hk2];refine awL hΓ [8] rfl ?_;simp only [go_sem,a2y,b3r,hk0,hk1,hk2]
    refine AW.to (fun x:Nat×Nat=>Sh.st ⟨[(3,.pt 0 0 0),(13,sL (eP eI (eP eI (eL (eP eI (eL eS))))) l),(14,.val (.int .i64 l.length)),(15,.val (.int .i64 i))],
     [(0,.box 0 138 2 (a5P true 0 0 1 x.1 (a5r (l.take (i+1))))),(1,a6w x.1 (a5r (l.take (i+1))))],50,2,x.2,[]⟩) ?_ fun x=>?_
    ·refine AW.block (AW.round (α:={ x:Nat×Nat×Nat // x.1<=st.length })
      (fun x=>⟨[(3,.pt 0 0 0),(13,sL (eP eI (eP eI (eL (eP eI (eL eS))))) l),(14,.val (.int .i64 l.length)),(15,.val (.int .i64 i)),(23,sL (eP eI (eL eS)) st),(24,.val (.int .i64 st.length)),(25,.val (.int .i64 x.1.1))],
       [(0,.box 0 138 2 (a5P true 0 0 1 x.1.2.1 (a5r (l.take i)++a5u (A,B,st)++a1O (st.take x.1.1)))),(1,a6w x.1.2.1 (a5r (l.take i)++a5u (A,B,st)++a1O (st.take x.1.1)))],50,2,x.1.2.2,[]⟩) (fun x=>st.length-x.1.1) ⟨(0,u1,n1),nZL _⟩ ?_ ?_)
     ·simp only [go_sem,a2y,b3r,hk0,hk1,hk2];rw [show a1O (List.take 0 st)=[] by simp [a1O],List.append_nil];exact⟨rlR,rlR⟩
     ·rintro⟨⟨j,u2,n2⟩,hj⟩;dsimp only at hj;rcases Nat.lt_or_ge j st.length with hjt|hjg
      ·have hjI:((j:Int)<(st.length:Nat))=True:=eq_true (by omega)
       have jm:st.getD j (0,[])∈st:=by
        simp only [List.getD,List.getElem?_eq_getElem hjt,Option.getD_some];exact List.getElem_mem _
       have jk:=b7C hre _ jm;have j2:=k2 _ jm;have j3:=k3 _ jm;have d1:=b3t hjt;have d2:=b8V st (j+1);generalize hgj:st.getD j (0,[])=s at *
       refine awL hΓ [10,11] rfl ?_;simp only [go_sem,a1f,a9r,hjI,hgj];refine⟨by omega,?_⟩;obtain⟨k,ts⟩:=s;dsimp only at jk j2 j3;have hsT:c5q (k,ts)=a1A k ts:=rfl;rw [hsT] at d1;have hne:a5r (l.take i)++a5u (A,B,st)++a1O (st.take j)≠[]:=by simp [c7v]
       have hnl:(a5r (l.take i)++a5u (A,B,st)++a1O (st.take j)).length+(a1A k ts).length<=50000000000:=by
        rw [d1] at d2;simp only [lAp] at d2 ⊢;omega
       have d3:a5r (l.take i)++a5u (A,B,st)++a1O (st.take (j+1))=a5r (l.take i)++a5u (A,B,st)++a1O (st.take j)++a1A k ts:=by rw [d1,<-List.append_assoc]
       generalize hP:a5r (l.take i)++a5u (A,B,st)++a1O (st.take j)=pre at d3 hne hnl ⊢
       refine AW.cut ⟨[(3,.pt 0 0 0),(7,.pt 2 n2 0),(13,sL (eP eI (eP eI (eL (eP eI (eL eS))))) l),(14,.val (.int .i64 l.length)),(15,.val (.int .i64 i)),(23,sL (eP eI (eL eS)) st),(24,.val (.int .i64 st.length)),(25,.val (.int .i64 j))],
        [(0,.box 0 138 2 (a5P true 0 0 1 u2 pre)),(1,a6w u2 pre),(2,.box n2 86 2 ((eP eI (eL eS)).enc (k,ts)))],50,3,n2+1,[]⟩ ?_ ?_
       ·simp only [go_sem,a1f];exact⟨rlR,rlR,a0c.box fun j hj=>a0h.of_eq (a8D (nZL _) (by omega))⟩
       refine awL hΓ [11] rfl ?_;simp only [go_sem,a1f,a9r,sp0,sp1]
       refine AW.to (fun x:Nat×Nat=>Sh.st ⟨[(3,.pt 0 0 0),(13,sL (eP eI (eP eI (eL (eP eI (eL eS))))) l),(14,.val (.int .i64 l.length)),(15,.val (.int .i64 i)),(23,sL (eP eI (eL eS)) st),(24,.val (.int .i64 st.length)),(25,.val (.int .i64 j))],
        [(0,.box 0 138 2 (a5P true 0 0 1 x.1 (pre++a1A k ts))),(1,a6w x.1 (pre++a1A k ts))],50,2,x.2,[]⟩) ?_ fun x=>?_
       ·refine AW.block (AW.round (α:={ x:Nat×Nat×Nat // x.1<=ts.length })
         (fun x=>⟨[(3,.pt 0 0 0),(7,.pt 2 n2 0),(13,sL (eP eI (eP eI (eL (eP eI (eL eS))))) l),(14,.val (.int .i64 l.length)),(15,.val (.int .i64 i)),(23,sL (eP eI (eL eS)) st),(24,.val (.int .i64 st.length)),(25,.val (.int .i64 j)),(30,sL eS ts),(31,.val (.int .i64 ts.length)),(32,.val (.int .i64 x.1.1))],
          [(0,.box 0 138 2 (a5P true 0 0 1 x.1.2.1 (pre++a1A k (ts.take x.1.1)))),(1,a6w x.1.2.1 (pre++a1A k (ts.take x.1.1))),(2,.box n2 86 2 ((eP eI (eL eS)).enc (k,ts)))],50,3,x.1.2.2,[]⟩) (fun x=>ts.length-x.1.1) ⟨(0,u2,n2+1),nZL _⟩ ?_ ?_)
        ·simp only [go_sem,a1f,a9r,sp0,sp1];rw [show a1A k (List.take 0 ts)=[] by simp [a1A],List.append_nil];exact⟨rlR,rlR,rlR⟩
        ·rintro⟨⟨m,u3,n3⟩,hm'⟩;dsimp only at hm';rcases Nat.lt_or_ge m ts.length with hmt|hmg
         ·have hmI:((m:Int)<(ts.length:Nat))=True:=eq_true (by omega);have t1:=b3H (k:=k) hmt;have t2:=c0s k ts (m+1)
          have t3:(ts.getD m []).length<=100000000:=by
           simp only [List.getD,List.getElem?_eq_getElem hmt,Option.getD_some];exact j3 _ (List.getElem_mem _)
          have hne2:pre++a1A k (ts.take m)≠[]:=by simp [hne]
          have hnl2:(pre++a1A k (ts.take m)).length+(a5O k (ts.getD m [])).length<=50000000000:=by
           rw [t1] at t2;simp only [lAp] at t2 ⊢;omega
          have t5:pre++a1A k (ts.take (m+1))=pre++a1A k (ts.take m)++a5O k (ts.getD m []):=by rw [t1,<-List.append_assoc]
          generalize hline:ts.getD m []=line at t3 hnl2 t5 ⊢;generalize hQ:pre++a1A k (ts.take m)=acc at hne2 hnl2 t5 ⊢;have hsx:=b5X line;cases hE:a0C line with
          | true=>
            have hL:acc++[d20 k]++line=acc++a5O k line:=by unfold a5O;rw [if_pos hE];simp
            have hLl:(a5O k line).length=line.length+1:=by unfold a5O;rw [if_pos hE];simp
            rw [hE] at hsx;refine awN hΓ rfl ?_;simp only [go_sem,a1f,a9r,sp0,sp1,hmI,hline,hsx];refine⟨by omega,⟨by omega,by omega⟩,b2c (b:=d20 k) (by decide)  rlR   rlR  (by decide) hne2 (by omega) fun u4 n4 g4 h4=>?_⟩;simp only [go_sem,hsx];refine a3H (by decide)  rlR   rlR  (by decide) (by simp only [lAp,lCo,List.length_nil];omega) fun u5 n5 g5 h5=>?_
            simp only [go_sem,hsx];exact⟨by omega,by omega,⟨(m+1,u5,n5),by dsimp only;omega⟩,⟨nLR _,by dsimp only;omega,by dsimp only;rw [t5,<-hL];exact rlR,by dsimp only;rw [t5,<-hL];exact rlR,rlR⟩,by dsimp only;omega⟩
          | false=>
            have hL:acc++[d20 k]++line++(10::a98)=acc++a5O k line:=by unfold a5O;rw [if_neg (by rw [hE];simp)];simp
            have hLl:(a5O k line).length=line.length+11:=by unfold a5O;rw [if_neg (by rw [hE];simp)];simp [a98]
            rw [hE] at hsx;refine awN hΓ rfl ?_;simp only [go_sem,a1f,a9r,sp0,sp1,hmI,hline,hsx];refine⟨by omega,⟨by omega,by omega⟩,b2c (b:=d20 k) (by decide)  rlR   rlR  (by decide) hne2 (by omega) fun u4 n4 g4 h4=>?_⟩;simp only [go_sem,hsx];refine a3H (by decide)  rlR   rlR  (by decide) (by simp only [lAp,lCo,List.length_nil];omega) fun u5 n5 g5 h5=>?_
            simp only [go_sem,hsx];refine⟨by omega,a3H (s:=10::a98) (by decide)  rlR   rlR  (by decide) (by simp only [lAp,lCo,List.length_nil,a98];omega) fun u6 n6 g6 h6=>?_⟩;simp only [go_sem,hsx];exact⟨by omega,⟨(m+1,u6,n6),by dsimp only;omega⟩,⟨nLR _,by dsimp only;omega,by dsimp only;rw [t5,<-hL];exact rlR,by dsimp only;rw [t5,<-hL];exact rlR,rlR⟩,by dsimp only;omega⟩
         ·obtain rfl:m=ts.length:=by omega
          have hmI:((ts.length:Int)<(ts.length:Nat))=False:=eq_false (by omega);refine awN hΓ rfl ?_;simp only [go_sem,hmI];refine⟨(u3,n3),a0t ?_⟩;simp only [go_sem];exact⟨rlR,rlR⟩
       ·simp only [go_sem];exact⟨by omega,⟨(j+1,x.1,x.2),by dsimp only;omega⟩,⟨nLR _,by dsimp only;omega,by dsimp only;rw [d3];exact rlR,by dsimp only;rw [d3];exact rlR⟩,by dsimp only;omega⟩
      ·obtain rfl:j=st.length:=by omega
       have hjI:((st.length:Int)<(st.length:Nat))=False:=eq_false (by omega);refine awN hΓ rfl ?_;simp only [go_sem,hjI];refine⟨(u2,n2),a0t ?_⟩;simp only [go_sem];rw [e1,<-List.append_assoc];exact⟨rlR,rlR⟩
    ·simp only [go_sem];exact⟨by omega,⟨(i+1,true,x.1,x.2),by dsimp only;omega⟩,⟨nLR _,by dsimp only;omega,rlR,rlR⟩,by dsimp only;omega⟩
   ·obtain rfl:i=l.length:=by omega
    have hlI:((l.length:Int)<(l.length:Nat))=False:=eq_false (by omega);refine awN hΓ rfl ?_;simp only [go_sem,hlI];exact⟨f,0,0,1,u,a5r l,rfl,rfl,rfl,by omega,rfl⟩
 ·have eT:a1E l=[]:=by unfold a1E;rw [if_neg (by rw [hR];simp)]
  rw [eT];refine awN hΓ rfl ?_;simp only [go_sem,a2y,hR];exact ho
end
end Go.Proofs.YthpjjjnbkfnghaaGreatDoor
