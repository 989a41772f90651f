/-
  Part 7 of what the proof rests on: values that are told, code that is walked, what comes out.
-/
import Derived.Test.YthpjjjnbkfnghaaGreatDoorMk6
import Derived.LaidLaws
import Derived.LaidHandle
import Derived.Handed
import Derived.HandedShaped
import Derived.Lib.LaidTab
import Derived.Lay
import Derived.MakeChecks
set_option maxRecDepth 100000
set_option maxHeartbeats 8000000
set_option linter.all false
namespace Go.Proofs.YthpjjjnbkfnghaaGreatDoor
section
open Go
theorem a2e {R:List AV->Ss->AV->Ss->Prop} {xs:List AV} {a b:Ss} {r:AV} {p0 p1 p2 p3 p4 v v1 v2 v3 v4:Nat} {hp:Nat->Row} {top nx:Nat} {K:AV->(Nat->Row)->Nat->Nat->Prop} (hR:R xs a r b) (hnd:[p0,p1,p2,p3,p4].Nodup) (ht:∀ p∈[p0,p1,p2,p3,p4],p<top)
  (h0:a0c (hp p0) (.box v 106 10 (shC p1 p2 p3 p4 v1 v2 v3 v4 a))) (h1:a0c (hp p1) (a0l v1 a.1.1)) (h2:a0c (hp p2) (a0l v2 a.1.2.1)) (h3:a0c (hp p3) (a0l v3 a.1.2.2)) (h4:a0c (hp p4) (mgR v4 a.2.2))
  (hK:∀ u1 u2 u3 u4 nx',(u1=v1\/nx<=u1)->(u2=v2\/nx<=u2)->(u3=v3\/nx<=u3)->((a.2.2.isSome=true/\u4=v4)\/nx<=u4)->nx<=nx'->K r (a0X (a0X (a0X (a0X (a0X hp p4 (mgR u4 b.2.2)) p3 (a0l u3 b.1.2.2)) p2 (a0l u2 b.1.2.1)) p1 (a0l u1 b.1.1)) p0 (.box v 106 10 (shC p1 p2 p3 p4 u1 u2 u3 u4 b))) top nx') :
  a1I (sSh R) (.pt p0 v 0::xs) hp top nx K:=by
 have w0:(hp p0).ver=some v:=h0.vers.symm;have w1:(hp p1).ver=some v1:=h1.vers.symm;have w2:(hp p2).ver=some v2:=h2.vers.symm;have w3:(hp p3).ver=some v3:=h3.vers.symm;have w4:(hp p4).ver=(mgR v4 a.2.2).ver:=h4.vers.symm;simp only [List.nodup_cons,List.mem_cons,List.not_mem_nil,or_false,not_or,List.nodup_nil,and_true] at hnd;obtain⟨⟨d01,d02,d03,d04⟩,⟨d12,d13,d14⟩,⟨d23,d24⟩,d34,_⟩:=hnd;refine⟨[p0,p1,p2,p3,p4],.pt 0 v 0::xs,rws [(0,.box v 106 10 (shC 1 2 3 4 v1 v2 v3 v4 a)),(1,a0l v1 a.1.1),(2,a0l v2 a.1.2.1),(3,a0l v3 a.1.2.2),(4,mgR v4 a.2.2)],by simp [d01,d02,d03,d04,d12,d13,d14,d23,d24,d34],ht,.cons a0k.pt (a4I.same xs),d3v (h0.trans (d1W p1 p2 p3 p4 1 2 3 4 v v1 v2 v3 v4 a)) h1 h2 h3 h4,fun i hi=>a13 (top:=5) (by simp) i (by simpa using hi),v,v1,v2,v3,v4,xs,a,r,b,rfl,hR,rfl,rfl,fun u1 u2 u3 u4 nx' g1 g2 g3 g4 hn=>?_⟩;have e0:∀ f:Nat->Row,∀ x,a0X f p0 x p0=x:=fun f x=>a0i ..
 refine⟨_,_,avR,fun i o ho=>?_,fun o ho=>?_,fun o ho w hv=>?_,hK u1 u2 u3 u4 nx' g1 g2 g3 g4 hn⟩
 ·match i with
  | 0=>
    simp only [gCZ,oSI] at ho;subst ho;rw [a0i];exact d1W 1 2 3 4 p1 p2 p3 p4 v u1 u2 u3 u4 b
  | 1=>
    simp only [gCS,gCZ,oSI] at ho;subst ho;rw [a0d _ _ (Ne.symm d01),a0i];exact rlR
  | 2=>
    simp only [gCS,gCZ,oSI] at ho;subst ho;rw [a0d _ _ (Ne.symm d02),a0d _ _ (Ne.symm d12),a0i];exact rlR
  | 3=>
    simp only [gCS,gCZ,oSI] at ho;subst ho;rw [a0d _ _ (Ne.symm d03),a0d _ _ (Ne.symm d13),a0d _ _ (Ne.symm d23),a0i];exact rlR
  | 4=>
    simp only [gCS,gCZ,oSI] at ho;subst ho;rw [a0d _ _ (Ne.symm d04),a0d _ _ (Ne.symm d14),a0d _ _ (Ne.symm d24),a0d _ _ (Ne.symm d34),a0i];exact rlR
  | i+5=>simp at ho
 ·simp only [List.mem_cons,List.not_mem_nil,or_false,not_or] at ho;obtain⟨o0,o1,o2,o3,o4⟩:=ho;rw [a0d _ _ o0,a0d _ _ o1,a0d _ _ o2,a0d _ _ o3,a0d _ _ o4]
 ·simp only [List.mem_cons,List.not_mem_nil,or_false] at ho;rcases ho with rfl|rfl|rfl|rfl|rfl
  ·rw [a0i] at hv;have:some v=some w:=hv;obtain rfl:=oJI this;exact .inl w0
  ·rw [a0d _ _ (Ne.symm d01),a0i] at hv;have:some u1=some w:=hv;obtain rfl:=oJI this;exact g1.imp (fun e=>by rw [e];exact w1) id
  ·rw [a0d _ _ (Ne.symm d02),a0d _ _ (Ne.symm d12),a0i] at hv;have:some u2=some w:=hv;obtain rfl:=oJI this;exact g2.imp (fun e=>by rw [e];exact w2) id
  ·rw [a0d _ _ (Ne.symm d03),a0d _ _ (Ne.symm d13),a0d _ _ (Ne.symm d23),a0i] at hv;have:some u3=some w:=hv;obtain rfl:=oJI this;exact g3.imp (fun e=>by rw [e];exact w3) id
  ·rw [a0d _ _ (Ne.symm d04),a0d _ _ (Ne.symm d14),a0d _ _ (Ne.symm d24),a0d _ _ (Ne.symm d34),a0i] at hv;obtain⟨_,rfl⟩:=d3t hv;rcases g4 with⟨q,rfl⟩|g4
   ·refine .inl ?_;rw [w4];cases hm:a.2.2 with
    | none=>rw [hm] at q;cases q
    | some m=>rfl
   ·exact .inr g4
attribute [local irreducible] AW a0k a1k a0c a6H
theorem a29 (l:List BS):AV.sn (l.length-1) 1 (fun i=>eS.enc (l.getD (1+i) []))=sL eS l.tail:=by
 unfold sL;rw [List.length_tail]
 congr 1
 funext i
 have e:l.tail.getD i eS.dflt=l.getD (1+i) []:=(a1r l i).trans (by rw [Nat.add_comm]);rw [e]
structure b4Q (B:Nat) (a:Ss):Prop where
 txt:a.1.1.length+a.1.2.1.length+a.1.2.2.length<=B
 lb:lbN a.2.1.1<=3000
 mg:∀ m,a.2.2=some m->b8S m
noncomputable def doP (line:BS) (a:Ss):BS×Ss:=
 if (wdL line).getD 0 []=[97,100,100] then a26 line a
 else if (wdL line).getD 0 []=[98,97,114,101]\/(wdL line).getD 0 []=[99,108,101,97,114] then a1t ((wdL line).getD 0 []) line a
 else if (wdL line).getD 0 []=[115,116,121,108,101]\/(wdL line).getD 0 []=[119,105,100,116,104]\/(wdL line).getD 0 []=[102,97,118,111,117,114] then a1N ((wdL line).getD 0 []) line a
 else if (wdL line).getD 0 []=[108,97,98,101,108,115] then a4m line a
 else if (wdL line).getD 0 []=[109,101,114,103,101] then a1Q line a
 else if (wdL line).getD 0 []=[116,101,120,116]\/(wdL line).getD 0 []=[119,105,100,101]\/(wdL line).getD 0 []=[99,104,117,110,107,115]\/(wdL line).getD 0 []=[115,104,111,119] then (a12 ((wdL line).getD 0 []) line a,a)
 else if (wdL line).getD 0 []=[114,101,115,111,108,118,101] then (a4M line a,a)
 else if (wdL line).getD 0 []=[112,105,99,107] then a1X line a
 else if (wdL line).getD 0 []=[100,105,102,102] then (a2E line a,a)
 else if (wdL line).getD 0 []=[112,97,114,115,101] then a1O line a
 else (a00,a)
noncomputable def a82 (xs:List AV) (a:Ss) (r:AV) (b:Ss):Prop:=∃ line:List UInt8,xs=[.st line]/\line.length<=1000/\b4Q 9400 a/\r=.st (doP line a).1/\b=(doP line a).2
noncomputable def d2f:a0O:=sSh a82
theorem c13 {a:Ss} (h:b4Q 9400 a):d3U a/\(0<=(c1U a).2.2.2.2.2.2/\(c1U a).2.2.2.2.2.2<=1000000):=by
 have hM:=a8f h.txt;refine⟨⟨hM,h.lb⟩,?_⟩;unfold c1U b2U;split
 ·rename_i hx;obtain⟨p1,p2,p3⟩:=c4Z hx;have hF:=a7J hM p2 a.2.1.2.1 h.lb p1 a.2.1.2.2.2;have h1:=hF.len;have h2:=c14 (a02 a.1.1 a.1.2.1 a.1.2.2) (a5C (a02 a.1.1 a.1.2.1 a.1.2.2));show 0<=((b2g (a02 a.1.1 a.1.2.1 a.1.2.2) (a5C (a02 a.1.1 a.1.2.1 a.1.2.2)):Nat):Int)/\((b2g (a02 a.1.1 a.1.2.1 a.1.2.2) (a5C (a02 a.1.1 a.1.2.1 a.1.2.2)):Nat):Int)<=_;omega
 ·exact⟨by decide,by decide⟩
theorem d35:a0g Tryz.prog 20 d2f:=by
 refine a0g.mk Tryz.func20 rfl (by decide) Tryz.results20 Tryz.ntmps20 ?_;rintro args hp top nx K ⟨v,v1,v2,v3,v4,xs,a,r,b,rfl,⟨line,rfl,hl,hs,rfl,rfl⟩,rfl,rfl,hK⟩;have hΓ:GOK Tryz.prog (gam [(55,a0q),(56,a1f),(57,a0B),(58,a1i),(59,a1h),(60,a0n),(61,a0A),(62,a0C),(63,a0o),(64,a0p),(65,a0j)]):=(.cons b6X (.cons c78 (.cons c1o (.cons c7P (.cons c79 (.cons b6C (.cons c2j (.cons c0J (.cons b7Z (.cons b6V (.cons b4G .nil)))))))))));refine⟨Nat.le_of_ble_eq_true rfl,AW.late ?_⟩;have hw0:=List.length_pos_iff.2 (a6m line);have hmc:=c13 hs;have htx:=hs.txt;have hsz:c7E a:=⟨by omega,by omega,by omega⟩;have hsp:a.1.1.length<=1000000:=by omega
 generalize hv:(wdL line).getD 0 []=verb at *
 by_cases h_add:verb=[97,100,100]
 ·have e:doP line a=a26 line a:=by unfold doP;rw [hv,if_pos h_add]
  rw [e] at hK;have he:=eq_true h_add;refine awN hΓ rfl ?_;simp only [go_sem,a0q,a1f,a0B,a1i,a1h,a0n,a0A,a0C,a0o,a0p,a0j,hv,he];refine⟨by omega,by omega,⟨by omega,by omega⟩,?_⟩;rw [a29];refine a2e (R:=c7q) ⟨line,rfl,hl,hsz,rfl,rfl⟩ (by decide) (by decide)  rlR   rlR   rlR   rlR   rlR  fun u1 u2 u3 u4 nx' g1 g2 g3 g4 hn=>?_
  simp only [go_sem,a0q,a1f,a0B,a1i,a1h,a0n,a0A,a0C,a0o,a0p,a0j];refine⟨_,a0e (fun p=>p) (l:=[(4,.st ((a26 line a).1))]) (r:=[(0,.box v 106 10 (shC 1 2 3 4 u1 u2 u3 u4 ((a26 line a).2))),(1,a0l u1 ((a26 line a).2).1.1),(2,a0l u2 ((a26 line a).2).1.2.1),(3,a0l u3 ((a26 line a).2).1.2.2),(4,mgR u4 ((a26 line a).2).2.2)]) (sz:=78) (top:=5) (nx:=nx') (df:=[]) ?_,?_⟩
  ·simp only [go_sem,a0q,a1f,a0B,a1i,a1h,a0n,a0A,a0C,a0o,a0p,a0j];exact⟨rlR,rlR,rlR,rlR,rlR⟩
  ·simp only [go_sem,a0q,a1f,a0B,a1i,a1h,a0n,a0A,a0C,a0o,a0p,a0j];exact hK u1 u2 u3 u4 nx' g1 g2 g3 g4 hn
 by_cases h_bare:verb=[98,97,114,101]
 ·have e:doP line a=a1t verb line a:=by unfold doP;rw [hv,if_neg h_add,if_pos (.inl h_bare)]
  rw [e] at hK;have he:=eq_true h_bare;refine awN hΓ rfl ?_;simp only [go_sem,a0q,a1f,a0B,a1i,a1h,a0n,a0A,a0C,a0o,a0p,a0j,hv,he,h_add];refine⟨by omega,by omega,⟨by omega,by omega⟩,?_⟩;rw [a29];refine a2e (R:=c3D) ⟨verb,line,rfl,hl,hsz,rfl,rfl⟩ (by decide) (by decide)  rlR   rlR   rlR   rlR   rlR  fun u1 u2 u3 u4 nx' g1 g2 g3 g4 hn=>?_
  simp only [go_sem,a0q,a1f,a0B,a1i,a1h,a0n,a0A,a0C,a0o,a0p,a0j];refine⟨_,a0e (fun p=>p) (l:=[(4,.st ((a1t verb line a).1))]) (r:=[(0,.box v 106 10 (shC 1 2 3 4 u1 u2 u3 u4 ((a1t verb line a).2))),(1,a0l u1 ((a1t verb line a).2).1.1),(2,a0l u2 ((a1t verb line a).2).1.2.1),(3,a0l u3 ((a1t verb line a).2).1.2.2),(4,mgR u4 ((a1t verb line a).2).2.2)]) (sz:=78) (top:=5) (nx:=nx') (df:=[]) ?_,?_⟩
  ·simp only [go_sem,a0q,a1f,a0B,a1i,a1h,a0n,a0A,a0C,a0o,a0p,a0j];exact⟨rlR,rlR,rlR,rlR,rlR⟩
  ·simp only [go_sem,a0q,a1f,a0B,a1i,a1h,a0n,a0A,a0C,a0o,a0p,a0j];exact hK u1 u2 u3 u4 nx' g1 g2 g3 g4 hn
 by_cases h_clear:verb=[99,108,101,97,114]
 ·have e:doP line a=a1t verb line a:=by unfold doP;rw [hv,if_neg h_add,if_pos (.inr h_clear)]
  rw [e] at hK;have he:=eq_true h_clear;refine awN hΓ rfl ?_;simp only [go_sem,a0q,a1f,a0B,a1i,a1h,a0n,a0A,a0C,a0o,a0p,a0j,hv,he,h_add,h_bare];refine⟨by omega,by omega,⟨by omega,by omega⟩,?_⟩;rw [a29];refine a2e (R:=c3D) ⟨verb,line,rfl,hl,hsz,rfl,rfl⟩ (by decide) (by decide)  rlR   rlR   rlR   rlR   rlR  fun u1 u2 u3 u4 nx' g1 g2 g3 g4 hn=>?_
  simp only [go_sem,a0q,a1f,a0B,a1i,a1h,a0n,a0A,a0C,a0o,a0p,a0j];refine⟨_,a0e (fun p=>p) (l:=[(4,.st ((a1t verb line a).1))]) (r:=[(0,.box v 106 10 (shC 1 2 3 4 u1 u2 u3 u4 ((a1t verb line a).2))),(1,a0l u1 ((a1t verb line a).2).1.1),(2,a0l u2 ((a1t verb line a).2).1.2.1),(3,a0l u3 ((a1t verb line a).2).1.2.2),(4,mgR u4 ((a1t verb line a).2).2.2)]) (sz:=78) (top:=5) (nx:=nx') (df:=[]) ?_,?_⟩
  ·simp only [go_sem,a0q,a1f,a0B,a1i,a1h,a0n,a0A,a0C,a0o,a0p,a0j];exact⟨rlR,rlR,rlR,rlR,rlR⟩
  ·simp only [go_sem,a0q,a1f,a0B,a1i,a1h,a0n,a0A,a0C,a0o,a0p,a0j];exact hK u1 u2 u3 u4 nx' g1 g2 g3 g4 hn
 by_cases h_style:verb=[115,116,121,108,101]
 ·have e:doP line a=a1N verb line a:=by unfold doP;rw [hv,if_neg h_add,if_neg (fun h=>h.elim h_bare h_clear),if_pos (.inl h_style)]
  rw [e] at hK;have he:=eq_true h_style;refine awN hΓ rfl ?_;simp only [go_sem,a0q,a1f,a0B,a1i,a1h,a0n,a0A,a0C,a0o,a0p,a0j,hv,he,h_add,h_bare,h_clear];refine⟨by omega,by omega,⟨by omega,by omega⟩,?_⟩;rw [a29];refine a2e (R:=b6N) ⟨verb,line,rfl,hl,hsz,rfl,rfl⟩ (by decide) (by decide)  rlR   rlR   rlR   rlR   rlR  fun u1 u2 u3 u4 nx' g1 g2 g3 g4 hn=>?_
  simp only [go_sem,a0q,a1f,a0B,a1i,a1h,a0n,a0A,a0C,a0o,a0p,a0j];refine⟨_,a0e (fun p=>p) (l:=[(4,.st ((a1N verb line a).1))]) (r:=[(0,.box v 106 10 (shC 1 2 3 4 u1 u2 u3 u4 ((a1N verb line a).2))),(1,a0l u1 ((a1N verb line a).2).1.1),(2,a0l u2 ((a1N verb line a).2).1.2.1),(3,a0l u3 ((a1N verb line a).2).1.2.2),(4,mgR u4 ((a1N verb line a).2).2.2)]) (sz:=78) (top:=5) (nx:=nx') (df:=[]) ?_,?_⟩
  ·simp only [go_sem,a0q,a1f,a0B,a1i,a1h,a0n,a0A,a0C,a0o,a0p,a0j];exact⟨rlR,rlR,rlR,rlR,rlR⟩
  ·simp only [go_sem,a0q,a1f,a0B,a1i,a1h,a0n,a0A,a0C,a0o,a0p,a0j];exact hK u1 u2 u3 u4 nx' g1 g2 g3 g4 hn
 by_cases h_width:verb=[119,105,100,116,104]
 ·have e:doP line a=a1N verb line a:=by unfold doP;rw [hv,if_neg h_add,if_neg (fun h=>h.elim h_bare h_clear),if_pos (.inr (.inl h_width))]
  rw [e] at hK;have he:=eq_true h_width;refine awN hΓ rfl ?_;simp only [go_sem,a0q,a1f,a0B,a1i,a1h,a0n,a0A,a0C,a0o,a0p,a0j,hv,he,h_add,h_bare,h_clear,h_style];refine⟨by omega,by omega,⟨by omega,by omega⟩,?_⟩;rw [a29];refine a2e (R:=b6N) ⟨verb,line,rfl,hl,hsz,rfl,rfl⟩ (by decide) (by decide)  rlR   rlR   rlR   rlR   rlR  fun u1 u2 u3 u4 nx' g1 g2 g3 g4 hn=>?_
  simp only [go_sem,a0q,a1f,a0B,a1i,a1h,a0n,a0A,a0C,a0o,a0p,a0j];refine⟨_,a0e (fun p=>p) (l:=[(4,.st ((a1N verb line a).1))]) (r:=[(0,.box v 106 10 (shC 1 2 3 4 u1 u2 u3 u4 ((a1N verb line a).2))),(1,a0l u1 ((a1N verb line a).2).1.1),(2,a0l u2 ((a1N verb line a).2).1.2.1),(3,a0l u3 ((a1N verb line a).2).1.2.2),(4,mgR u4 ((a1N verb line a).2).2.2)]) (sz:=78) (top:=5) (nx:=nx') (df:=[]) ?_,?_⟩
  ·simp only [go_sem,a0q,a1f,a0B,a1i,a1h,a0n,a0A,a0C,a0o,a0p,a0j];exact⟨rlR,rlR,rlR,rlR,rlR⟩
  ·simp only [go_sem,a0q,a1f,a0B,a1i,a1h,a0n,a0A,a0C,a0o,a0p,a0j];exact hK u1 u2 u3 u4 nx' g1 g2 g3 g4 hn
 by_cases h_favour:verb=[102,97,118,111,117,114]
 ·have e:doP line a=a1N verb line a:=by unfold doP;rw [hv,if_neg h_add,if_neg (fun h=>h.elim h_bare h_clear),if_pos (.inr (.inr h_favour))]
  rw [e] at hK;have he:=eq_true h_favour;refine awN hΓ rfl ?_;simp only [go_sem,a0q,a1f,a0B,a1i,a1h,a0n,a0A,a0C,a0o,a0p,a0j,hv,he,h_add,h_bare,h_clear,h_style,h_width];refine⟨by omega,by omega,⟨by omega,by omega⟩,?_⟩;rw [a29];refine a2e (R:=b6N) ⟨verb,line,rfl,hl,hsz,rfl,rfl⟩ (by decide) (by decide)  rlR   rlR   rlR   rlR   rlR  fun u1 u2 u3 u4 nx' g1 g2 g3 g4 hn=>?_
  simp only [go_sem,a0q,a1f,a0B,a1i,a1h,a0n,a0A,a0C,a0o,a0p,a0j];refine⟨_,a0e (fun p=>p) (l:=[(4,.st ((a1N verb line a).1))]) (r:=[(0,.box v 106 10 (shC 1 2 3 4 u1 u2 u3 u4 ((a1N verb line a).2))),(1,a0l u1 ((a1N verb line a).2).1.1),(2,a0l u2 ((a1N verb line a).2).1.2.1),(3,a0l u3 ((a1N verb line a).2).1.2.2),(4,mgR u4 ((a1N verb line a).2).2.2)]) (sz:=78) (top:=5) (nx:=nx') (df:=[]) ?_,?_⟩
  ·simp only [go_sem,a0q,a1f,a0B,a1i,a1h,a0n,a0A,a0C,a0o,a0p,a0j];exact⟨rlR,rlR,rlR,rlR,rlR⟩
  ·simp only [go_sem,a0q,a1f,a0B,a1i,a1h,a0n,a0A,a0C,a0o,a0p,a0j];exact hK u1 u2 u3 u4 nx' g1 g2 g3 g4 hn
 by_cases h_labels:verb=[108,97,98,101,108,115]
 ·have e:doP line a=a4m line a:=by unfold doP;rw [hv,if_neg h_add,if_neg (fun h=>h.elim h_bare h_clear),if_neg (fun h=>h.elim h_style (fun h=>h.elim h_width h_favour)),if_pos h_labels]
  rw [e] at hK;have he:=eq_true h_labels;refine awN hΓ rfl ?_;simp only [go_sem,a0q,a1f,a0B,a1i,a1h,a0n,a0A,a0C,a0o,a0p,a0j,hv,he,h_add,h_bare,h_clear,h_style,h_width,h_favour];refine⟨by omega,by omega,⟨by omega,by omega⟩,?_⟩;rw [a29];refine a2e (R:=c7R) ⟨line,rfl,hl,hsz,rfl,rfl⟩ (by decide) (by decide)  rlR   rlR   rlR   rlR   rlR  fun u1 u2 u3 u4 nx' g1 g2 g3 g4 hn=>?_
  simp only [go_sem,a0q,a1f,a0B,a1i,a1h,a0n,a0A,a0C,a0o,a0p,a0j];refine⟨_,a0e (fun p=>p) (l:=[(4,.st ((a4m line a).1))]) (r:=[(0,.box v 106 10 (shC 1 2 3 4 u1 u2 u3 u4 ((a4m line a).2))),(1,a0l u1 ((a4m line a).2).1.1),(2,a0l u2 ((a4m line a).2).1.2.1),(3,a0l u3 ((a4m line a).2).1.2.2),(4,mgR u4 ((a4m line a).2).2.2)]) (sz:=78) (top:=5) (nx:=nx') (df:=[]) ?_,?_⟩
  ·simp only [go_sem,a0q,a1f,a0B,a1i,a1h,a0n,a0A,a0C,a0o,a0p,a0j];exact⟨rlR,rlR,rlR,rlR,rlR⟩
  ·simp only [go_sem,a0q,a1f,a0B,a1i,a1h,a0n,a0A,a0C,a0o,a0p,a0j];exact hK u1 u2 u3 u4 nx' g1 g2 g3 g4 hn
 by_cases h_merge:verb=[109,101,114,103,101]
 ·have e:doP line a=a1Q line a:=by unfold doP;rw [hv,if_neg h_add,if_neg (fun h=>h.elim h_bare h_clear),if_neg (fun h=>h.elim h_style (fun h=>h.elim h_width h_favour)),if_neg h_labels,if_pos h_merge]
  rw [e] at hK;have he:=eq_true h_merge;refine awN hΓ rfl ?_;simp only [go_sem,a0q,a1f,a0B,a1i,a1h,a0n,a0A,a0C,a0o,a0p,a0j,hv,he,h_add,h_bare,h_clear,h_style,h_width,h_favour,h_labels];refine⟨by omega,by omega,⟨by omega,by omega⟩,?_⟩;rw [a29];refine a2e (R:=b6S) ⟨line,rfl,hl,hmc.1,hmc.2,rfl,rfl⟩ (by decide) (by decide)  rlR   rlR   rlR   rlR   rlR  fun u1 u2 u3 u4 nx' g1 g2 g3 g4 hn=>?_
  simp only [go_sem,a0q,a1f,a0B,a1i,a1h,a0n,a0A,a0C,a0o,a0p,a0j];refine⟨_,a0e (fun p=>p) (l:=[(4,.st ((a1Q line a).1))]) (r:=[(0,.box v 106 10 (shC 1 2 3 4 u1 u2 u3 u4 ((a1Q line a).2))),(1,a0l u1 ((a1Q line a).2).1.1),(2,a0l u2 ((a1Q line a).2).1.2.1),(3,a0l u3 ((a1Q line a).2).1.2.2),(4,mgR u4 ((a1Q line a).2).2.2)]) (sz:=78) (top:=5) (nx:=nx') (df:=[]) ?_,?_⟩
  ·simp only [go_sem,a0q,a1f,a0B,a1i,a1h,a0n,a0A,a0C,a0o,a0p,a0j];exact⟨rlR,rlR,rlR,rlR,rlR⟩
  ·simp only [go_sem,a0q,a1f,a0B,a1i,a1h,a0n,a0A,a0C,a0o,a0p,a0j];exact hK u1 u2 u3 u4 nx' g1 g2 g3 g4 hn
 by_cases h_text:verb=[116,101,120,116]
 ·have e:doP line a=(a12 verb line a,a):=by unfold doP;rw [hv,if_neg h_add,if_neg (fun h=>h.elim h_bare h_clear),if_neg (fun h=>h.elim h_style (fun h=>h.elim h_width h_favour)),if_neg h_labels,if_neg h_merge,if_pos (.inl h_text)]
  rw [e] at hK;have he:=eq_true h_text;refine awN hΓ rfl ?_;simp only [go_sem,a0q,a1f,a0B,a1i,a1h,a0n,a0A,a0C,a0o,a0p,a0j,hv,he,h_add,h_bare,h_clear,h_style,h_width,h_favour,h_labels,h_merge];refine⟨by omega,by omega,⟨by omega,by omega⟩,?_⟩;rw [a29];refine a2e (R:=a95) ⟨verb,line,rfl,hl,hs.mg,rfl,rfl⟩ (by decide) (by decide)  rlR   rlR   rlR   rlR   rlR  fun u1 u2 u3 u4 nx' g1 g2 g3 g4 hn=>?_
  simp only [go_sem,a0q,a1f,a0B,a1i,a1h,a0n,a0A,a0C,a0o,a0p,a0j];refine⟨_,a0e (fun p=>p) (l:=[(4,.st (a12 verb line a))]) (r:=[(0,.box v 106 10 (shC 1 2 3 4 u1 u2 u3 u4 (a))),(1,a0l u1 (a).1.1),(2,a0l u2 (a).1.2.1),(3,a0l u3 (a).1.2.2),(4,mgR u4 (a).2.2)]) (sz:=78) (top:=5) (nx:=nx') (df:=[]) ?_,?_⟩
  ·simp only [go_sem,a0q,a1f,a0B,a1i,a1h,a0n,a0A,a0C,a0o,a0p,a0j];exact⟨rlR,rlR,rlR,rlR,rlR⟩
  ·simp only [go_sem,a0q,a1f,a0B,a1i,a1h,a0n,a0A,a0C,a0o,a0p,a0j];exact hK u1 u2 u3 u4 nx' g1 g2 g3 g4 hn
 by_cases h_wide:verb=[119,105,100,101]
 ·have e:doP line a=(a12 verb line a,a):=by unfold doP;rw [hv,if_neg h_add,if_neg (fun h=>h.elim h_bare h_clear),if_neg (fun h=>h.elim h_style (fun h=>h.elim h_width h_favour)),if_neg h_labels,if_neg h_merge,if_pos (.inr (.inl h_wide))]
  rw [e] at hK;have he:=eq_true h_wide;refine awN hΓ rfl ?_;simp only [go_sem,a0q,a1f,a0B,a1i,a1h,a0n,a0A,a0C,a0o,a0p,a0j,hv,he,h_add,h_bare,h_clear,h_style,h_width,h_favour,h_labels,h_merge,h_text];refine⟨by omega,by omega,⟨by omega,by omega⟩,?_⟩;rw [a29];refine a2e (R:=a95) ⟨verb,line,rfl,hl,hs.mg,rfl,rfl⟩ (by decide) (by decide)  rlR   rlR   rlR   rlR   rlR  fun u1 u2 u3 u4 nx' g1 g2 g3 g4 hn=>?_
  simp only [go_sem,a0q,a1f,a0B,a1i,a1h,a0n,a0A,a0C,a0o,a0p,a0j];refine⟨_,a0e (fun p=>p) (l:=[(4,.st (a12 verb line a))]) (r:=[(0,.box v 106 10 (shC 1 2 3 4 u1 u2 u3 u4 (a))),(1,a0l u1 (a).1.1),(2,a0l u2 (a).1.2.1),(3,a0l u3 (a).1.2.2),(4,mgR u4 (a).2.2)]) (sz:=78) (top:=5) (nx:=nx') (df:=[]) ?_,?_⟩
  ·simp only [go_sem,a0q,a1f,a0B,a1i,a1h,a0n,a0A,a0C,a0o,a0p,a0j];exact⟨rlR,rlR,rlR,rlR,rlR⟩
  ·simp only [go_sem,a0q,a1f,a0B,a1i,a1h,a0n,a0A,a0C,a0o,a0p,a0j];exact hK u1 u2 u3 u4 nx' g1 g2 g3 g4 hn
 by_cases h_chunks:verb=[99,104,117,110,107,115]
 ·have e:doP line a=(a12 verb line a,a):=by unfold doP;rw [hv,if_neg h_add,if_neg (fun h=>h.elim h_bare h_clear),if_neg (fun h=>h.elim h_style (fun h=>h.elim h_width h_favour)),if_neg h_labels,if_neg h_merge,if_pos (.inr (.inr (.inl h_chunks)))]
  rw [e] at hK;have he:=eq_true h_chunks;refine awN hΓ rfl ?_;simp only [go_sem,a0q,a1f,a0B,a1i,a1h,a0n,a0A,a0C,a0o,a0p,a0j,hv,he,h_add,h_bare,h_clear,h_style,h_width,h_favour,h_labels,h_merge,h_text,h_wide];refine⟨by omega,by omega,⟨by omega,by omega⟩,?_⟩;rw [a29];refine a2e (R:=a95) ⟨verb,line,rfl,hl,hs.mg,rfl,rfl⟩ (by decide) (by decide)  rlR   rlR   rlR   rlR   rlR  fun u1 u2 u3 u4 nx' g1 g2 g3 g4 hn=>?_
  simp only [go_sem,a0q,a1f,a0B,a1i,a1h,a0n,a0A,a0C,a0o,a0p,a0j];refine⟨_,a0e (fun p=>p) (l:=[(4,.st (a12 verb line a))]) (r:=[(0,.box v 106 10 (shC 1 2 3 4 u1 u2 u3 u4 (a))),(1,a0l u1 (a).1.1),(2,a0l u2 (a).1.2.1),(3,a0l u3 (a).1.2.2),(4,mgR u4 (a).2.2)]) (sz:=78) (top:=5) (nx:=nx') (df:=[]) ?_,?_⟩
  ·simp only [go_sem,a0q,a1f,a0B,a1i,a1h,a0n,a0A,a0C,a0o,a0p,a0j];exact⟨rlR,rlR,rlR,rlR,rlR⟩
  ·simp only [go_sem,a0q,a1f,a0B,a1i,a1h,a0n,a0A,a0C,a0o,a0p,a0j];exact hK u1 u2 u3 u4 nx' g1 g2 g3 g4 hn
 by_cases h_show:verb=[115,104,111,119]
 ·have e:doP line a=(a12 verb line a,a):=by unfold doP;rw [hv,if_neg h_add,if_neg (fun h=>h.elim h_bare h_clear),if_neg (fun h=>h.elim h_style (fun h=>h.elim h_width h_favour)),if_neg h_labels,if_neg h_merge,if_pos (.inr (.inr (.inr h_show)))]
  rw [e] at hK;have he:=eq_true h_show;refine awN hΓ rfl ?_;simp only [go_sem,a0q,a1f,a0B,a1i,a1h,a0n,a0A,a0C,a0o,a0p,a0j,hv,he,h_add,h_bare,h_clear,h_style,h_width,h_favour,h_labels,h_merge,h_text,h_wide,h_chunks];refine⟨by omega,by omega,⟨by omega,by omega⟩,?_⟩;rw [a29];refine a2e (R:=a95) ⟨verb,line,rfl,hl,hs.mg,rfl,rfl⟩ (by decide) (by decide)  rlR   rlR   rlR   rlR   rlR  fun u1 u2 u3 u4 nx' g1 g2 g3 g4 hn=>?_
  simp only [go_sem,a0q,a1f,a0B,a1i,a1h,a0n,a0A,a0C,a0o,a0p,a0j];refine⟨_,a0e (fun p=>p) (l:=[(4,.st (a12 verb line a))]) (r:=[(0,.box v 106 10 (shC 1 2 3 4 u1 u2 u3 u4 (a))),(1,a0l u1 (a).1.1),(2,a0l u2 (a).1.2.1),(3,a0l u3 (a).1.2.2),(4,mgR u4 (a).2.2)]) (sz:=78) (top:=5) (nx:=nx') (df:=[]) ?_,?_⟩
  ·simp only [go_sem,a0q,a1f,a0B,a1i,a1h,a0n,a0A,a0C,a0o,a0p,a0j];exact⟨rlR,rlR,rlR,rlR,rlR⟩
  ·simp only [go_sem,a0q,a1f,a0B,a1i,a1h,a0n,a0A,a0C,a0o,a0p,a0j];exact hK u1 u2 u3 u4 nx' g1 g2 g3 g4 hn
 by_cases h_resolve:verb=[114,101,115,111,108,118,101]
 ·have e:doP line a=(a4M line a,a):=by unfold doP;rw [hv,if_neg h_add,if_neg (fun h=>h.elim h_bare h_clear),if_neg (fun h=>h.elim h_style (fun h=>h.elim h_width h_favour)),if_neg h_labels,if_neg h_merge,if_neg (fun h=>h.elim h_text (fun h=>h.elim h_wide (fun h=>h.elim h_chunks h_show))),if_pos h_resolve]
  rw [e] at hK;have he:=eq_true h_resolve;refine awN hΓ rfl ?_;simp only [go_sem,a0q,a1f,a0B,a1i,a1h,a0n,a0A,a0C,a0o,a0p,a0j,hv,he,h_add,h_bare,h_clear,h_style,h_width,h_favour,h_labels,h_merge,h_text,h_wide,h_chunks,h_show];refine⟨by omega,by omega,⟨by omega,by omega⟩,?_⟩;rw [a29];refine a2e (R:=c7Z) ⟨line,rfl,hl,hsz,fun m h=>(hs.mg m h).ok,rfl,rfl⟩ (by decide) (by decide)  rlR   rlR   rlR   rlR   rlR  fun u1 u2 u3 u4 nx' g1 g2 g3 g4 hn=>?_
  simp only [go_sem,a0q,a1f,a0B,a1i,a1h,a0n,a0A,a0C,a0o,a0p,a0j];refine⟨_,a0e (fun p=>p) (l:=[(4,.st (a4M line a))]) (r:=[(0,.box v 106 10 (shC 1 2 3 4 u1 u2 u3 u4 (a))),(1,a0l u1 (a).1.1),(2,a0l u2 (a).1.2.1),(3,a0l u3 (a).1.2.2),(4,mgR u4 (a).2.2)]) (sz:=78) (top:=5) (nx:=nx') (df:=[]) ?_,?_⟩
  ·simp only [go_sem,a0q,a1f,a0B,a1i,a1h,a0n,a0A,a0C,a0o,a0p,a0j];exact⟨rlR,rlR,rlR,rlR,rlR⟩
  ·simp only [go_sem,a0q,a1f,a0B,a1i,a1h,a0n,a0A,a0C,a0o,a0p,a0j];exact hK u1 u2 u3 u4 nx' g1 g2 g3 g4 hn
 by_cases h_pick:verb=[112,105,99,107]
 ·have e:doP line a=a1X line a:=by unfold doP;rw [hv,if_neg h_add,if_neg (fun h=>h.elim h_bare h_clear),if_neg (fun h=>h.elim h_style (fun h=>h.elim h_width h_favour)),if_neg h_labels,if_neg h_merge,if_neg (fun h=>h.elim h_text (fun h=>h.elim h_wide (fun h=>h.elim h_chunks h_show))),if_neg h_resolve,if_pos h_pick]
  rw [e] at hK;have he:=eq_true h_pick;refine awN hΓ rfl ?_;simp only [go_sem,a0q,a1f,a0B,a1i,a1h,a0n,a0A,a0C,a0o,a0p,a0j,hv,he,h_add,h_bare,h_clear,h_style,h_width,h_favour,h_labels,h_merge,h_text,h_wide,h_chunks,h_show,h_resolve];refine⟨by omega,by omega,⟨by omega,by omega⟩,?_⟩;rw [a29];refine a2e (R:=b97) ⟨line,rfl,hl,hsz,fun m h=>(hs.mg m h).ok,rfl,rfl⟩ (by decide) (by decide)  rlR   rlR   rlR   rlR   rlR  fun u1 u2 u3 u4 nx' g1 g2 g3 g4 hn=>?_
  simp only [go_sem,a0q,a1f,a0B,a1i,a1h,a0n,a0A,a0C,a0o,a0p,a0j];refine⟨_,a0e (fun p=>p) (l:=[(4,.st ((a1X line a).1))]) (r:=[(0,.box v 106 10 (shC 1 2 3 4 u1 u2 u3 u4 ((a1X line a).2))),(1,a0l u1 ((a1X line a).2).1.1),(2,a0l u2 ((a1X line a).2).1.2.1),(3,a0l u3 ((a1X line a).2).1.2.2),(4,mgR u4 ((a1X line a).2).2.2)]) (sz:=78) (top:=5) (nx:=nx') (df:=[]) ?_,?_⟩
  ·simp only [go_sem,a0q,a1f,a0B,a1i,a1h,a0n,a0A,a0C,a0o,a0p,a0j];exact⟨rlR,rlR,rlR,rlR,rlR⟩
  ·simp only [go_sem,a0q,a1f,a0B,a1i,a1h,a0n,a0A,a0C,a0o,a0p,a0j];exact hK u1 u2 u3 u4 nx' g1 g2 g3 g4 hn
 by_cases h_diff:verb=[100,105,102,102]
 ·have e:doP line a=(a2E line a,a):=by unfold doP;rw [hv,if_neg h_add,if_neg (fun h=>h.elim h_bare h_clear),if_neg (fun h=>h.elim h_style (fun h=>h.elim h_width h_favour)),if_neg h_labels,if_neg h_merge,if_neg (fun h=>h.elim h_text (fun h=>h.elim h_wide (fun h=>h.elim h_chunks h_show))),if_neg h_resolve,if_neg h_pick,if_pos h_diff]
  rw [e] at hK;have he:=eq_true h_diff;refine awN hΓ rfl ?_;simp only [go_sem,a0q,a1f,a0B,a1i,a1h,a0n,a0A,a0C,a0o,a0p,a0j,hv,he,h_add,h_bare,h_clear,h_style,h_width,h_favour,h_labels,h_merge,h_text,h_wide,h_chunks,h_show,h_resolve,h_pick];refine⟨by omega,by omega,⟨by omega,by omega⟩,?_⟩;rw [a29];refine a2e (R:=c0O) ⟨line,rfl,hl,hs.txt,rfl,rfl⟩ (by decide) (by decide)  rlR   rlR   rlR   rlR   rlR  fun u1 u2 u3 u4 nx' g1 g2 g3 g4 hn=>?_
  simp only [go_sem,a0q,a1f,a0B,a1i,a1h,a0n,a0A,a0C,a0o,a0p,a0j];refine⟨_,a0e (fun p=>p) (l:=[(4,.st (a2E line a))]) (r:=[(0,.box v 106 10 (shC 1 2 3 4 u1 u2 u3 u4 (a))),(1,a0l u1 (a).1.1),(2,a0l u2 (a).1.2.1),(3,a0l u3 (a).1.2.2),(4,mgR u4 (a).2.2)]) (sz:=78) (top:=5) (nx:=nx') (df:=[]) ?_,?_⟩
  ·simp only [go_sem,a0q,a1f,a0B,a1i,a1h,a0n,a0A,a0C,a0o,a0p,a0j];exact⟨rlR,rlR,rlR,rlR,rlR⟩
  ·simp only [go_sem,a0q,a1f,a0B,a1i,a1h,a0n,a0A,a0C,a0o,a0p,a0j];exact hK u1 u2 u3 u4 nx' g1 g2 g3 g4 hn
 by_cases h_parse:verb=[112,97,114,115,101]
 ·have e:doP line a=a1O line a:=by unfold doP;rw [hv,if_neg h_add,if_neg (fun h=>h.elim h_bare h_clear),if_neg (fun h=>h.elim h_style (fun h=>h.elim h_width h_favour)),if_neg h_labels,if_neg h_merge,if_neg (fun h=>h.elim h_text (fun h=>h.elim h_wide (fun h=>h.elim h_chunks h_show))),if_neg h_resolve,if_neg h_pick,if_neg h_diff,if_pos h_parse]
  rw [e] at hK;have he:=eq_true h_parse;refine awN hΓ rfl ?_;simp only [go_sem,a0q,a1f,a0B,a1i,a1h,a0n,a0A,a0C,a0o,a0p,a0j,hv,he,h_add,h_bare,h_clear,h_style,h_width,h_favour,h_labels,h_merge,h_text,h_wide,h_chunks,h_show,h_resolve,h_pick,h_diff];refine⟨by omega,by omega,⟨by omega,by omega⟩,?_⟩;rw [a29];refine a2e (R:=b6Y) ⟨line,rfl,hl,⟨hsz,hsp⟩,rfl,rfl⟩ (by decide) (by decide)  rlR   rlR   rlR   rlR   rlR  fun u1 u2 u3 u4 nx' g1 g2 g3 g4 hn=>?_
  simp only [go_sem,a0q,a1f,a0B,a1i,a1h,a0n,a0A,a0C,a0o,a0p,a0j];refine⟨_,a0e (fun p=>p) (l:=[(4,.st ((a1O line a).1))]) (r:=[(0,.box v 106 10 (shC 1 2 3 4 u1 u2 u3 u4 ((a1O line a).2))),(1,a0l u1 ((a1O line a).2).1.1),(2,a0l u2 ((a1O line a).2).1.2.1),(3,a0l u3 ((a1O line a).2).1.2.2),(4,mgR u4 ((a1O line a).2).2.2)]) (sz:=78) (top:=5) (nx:=nx') (df:=[]) ?_,?_⟩
  ·simp only [go_sem,a0q,a1f,a0B,a1i,a1h,a0n,a0A,a0C,a0o,a0p,a0j];exact⟨rlR,rlR,rlR,rlR,rlR⟩
  ·simp only [go_sem,a0q,a1f,a0B,a1i,a1h,a0n,a0A,a0C,a0o,a0p,a0j];exact hK u1 u2 u3 u4 nx' g1 g2 g3 g4 hn
 have e:doP line a=(a00,a):=by unfold doP;rw [hv,if_neg h_add,if_neg (fun h=>h.elim h_bare h_clear),if_neg (fun h=>h.elim h_style (fun h=>h.elim h_width h_favour)),if_neg h_labels,if_neg h_merge,if_neg (fun h=>h.elim h_text (fun h=>h.elim h_wide (fun h=>h.elim h_chunks h_show))),if_neg h_resolve,if_neg h_pick,if_neg h_diff,if_neg h_parse]
 rw [e] at hK;refine awN hΓ rfl ?_;simp only [go_sem,a0q,a1f,a0B,a1i,a1h,a0n,a0A,a0C,a0o,a0p,a0j,hv,h_add,h_bare,h_clear,h_style,h_width,h_favour,h_labels,h_merge,h_text,h_wide,h_chunks,h_show,h_resolve,h_pick,h_diff,h_parse];refine⟨by omega,by omega,⟨by omega,by omega⟩,?_⟩;have hk:=a0Z hK rfl;refine⟨_,a0e (fun p=>p) (l:=[(4,.st a00)]) (r:=[(0,.box v 106 10 (shC 1 2 3 4 v1 v2 v3 v4 a)),(1,a0l v1 a.1.1),(2,a0l v2 a.1.2.1),(3,a0l v3 a.1.2.2),(4,mgR v4 a.2.2)]) (sz:=78) (top:=5) (nx:=nx) (df:=[]) ?_,?_⟩
 ·simp only [go_sem,a0q,a1f,a0B,a1i,a1h,a0n,a0A,a0C,a0o,a0p,a0j];exact⟨rlR,rlR,rlR,rlR,rlR⟩
 ·simp only [go_sem,a0q,a1f,a0B,a1i,a1h,a0n,a0A,a0C,a0o,a0p,a0j];exact hk v1 v2 v3 nx (.inl rfl) (.inl rfl) (.inl rfl) (nLR _)
def d7B:a0O:=fun args hp top nx K=>∃ line:List UInt8,args=[.val (.pointer none),.st line]/\K (.st a00) hp top nx
theorem d51:a0g Tryz.prog 20 d7B:=by
 refine a0g.mk Tryz.func20 rfl (by decide) Tryz.results20 Tryz.ntmps20 ?_;rintro args hp top nx K ⟨line,rfl,hK⟩;have hΓ:GOK Tryz.prog (gam [(55,a0q),(56,a1f),(57,a0B),(58,a1i),(59,a1h),(60,a0n),(61,a0A),(62,a0C),(63,a0o),(64,a0p),(65,a0j)]):=(.cons b6X (.cons c78 (.cons c1o (.cons c7P (.cons c79 (.cons b6C (.cons c2j (.cons c0J (.cons b7Z (.cons b6V (.cons b4G .nil)))))))))));refine⟨Nat.le_of_ble_eq_true rfl,?_⟩;refine awN hΓ rfl ?_;simp only [go_sem,a0q,a1f,a0B,a1i,a1h,a0n,a0A,a0C,a0o,a0p,a0j];exact hK
noncomputable def a4U:a0O:=fun args hp top nx K=>a1I d2f args hp top nx K\/d7B args hp top nx K
theorem d55:a0g Tryz.prog 20 a4U:=d35.frame.or d51
end
section
open Go
attribute [local irreducible] a6H
theorem c5d (t:BS):a7i t=if a1c t=true then some (t.take (t.length-1)) else none:=by
 unfold a7i a1c;rcases t.eq_nil_or_concat with rfl|⟨p,c,rfl⟩
 ·rfl
 ·rw [List.concat_eq_append];have e:(p++[c]).getD ((p++[c]).length-1) 0=c:=by simp [List.getD]
  rw [e];simp
theorem c8Q (a:Ss) (k:Int) (t:BS):(b60 a k t).2=a.2:=by
 unfold b60
 repeat' split
 all_goals rfl
end
section
open Go
section
variable {P:Program} {Γ:Gam} {ops:Array Oper} {st:AS} {K:AS->Prop}
def a4r (P:Program) (Γ:Gam) (ops:Array Oper):List Nat->List Oper->AS->(AS->Prop)->Prop
 | _,[],st,K=>K st
 | 0::W,o::r,st,K=>match gop P Γ ops st o with
   | some (pre,z,row)=>(a0S st.sz o.dst/\pre)/\a4r P Γ ops W r (st.put o.dst z row) K
   | none=>o.guard=none/\bop P Γ st o fun st'=>a4r P Γ ops W r st' K
 | 1::W,o::r,st,K=>gOK ops st.fr o.guard/\match gop P Γ ops st (b5Y o) with
   | some (pre,z,row)=>(a0S st.sz o.dst/\pre)/\a4r P Γ ops W r (st.put o.dst z row) K
   | none=>bop P Γ st (b5Y o) fun st'=>a4r P Γ ops W r st' K
 | _::W,o::r,st,K=>gNO ops st.fr o.guard/\a0S st.sz o.dst/\a4r P Γ ops W r (st.put o.dst (.gd false .any) .dead) K
 | [],l,st,K=>a9u P Γ ops l st K
def c1w (P:Program) (Γ:Gam) (ops:Array Oper) (W:List Nat) (r:List Oper) (K:AS->Prop):AS->Prop:=fun st=>a4r P Γ ops W r st K
theorem c0K {W:List Nat} {r:List Oper}:c1w P Γ ops W r K st=a4r P Γ ops W r st K:=a2M rfl
def d6k (P:Program) (Γ:Gam) (ops:Array Oper) (W:List Nat) (o:Oper) (r:List Oper) (K:AS->Prop) (st:AS):b3A->Prop
 | some (pre,z,row)=>(a0S st.sz o.dst/\pre)/\a4r P Γ ops W r (st.put o.dst z row) K
 | none=>o.guard=none/\bop P Γ st o (c1w P Γ ops W r K)
theorem b33 {W:List Nat} {o:Oper} {r:List Oper} {pre:Prop} {z:AV} {row:Row}:d6k P Γ ops W o r K st (some (pre,z,row))=((a0S st.sz o.dst/\pre)/\a4r P Γ ops W r (st.put o.dst z row) K):=a2M rfl
theorem b31 {W:List Nat} {o:Oper} {r:List Oper}:d6k P Γ ops W o r K st none=(o.guard=none/\bop P Γ st o (c1w P Γ ops W r K)):=a2M rfl
def d5U (P:Program) (Γ:Gam) (ops:Array Oper) (W:List Nat) (o:Oper) (r:List Oper) (K:AS->Prop) (st:AS):b3A->Prop
 | some (pre,z,row)=>(a0S st.sz o.dst/\pre)/\a4r P Γ ops W r (st.put o.dst z row) K
 | none=>bop P Γ st (b5Y o) (c1w P Γ ops W r K)
theorem b4H {W:List Nat} {o:Oper} {r:List Oper} {pre:Prop} {z:AV} {row:Row}:d5U P Γ ops W o r K st (some (pre,z,row))=((a0S st.sz o.dst/\pre)/\a4r P Γ ops W r (st.put o.dst z row) K):=a2M rfl
theorem b37 {W:List Nat} {o:Oper} {r:List Oper}:d5U P Γ ops W o r K st none=bop P Γ st (b5Y o) (c1w P Γ ops W r K):=a2M rfl
theorem c3H {W:List Nat}:a4r P Γ ops W [] st K=K st:=a2M (by rcases W with _|⟨_|_|b,W⟩<;>rfl)
theorem b9J {o:Oper} {r:List Oper}:a4r P Γ ops [] (o::r) st K=a9u P Γ ops (o::r) st K:=a2M rfl
theorem c2K {W:List Nat} {o:Oper} {r:List Oper}:a4r P Γ ops (0::W) (o::r) st K=d6k P Γ ops W o r K st (gop P Γ ops st o):=a2M rfl
theorem c2t {W:List Nat} {o:Oper} {r:List Oper}:a4r P Γ ops (1::W) (o::r) st K=(gOK ops st.fr o.guard/\d5U P Γ ops W o r K st (gop P Γ ops st (b5Y o))):=a2M rfl
theorem d0M {W:List Nat} {o:Oper} {r:List Oper}:a4r P Γ ops (2::W) (o::r) st K=(gNO ops st.fr o.guard/\a0S st.sz o.dst/\a4r P Γ ops W r (st.put o.dst (.gd false .any) .dead) K):=a2M rfl
theorem a5g (hΓ:GOK P Γ) {ops:Array Oper} {Q:Exit->Act->World->Prop}:∀ (W:List Nat) (l:List Oper) (c:Ctx) (st:AS) (K:AS->Prop) (η:Env) (a:Act) (w:World),SR c st η a w->a4r P Γ ops W l st K->
  (∀ st' η' a' w',SR c st' η' a' w'->K st'->Q .normal a' w')->wpList P ops Q l a w
 | [],[],_,_,_,η,a,w,hsr,h,hQ=>hQ _ η a w hsr h
 | 0::_,[],_,_,_,η,a,w,hsr,h,hQ=>hQ _ η a w hsr (by unfold a4r at h;exact h)
 | 1::_,[],_,_,_,η,a,w,hsr,h,hQ=>hQ _ η a w hsr (by unfold a4r at h;exact h)
 | (n+2)::_,[],_,_,_,η,a,w,hsr,h,hQ=>hQ _ η a w hsr (by unfold a4r at h;exact h)
 | [],o::r,c,st,K,η,a,w,hsr,h,hQ=>a8p hΓ (o::r) c st K η a w hsr h hQ
 | 0::W,o::r,c,st,K,η,a,w,hsr,h,hQ=>by
   rw [c2K] at h;cases hg:gop P Γ ops st o with
   | some t=>
     obtain⟨pre,z,row⟩:=t;rw [hg,b33] at h;exact wpList_step fun KK hKK=>b1x hΓ hsr hg h.1.2 h.1.1 fun η' a' w' hsr'=>hKK _ _ (a5g hΓ W r c _ K η' a' w' hsr' h.2 hQ)
   | none=>
     rw [hg,b31] at h;refine wpList_step fun KK hKK=>?_
     rw [if_pos (a5F h.1)];exact b4t hΓ h.2 c η a w KK Q hsr fun st' η' a' w' hsr' hx=>hKK _ _ (a5g hΓ W r c st' K η' a' w' hsr' hx hQ)
 | 1::W,o::r,c,st,K,η,a,w,hsr,h,hQ=>by
   rw [c2t] at h;obtain⟨hg0,h⟩:=h;refine wpList_step fun KK hKK=>?_
   rw [if_pos (b4g hsr hg0)];have eo:∀ K':Act->World->Prop,(b5Y o).wp P a w K' Q->o.wp P a w K' Q:=fun K' hh=>hh
   refine eo KK ?_;cases hg:gop P Γ ops st (b5Y o) with
   | some t=>
     obtain⟨pre,z,row⟩:=t;rw [hg,b4H] at h;have:=b1x hΓ hsr (o:=b5Y o) (ops:=ops) hg h.1.2 h.1.1 (Q:=Q) (K:=KK) fun η' a' w' hsr'=>hKK _ _ (a5g hΓ W r c _ K η' a' w' hsr' h.2 hQ)
     rw [if_pos (a5F rfl)] at this;exact this
   | none=>
     rw [hg,b37] at h;exact b4t hΓ h c η a w KK Q hsr fun st' η' a' w' hsr' hx=>hKK _ _ (a5g hΓ W r c st' K η' a' w' hsr' hx hQ)
 | (n+2)::W,o::r,c,st,K,η,a,w,hsr,h,hQ=>by
   have h:gNO ops st.fr o.guard/\a0S st.sz o.dst/\a4r P Γ ops W r (st.put o.dst (.gd false .any) .dead) K:=h;refine wpList_step fun KK hKK=>?_
   rw [b4J hsr h.1];simp only [Bool.false_eq_true,if_false];exact hKK _ _ (a5g hΓ W r c _ K η _ w (hsr.skip h.2.1 (.inl rfl)) h.2.2 hQ)
theorem AW.regionG (hΓ:GOK P Γ) {Q:Exit->AS->Prop} {id:Nat} {l:List Oper} (W:List Nat) (h:a4r P Γ l.toArray W l st (Q .normal)):AW P (.region id l.toArray false) Q st:=by
 intro c η a w hsr;exact wp_region_lit (a5g hΓ W l c st _ η a w hsr h fun st' η' a' w' hsr' hq=>⟨st',η',hq,hsr'⟩)
end
attribute [go_sem high] c2K c2t d0M
attribute [go_sem] c0K b33 b31 b4H b37 c3H b9J a5O a4v b7z
end
section
open Go
attribute [local irreducible] AW a0k a1k a0c a6H
theorem c5r {line:BS} (h:3<=(wdL line).length):line.length=((wdL line).getD 0 []).length+((wdL line).getD 1 []).length+2+(a9s 2 line).length:=by
 rcases a3y 32 line with h1|⟨p,r,rfl,h1⟩
 ·rw [a68 line h1] at h;exact absurd h (by simp)
 ·rw [a4g p r h1] at h ⊢;rcases a3y 32 r with h2|⟨q,t,rfl,h2⟩
  ·rw [a68 r h2] at h;exact absurd h (by simp)
  ·rw [a4g q t h2,a4y 2 p _ h1,if_neg (by decide),a4y 1 q t h2,if_pos rfl];simp only [lAp,lCo,List.getD_cons_zero,List.getD_cons_succ];omega
theorem c5u {w:BS} (h:0<=a4n w):4<=w.length:=by
 unfold a4n at h;by_cases h1:w=[98,97,115,101]
 ·rw [h1];decide
 ·rw [if_neg h1] at h;by_cases h2:w=[108,101,102,116]
  ·rw [h2];decide
  ·rw [if_neg h2] at h;by_cases h3:w=[114,105,103,104,116]
   ·rw [h3];decide
   ·rw [if_neg h3] at h;exact absurd h (by decide)
theorem b4Q.mono {B C:Nat} {a:Ss} (h:b4Q B a) (hl:B<=C):b4Q C a:=⟨Nat.le_trans h.txt hl,h.lb,h.mg⟩
theorem c4X (a:Ss) (k:Int) (t:BS):(b60 a k t).1.1.length+(b60 a k t).1.2.1.length+(b60 a k t).1.2.2.length+(txt a k).length=a.1.1.length+a.1.2.1.length+a.1.2.2.length+t.length:=by
 unfold b60 txt;by_cases h0:k=0
 ·rw [if_pos h0,if_pos h0];dsimp only;omega
 ·rw [if_neg h0,if_neg h0];by_cases h1:k=1
  ·rw [if_pos h1,if_pos h1];dsimp only;omega
  ·rw [if_neg h1,if_neg h1];dsimp only;omega
theorem b5Z {B C:Nat} {a:Ss} (h:b4Q B a) (k:Int) (t:BS) (hl:B+t.length<=C+(txt a k).length):b4Q C (b60 a k t):=by
 have e:=c8Q a k t;have hs:=c4X a k t;have:=h.txt;refine⟨by omega,?_,?_⟩
 ·rw [e];exact h.lb
 ·rw [e];exact h.mg
theorem c06 (w:BS):(b8n w).length<=w.length:=by
 unfold b8n;split
 ·exact nZL _
 ·exact nLR _
theorem d2T {w:BS} {n:Nat} (h:a6H w=some n):n<=1000000:=by
 have ht:=a6u w;rw [h] at ht;rcases ht with⟨k,h1,h4,h3⟩|⟨h4,h3⟩
 ·have:=oJI h3;omega
 ·cases h3
theorem d5y {B:Nat} {a:Ss} {line:BS} (h:b4Q B a) (hl:line.length<=1000) (hB:B+(line.length-8)<=9400):b4Q (B+(line.length-8)) (doP line a).2:=by
 have hm:=h.mono (Nat.le_add_right B (line.length-8));have h9:b4Q 9400 a:=h.mono (by omega);unfold doP;split
 ·rename_i hv;unfold a26;split
  ·rename_i c;have e:=c5r c.1;have f:=c5u c.2;rw [hv] at e;simp only [lCo,List.length_nil] at e;refine b5Z h _ _ ?_;simp only [lAp,lCo,List.length_nil];omega
  ·exact hm
 split
 ·unfold a1t;split
  ·unfold a4G;split
   ·exact b5Z h _ _ (by simp;omega)
   ·rw [c5d];by_cases he:a1c (txt a (a4n ((wdL line).getD 1 [])))=true
    ·rw [if_pos he];exact b5Z h _ _ (by rw [List.length_take];omega)
    ·rw [if_neg he];exact hm
  ·exact hm
 split
 ·unfold a1N;split
  ·refine⟨hm.txt,?_,hm.mg⟩;unfold c5n;dsimp only
   repeat' split
   all_goals exact h.lb
  ·exact hm
 split
 ·unfold a4m;split
  ·refine⟨hm.txt,?_,hm.mg⟩;have g1:=b6b line 1;have g2:=b6b line 2;have g3:=b6b line 3;have k1:=c06 ((wdL line).getD 1 []);have k2:=c06 ((wdL line).getD 2 []);have k3:=c06 ((wdL line).getD 3 []);unfold lbN;dsimp only;omega
  ·exact hm
 split
 ·unfold a1Q;split
  ·split
   ·rename_i hz;refine⟨hm.txt,hm.lb,fun m e=>?_⟩;have e:=oJI e;rw [<-e];exact b9l h9.txt hz h.lb
   ·exact hm
  ·exact hm
 split
 ·exact hm
 split
 ·exact hm
 split
 ·unfold a1X;split
  ·cases hb:a.2.2 with
   | none=>exact hm
   | some m=>
     dsimp only;split
     ·refine⟨hm.txt,hm.lb,fun m' e=>?_⟩;have e:=oJI e;rw [<-e];exact (h.mg m hb).pick _ _
     ·exact hm
  ·exact hm
 split
 ·exact hm
 split
 ·unfold a1O;split
  ·rename_i c;obtain⟨n,hn⟩:=Option.isSome_iff_exists.1 c.2;split
   ·refine⟨hm.txt,hm.lb,fun m' e=>?_⟩;have e:=oJI e;rw [<-e,a3w hn];have:=h9.txt;exact b8W (by omega) (d2T hn)
   ·exact hm
  ·exact hm
 exact hm
def tM:BS:=[109,101,114,103,101]
def tT:BS:=[116,101,120,116]
def op0:Op:=(([],[],[]),0,7,0)
def t1:Ss:=(([97,10],[],[]),op0,none)
def t2:Ss:=(([97,10],[98,10],[]),op0,none)
def t3:Ss:=(([97,10],[98,10],[99,10]),op0,none)
def tMg:Mg:=([([],[],[],true,[],[98,10],[],[99,10],false)],[60,60,60,60,60,60,60,10,98,10,61,61,61,61,61,61,61,10,99,10,62,62,62,62,62,62,62,10],7,[(false,(0,1),(0,1),(0,1))])
def t4:Ss:=(([97,10],[98,10],[99,10]),op0,some tMg)
theorem i1:Lib.itoa 1=[49]:=by
 rw [show (1:Int)=((1:Nat):Int) from rfl,a4T,Lib.decDigits,dif_pos (by decide)];rfl
theorem i0:Lib.itoa 0=[48]:=by
 rw [show (0:Int)=((0:Nat):Int) from rfl,a4T,Lib.decDigits,dif_pos (by decide)];rfl
end
section
open Go
attribute [local irreducible] AW a0k a1k a0c a6H
def b2C:BS:=[115,104,111,119]
def d06:BS:=[109,101,114,103,101]
theorem c9q {a:Ss} {m:Mg} (h:a.2.2=some m):doP tT a=(a4j m.2.1,a):=by
 have e:doP tT a=(a12 tT tT a,a):=by rfl
 rw [e];unfold a12;rw [if_pos (by decide),h];rfl
theorem c8P {a:Ss} {m:Mg} (h:a.2.2=some m):doP b2C a=(a3a (printR m.1 m.2.2.1).1 (printR m.1 m.2.2.1).2,a):=by
 have e:doP b2C a=(a12 b2C b2C a,a):=by rfl
 rw [e];unfold a12;rw [if_pos (by decide),h];rfl
theorem c61 {a:Ss} (h:a9Q a.2.1=0):doP d06 a=(Lib.itoa (c1U a).2.2.2.2.2.2,(a.1,a.2.1,some (mgT (c1U a)))):=by
 have e:doP d06 a=a1Q d06 a:=by rfl
 rw [e];unfold a1Q;rw [if_pos (by decide),if_pos h]
structure R2 (l o:List BS) where
 i:Nat
 u1:Nat
 u2:Nat
 u3:Nat
 u4:Nat
 v1:Nat
 v2:Nat
 v3:Nat
 v4:Nat
 nx:Nat
 hi:i<=l.length
end
section
open Go
theorem b9Y:kAV undef=.val undef:=rfl
def stT (f:BS×BS×BS) (st w:Int):Ss:=(f,(([],[],[]),st,w,0),none)
def wdF (i:Nat):BS:=fl3.getD i []
def c3M (i:Nat) (s:BS):BS:=[97,100,100,32]++wdF i++[32]++s
theorem c7z:∀ i,i<3->(32:UInt8)∉wdF i/\a4n (wdF i)=(i:Int)/\(wdF i).length<=5
 | 0,_=>by decide
 | 1,_=>by decide
 | 2,_=>by decide
 | i+3,h=>by omega
theorem d4b {a:Ss} {i:Nat} (hi:i<3) (s:BS):doP (c3M i s) a=(okT,b60 a i (txt a i++s++[10])):=by
 obtain⟨h1,h2,_⟩:=c7z i hi;have e0:c3M i s=[97,100,100]++32::(wdF i++32::s):=by unfold c3M;simp
 have e1:wdL (c3M i s)=[97,100,100]::wdF i::wdL s:=by rw [e0,a4g _ _ (by decide),a4g _ _ h1]
 have e2:a9s 2 (c3M i s)=s:=by rw [e0,a4y 2 _ _ (by decide),if_neg (by decide),a4y 1 _ _ h1,if_pos rfl]
 have e3:=List.length_pos_iff.2 (a6m s);unfold doP;rw [e1,List.getD_cons_zero,if_pos rfl];unfold a26;rw [e1,e2,List.getD_cons_succ,List.getD_cons_zero,h2,if_pos ⟨by simp only [lCo];omega,by omega⟩]
theorem b9L {n:Int} (h:0<=n):(32:UInt8)∉Lib.itoa n:=fun hc=>by
 have:=(a9D h).1 32 hc;exact absurd this.1 (by decide)
theorem b7w {n:Int} (h0:0<=n) (h1:n<=1000000):b1N (Lib.itoa n)=n:=by
 obtain⟨k,rfl⟩:=Int.eq_ofNat_of_zero_le h0;rcases a6u (Lib.itoa (k:Nat)) with⟨m,_,e,h⟩|⟨h,_⟩
 ·rw [a3w h,b7I e]
 ·exact absurd rfl (h k (by omega))
theorem c7d {n:Int} (h0:0<=n) (h1:n<=1000000):(Lib.itoa n).length<=7:=by
 obtain⟨k,rfl⟩:=Int.eq_ofNat_of_zero_le h0;exact b4z (by omega)
def c7D (n:Int):BS:=[115,116,121,108,101,32]++Lib.itoa n
def c7Q (n:Int):BS:=[119,105,100,116,104,32]++Lib.itoa n
theorem b62 {f:BS×BS×BS} {st w n:Int} (h0:0<=n) (h1:n<=1000000):doP (c7D n) (stT f st w)=(okT,stT f n w):=by
 have e0:c7D n=[115,116,121,108,101]++32::Lib.itoa n:=by unfold c7D;simp
 have e1:wdL (c7D n)=[[115,116,121,108,101],Lib.itoa n]:=by rw [e0,a4g _ _ (by decide),a68 _ (b9L h0)]
 unfold doP;rw [e1,List.getD_cons_zero,if_neg (by decide),if_neg (by decide),if_pos (.inl rfl)];unfold a1N;rw [e1,List.getD_cons_succ,List.getD_cons_zero,b7w h0 h1,if_pos ⟨rfl,h0⟩];rfl
theorem b6J {f:BS×BS×BS} {st w n:Int} (h0:0<=n) (h1:n<=1000000):doP (c7Q n) (stT f st w)=(okT,stT f st n):=by
 have e0:c7Q n=[119,105,100,116,104]++32::Lib.itoa n:=by unfold c7Q;simp
 have e1:wdL (c7Q n)=[[119,105,100,116,104],Lib.itoa n]:=by rw [e0,a4g _ _ (by decide),a68 _ (b9L h0)]
 unfold doP;rw [e1,List.getD_cons_zero,if_neg (by decide),if_neg (by decide),if_pos (.inr (.inl rfl))];unfold a1N;rw [e1,List.getD_cons_succ,List.getD_cons_zero,b7w h0 h1,if_pos ⟨rfl,h0⟩];rfl
def c5S:BS:=[119,105,100,101]
def rsL:BS:=[114,101,115,111,108,118,101,32,108,101,102,116]
theorem c8X {a:Ss} {m:Mg} (h:a.2.2=some m):doP c5S a=(Lib.itoa m.2.2.1,a):=by
 have e:doP c5S a=(a12 c5S c5S a,a):=by rfl
 rw [e];unfold a12;rw [if_pos (by decide),h];rfl
theorem c9z {a:Ss} {m:Mg} (h:a.2.2=some m):doP rsL a=(a3a (b4h m.1 1).1 (b4h m.1 1).2,a):=by
 have e:doP rsL a=(a4M rsL a,a):=by rfl
 rw [e];unfold a4M;rw [if_pos (by decide),h];rfl
theorem c1Y {f:BS×BS×BS} {st w:Int} {lb:BS×BS×BS} {v u:Int} (hr:a3g (a7s f.1 f.2.1 f.2.2 st lb v)=true) (hc:b2g (a02 f.1 f.2.1 f.2.2) (a5C (a02 f.1 f.2.1 f.2.2))=0) :
  b4h (a7s f.1 f.2.1 f.2.2 st lb v) 1=(a1x u (a7s f.1 f.2.1 f.2.2 st lb v),0):=by
 have h:=c3p (c6K hc) st lb v;have e:a7s f.1 f.2.1 f.2.2 st lb v=_:=h;unfold b4h;rw [if_neg (by rw [hr];simp),if_neg (by decide),e,b8l];split
 ·rename_i h0;rw [h0];rfl
 ·simp [a56,a1b,hkP,a0x]
theorem c82 {f:BS×BS×BS} {st w:Int} (hf:f.1.length+f.2.1.length+f.2.2.length<=9400) (ho:a9Q (([],[],[]),st,w,0)=0) :
  ∃ D lp rp K T W,∃ n:Nat,b2U f.1 f.2.1 f.2.2 (([],[],[]),st,w,0)=(D,lp,rp,K,T,W,(n:Int))/\
   doP tM (stT f st w)=(Lib.itoa (n:Nat),(f,(([],[],[]),st,w,0),some (D,T,W,K)))/\doP tT (f,(([],[],[]),st,w,0),some (D,T,W,K))=(a4j T,(f,(([],[],[]),st,w,0),some (D,T,W,K)))/\
   doP c5S (f,(([],[],[]),st,w,0),some (D,T,W,K))=(Lib.itoa W,(f,(([],[],[]),st,w,0),some (D,T,W,K)))/\doP b2C (f,(([],[],[]),st,w,0),some (D,T,W,K))=(a4j T,(f,(([],[],[]),st,w,0),some (D,T,W,K)))/\
   (n=0->doP rsL (f,(([],[],[]),st,w,0),some (D,T,W,K))=(a4j T,(f,(([],[],[]),st,w,0),some (D,T,W,K))))/\n<=1000000/\(0<=W/\W<=1000000)/\T.length<=4000000000/\b4Q 9400 (f,(([],[],[]),st,w,0),some (D,T,W,K)):=by
 obtain⟨fa,fb,fc⟩:=f;dsimp only at hf;have ha:b4Q 9400 (stT (fa,fb,fc) st w):=⟨hf,nZL 3000,fun m h=>by cases h⟩;have hcn:=c13 ha;have hM:=a8f hf;obtain⟨p1,p2,p3⟩:=c4Z ho;have hF:=a7J hM p2 st (lb:=([],[],[])) (by decide) p1 0;have e0:=d8D (a:=fa) (b:=fb) (c:=fc) ho;have hcM:=c1Y (f:=(fa,fb,fc)) (st:=st) (w:=w) (lb:=([],[],[])) (v:=0) (u:=a66 w fa fb fc) hF.right;have hp:=b6T hF;have hmg:=c61 (a:=stT (fa,fb,fc) st w) ho;have hok:=(d5y (B:=9400) (line:=tM) ha (by decide) (by decide)).mono (C:=9400) (by decide);rw [show doP tM (stT (fa,fb,fc) st w)=_ from hmg] at hok;have e1:c1U (stT (fa,fb,fc) st w)=c4F fa fb fc w st ([],[],[]) 0:=e0;rw [e1] at hmg hok hcn;have hmm:=hok.mg _ rfl;refine⟨_,_,_,_,_,_,_,e0,hmg,c9q (m:=mgT (c4F fa fb fc w st ([],[],[]) 0)) rfl,c8X (m:=mgT (c4F fa fb fc w st ([],[],[]) 0)) rfl,?_,fun hn=>?_,?_,⟨hmm.w0,?_⟩,Nat.le_trans hmm.txt (by decide),hok⟩
 ·rw [c8P rfl];dsimp only;rw [hp];unfold a3a;rw [if_pos rfl]
 ·rw [c9z rfl];dsimp only;rw [hcM hn];unfold a3a;rw [if_pos rfl]
 ·have:=hcn.2.2;exact Int.ofNat_le.1 this
 ·have:=a7S (a:=fa) (b:=fb) (c:=fc) (n:=9400) (by omega) (by omega) (by omega);dsimp only at p2;show a66 w fa fb fc<=1000000;unfold a66;omega
theorem d4e (h:Hw):∃ m1 m2 m3 s u,d68 h=((m1,m2,m3),s,u,0)/\(0<=s/\s<=2)/\7<=u/\u<=64:=by
 have g1:=b2I h.1 (m:=3) (by decide);have g2:=b2I h.2.1 (m:=58) (by decide);refine⟨_,_,_,_,_,rfl,⟨g1.1,?_⟩,?_,?_⟩<;>omega
theorem c34 {s u:Int} (hs:0<=s/\s<=2) (hu:7<=u/\u<=64):a9Q (([],[],[]),s,u,0)=0:=by
 show (if a2a ([],[],[])=false then (3:Int) else if u<7\/64<u then 4 else if (a74 s&&a8l 0)=false then 5 else 0)=0;rw [if_neg (by decide),if_neg (by omega),if_neg];have hc:s=0\/s=1\/s=2:=by omega
 rcases hc with rfl|rfl|rfl<;>decide
def fT (s:BS):List BS:=(a0a (s.take 250)).take 30
def flT (l:List BS):BS:=(l.map fun x=>a3Q x++[10]).flatten
theorem c5C (l:List BS) (x:BS):flT (l++[x])=flT l++a3Q x++[10]:=by
 unfold flT;simp
theorem b7l:∀ (l:List BS),(flT l).length<=l.flatten.length+l.length
 | []=>nZL _
 | x::l=>by
   have h1:=b7l l;have h2:=b2p x;have e:flT (x::l)=a3Q x++[10]++flT l:=by unfold flT;simp
   rw [e,List.flatten_cons];simp only [lAp,lCo,List.length_nil];omega
theorem c7S (s:BS) (k:Nat):(flT ((fT s).take k)).length<=280:=by
 have h1:=b7l ((fT s).take k);have h2:((fT s).take k).length<=30:=by unfold fT;simp;omega
 have h3:((fT s).take k).flatten.length<=((a0a (s.take 250)).flatten).length:=by
  have e:a0a (s.take 250)=(fT s).take k++((fT s).drop k++(a0a (s.take 250)).drop 30):=by
   rw [<-List.append_assoc,List.take_append_drop];exact (List.take_append_drop 30 _).symm
  rw [e,List.flatten_append,lAp];exact Nat.le_add_right _ _
 rw [a04,List.length_take] at h3;omega
def upF (t:BS×BS×BS) (i k j:Nat):BS:=if j<i then flT (fT ([t.1,t.2.1,t.2.2].getD j [])) else if j=i then flT ((fT ([t.1,t.2.1,t.2.2].getD j [])).take k) else []
def up3 (t:BS×BS×BS) (i k:Nat):BS×BS×BS:=(upF t i k 0,upF t i k 1,upF t i k 2)
theorem a5L (t:BS×BS×BS) (i k j:Nat):(upF t i k j).length<=280:=by
 unfold upF;split
 ·have:=c7S ([t.1,t.2.1,t.2.2].getD j []) 30;rw [List.take_of_length_le (by unfold fT;simp;omega)] at this;exact this
 ·split
  ·exact c7S _ _
  ·exact nZL _
theorem b7s {t:BS×BS×BS} {i k:Nat} {ln:BS} (hk:k<(fT ([t.1,t.2.1,t.2.2].getD i [])).length) (hl:(fT ([t.1,t.2.1,t.2.2].getD i [])).getD k []=ln):upF t i (k+1) i=upF t i k i++a3Q ln++[10]:=by
 unfold upF;rw [if_neg (Nat.lt_irrefl _),if_neg (Nat.lt_irrefl _),if_pos rfl,if_pos rfl,a1T _ [] hk,hl,c5C]
theorem b1X {t:BS×BS×BS} {i k j:Nat} (h:j≠i):upF t i (k+1) j=upF t i k j:=by
 unfold upF;rw [if_neg h,if_neg h]
theorem c5P {t:BS×BS×BS} {i k:Nat} {s u:Int}:b4Q 9400 (stT (up3 t i k) s u):=by
 have h0:=a5L t i k 0;have h1:=a5L t i k 1;have h2:=a5L t i k 2;refine⟨?_,nZL 3000,fun m h=>by cases h⟩;show (upF t i k 0).length+(upF t i k 1).length+(upF t i k 2).length<=9400;omega
theorem d11 {t:BS×BS×BS} {i k:Nat} {s u:Int} {ln:BS} (hi:i<3) (hk:k<(fT ([t.1,t.2.1,t.2.2].getD i [])).length) (hl:(fT ([t.1,t.2.1,t.2.2].getD i [])).getD k []=ln) :
  doP (c3M i (a3Q ln)) (stT (up3 t i k) s u)=(okT,stT (up3 t i (k+1)) s u):=by
 have hs:=b7s hk hl;rw [d4b hi];have hc:i=0\/i=1\/i=2:=by omega
 rcases hc with rfl|rfl|rfl
 ·have e:up3 t 0 (k+1)=(upF t 0 k 0++a3Q ln++[10],upF t 0 k 1,upF t 0 k 2):=by unfold up3;rw [hs,b1X (by decide),b1X (by decide)]
  rw [e];rfl
 ·have e:up3 t 1 (k+1)=(upF t 1 k 0,upF t 1 k 1++a3Q ln++[10],upF t 1 k 2):=by unfold up3;rw [hs,b1X (by decide),b1X (by decide)]
  rw [e];rfl
 ·have e:up3 t 2 (k+1)=(upF t 2 k 0,upF t 2 k 1,upF t 2 k 2++a3Q ln++[10]):=by unfold up3;rw [hs,b1X (by decide),b1X (by decide)]
  rw [e];rfl
theorem a8D {t:BS×BS×BS} {i j:Nat} {n:Nat} (hn:(fT ([t.1,t.2.1,t.2.2].getD i [])).length<=n):upF t i n j=upF t (i+1) 0 j:=by
 unfold upF;by_cases h:j<i
 ·rw [if_pos h,if_pos (by omega)]
 ·rw [if_neg h];by_cases e:j=i
  ·subst e;rw [if_pos rfl,if_pos (by omega),List.take_of_length_le hn]
  ·rw [if_neg e,if_neg (by omega)];by_cases e2:j=i+1
   ·rw [if_pos e2];rfl
   ·rw [if_neg e2]
theorem d0Y {t:BS×BS×BS} {i n:Nat} (hn:(fT ([t.1,t.2.1,t.2.2].getD i [])).length<=n):up3 t i n=up3 t (i+1) 0:=by
 unfold up3;rw [a8D hn,a8D hn,a8D hn]
end
section
open Go
attribute [local irreducible] AW a0k a1k a0c a6H
def a9n:a0r:=a0r.f2 (kA eLb) (kA eHw) (fun _ h=>d8a h) (fun _ _=>kB.enc true)
theorem okTripartiteLines:a0b Tryz.prog 8 a9n:=by
 refine a0b.f2 Tryz.func8 rfl (by decide) Tryz.results8 Tryz.ntmps8 (by decide) fun t h hh=>?_
 have hΓ:GOK Tryz.prog (gam [(18,a15),(28,a1o),(36,a16),(25,a0Q),(37,a0t),(38,a0y),(39,a0P),(41,a0u),(40,a0R),(20,a4U)]):=(.cons d1Z (.cons d0f (.cons d2R (.cons c4C (.cons b8U (.cons c0q (.cons c6h (.cons b8R (.cons b46 (.cons d55 .nil))))))))));obtain⟨ta,tb,tc⟩:=t;obtain⟨st,w,v,l1,l2,l3⟩:=h;refine awL hΓ [0,200023] rfl ?_;simp only [go_sem,a15,a1o,a16,a0Q,a0t,a0y,a0P,a0u,a0R,a4U];refine AW.still 2 0 0 69 3 _ rfl rfl (fun j hj=>match j,hj with|0,_=>rfl|1,_=>rfl|2,_=>rfl) ?_;refine AW.still 3 1 1 71 6 _ rfl rfl (fun j hj=>match j,hj with|0,_=>rfl|1,_=>rfl|2,_=>rfl|3,_=>rfl|4,_=>rfl|5,_=>rfl) ?_;obtain⟨m1,m2,m3,s,u,ho,hs,hu⟩:=d4e (st,w,v,l1,l2,l3);have hw:=c34 hs hu;refine awL hΓ [4,200023] rfl ?_;simp only [go_sem,a15,a1o,a16,a0Q,a0t,a0y,a0P,a0u,a0R,a4U,ho];refine⟨hh,?_⟩;refine AW.cut ⟨[(2,.ps 3 (eLb.enc (ta,tb,tc))),(5,.pt 2 2 0),(6,.pt 7 6 0)],[(2,.box 2 106 10 (shC 3 4 5 6 3 4 5 0 ss0)),(3,a0l 3 []),(4,a0l 4 []),(5,a0l 5 []),(7,.box 6 75 6 (eOp.enc ((m1,m2,m3),s,u,0)))],148,8,7,[]⟩ ?_ ?_
 ·simp only [go_sem,a15,a1o,a16,a0Q,a0t,a0y,a0P,a0u,a0R,a4U];exact⟨rlR,rlR,rlR,rlR,a88⟩
 refine awL hΓ [5,200023] rfl ?_;simp only [go_sem,a15,a1o,a16,a0Q,a0t,a0y,a0P,a0u,a0R,a4U];refine AW.cut ⟨[(2,.ps 3 (eLb.enc (ta,tb,tc))),(5,.pt 2 2 0),(6,.pt 7 6 0)],[(2,.box 2 106 10 (shC 3 4 5 6 3 4 5 0 ss0)),(3,a0l 3 []),(4,a0l 4 []),(5,a0l 5 []),(7,.box 6 75 6 (eOp.enc (([],[],[]),s,u,0)))],148,8,7,[]⟩ ?_ ?_
 ·simp only [go_sem,a15,a1o,a16,a0Q,a0t,a0y,a0P,a0u,a0R,a4U];exact⟨rlR,rlR,rlR,rlR,a0c.box fun j hj=>a0k.of_eq (match j,hj with|0,_=>rfl|1,_=>rfl|2,_=>rfl|3,_=>rfl|4,_=>rfl|5,_=>rfl)⟩
 refine AW.still 6 7 6 75 6 _ rfl rfl (fun j hj=>match j,hj with|0,_=>rfl|1,_=>rfl|2,_=>rfl|3,_=>rfl|4,_=>rfl|5,_=>rfl) ?_;refine awL hΓ [6,200023] rfl ?_;simp only [go_sem,a15,a1o,a16,a0Q,a0t,a0y,a0P,a0u,a0R,a4U]
 refine AW.seqTo (fun y:Nat×Nat×Nat×Nat×Nat=>Sh.st ⟨[(5,.pt 2 2 0),(6,.ps 6 (eOp.enc (([],[],[]),s,u,0))),(7,.pt 8 7 0)],
  [(2,.box 2 106 10 (shC 3 4 5 6 y.1 y.2.1 y.2.2.1 y.2.2.2.1 (stT (up3 (ta,tb,tc) 3 0) 0 7))),(3,a0l y.1 (up3 (ta,tb,tc) 3 0).1),(4,a0l y.2.1 (up3 (ta,tb,tc) 3 0).2.1),(5,a0l y.2.2.1 (up3 (ta,tb,tc) 3 0).2.2),(8,.box 7 69 3 (eLb.enc (up3 (ta,tb,tc) 3 0)))],148,9,y.2.2.2.2,[]⟩) ?_ ?_
 ·refine awL hΓ [7,200023] rfl ?_;simp only [go_sem,a15,a1o,a16,a0Q,a0t,a0y,a0P,a0u,a0R,a4U]
  refine AW.block (AW.round (α:={ x:Nat×Nat×Nat×Nat×Nat×Nat // x.1<=3 }) (fun x=>⟨[(2,.ps 3 (eLb.enc (ta,tb,tc))),(5,.pt 2 2 0),(6,.ps 6 (eOp.enc (([],[],[]),s,u,0))),(7,.pt 8 7 0),(8,.val (.int .i64 x.1.1))],
   [(2,.box 2 106 10 (shC 3 4 5 6 x.1.2.1 x.1.2.2.1 x.1.2.2.2.1 x.1.2.2.2.2.1 (stT (up3 (ta,tb,tc) x.1.1 0) 0 7))),(3,a0l x.1.2.1 (upF (ta,tb,tc) x.1.1 0 0)),(4,a0l x.1.2.2.1 (upF (ta,tb,tc) x.1.1 0 1)),(5,a0l x.1.2.2.2.1 (upF (ta,tb,tc) x.1.1 0 2)),(8,.box 7 69 3 (eLb.enc (up3 (ta,tb,tc) x.1.1 0)))],148,9,x.1.2.2.2.2.2,[]⟩) (fun x=>3-x.1.1) ⟨(0,3,4,5,0,8),nZL _⟩ ?_ ?_)
  ·simp only [go_sem,a15,a1o,a16,a0Q,a0t,a0y,a0P,a0u,a0R,a4U];exact⟨rlR,rlR,rlR,rlR,a0c.box fun j hj=>a0k.of_eq (match j,hj with|0,_=>rfl|1,_=>rfl|2,_=>rfl)⟩
  ·rintro⟨⟨i,v1,v2,v3,v4,nx⟩,hi⟩;rcases Nat.lt_or_ge i 3 with hlt|hge
   ·have hlI:((i:Int)<3)=True:=eq_true (by omega);obtain⟨x,hx⟩:∃ x,[ta,tb,tc].getD i []=x:=⟨_,rfl⟩
    have hen:eLb.enc (ta,tb,tc) (i*1)=.st x:=by
     have hc:i=0\/i=1\/i=2:=by omega
     rcases hc with rfl|rfl|rfl<;>(rw [<-hx];rfl)
    refine awL hΓ [11,200023] rfl ?_;simp only [go_sem,a15,a1o,a16,a0Q,a0t,a0y,a0P,a0u,a0R,a4U,hlI,hen];have hsl:=a0K (x.take 250);have hfl:(fT x).length=min 30 (a0a (x.take 250)).length:=List.length_take;have hx250:(x.take 250).length<=250:=by simp;omega
    refine⟨by omega,by omega,by omega,?_⟩
    refine AW.to (fun y:Nat×Nat×Nat×Nat×Nat=>Sh.st ⟨[(2,.ps 3 (eLb.enc (ta,tb,tc))),(5,.pt 2 2 0),(6,.ps 6 (eOp.enc (([],[],[]),s,u,0))),(7,.pt 8 7 0),(8,.val (.int .i64 i))],
     [(2,.box 2 106 10 (shC 3 4 5 6 y.1 y.2.1 y.2.2.1 y.2.2.2.1 (stT (up3 (ta,tb,tc) (i+1) 0) 0 7))),(3,a0l y.1 (upF (ta,tb,tc) (i+1) 0 0)),(4,a0l y.2.1 (upF (ta,tb,tc) (i+1) 0 1)),(5,a0l y.2.2.1 (upF (ta,tb,tc) (i+1) 0 2)),(8,.box 7 69 3 (eLb.enc (up3 (ta,tb,tc) (i+1) 0)))],148,9,y.2.2.2.2,[]⟩) ?_ ?_
    ·refine AW.block (AW.round (α:={ y:Nat×Nat×Nat×Nat×Nat×Nat // y.1<=(fT x).length }) (fun y=>⟨[(2,.ps 3 (eLb.enc (ta,tb,tc))),(5,.pt 2 2 0),(6,.ps 6 (eOp.enc (([],[],[]),s,u,0))),(7,.pt 8 7 0),(8,.val (.int .i64 i)),(9,sL eS (a0a (x.take 250))),(10,.val (.int .i64 y.1.1))],
      [(2,.box 2 106 10 (shC 3 4 5 6 y.1.2.1 y.1.2.2.1 y.1.2.2.2.1 y.1.2.2.2.2.1 (stT (up3 (ta,tb,tc) i y.1.1) 0 7))),(3,a0l y.1.2.1 (upF (ta,tb,tc) i y.1.1 0)),(4,a0l y.1.2.2.1 (upF (ta,tb,tc) i y.1.1 1)),(5,a0l y.1.2.2.2.1 (upF (ta,tb,tc) i y.1.1 2)),(8,.box 7 69 3 (eLb.enc (up3 (ta,tb,tc) i y.1.1)))],148,9,y.1.2.2.2.2.2,[]⟩) (fun y=>(fT x).length-y.1.1) ⟨(0,v1,v2,v3,v4,nx),nZL _⟩ ?_ ?_)
     ·simp only [go_sem,a15,a1o,a16,a0Q,a0t,a0y,a0P,a0u,a0R,a4U];exact⟨rlR,rlR,rlR,rlR,rlR⟩
     ·rintro⟨⟨k,v1,v2,v3,v4,nx⟩,hk⟩;rcases Nat.lt_or_ge k (fT x).length with hkl|hkg
      ·have hI1:((k:Int)<(a0a (x.take 250)).length)=True:=eq_true (by omega);have hI2:((k:Int)<30)=True:=eq_true (by omega);obtain⟨ln,hln⟩:∃ ln,(a0a (x.take 250)).getD k []=ln:=⟨_,rfl⟩;refine awL hΓ [15,200023] rfl ?_;simp only [go_sem,a15,a1o,a16,a0Q,a0t,a0y,a0P,a0u,a0R,a4U,hI1,hI2,hln];have hlnl:=b2e (a0a (x.take 250)) k;rw [a04,hln] at hlnl;refine⟨by omega,?_⟩
       refine AW.seqTo (fun _:Unit=>Sh.st ⟨[(2,.ps 3 (eLb.enc (ta,tb,tc))),(5,.pt 2 2 0),(6,.ps 6 (eOp.enc (([],[],[]),s,u,0))),(7,.pt 8 7 0),(8,.val (.int .i64 i)),(9,sL eS (a0a (x.take 250))),(10,.val (.int .i64 k)),(11,.st (a3Q ln))],
        [(2,.box 2 106 10 (shC 3 4 5 6 v1 v2 v3 v4 (stT (up3 (ta,tb,tc) i k) 0 7))),(3,a0l v1 (upF (ta,tb,tc) i k 0)),(4,a0l v2 (upF (ta,tb,tc) i k 1)),(5,a0l v3 (upF (ta,tb,tc) i k 2)),(8,.box 7 69 3 (eLb.enc (up3 (ta,tb,tc) i k)))],148,9,nx,[]⟩) ?_ fun _=>?_
       ·cases he:a1c ln with
        | true=>
          have hp:1<=ln.length:=by
           rcases ln with _|⟨c,r⟩
           ·cases he
           ·simp
          refine awL hΓ [99999,200023] rfl ?_;simp only [go_sem,a15,a1o,a16,a0Q,a0t,a0y,a0P,a0u,a0R,a4U,he];refine⟨by omega,⟨by omega,by omega⟩,⟨by omega,by omega⟩,(),a17 ?_⟩;simp only [go_sem,a15,a1o,a16,a0Q,a0t,a0y,a0P,a0u,a0R,a4U];unfold a3Q;rw [if_pos he,show ((ln.length:Int)-1).toNat=ln.length-1 by omega];exact⟨rfl,rlR,rlR,rlR,rlR,rlR⟩
        | false=>
          refine awL hΓ [99999,200023] rfl ?_;simp only [go_sem,a15,a1o,a16,a0Q,a0t,a0y,a0P,a0u,a0R,a4U,he];refine⟨by omega,(),a17 ?_⟩;simp only [go_sem,a15,a1o,a16,a0Q,a0t,a0y,a0P,a0u,a0R,a4U];unfold a3Q;rw [if_neg (by rw [he];simp)];exact⟨rfl,rlR,rlR,rlR,rlR,rlR⟩
       have hgf:(fT x).getD k []=ln:=by
        rw [<-hln];unfold fT;rw [List.getD_eq_getElem?_getD,List.getD_eq_getElem?_getD,List.getElem?_take_of_lt (by omega)]
       have hadd:=d11 (t:=(ta,tb,tc)) (i:=i) (k:=k) (s:=0) (u:=7) (ln:=ln) hlt (by dsimp only;rw [hx];exact hkl) (by dsimp only;rw [hx];exact hgf);have hstp:=b7s (t:=(ta,tb,tc)) (i:=i) (k:=k) (ln:=ln) (by dsimp only;rw [hx];exact hkl) (by dsimp only;rw [hx];exact hgf);have hcl:=b2p ln
       have hal:(c3M i (a3Q ln)).length<=1000:=by
        have:=(c7z i hlt).2.2;unfold c3M;simp only [lAp,lCo,List.length_nil];omega
       have ha1:AV.st okT=AV.st (doP (c3M i (a3Q ln)) (stT (up3 (ta,tb,tc) i k) 0 7)).1:=by rw [hadd]
       have ha2:stT (up3 (ta,tb,tc) i (k+1)) 0 7=(doP (c3M i (a3Q ln)) (stT (up3 (ta,tb,tc) i k) 0 7)).2:=by rw [hadd]
       clear hadd;have hul0:(up3 (ta,tb,tc) i k).1.length<=280:=a5L ..;have hul1:(up3 (ta,tb,tc) i k).2.1.length<=280:=a5L ..;have hul2:(up3 (ta,tb,tc) i k).2.2.length<=280:=a5L ..;generalize a3Q ln=cl at *
       have hc:i=0\/i=1\/i=2:=by omega
       rcases hc with rfl|rfl|rfl
       all_goals
        refine awL hΓ [17,200023] rfl ?_;simp only [go_sem,a15,a1o,a16,a0Q,a0t,a0y,a0P,a0u,a0R,a4U];refine⟨by omega,.inl (a2e (R:=a82) ⟨_,rfl,hal,c5P,ha1,ha2⟩ (by decide) (by decide)  rlR   rlR   rlR   rlR   rlR  fun u1 u2 u3 u4 nx1 g1 g2 g3 g4 hn=>?_)⟩;simp only [go_sem,a15,a1o,a16,a0Q,a0t,a0y,a0P,a0u,a0R,a4U];refine awL hΓ [99999,200023] rfl ?_;simp only [go_sem,a15,a1o,a16,a0Q,a0t,a0y,a0P,a0u,a0R,a4U];refine⟨by omega,by omega,⟨by omega,by omega⟩,⟨(k+1,u1,u2,u3,u4,nx1),hkl⟩,⟨nLR _,rfl,rlR,rlR,rlR,rlR,?_⟩,by dsimp only;omega⟩;exact a0c.box fun j hj=>a0k.of_eq (match j,hj with|0,_=>(by first|exact congrArg AV.st hstp.symm|rfl)|1,_=>(by first|exact congrArg AV.st hstp.symm|rfl)|2,_=>(by first|exact congrArg AV.st hstp.symm|rfl))
      ·obtain rfl:k=(fT x).length:=by omega
       have hall:=d0Y (t:=(ta,tb,tc)) (i:=i) (n:=(fT x).length) (by dsimp only;rw [hx];exact nLR _);have hal0:=a8D (t:=(ta,tb,tc)) (i:=i) (j:=0) (n:=(fT x).length) (by dsimp only;rw [hx];exact nLR _);have hal1:=a8D (t:=(ta,tb,tc)) (i:=i) (j:=1) (n:=(fT x).length) (by dsimp only;rw [hx];exact nLR _);have hal2:=a8D (t:=(ta,tb,tc)) (i:=i) (j:=2) (n:=(fT x).length) (by dsimp only;rw [hx];exact nLR _);rw [hall,hal0,hal1,hal2];generalize (fT x).length=k at *
       rcases Nat.lt_or_ge k (a0a (x.take 250)).length with h1|h1
       ·have hI1:((k:Int)<(a0a (x.take 250)).length)=True:=eq_true (by omega);have hI2:((k:Int)<30)=False:=eq_false (by omega);refine awL hΓ [99999,200023] rfl ?_;simp only [go_sem,a15,a1o,a16,a0Q,a0t,a0y,a0P,a0u,a0R,a4U,hI1,hI2];refine⟨(v1,v2,v3,v4,nx),a17 ?_⟩;simp only [go_sem,a15,a1o,a16,a0Q,a0t,a0y,a0P,a0u,a0R,a4U];exact⟨rlR,rlR,rlR,rlR,rlR⟩
       ·have hI1:((k:Int)<(a0a (x.take 250)).length)=False:=eq_false (by omega);refine awL hΓ [99999,200023] rfl ?_;simp only [go_sem,a15,a1o,a16,a0Q,a0t,a0y,a0P,a0u,a0R,a4U,hI1];refine⟨(v1,v2,v3,v4,nx),a17 ?_⟩;simp only [go_sem,a15,a1o,a16,a0Q,a0t,a0y,a0P,a0u,a0R,a4U];exact⟨rlR,rlR,rlR,rlR,rlR⟩
    ·rintro⟨u1,u2,u3,u4,nx1⟩;simp only [go_sem,a15,a1o,a16,a0Q,a0t,a0y,a0P,a0u,a0R,a4U];exact⟨⟨by omega,by omega⟩,⟨(i+1,u1,u2,u3,u4,nx1),hlt⟩,⟨nLR _,rfl,rlR,rlR,rlR,rlR,rlR⟩,by dsimp only;omega⟩
   ·obtain rfl:i=3:=by omega
    have hlI:((3:Int)<3)=False:=eq_false (by omega);refine awL hΓ [99999,200023] rfl ?_;simp only [go_sem,a15,a1o,a16,a0Q,a0t,a0y,a0P,a0u,a0R,a4U,hlI];refine⟨(v1,v2,v3,v4,nx),a17 ?_⟩;simp only [go_sem,a15,a1o,a16,a0Q,a0t,a0y,a0P,a0u,a0R,a4U];exact⟨rlR,rlR,rlR,rlR,rlR⟩
 rintro⟨v1,v2,v3,v4,nx⟩;have hF0:(up3 (ta,tb,tc) 3 0).1.length<=280:=a5L (ta,tb,tc) 3 0 0;have hF1:(up3 (ta,tb,tc) 3 0).2.1.length<=280:=a5L (ta,tb,tc) 3 0 1;have hF2:(up3 (ta,tb,tc) 3 0).2.2.length<=280:=a5L (ta,tb,tc) 3 0 2;have hok1:b4Q 9400 (stT (up3 (ta,tb,tc) 3 0) 0 7):=c5P;have hok2:b4Q 9400 (stT (up3 (ta,tb,tc) 3 0) s 7):=c5P;have hok3:b4Q 9400 (stT (up3 (ta,tb,tc) 3 0) s u):=c5P;generalize up3 (ta,tb,tc) 3 0=F at *
 have hls:=c7d (n:=s) (by omega) (by omega);have hlu:=c7d (n:=u) (by omega) (by omega);have hsl:(c7D s).length<=1000:=by unfold c7D;rw [lAp];show 6+_<=_;omega
 have hul:(c7Q u).length<=1000:=by unfold c7Q;rw [lAp];show 6+_<=_;omega
 have es1:AV.st okT=AV.st (doP (c7D s) (stT F 0 7)).1:=by rw [b62 (by omega) (by omega)]
 have es2:stT F s 7=(doP (c7D s) (stT F 0 7)).2:=by rw [b62 (by omega) (by omega)]
 have eu1:AV.st okT=AV.st (doP (c7Q u) (stT F s 7)).1:=by rw [b6J (by omega) (by omega)]
 have eu2:stT F s u=(doP (c7Q u) (stT F s 7)).2:=by rw [b6J (by omega) (by omega)]
 refine AW.fork (AW.fork (AW.regionG hΓ [0,0,0,0,0,0,0,0,1,1,1,1,1,1,1,0] ?_));simp only [go_sem,a15,a1o,a16,a0Q,a0t,a0y,a0P,a0u,a0R,a4U,a59];refine⟨⟨⟨by omega,by omega⟩,by omega⟩,by omega,.inl (a2e (R:=a82) ⟨_,rfl,hsl,hok1,es1,es2⟩ (by decide) (by decide)  rlR   rlR   rlR   rlR   rlR  fun v1 v2 v3 v4 nx g1 g2 g3 g4 hn=>?_)⟩;simp only [go_sem,a15,a1o,a16,a0Q,a0t,a0y,a0P,a0u,a0R,a4U,a59];refine⟨⟨⟨by omega,by omega⟩,by omega⟩,by omega,.inl (a2e (R:=a82) ⟨_,rfl,hul,hok2,eu1,eu2⟩ (by decide) (by decide)  rlR   rlR   rlR   rlR   rlR  fun v1 v2 v3 v4 nx g1 g2 g3 g4 hn=>?_)⟩;simp only [go_sem,a15,a1o,a16,a0Q,a0t,a0y,a0P,a0u,a0R,a4U,a59];obtain⟨D,lp,rp,K,T,W,n,e0,em,et,ew,esh,er,hn,hW,hT,hok4⟩:=c82 (f:=F) (st:=s) (w:=u) (by omega) hw;have hM:okM F.1 F.2.1 F.2.2:=a8f (by omega);refine awL hΓ [200023] rfl ?_;simp only [go_sem,a15,a1o,a16,a0Q,a0t,a0y,a0P,a0u,a0R,a4U];refine awL hΓ [200023] rfl ?_;simp only [go_sem,a15,a1o,a16,a0Q,a0t,a0y,a0P,a0u,a0R,a4U,hw,e0];refine⟨⟨hM,nZL 3000⟩,?_⟩;refine AW.cut ⟨[(5,.pt 2 2 0),(12,.pt 9 nx 0)],[(2,.box 2 106 10 (shC 3 4 5 6 v1 v2 v3 v4 (stT F s u))),(3,a0l v1 F.1),(4,a0l v2 F.2.1),(5,a0l v3 F.2.2),(9,.box nx 48 7 (eRt.enc (D,lp,rp,K,T,W,(n:Int))))],148,10,nx+1,[]⟩ ?_ ?_
 ·simp only [go_sem,a15,a1o,a16,a0Q,a0t,a0y,a0P,a0u,a0R,a4U];exact⟨rlR,rlR,rlR,rlR,a88⟩
 refine AW.still 12 9 nx 48 7 _ rfl rfl (fun j hj=>match j,hj with|0,_=>rfl|1,_=>rfl|2,_=>rfl|3,_=>rfl|4,_=>rfl|5,_=>rfl|6,_=>rfl) ?_;have a1:AV.st (Lib.itoa (n:Int))=AV.st (doP tM (stT F s u)).1:=by rw [em]
 have a2:(F,(([],[],[]),s,u,0),some (D,T,W,K))=(doP tM (stT F s u)).2:=by rw [em]
 generalize hb:((F,(([],[],[]),s,u,0),some (D,T,W,K)):Ss)=b at *
 have hbs:b.2.2=some (D,T,W,K):=by rw [<-hb]
 have b1:AV.st (a4j T)=AV.st (doP tT b).1:=by rw [et]
 have b2:b=(doP tT b).2:=by rw [et]
 have c1:AV.st (Lib.itoa W)=AV.st (doP c5S b).1:=by rw [ew]
 have c2:b=(doP c5S b).2:=by rw [ew]
 have d1:AV.st (a4j T)=AV.st (doP b2C b).1:=by rw [esh]
 have d2:b=(doP b2C b).2:=by rw [esh]
 rcases Nat.eq_zero_or_pos n with h0|h0
 ·refine AW.drawV hΓ mixed 1 [2,3,4,7,9,10,11,15,17,18,19,23,25,26,27,35,37,38,39] [2,3,4,7,9,10,11,15,17,18,19,23,25,26,27,35,37,38,39] [] [] [(1,[8,16,24,36]),(3,[6,14,22,30]),(4,[34])] [(1,[7,9,10,11,15,17,18,19,23,25,26,27,35,37,38,39])] (by decide +kernel) (by decide +kernel) ?_;simp only [go_sem,a15,a1o,a16,a0Q,a0t,a0y,a0P,a0u,a0R,a4U,a59];refine⟨⟨⟨by omega,by omega⟩,by omega⟩,hT,⟨⟨by omega,by omega⟩,by omega⟩,hT,hT,.inl (a2e (R:=a82) ⟨tM,rfl,by decide,hok3,a1,a2⟩ (by decide) (by decide)  rlR   rlR   rlR   rlR   rlR  fun v1 v2 v3 v4 nx g1 g2 g3 g4 hn=>?_)⟩;simp only [go_sem,a15,a1o,a16,a0Q,a0t,a0y,a0P,a0u,a0R,a4U,a59];refine .inl (a2e (R:=a82) ⟨tT,rfl,by decide,hok4,b1,b2⟩ (by decide) (by decide)  rlR   rlR   rlR   rlR   rlR  fun v1 v2 v3 v4 nx g1 g2 g3 g4 hn=>?_);simp only [go_sem,a15,a1o,a16,a0Q,a0t,a0y,a0P,a0u,a0R,a4U,a59];refine .inl (a2e (R:=a82) ⟨c5S,rfl,by decide,hok4,c1,c2⟩ (by decide) (by decide)  rlR   rlR   rlR   rlR   rlR  fun v1 v2 v3 v4 nx g1 g2 g3 g4 hn=>?_);simp only [go_sem,a15,a1o,a16,a0Q,a0t,a0y,a0P,a0u,a0R,a4U,a59];refine .inl (a2e (R:=a82) ⟨b2C,rfl,by decide,hok4,d1,d2⟩ (by decide) (by decide)  rlR   rlR   rlR   rlR   rlR  fun v1 v2 v3 v4 nx g1 g2 g3 g4 hn=>?_);have hn0:(0<(n:Int))=False:=eq_false (by omega);have e1:AV.st (a4j T)=AV.st (doP rsL b).1:=by rw [er h0]
  have e2:b=(doP rsL b).2:=by rw [er h0]
  simp only [go_sem,a15,a1o,a16,a0Q,a0t,a0y,a0P,a0u,a0R,a4U,a59,hn0];refine .inl (a2e (R:=a82) ⟨rsL,rfl,by decide,hok4,e1,e2⟩ (by decide) (by decide)  rlR   rlR   rlR   rlR   rlR  fun v1 v2 v3 v4 nx g1 g2 g3 g4 hn=>?_);simp only [go_sem,a15,a1o,a16,a0Q,a0t,a0y,a0P,a0u,a0R,a4U,a59,hn0]
 ·refine AW.drawV hΓ mixed 1 [2,3,4,7,9,10,11,15,17,18,19,23,25,26,27,35,37,38,39] [2,3,4,7,9,10,11,15,17,18,19,23,25,26,27,35,37,38,39] [] [] [(1,[8,16,24]),(2,[36,40]),(3,[6,14,22,30,34])] [(1,[7,9,10,11,15,17,18,19,23,25,26,27]),(2,[35,37,38,39])] (by decide +kernel) (by decide +kernel) ?_;simp only [go_sem,a15,a1o,a16,a0Q,a0t,a0y,a0P,a0u,a0R,a4U,a59,b9Y];refine⟨⟨⟨by omega,by omega⟩,by omega⟩,hT,⟨⟨by omega,by omega⟩,by omega⟩,hT,.inl (a2e (R:=a82) ⟨tM,rfl,by decide,hok3,a1,a2⟩ (by decide) (by decide)  rlR   rlR   rlR   rlR   rlR  fun v1 v2 v3 v4 nx g1 g2 g3 g4 hn=>?_)⟩;simp only [go_sem,a15,a1o,a16,a0Q,a0t,a0y,a0P,a0u,a0R,a4U,a59];refine .inl (a2e (R:=a82) ⟨tT,rfl,by decide,hok4,b1,b2⟩ (by decide) (by decide)  rlR   rlR   rlR   rlR   rlR  fun v1 v2 v3 v4 nx g1 g2 g3 g4 hn=>?_);simp only [go_sem,a15,a1o,a16,a0Q,a0t,a0y,a0P,a0u,a0R,a4U,a59];refine .inl (a2e (R:=a82) ⟨c5S,rfl,by decide,hok4,c1,c2⟩ (by decide) (by decide)  rlR   rlR   rlR   rlR   rlR  fun v1 v2 v3 v4 nx g1 g2 g3 g4 hn=>?_);simp only [go_sem,a15,a1o,a16,a0Q,a0t,a0y,a0P,a0u,a0R,a4U,a59];refine .inl (a2e (R:=a82) ⟨b2C,rfl,by decide,hok4,d1,d2⟩ (by decide) (by decide)  rlR   rlR   rlR   rlR   rlR  fun v1 v2 v3 v4 nx g1 g2 g3 g4 hn=>?_);have hn0:(0<(n:Int))=True:=eq_true (by omega);simp only [go_sem,a15,a1o,a16,a0Q,a0t,a0y,a0P,a0u,a0R,a4U,a59,hn0]
end
section
open Go Go.ChangeShapes Go.WideShapes Go.ChangeAt Go.RowKit
theorem returns_laid {H:Type} {enc:TypeId×Value->H} {a:Assume} {C:Checked} {os:Go.Os} {f:FuncId} {fn:Func} {s:ChangeSpec} {conds:List PathCond} {apart fresh handsOn b5h:Bool} {X:World->Array Value->Prop}
  (hX:∀ (w w':World) (args:Array Value),w.heap=w'.heap->X w args->X w' args)
  (own:ownKnob C.prog.godebug=none) (started:os.Started) (noInit:C.prog.inits.idxOf? f=none) (hfn:C.prog.funcs[f]?=some fn)
  (witness:∃ (w:World) (tape:Tape) (i:Input),w.os=os/\(w.forCall tape i).Shaped C.prog/\i.vars=[]/\Input.okWide C.prog (w.forCall tape i) .any w.heap.size f i/\
   ((s.pre enc C.prog fn conds apart (w.forCall tape i).memory i.args/\X (w.forCall tape i).memory i.args)/\sizedMet enc C.prog fn (OpenSpec.ofChange s) apart (w.forCall tape i).memory i.args)/\a.holds C.prog (lone (Frame.enter C.prog f i.args .normal) [] (w.forCall tape i)))
  (contract:∀ (W:World) (base:Nat) (args:Array Value) (ds gs:List (DataW H)) (before:List MemPlace),
   (∀ (j:Nat) t v,fn.params[j]?=some t->args[j]?=some v->Value.okWide C.prog W .any base t v)->
   DataW.Whole enc C.prog fn.params.toList s.vars apart W args.toList ds gs before->
   conds.all (PathCond.test C.prog ⟨fn.params.toList,ds,s.plain.varTypes C.prog,gs⟩)=true->
   (DataW.weightsEach C.prog (fn.params.toList++s.plain.varTypes C.prog) (ds++gs)).all (·<=reachBytes)=true->X W args->W.ShapedOpen C.prog->
   a.holds C.prog (lone (Frame.enter C.prog f args .normal) [] W)->
   Calls C.prog f args W fun e W'=>∃ v,e=.returned v/\s.post enc C.prog fn apart fresh handsOn b5h W args v W') :
  ReturnsInHanded a C os f .any (fun w args=>(s.pre enc C.prog fn conds apart w args/\X w args)/\sizedMet enc C.prog fn (OpenSpec.ofChange s) apart w args) (s.post enc C.prog fn apart fresh handsOn b5h):=by
 refine returnsInHanded_of_calls own started noInit witness ?_;intro w tape i _ hsh _ hok hpre hholds;obtain⟨_,_,_,fn',hfn',_,_,_,_,hval⟩:=hok;have e:fn'=fn:=oJI (hfn'.symm.trans hfn);subst e;obtain⟨⟨⟨ds,gs,before,hw,hc⟩,hx⟩,hz⟩:=hpre;have hw':=DataW.Whole.of_heap (w':=w.forCall tape i) (by rfl) hw;refine (contract (w.forCall tape i) w.heap.size i.args ds gs before hval hw' hc (hz.weights hw) (hX _ _ _ (by rfl) hx) hsh hholds).mono fun e W' ⟨v,he,hp⟩=>?_
 subst he;exact ChangeSpec.post_blind hp
theorem len_shaped {P:Program} {w:World} {g:Nat} {t:TypeId} {zero:Array Value} (h:w.ShapedOpen P) (hg:g<P.globals.size)
  (h0:((begin P (fun _ _=>0) default).world.heap[g]?).bind Obj.row?=some (zero,t)) (hz:zero.size=1) (hb:P.buildable t=true) (hc:P.cellTypes P.depth t=some [t]) (hu:P.underlying t=some (.int .i64)) :
  ∃ o,w.heap[g]?=some o/\∃ m t' f,o=.cells #[.int .i64 m] t' f:=by
 obtain⟨cs,hh,hs,hr⟩:=h.1 g zero t hg h0;obtain⟨ts,hts,_,hall⟩:=hr hb;rw [hc] at hts;cases hts;have h1:0<cs.size:=by omega
 obtain⟨u,hu',hok⟩:=hall 0 cs[0] (by simp [h1]);have:u=t:=by simpa using hu'.symm
 subst this;unfold Cell.ok at hok;rw [hu] at hok
 have hcs:cs=#[cs[0]]:=by
  apply Array.ext
  ·simp;omega
  ·intro i h2 h3;have:i=0:=by omega
   subst this;rfl
 cases hv:cs[0]<;>rw [hv] at hok<;>simp at hok
 case int k' n=>
  rw [hok.1] at hv;rw [hv] at hcs;exact⟨_,hh,n,_,_,by rw [hcs]⟩
theorem c5y {P:Program} {w:World} {name:String} {k:IntKind} {zs:List Int} {g:Nat} (h:Lib.TabIs P w name k zs) (hg:P.globalNamed name=some g):∃ o,w.heap[g]?=some o/\∃ t f,o=.cells (zs.map fun z=>Value.int k z).toArray t f:=by
 unfold Lib.TabIs World.var? at h;rw [hg] at h;simp only [Option.bind_some] at h;split at h
 ·rename_i cs t f hh;exact⟨_,hh,t,f,by rw [oJI h]⟩
 ·cases h
theorem b7N {P:Program} {W:World} {name:String} {k:IntKind} {zs:List Int} {g:Nat} {t e:TypeId} {n:Nat}
  (hg:P.globalNamed name=some g) (hty:(P.globals[g]?).map (·.type)=some t) (ht:P.underlying t=some (.array n e)) (he:P.underlying e=some (.int k)) (hce:P.cellsOf e=1) (hct:P.cellsOf t=n) :
  ∀ (l:List (String×DataW Unit)) (ps:List MemPlace),(name,Lib.tabData k zs)∈l->DataW.LaidVars P W l ps->Lib.TabIs P W name k zs
 | [],_,hm,_=>by cases hm
 | (m,d)::r,ps,hm,⟨g',t',cs,fuel,p,q,hg',ht',hvar,hd,hs,_⟩=>by
   rcases List.mem_cons.1 hm with e'|hm
   ·obtain⟨rfl,rfl⟩:=Prod.mk.inj e';obtain rfl:=oJI (hg.symm.trans hg');obtain rfl:=oJI (hty.symm.trans ht');unfold Lib.TabIs;rw [hvar,<-Lib.cells_of_tab ht he hce hct hd]
   ·exact b7N hg hty ht he hce hct r q hm hs
theorem tab_met {P:Program} {W:World} {name:String} {k:IntKind} {zs:List Int} {g:Nat} {t e:TypeId} {n:Nat} {l:List (String×DataW Unit)}
  (hg:P.globalNamed name=some g) (hty:(P.globals[g]?).map (·.type)=some t) (ht:P.underlying t=some (.array n e)) (he:P.underlying e=some (.int k)) (hce:P.cellsOf e=1) (hct:P.cellsOf t=n)
  (hp:(l.all fun x=>x.2.handleName?.isNone)=true) (hm:(name,Lib.tabData k zs)∈l) (h:laidMetH P l W):∃ o,W.heap[g]?=some o/\∃ t f,o=.cells (zs.map fun z=>Value.int k z).toArray t f:=by
 rw [MakeChecks.laidMetH_plain _ _ _ hp] at h;obtain⟨ps,h,_⟩:=h;exact c5y (b7N hg hty ht he hce hct l ps hm h) hg
theorem b71 {P:Program} {W:World} {name nm:String} {d0:DataW Unit} {g:Nat} {t:TypeId} {ms:Array (String×TypeId)}
  (hg:P.globalNamed name=some g) (hty:(P.globals[g]?).map (·.type)=some t) (ht:P.underlying t=some (.interface ms)) :
  ∀ (l:List (String×DataW Unit)) (ps:List MemPlace),(name,DataW.iface nm d0)∈l->DataW.LaidVars P W l ps->∃ u v,W.var? P name=some #[.iface u v]
 | [],_,hm,_=>by cases hm
 | (m,d)::r,ps,hm,⟨g',t',cs,fuel,p,q,hg',ht',hvar,hd,hs,_⟩=>by
   rcases List.mem_cons.1 hm with e'|hm
   ·obtain⟨rfl,rfl⟩:=Prod.mk.inj e';obtain rfl:=oJI (hg.symm.trans hg');obtain rfl:=oJI (hty.symm.trans ht');obtain⟨_,u,v,hc,_⟩:=iface_of_trod ht hd;exact⟨u,v,by rw [hvar,<-hc]⟩
   ·exact b71 hg hty ht r q hm hs
theorem sen_met {P:Program} {W:World} {name nm:String} {d0:DataW Unit} {g:Nat} {t:TypeId} {ms:Array (String×TypeId)} {l:List (String×DataW Unit)}
  (hg:P.globalNamed name=some g) (hty:(P.globals[g]?).map (·.type)=some t) (ht:P.underlying t=some (.interface ms))
  (hp:(l.all fun x=>x.2.handleName?.isNone)=true) (hm:(name,DataW.iface nm d0)∈l) (h:laidMetH P l W):∃ o,W.heap[g]?=some o/\∃ u v t f,o=.cells #[.iface u v] t f:=by
 rw [MakeChecks.laidMetH_plain _ _ _ hp] at h;obtain⟨ps,h,_⟩:=h;obtain⟨u,v,h⟩:=b71 hg hty ht l ps hm h;unfold World.var? at h;rw [hg] at h;simp only [Option.bind_some] at h;split at h
 ·rename_i cs t f hh;exact⟨_,hh,u,v,t,f,by rw [oJI h]⟩
 ·cases h
theorem witness_zip {H:Type} {enc:TypeId×Value->H} {C:Checked} {os:Go.Os} {f:FuncId} {fn:Func} {s:ChangeSpec} {conds:List PathCond} {apart:Bool} {X:World->Array Value->Prop} (modest:Bool) (w0:World) (args:Array Value) (fuel:Nat) (hos:w0.os=os)
  (hv:(w0.forCall (fun _ _=>0) ⟨#[],args,[]⟩).variablesZipB C.prog=true)
  (hr:((w0.forCall (fun _ _=>0) ⟨#[],args,[]⟩).heap.toList.drop C.prog.globals.size).take ((begin C.prog (fun _ _=>0) default).world.heap.size-C.prog.globals.size) =
   (begin C.prog (fun _ _=>0) default).world.heap.toList.drop C.prog.globals.size)
  (hok:Input.okWideB C.prog (w0.forCall (fun _ _=>0) ⟨#[],args,[]⟩) f ⟨#[],args,[]⟩=true)
  (hpre:s.preB enc C.prog fn conds apart (w0.forCall (fun _ _=>0) ⟨#[],args,[]⟩).memory args fuel=true)
  (hsz:s.sizedB enc C.prog fn apart (w0.forCall (fun _ _=>0) ⟨#[],args,[]⟩).memory args fuel=true)
  (hx:X (w0.forCall (fun _ _=>0) ⟨#[],args,[]⟩).memory args) :
  ∃ (w:World) (tape:Tape) (i:Input),w.os=os/\(w.forCall tape i).Shaped C.prog/\i.vars=[]/\Input.okWide C.prog (w.forCall tape i) .any w.heap.size f i/\
   ((s.pre enc C.prog fn conds apart (w.forCall tape i).memory i.args/\X (w.forCall tape i).memory i.args)/\sizedMet enc C.prog fn (OpenSpec.ofChange s) apart (w.forCall tape i).memory i.args)/\({ modest:=modest }:Assume).holds C.prog (lone (Frame.enter C.prog f i.args .normal) [] (w.forCall tape i)):=
 ⟨w0,fun _ _=>0,⟨#[],args,[]⟩,hos,World.shaped_of_ZipB hv hr,(Input.okWide_of_okWideB (base:=0) hok).1,(Input.okWide_of_okWideB hok).2,⟨⟨ChangeSpec.pre_of_preB hpre,hx⟩,sizedMet_of_sizedB hsz⟩,by
  simp only [Assume.holds]
  exact⟨by simp,by simp,fun _=>Modest.zero,by simp,by simp⟩⟩
theorem met_laid {P:Program} {os:Go.Os} {laid:List (String×DataW Unit)} (args:Array Value) (hp:(laid.all fun x=>x.2.handleName?.isNone)=true)
  (hf:(World.holding P os ⟨#[],#[],[]⟩).layFits P laid []=true)
  (hi:(World.holding P os ⟨#[],#[],[]⟩).layIfaces P laid (World.laidAll P os laid)=true) :
  laidMetH P laid ((World.laidAll P os laid).forCall (fun _ _=>0) ⟨#[],args,[]⟩).memory:=by
 rw [MakeChecks.laidMetH_plain _ _ _ hp];exact laidMet_laidAll args hf hi
end
end Go.Proofs.YthpjjjnbkfnghaaGreatDoor
