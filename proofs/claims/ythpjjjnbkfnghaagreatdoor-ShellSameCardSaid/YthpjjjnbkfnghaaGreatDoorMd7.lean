/-
  Part 7 of what the proof rests on: values that are told, code that is walked, what comes out.
-/
import Derived.Test.YthpjjjnbkfnghaaGreatDoorMd6
import Derived.LaidLaws
import Derived.LaidHandle
import Derived.Handed
import Derived.HandedShaped
import Derived.Lib.LaidTab
import Derived.Lay
import Derived.MakeChecks
set_option maxRecDepth 100000
set_option maxHeartbeats 8000000
set_option linter.all false
namespace Go.Proofs.YthpjjjnbkfnghaaGreatDoor
open Go
theorem a1U {R:List AV->Ss->AV->Ss->Prop} {xs:List AV} {a b:Ss} {r:AV} {p0 p1 p2 p3 p4 v v1 v2 v3 v4:Nat} {hp:Nat->Row} {top nx:Nat} {K:AV->(Nat->Row)->Nat->Nat->Prop} (hR:R xs a r b) (hnd:[p0,p1,p2,p3,p4].Nodup) (ht:∀ p∈[p0,p1,p2,p3,p4],p<top)
  (h0:a0a (hp p0) (.box v 106 10 (shC p1 p2 p3 p4 v1 v2 v3 v4 a))) (h1:a0a (hp p1) (a0m v1 a.1.1)) (h2:a0a (hp p2) (a0m v2 a.1.2.1)) (h3:a0a (hp p3) (a0m v3 a.1.2.2)) (h4:a0a (hp p4) (mgR v4 a.2.2))
  (hK:∀ u1 u2 u3 u4 nx',(u1=v1\/nx<=u1)->(u2=v2\/nx<=u2)->(u3=v3\/nx<=u3)->((a.2.2.isSome=true/\u4=v4)\/nx<=u4)->nx<=nx'->K r (a0S (a0S (a0S (a0S (a0S hp p4 (mgR u4 b.2.2)) p3 (a0m u3 b.1.2.2)) p2 (a0m u2 b.1.2.1)) p1 (a0m u1 b.1.1)) p0 (.box v 106 10 (shC p1 p2 p3 p4 u1 u2 u3 u4 b))) top nx') :
  a1F (sSh R) (.pt p0 v 0::xs) hp top nx K:=by
 have w0:(hp p0).ver=some v:=h0.vers.symm
 have w1:(hp p1).ver=some v1:=h1.vers.symm
 have w2:(hp p2).ver=some v2:=h2.vers.symm
 have w3:(hp p3).ver=some v3:=h3.vers.symm
 have w4:(hp p4).ver=(mgR v4 a.2.2).ver:=h4.vers.symm
 simp only [List.nodup_cons,List.mem_cons,List.not_mem_nil,or_false,not_or,List.nodup_nil,and_true] at hnd
 obtain⟨⟨d01,d02,d03,d04⟩,⟨d12,d13,d14⟩,⟨d23,d24⟩,d34,_⟩:=hnd
 refine⟨[p0,p1,p2,p3,p4],.pt 0 v 0::xs,rws [(0,.box v 106 10 (shC 1 2 3 4 v1 v2 v3 v4 a)),(1,a0m v1 a.1.1),(2,a0m v2 a.1.2.1),(3,a0m v3 a.1.2.2),(4,mgR v4 a.2.2)],by simp [d01,d02,d03,d04,d12,d13,d14,d23,d24,d34],ht,.cons a0e.pt (a4C.same xs),d3P (h0.trans (d2H p1 p2 p3 p4 1 2 3 4 v v1 v2 v3 v4 a)) h1 h2 h3 h4,fun i hi=>a1Y (top:=5) (by simp) i (by simpa using hi),v,v1,v2,v3,v4,xs,a,r,b,rfl,hR,rfl,rfl,fun u1 u2 u3 u4 nx' g1 g2 g3 g4 hn=>?_⟩
 have e0:∀ f:Nat->Row,∀ x,a0S f p0 x p0=x:=fun f x=>a0k ..
 refine⟨_,_,a0e.refl _,fun i o ho=>?_,fun o ho=>?_,fun o ho w hv=>?_,hK u1 u2 u3 u4 nx' g1 g2 g3 g4 hn⟩
 ·match i with
  | 0=>
    simp only [List.getElem?_cons_zero,Option.some.injEq] at ho
    subst ho
    rw [a0k]
    exact d2H 1 2 3 4 p1 p2 p3 p4 v u1 u2 u3 u4 b
  | 1=>
    simp only [List.getElem?_cons_succ,List.getElem?_cons_zero,Option.some.injEq] at ho
    subst ho
    rw [a0f _ _ (Ne.symm d01),a0k]
    exact a0a.refl _
  | 2=>
    simp only [List.getElem?_cons_succ,List.getElem?_cons_zero,Option.some.injEq] at ho
    subst ho
    rw [a0f _ _ (Ne.symm d02),a0f _ _ (Ne.symm d12),a0k]
    exact a0a.refl _
  | 3=>
    simp only [List.getElem?_cons_succ,List.getElem?_cons_zero,Option.some.injEq] at ho
    subst ho
    rw [a0f _ _ (Ne.symm d03),a0f _ _ (Ne.symm d13),a0f _ _ (Ne.symm d23),a0k]
    exact a0a.refl _
  | 4=>
    simp only [List.getElem?_cons_succ,List.getElem?_cons_zero,Option.some.injEq] at ho
    subst ho
    rw [a0f _ _ (Ne.symm d04),a0f _ _ (Ne.symm d14),a0f _ _ (Ne.symm d24),a0f _ _ (Ne.symm d34),a0k]
    exact a0a.refl _
  | i+5=>simp at ho
 ·simp only [List.mem_cons,List.not_mem_nil,or_false,not_or] at ho
  obtain⟨o0,o1,o2,o3,o4⟩:=ho
  rw [a0f _ _ o0,a0f _ _ o1,a0f _ _ o2,a0f _ _ o3,a0f _ _ o4]
 ·simp only [List.mem_cons,List.not_mem_nil,or_false] at ho
  rcases ho with rfl|rfl|rfl|rfl|rfl
  ·rw [a0k] at hv
   have:some v=some w:=hv
   obtain rfl:=Option.some.inj this
   exact .inl w0
  ·rw [a0f _ _ (Ne.symm d01),a0k] at hv
   have:some u1=some w:=hv
   obtain rfl:=Option.some.inj this
   exact g1.imp (fun e=>by rw [e];exact w1) id
  ·rw [a0f _ _ (Ne.symm d02),a0f _ _ (Ne.symm d12),a0k] at hv
   have:some u2=some w:=hv
   obtain rfl:=Option.some.inj this
   exact g2.imp (fun e=>by rw [e];exact w2) id
  ·rw [a0f _ _ (Ne.symm d03),a0f _ _ (Ne.symm d13),a0f _ _ (Ne.symm d23),a0k] at hv
   have:some u3=some w:=hv
   obtain rfl:=Option.some.inj this
   exact g3.imp (fun e=>by rw [e];exact w3) id
  ·rw [a0f _ _ (Ne.symm d04),a0f _ _ (Ne.symm d14),a0f _ _ (Ne.symm d24),a0f _ _ (Ne.symm d34),a0k] at hv
   obtain⟨_,rfl⟩:=d22 hv
   rcases g4 with⟨q,rfl⟩|g4
   ·refine .inl ?_
    rw [w4]
    cases hm:a.2.2 with
    | none=>rw [hm] at q;cases q
    | some m=>rfl
   ·exact .inr g4
attribute [local irreducible] AW a0e a1g a0a a6E
theorem a26 (l:List BS):AV.sn (l.length-1) 1 (fun i=>eS.enc (l.getD (1+i) []))=sL eS l.tail:=by
 unfold sL
 rw [List.length_tail]
 congr 1
 funext i
 have e:l.tail.getD i eS.dflt=l.getD (1+i) []:=(a1m l i).trans (by rw [Nat.add_comm])
 rw [e]
structure b04 (B:Nat) (a:Ss):Prop where
 txt:a.1.1.length+a.1.2.1.length+a.1.2.2.length<=B
 lb:lbN a.2.1.1<=3000
 mg:∀ m,a.2.2=some m->b8t m
noncomputable def doP (line:BS) (a:Ss):BS×Ss:=
 if (wdL line).getD 0 []=[97,100,100] then a28 line a
 else if (wdL line).getD 0 []=[98,97,114,101]\/(wdL line).getD 0 []=[99,108,101,97,114] then a1p ((wdL line).getD 0 []) line a
 else if (wdL line).getD 0 []=[115,116,121,108,101]\/(wdL line).getD 0 []=[119,105,100,116,104]\/(wdL line).getD 0 []=[102,97,118,111,117,114] then a1R ((wdL line).getD 0 []) line a
 else if (wdL line).getD 0 []=[108,97,98,101,108,115] then a4l line a
 else if (wdL line).getD 0 []=[109,101,114,103,101] then a1t line a
 else if (wdL line).getD 0 []=[116,101,120,116]\/(wdL line).getD 0 []=[119,105,100,101]\/(wdL line).getD 0 []=[99,104,117,110,107,115]\/(wdL line).getD 0 []=[115,104,111,119] then (a2d ((wdL line).getD 0 []) line a,a)
 else if (wdL line).getD 0 []=[114,101,115,111,108,118,101] then (a5Q line a,a)
 else if (wdL line).getD 0 []=[112,105,99,107] then a1V line a
 else if (wdL line).getD 0 []=[100,105,102,102] then (a2A line a,a)
 else if (wdL line).getD 0 []=[112,97,114,115,101] then a1L line a
 else (a0V,a)
noncomputable def a6X (xs:List AV) (a:Ss) (r:AV) (b:Ss):Prop:=∃ line:List UInt8,xs=[.st line]/\line.length<=1000/\b04 9400 a/\r=.st (doP line a).1/\b=(doP line a).2
noncomputable def d2n:a0L:=sSh a6X
theorem d0J {a:Ss} (h:b04 9400 a):d1I a/\(0<=(b81 a).2.2.2.2.2.2/\(b81 a).2.2.2.2.2.2<=1000000):=by
 have hM:=b0U h.txt
 refine⟨⟨hM,h.lb⟩,?_⟩
 unfold b81 b4b
 split
 ·rename_i hx
  obtain⟨p1,p2,p3⟩:=c5D hx
  have hF:=a8n hM p2 a.2.1.2.1 h.lb p1 a.2.1.2.2.2
  have h1:=hF.len
  have h2:=b9C (a04 a.1.1 a.1.2.1 a.1.2.2) (a5T (a04 a.1.1 a.1.2.1 a.1.2.2))
  show 0<=((b4K (a04 a.1.1 a.1.2.1 a.1.2.2) (a5T (a04 a.1.1 a.1.2.1 a.1.2.2)):Nat):Int)/\((b4K (a04 a.1.1 a.1.2.1 a.1.2.2) (a5T (a04 a.1.1 a.1.2.1 a.1.2.2)):Nat):Int)<=_
  omega
 ·exact⟨by decide,by decide⟩
theorem d18:a0i Tryz.prog 20 d2n:=by
 refine a0i.mk Tryz.func20 rfl (by decide) Tryz.results20 Tryz.ntmps20 ?_
 rintro args hp top nx K ⟨v,v1,v2,v3,v4,xs,a,r,b,rfl,⟨line,rfl,hl,hs,rfl,rfl⟩,rfl,rfl,hK⟩
 have hΓ:GOK Tryz.prog (gam [(55,a0q),(56,a07),(57,a0y),(58,a1b),(59,a08),(60,a0o),(61,a0x),(62,a0A),(63,a0p),(64,a0r),(65,a0l)]):=(.cons b70 (.cons c7a (.cons c0J (.cons c7c (.cons c71 (.cons b6J (.cons c1q (.cons c1L (.cons b6o (.cons b7F (.cons b4r .nil)))))))))))
 refine⟨Nat.le_of_ble_eq_true rfl,AW.late ?_⟩
 have hw0:=List.length_pos_iff.2 (a62 line)
 have hmc:=d0J hs
 have htx:=hs.txt
 have hsz:c7q a:=⟨by omega,by omega,by omega⟩
 have hsp:a.1.1.length<=1000000:=by omega
 generalize hv:(wdL line).getD 0 []=verb at *
 by_cases h_add:verb=[97,100,100]
 ·have e:doP line a=a28 line a:=by unfold doP;rw [hv,if_pos h_add]
  rw [e] at hK
  have he:=eq_true h_add
  refine AW.of hΓ mixed [99999] _ _ _ rfl ?_
  simp only [go_sem,a0q,a07,a0y,a1b,a08,a0o,a0x,a0A,a0p,a0r,a0l,hv,he]
  refine⟨by omega,by omega,⟨by omega,by omega⟩,?_⟩
  rw [a26]
  refine a1U (R:=c7x) ⟨line,rfl,hl,hsz,rfl,rfl⟩ (by decide) (by decide) (a0a.refl _) (a0a.refl _) (a0a.refl _) (a0a.refl _) (a0a.refl _) fun u1 u2 u3 u4 nx' g1 g2 g3 g4 hn=>?_
  simp only [go_sem,a0q,a07,a0y,a1b,a08,a0o,a0x,a0A,a0p,a0r,a0l]
  refine⟨_,a0g (fun p=>p) (l:=[(4,.st ((a28 line a).1))]) (r:=[(0,.box v 106 10 (shC 1 2 3 4 u1 u2 u3 u4 ((a28 line a).2))),(1,a0m u1 ((a28 line a).2).1.1),(2,a0m u2 ((a28 line a).2).1.2.1),(3,a0m u3 ((a28 line a).2).1.2.2),(4,mgR u4 ((a28 line a).2).2.2)]) (sz:=78) (top:=5) (nx:=nx') (df:=[]) ?_,?_⟩
  ·simp only [go_sem,a0q,a07,a0y,a1b,a08,a0o,a0x,a0A,a0p,a0r,a0l]
   exact⟨a0a.refl _,a0a.refl _,a0a.refl _,a0a.refl _,a0a.refl _⟩
  ·simp only [go_sem,a0q,a07,a0y,a1b,a08,a0o,a0x,a0A,a0p,a0r,a0l]
   exact hK u1 u2 u3 u4 nx' g1 g2 g3 g4 hn
 by_cases h_bare:verb=[98,97,114,101]
 ·have e:doP line a=a1p verb line a:=by unfold doP;rw [hv,if_neg h_add,if_pos (.inl h_bare)]
  rw [e] at hK
  have he:=eq_true h_bare
  refine AW.of hΓ mixed [99999] _ _ _ rfl ?_
  simp only [go_sem,a0q,a07,a0y,a1b,a08,a0o,a0x,a0A,a0p,a0r,a0l,hv,he,h_add]
  refine⟨by omega,by omega,⟨by omega,by omega⟩,?_⟩
  rw [a26]
  refine a1U (R:=b9D) ⟨verb,line,rfl,hl,hsz,rfl,rfl⟩ (by decide) (by decide) (a0a.refl _) (a0a.refl _) (a0a.refl _) (a0a.refl _) (a0a.refl _) fun u1 u2 u3 u4 nx' g1 g2 g3 g4 hn=>?_
  simp only [go_sem,a0q,a07,a0y,a1b,a08,a0o,a0x,a0A,a0p,a0r,a0l]
  refine⟨_,a0g (fun p=>p) (l:=[(4,.st ((a1p verb line a).1))]) (r:=[(0,.box v 106 10 (shC 1 2 3 4 u1 u2 u3 u4 ((a1p verb line a).2))),(1,a0m u1 ((a1p verb line a).2).1.1),(2,a0m u2 ((a1p verb line a).2).1.2.1),(3,a0m u3 ((a1p verb line a).2).1.2.2),(4,mgR u4 ((a1p verb line a).2).2.2)]) (sz:=78) (top:=5) (nx:=nx') (df:=[]) ?_,?_⟩
  ·simp only [go_sem,a0q,a07,a0y,a1b,a08,a0o,a0x,a0A,a0p,a0r,a0l]
   exact⟨a0a.refl _,a0a.refl _,a0a.refl _,a0a.refl _,a0a.refl _⟩
  ·simp only [go_sem,a0q,a07,a0y,a1b,a08,a0o,a0x,a0A,a0p,a0r,a0l]
   exact hK u1 u2 u3 u4 nx' g1 g2 g3 g4 hn
 by_cases h_clear:verb=[99,108,101,97,114]
 ·have e:doP line a=a1p verb line a:=by unfold doP;rw [hv,if_neg h_add,if_pos (.inr h_clear)]
  rw [e] at hK
  have he:=eq_true h_clear
  refine AW.of hΓ mixed [99999] _ _ _ rfl ?_
  simp only [go_sem,a0q,a07,a0y,a1b,a08,a0o,a0x,a0A,a0p,a0r,a0l,hv,he,h_add,h_bare]
  refine⟨by omega,by omega,⟨by omega,by omega⟩,?_⟩
  rw [a26]
  refine a1U (R:=b9D) ⟨verb,line,rfl,hl,hsz,rfl,rfl⟩ (by decide) (by decide) (a0a.refl _) (a0a.refl _) (a0a.refl _) (a0a.refl _) (a0a.refl _) fun u1 u2 u3 u4 nx' g1 g2 g3 g4 hn=>?_
  simp only [go_sem,a0q,a07,a0y,a1b,a08,a0o,a0x,a0A,a0p,a0r,a0l]
  refine⟨_,a0g (fun p=>p) (l:=[(4,.st ((a1p verb line a).1))]) (r:=[(0,.box v 106 10 (shC 1 2 3 4 u1 u2 u3 u4 ((a1p verb line a).2))),(1,a0m u1 ((a1p verb line a).2).1.1),(2,a0m u2 ((a1p verb line a).2).1.2.1),(3,a0m u3 ((a1p verb line a).2).1.2.2),(4,mgR u4 ((a1p verb line a).2).2.2)]) (sz:=78) (top:=5) (nx:=nx') (df:=[]) ?_,?_⟩
  ·simp only [go_sem,a0q,a07,a0y,a1b,a08,a0o,a0x,a0A,a0p,a0r,a0l]
   exact⟨a0a.refl _,a0a.refl _,a0a.refl _,a0a.refl _,a0a.refl _⟩
  ·simp only [go_sem,a0q,a07,a0y,a1b,a08,a0o,a0x,a0A,a0p,a0r,a0l]
   exact hK u1 u2 u3 u4 nx' g1 g2 g3 g4 hn
 by_cases h_style:verb=[115,116,121,108,101]
 ·have e:doP line a=a1R verb line a:=by unfold doP;rw [hv,if_neg h_add,if_neg (fun h=>h.elim h_bare h_clear),if_pos (.inl h_style)]
  rw [e] at hK
  have he:=eq_true h_style
  refine AW.of hΓ mixed [99999] _ _ _ rfl ?_
  simp only [go_sem,a0q,a07,a0y,a1b,a08,a0o,a0x,a0A,a0p,a0r,a0l,hv,he,h_add,h_bare,h_clear]
  refine⟨by omega,by omega,⟨by omega,by omega⟩,?_⟩
  rw [a26]
  refine a1U (R:=b7u) ⟨verb,line,rfl,hl,hsz,rfl,rfl⟩ (by decide) (by decide) (a0a.refl _) (a0a.refl _) (a0a.refl _) (a0a.refl _) (a0a.refl _) fun u1 u2 u3 u4 nx' g1 g2 g3 g4 hn=>?_
  simp only [go_sem,a0q,a07,a0y,a1b,a08,a0o,a0x,a0A,a0p,a0r,a0l]
  refine⟨_,a0g (fun p=>p) (l:=[(4,.st ((a1R verb line a).1))]) (r:=[(0,.box v 106 10 (shC 1 2 3 4 u1 u2 u3 u4 ((a1R verb line a).2))),(1,a0m u1 ((a1R verb line a).2).1.1),(2,a0m u2 ((a1R verb line a).2).1.2.1),(3,a0m u3 ((a1R verb line a).2).1.2.2),(4,mgR u4 ((a1R verb line a).2).2.2)]) (sz:=78) (top:=5) (nx:=nx') (df:=[]) ?_,?_⟩
  ·simp only [go_sem,a0q,a07,a0y,a1b,a08,a0o,a0x,a0A,a0p,a0r,a0l]
   exact⟨a0a.refl _,a0a.refl _,a0a.refl _,a0a.refl _,a0a.refl _⟩
  ·simp only [go_sem,a0q,a07,a0y,a1b,a08,a0o,a0x,a0A,a0p,a0r,a0l]
   exact hK u1 u2 u3 u4 nx' g1 g2 g3 g4 hn
 by_cases h_width:verb=[119,105,100,116,104]
 ·have e:doP line a=a1R verb line a:=by unfold doP;rw [hv,if_neg h_add,if_neg (fun h=>h.elim h_bare h_clear),if_pos (.inr (.inl h_width))]
  rw [e] at hK
  have he:=eq_true h_width
  refine AW.of hΓ mixed [99999] _ _ _ rfl ?_
  simp only [go_sem,a0q,a07,a0y,a1b,a08,a0o,a0x,a0A,a0p,a0r,a0l,hv,he,h_add,h_bare,h_clear,h_style]
  refine⟨by omega,by omega,⟨by omega,by omega⟩,?_⟩
  rw [a26]
  refine a1U (R:=b7u) ⟨verb,line,rfl,hl,hsz,rfl,rfl⟩ (by decide) (by decide) (a0a.refl _) (a0a.refl _) (a0a.refl _) (a0a.refl _) (a0a.refl _) fun u1 u2 u3 u4 nx' g1 g2 g3 g4 hn=>?_
  simp only [go_sem,a0q,a07,a0y,a1b,a08,a0o,a0x,a0A,a0p,a0r,a0l]
  refine⟨_,a0g (fun p=>p) (l:=[(4,.st ((a1R verb line a).1))]) (r:=[(0,.box v 106 10 (shC 1 2 3 4 u1 u2 u3 u4 ((a1R verb line a).2))),(1,a0m u1 ((a1R verb line a).2).1.1),(2,a0m u2 ((a1R verb line a).2).1.2.1),(3,a0m u3 ((a1R verb line a).2).1.2.2),(4,mgR u4 ((a1R verb line a).2).2.2)]) (sz:=78) (top:=5) (nx:=nx') (df:=[]) ?_,?_⟩
  ·simp only [go_sem,a0q,a07,a0y,a1b,a08,a0o,a0x,a0A,a0p,a0r,a0l]
   exact⟨a0a.refl _,a0a.refl _,a0a.refl _,a0a.refl _,a0a.refl _⟩
  ·simp only [go_sem,a0q,a07,a0y,a1b,a08,a0o,a0x,a0A,a0p,a0r,a0l]
   exact hK u1 u2 u3 u4 nx' g1 g2 g3 g4 hn
 by_cases h_favour:verb=[102,97,118,111,117,114]
 ·have e:doP line a=a1R verb line a:=by unfold doP;rw [hv,if_neg h_add,if_neg (fun h=>h.elim h_bare h_clear),if_pos (.inr (.inr h_favour))]
  rw [e] at hK
  have he:=eq_true h_favour
  refine AW.of hΓ mixed [99999] _ _ _ rfl ?_
  simp only [go_sem,a0q,a07,a0y,a1b,a08,a0o,a0x,a0A,a0p,a0r,a0l,hv,he,h_add,h_bare,h_clear,h_style,h_width]
  refine⟨by omega,by omega,⟨by omega,by omega⟩,?_⟩
  rw [a26]
  refine a1U (R:=b7u) ⟨verb,line,rfl,hl,hsz,rfl,rfl⟩ (by decide) (by decide) (a0a.refl _) (a0a.refl _) (a0a.refl _) (a0a.refl _) (a0a.refl _) fun u1 u2 u3 u4 nx' g1 g2 g3 g4 hn=>?_
  simp only [go_sem,a0q,a07,a0y,a1b,a08,a0o,a0x,a0A,a0p,a0r,a0l]
  refine⟨_,a0g (fun p=>p) (l:=[(4,.st ((a1R verb line a).1))]) (r:=[(0,.box v 106 10 (shC 1 2 3 4 u1 u2 u3 u4 ((a1R verb line a).2))),(1,a0m u1 ((a1R verb line a).2).1.1),(2,a0m u2 ((a1R verb line a).2).1.2.1),(3,a0m u3 ((a1R verb line a).2).1.2.2),(4,mgR u4 ((a1R verb line a).2).2.2)]) (sz:=78) (top:=5) (nx:=nx') (df:=[]) ?_,?_⟩
  ·simp only [go_sem,a0q,a07,a0y,a1b,a08,a0o,a0x,a0A,a0p,a0r,a0l]
   exact⟨a0a.refl _,a0a.refl _,a0a.refl _,a0a.refl _,a0a.refl _⟩
  ·simp only [go_sem,a0q,a07,a0y,a1b,a08,a0o,a0x,a0A,a0p,a0r,a0l]
   exact hK u1 u2 u3 u4 nx' g1 g2 g3 g4 hn
 by_cases h_labels:verb=[108,97,98,101,108,115]
 ·have e:doP line a=a4l line a:=by unfold doP;rw [hv,if_neg h_add,if_neg (fun h=>h.elim h_bare h_clear),if_neg (fun h=>h.elim h_style (fun h=>h.elim h_width h_favour)),if_pos h_labels]
  rw [e] at hK
  have he:=eq_true h_labels
  refine AW.of hΓ mixed [99999] _ _ _ rfl ?_
  simp only [go_sem,a0q,a07,a0y,a1b,a08,a0o,a0x,a0A,a0p,a0r,a0l,hv,he,h_add,h_bare,h_clear,h_style,h_width,h_favour]
  refine⟨by omega,by omega,⟨by omega,by omega⟩,?_⟩
  rw [a26]
  refine a1U (R:=c7f) ⟨line,rfl,hl,hsz,rfl,rfl⟩ (by decide) (by decide) (a0a.refl _) (a0a.refl _) (a0a.refl _) (a0a.refl _) (a0a.refl _) fun u1 u2 u3 u4 nx' g1 g2 g3 g4 hn=>?_
  simp only [go_sem,a0q,a07,a0y,a1b,a08,a0o,a0x,a0A,a0p,a0r,a0l]
  refine⟨_,a0g (fun p=>p) (l:=[(4,.st ((a4l line a).1))]) (r:=[(0,.box v 106 10 (shC 1 2 3 4 u1 u2 u3 u4 ((a4l line a).2))),(1,a0m u1 ((a4l line a).2).1.1),(2,a0m u2 ((a4l line a).2).1.2.1),(3,a0m u3 ((a4l line a).2).1.2.2),(4,mgR u4 ((a4l line a).2).2.2)]) (sz:=78) (top:=5) (nx:=nx') (df:=[]) ?_,?_⟩
  ·simp only [go_sem,a0q,a07,a0y,a1b,a08,a0o,a0x,a0A,a0p,a0r,a0l]
   exact⟨a0a.refl _,a0a.refl _,a0a.refl _,a0a.refl _,a0a.refl _⟩
  ·simp only [go_sem,a0q,a07,a0y,a1b,a08,a0o,a0x,a0A,a0p,a0r,a0l]
   exact hK u1 u2 u3 u4 nx' g1 g2 g3 g4 hn
 by_cases h_merge:verb=[109,101,114,103,101]
 ·have e:doP line a=a1t line a:=by unfold doP;rw [hv,if_neg h_add,if_neg (fun h=>h.elim h_bare h_clear),if_neg (fun h=>h.elim h_style (fun h=>h.elim h_width h_favour)),if_neg h_labels,if_pos h_merge]
  rw [e] at hK
  have he:=eq_true h_merge
  refine AW.of hΓ mixed [99999] _ _ _ rfl ?_
  simp only [go_sem,a0q,a07,a0y,a1b,a08,a0o,a0x,a0A,a0p,a0r,a0l,hv,he,h_add,h_bare,h_clear,h_style,h_width,h_favour,h_labels]
  refine⟨by omega,by omega,⟨by omega,by omega⟩,?_⟩
  rw [a26]
  refine a1U (R:=b6C) ⟨line,rfl,hl,hmc.1,hmc.2,rfl,rfl⟩ (by decide) (by decide) (a0a.refl _) (a0a.refl _) (a0a.refl _) (a0a.refl _) (a0a.refl _) fun u1 u2 u3 u4 nx' g1 g2 g3 g4 hn=>?_
  simp only [go_sem,a0q,a07,a0y,a1b,a08,a0o,a0x,a0A,a0p,a0r,a0l]
  refine⟨_,a0g (fun p=>p) (l:=[(4,.st ((a1t line a).1))]) (r:=[(0,.box v 106 10 (shC 1 2 3 4 u1 u2 u3 u4 ((a1t line a).2))),(1,a0m u1 ((a1t line a).2).1.1),(2,a0m u2 ((a1t line a).2).1.2.1),(3,a0m u3 ((a1t line a).2).1.2.2),(4,mgR u4 ((a1t line a).2).2.2)]) (sz:=78) (top:=5) (nx:=nx') (df:=[]) ?_,?_⟩
  ·simp only [go_sem,a0q,a07,a0y,a1b,a08,a0o,a0x,a0A,a0p,a0r,a0l]
   exact⟨a0a.refl _,a0a.refl _,a0a.refl _,a0a.refl _,a0a.refl _⟩
  ·simp only [go_sem,a0q,a07,a0y,a1b,a08,a0o,a0x,a0A,a0p,a0r,a0l]
   exact hK u1 u2 u3 u4 nx' g1 g2 g3 g4 hn
 by_cases h_text:verb=[116,101,120,116]
 ·have e:doP line a=(a2d verb line a,a):=by unfold doP;rw [hv,if_neg h_add,if_neg (fun h=>h.elim h_bare h_clear),if_neg (fun h=>h.elim h_style (fun h=>h.elim h_width h_favour)),if_neg h_labels,if_neg h_merge,if_pos (.inl h_text)]
  rw [e] at hK
  have he:=eq_true h_text
  refine AW.of hΓ mixed [99999] _ _ _ rfl ?_
  simp only [go_sem,a0q,a07,a0y,a1b,a08,a0o,a0x,a0A,a0p,a0r,a0l,hv,he,h_add,h_bare,h_clear,h_style,h_width,h_favour,h_labels,h_merge]
  refine⟨by omega,by omega,⟨by omega,by omega⟩,?_⟩
  rw [a26]
  refine a1U (R:=a90) ⟨verb,line,rfl,hl,hs.mg,rfl,rfl⟩ (by decide) (by decide) (a0a.refl _) (a0a.refl _) (a0a.refl _) (a0a.refl _) (a0a.refl _) fun u1 u2 u3 u4 nx' g1 g2 g3 g4 hn=>?_
  simp only [go_sem,a0q,a07,a0y,a1b,a08,a0o,a0x,a0A,a0p,a0r,a0l]
  refine⟨_,a0g (fun p=>p) (l:=[(4,.st (a2d verb line a))]) (r:=[(0,.box v 106 10 (shC 1 2 3 4 u1 u2 u3 u4 (a))),(1,a0m u1 (a).1.1),(2,a0m u2 (a).1.2.1),(3,a0m u3 (a).1.2.2),(4,mgR u4 (a).2.2)]) (sz:=78) (top:=5) (nx:=nx') (df:=[]) ?_,?_⟩
  ·simp only [go_sem,a0q,a07,a0y,a1b,a08,a0o,a0x,a0A,a0p,a0r,a0l]
   exact⟨a0a.refl _,a0a.refl _,a0a.refl _,a0a.refl _,a0a.refl _⟩
  ·simp only [go_sem,a0q,a07,a0y,a1b,a08,a0o,a0x,a0A,a0p,a0r,a0l]
   exact hK u1 u2 u3 u4 nx' g1 g2 g3 g4 hn
 by_cases h_wide:verb=[119,105,100,101]
 ·have e:doP line a=(a2d verb line a,a):=by unfold doP;rw [hv,if_neg h_add,if_neg (fun h=>h.elim h_bare h_clear),if_neg (fun h=>h.elim h_style (fun h=>h.elim h_width h_favour)),if_neg h_labels,if_neg h_merge,if_pos (.inr (.inl h_wide))]
  rw [e] at hK
  have he:=eq_true h_wide
  refine AW.of hΓ mixed [99999] _ _ _ rfl ?_
  simp only [go_sem,a0q,a07,a0y,a1b,a08,a0o,a0x,a0A,a0p,a0r,a0l,hv,he,h_add,h_bare,h_clear,h_style,h_width,h_favour,h_labels,h_merge,h_text]
  refine⟨by omega,by omega,⟨by omega,by omega⟩,?_⟩
  rw [a26]
  refine a1U (R:=a90) ⟨verb,line,rfl,hl,hs.mg,rfl,rfl⟩ (by decide) (by decide) (a0a.refl _) (a0a.refl _) (a0a.refl _) (a0a.refl _) (a0a.refl _) fun u1 u2 u3 u4 nx' g1 g2 g3 g4 hn=>?_
  simp only [go_sem,a0q,a07,a0y,a1b,a08,a0o,a0x,a0A,a0p,a0r,a0l]
  refine⟨_,a0g (fun p=>p) (l:=[(4,.st (a2d verb line a))]) (r:=[(0,.box v 106 10 (shC 1 2 3 4 u1 u2 u3 u4 (a))),(1,a0m u1 (a).1.1),(2,a0m u2 (a).1.2.1),(3,a0m u3 (a).1.2.2),(4,mgR u4 (a).2.2)]) (sz:=78) (top:=5) (nx:=nx') (df:=[]) ?_,?_⟩
  ·simp only [go_sem,a0q,a07,a0y,a1b,a08,a0o,a0x,a0A,a0p,a0r,a0l]
   exact⟨a0a.refl _,a0a.refl _,a0a.refl _,a0a.refl _,a0a.refl _⟩
  ·simp only [go_sem,a0q,a07,a0y,a1b,a08,a0o,a0x,a0A,a0p,a0r,a0l]
   exact hK u1 u2 u3 u4 nx' g1 g2 g3 g4 hn
 by_cases h_chunks:verb=[99,104,117,110,107,115]
 ·have e:doP line a=(a2d verb line a,a):=by unfold doP;rw [hv,if_neg h_add,if_neg (fun h=>h.elim h_bare h_clear),if_neg (fun h=>h.elim h_style (fun h=>h.elim h_width h_favour)),if_neg h_labels,if_neg h_merge,if_pos (.inr (.inr (.inl h_chunks)))]
  rw [e] at hK
  have he:=eq_true h_chunks
  refine AW.of hΓ mixed [99999] _ _ _ rfl ?_
  simp only [go_sem,a0q,a07,a0y,a1b,a08,a0o,a0x,a0A,a0p,a0r,a0l,hv,he,h_add,h_bare,h_clear,h_style,h_width,h_favour,h_labels,h_merge,h_text,h_wide]
  refine⟨by omega,by omega,⟨by omega,by omega⟩,?_⟩
  rw [a26]
  refine a1U (R:=a90) ⟨verb,line,rfl,hl,hs.mg,rfl,rfl⟩ (by decide) (by decide) (a0a.refl _) (a0a.refl _) (a0a.refl _) (a0a.refl _) (a0a.refl _) fun u1 u2 u3 u4 nx' g1 g2 g3 g4 hn=>?_
  simp only [go_sem,a0q,a07,a0y,a1b,a08,a0o,a0x,a0A,a0p,a0r,a0l]
  refine⟨_,a0g (fun p=>p) (l:=[(4,.st (a2d verb line a))]) (r:=[(0,.box v 106 10 (shC 1 2 3 4 u1 u2 u3 u4 (a))),(1,a0m u1 (a).1.1),(2,a0m u2 (a).1.2.1),(3,a0m u3 (a).1.2.2),(4,mgR u4 (a).2.2)]) (sz:=78) (top:=5) (nx:=nx') (df:=[]) ?_,?_⟩
  ·simp only [go_sem,a0q,a07,a0y,a1b,a08,a0o,a0x,a0A,a0p,a0r,a0l]
   exact⟨a0a.refl _,a0a.refl _,a0a.refl _,a0a.refl _,a0a.refl _⟩
  ·simp only [go_sem,a0q,a07,a0y,a1b,a08,a0o,a0x,a0A,a0p,a0r,a0l]
   exact hK u1 u2 u3 u4 nx' g1 g2 g3 g4 hn
 by_cases h_show:verb=[115,104,111,119]
 ·have e:doP line a=(a2d verb line a,a):=by unfold doP;rw [hv,if_neg h_add,if_neg (fun h=>h.elim h_bare h_clear),if_neg (fun h=>h.elim h_style (fun h=>h.elim h_width h_favour)),if_neg h_labels,if_neg h_merge,if_pos (.inr (.inr (.inr h_show)))]
  rw [e] at hK
  have he:=eq_true h_show
  refine AW.of hΓ mixed [99999] _ _ _ rfl ?_
  simp only [go_sem,a0q,a07,a0y,a1b,a08,a0o,a0x,a0A,a0p,a0r,a0l,hv,he,h_add,h_bare,h_clear,h_style,h_width,h_favour,h_labels,h_merge,h_text,h_wide,h_chunks]
  refine⟨by omega,by omega,⟨by omega,by omega⟩,?_⟩
  rw [a26]
  refine a1U (R:=a90) ⟨verb,line,rfl,hl,hs.mg,rfl,rfl⟩ (by decide) (by decide) (a0a.refl _) (a0a.refl _) (a0a.refl _) (a0a.refl _) (a0a.refl _) fun u1 u2 u3 u4 nx' g1 g2 g3 g4 hn=>?_
  simp only [go_sem,a0q,a07,a0y,a1b,a08,a0o,a0x,a0A,a0p,a0r,a0l]
  refine⟨_,a0g (fun p=>p) (l:=[(4,.st (a2d verb line a))]) (r:=[(0,.box v 106 10 (shC 1 2 3 4 u1 u2 u3 u4 (a))),(1,a0m u1 (a).1.1),(2,a0m u2 (a).1.2.1),(3,a0m u3 (a).1.2.2),(4,mgR u4 (a).2.2)]) (sz:=78) (top:=5) (nx:=nx') (df:=[]) ?_,?_⟩
  ·simp only [go_sem,a0q,a07,a0y,a1b,a08,a0o,a0x,a0A,a0p,a0r,a0l]
   exact⟨a0a.refl _,a0a.refl _,a0a.refl _,a0a.refl _,a0a.refl _⟩
  ·simp only [go_sem,a0q,a07,a0y,a1b,a08,a0o,a0x,a0A,a0p,a0r,a0l]
   exact hK u1 u2 u3 u4 nx' g1 g2 g3 g4 hn
 by_cases h_resolve:verb=[114,101,115,111,108,118,101]
 ·have e:doP line a=(a5Q line a,a):=by unfold doP;rw [hv,if_neg h_add,if_neg (fun h=>h.elim h_bare h_clear),if_neg (fun h=>h.elim h_style (fun h=>h.elim h_width h_favour)),if_neg h_labels,if_neg h_merge,if_neg (fun h=>h.elim h_text (fun h=>h.elim h_wide (fun h=>h.elim h_chunks h_show))),if_pos h_resolve]
  rw [e] at hK
  have he:=eq_true h_resolve
  refine AW.of hΓ mixed [99999] _ _ _ rfl ?_
  simp only [go_sem,a0q,a07,a0y,a1b,a08,a0o,a0x,a0A,a0p,a0r,a0l,hv,he,h_add,h_bare,h_clear,h_style,h_width,h_favour,h_labels,h_merge,h_text,h_wide,h_chunks,h_show]
  refine⟨by omega,by omega,⟨by omega,by omega⟩,?_⟩
  rw [a26]
  refine a1U (R:=c6Z) ⟨line,rfl,hl,hsz,fun m h=>(hs.mg m h).ok,rfl,rfl⟩ (by decide) (by decide) (a0a.refl _) (a0a.refl _) (a0a.refl _) (a0a.refl _) (a0a.refl _) fun u1 u2 u3 u4 nx' g1 g2 g3 g4 hn=>?_
  simp only [go_sem,a0q,a07,a0y,a1b,a08,a0o,a0x,a0A,a0p,a0r,a0l]
  refine⟨_,a0g (fun p=>p) (l:=[(4,.st (a5Q line a))]) (r:=[(0,.box v 106 10 (shC 1 2 3 4 u1 u2 u3 u4 (a))),(1,a0m u1 (a).1.1),(2,a0m u2 (a).1.2.1),(3,a0m u3 (a).1.2.2),(4,mgR u4 (a).2.2)]) (sz:=78) (top:=5) (nx:=nx') (df:=[]) ?_,?_⟩
  ·simp only [go_sem,a0q,a07,a0y,a1b,a08,a0o,a0x,a0A,a0p,a0r,a0l]
   exact⟨a0a.refl _,a0a.refl _,a0a.refl _,a0a.refl _,a0a.refl _⟩
  ·simp only [go_sem,a0q,a07,a0y,a1b,a08,a0o,a0x,a0A,a0p,a0r,a0l]
   exact hK u1 u2 u3 u4 nx' g1 g2 g3 g4 hn
 by_cases h_pick:verb=[112,105,99,107]
 ·have e:doP line a=a1V line a:=by unfold doP;rw [hv,if_neg h_add,if_neg (fun h=>h.elim h_bare h_clear),if_neg (fun h=>h.elim h_style (fun h=>h.elim h_width h_favour)),if_neg h_labels,if_neg h_merge,if_neg (fun h=>h.elim h_text (fun h=>h.elim h_wide (fun h=>h.elim h_chunks h_show))),if_neg h_resolve,if_pos h_pick]
  rw [e] at hK
  have he:=eq_true h_pick
  refine AW.of hΓ mixed [99999] _ _ _ rfl ?_
  simp only [go_sem,a0q,a07,a0y,a1b,a08,a0o,a0x,a0A,a0p,a0r,a0l,hv,he,h_add,h_bare,h_clear,h_style,h_width,h_favour,h_labels,h_merge,h_text,h_wide,h_chunks,h_show,h_resolve]
  refine⟨by omega,by omega,⟨by omega,by omega⟩,?_⟩
  rw [a26]
  refine a1U (R:=c0Z) ⟨line,rfl,hl,hsz,fun m h=>(hs.mg m h).ok,rfl,rfl⟩ (by decide) (by decide) (a0a.refl _) (a0a.refl _) (a0a.refl _) (a0a.refl _) (a0a.refl _) fun u1 u2 u3 u4 nx' g1 g2 g3 g4 hn=>?_
  simp only [go_sem,a0q,a07,a0y,a1b,a08,a0o,a0x,a0A,a0p,a0r,a0l]
  refine⟨_,a0g (fun p=>p) (l:=[(4,.st ((a1V line a).1))]) (r:=[(0,.box v 106 10 (shC 1 2 3 4 u1 u2 u3 u4 ((a1V line a).2))),(1,a0m u1 ((a1V line a).2).1.1),(2,a0m u2 ((a1V line a).2).1.2.1),(3,a0m u3 ((a1V line a).2).1.2.2),(4,mgR u4 ((a1V line a).2).2.2)]) (sz:=78) (top:=5) (nx:=nx') (df:=[]) ?_,?_⟩
  ·simp only [go_sem,a0q,a07,a0y,a1b,a08,a0o,a0x,a0A,a0p,a0r,a0l]
   exact⟨a0a.refl _,a0a.refl _,a0a.refl _,a0a.refl _,a0a.refl _⟩
  ·simp only [go_sem,a0q,a07,a0y,a1b,a08,a0o,a0x,a0A,a0p,a0r,a0l]
   exact hK u1 u2 u3 u4 nx' g1 g2 g3 g4 hn
 by_cases h_diff:verb=[100,105,102,102]
 ·have e:doP line a=(a2A line a,a):=by unfold doP;rw [hv,if_neg h_add,if_neg (fun h=>h.elim h_bare h_clear),if_neg (fun h=>h.elim h_style (fun h=>h.elim h_width h_favour)),if_neg h_labels,if_neg h_merge,if_neg (fun h=>h.elim h_text (fun h=>h.elim h_wide (fun h=>h.elim h_chunks h_show))),if_neg h_resolve,if_neg h_pick,if_pos h_diff]
  rw [e] at hK
  have he:=eq_true h_diff
  refine AW.of hΓ mixed [99999] _ _ _ rfl ?_
  simp only [go_sem,a0q,a07,a0y,a1b,a08,a0o,a0x,a0A,a0p,a0r,a0l,hv,he,h_add,h_bare,h_clear,h_style,h_width,h_favour,h_labels,h_merge,h_text,h_wide,h_chunks,h_show,h_resolve,h_pick]
  refine⟨by omega,by omega,⟨by omega,by omega⟩,?_⟩
  rw [a26]
  refine a1U (R:=c1I) ⟨line,rfl,hl,hs.txt,rfl,rfl⟩ (by decide) (by decide) (a0a.refl _) (a0a.refl _) (a0a.refl _) (a0a.refl _) (a0a.refl _) fun u1 u2 u3 u4 nx' g1 g2 g3 g4 hn=>?_
  simp only [go_sem,a0q,a07,a0y,a1b,a08,a0o,a0x,a0A,a0p,a0r,a0l]
  refine⟨_,a0g (fun p=>p) (l:=[(4,.st (a2A line a))]) (r:=[(0,.box v 106 10 (shC 1 2 3 4 u1 u2 u3 u4 (a))),(1,a0m u1 (a).1.1),(2,a0m u2 (a).1.2.1),(3,a0m u3 (a).1.2.2),(4,mgR u4 (a).2.2)]) (sz:=78) (top:=5) (nx:=nx') (df:=[]) ?_,?_⟩
  ·simp only [go_sem,a0q,a07,a0y,a1b,a08,a0o,a0x,a0A,a0p,a0r,a0l]
   exact⟨a0a.refl _,a0a.refl _,a0a.refl _,a0a.refl _,a0a.refl _⟩
  ·simp only [go_sem,a0q,a07,a0y,a1b,a08,a0o,a0x,a0A,a0p,a0r,a0l]
   exact hK u1 u2 u3 u4 nx' g1 g2 g3 g4 hn
 by_cases h_parse:verb=[112,97,114,115,101]
 ·have e:doP line a=a1L line a:=by unfold doP;rw [hv,if_neg h_add,if_neg (fun h=>h.elim h_bare h_clear),if_neg (fun h=>h.elim h_style (fun h=>h.elim h_width h_favour)),if_neg h_labels,if_neg h_merge,if_neg (fun h=>h.elim h_text (fun h=>h.elim h_wide (fun h=>h.elim h_chunks h_show))),if_neg h_resolve,if_neg h_pick,if_neg h_diff,if_pos h_parse]
  rw [e] at hK
  have he:=eq_true h_parse
  refine AW.of hΓ mixed [99999] _ _ _ rfl ?_
  simp only [go_sem,a0q,a07,a0y,a1b,a08,a0o,a0x,a0A,a0p,a0r,a0l,hv,he,h_add,h_bare,h_clear,h_style,h_width,h_favour,h_labels,h_merge,h_text,h_wide,h_chunks,h_show,h_resolve,h_pick,h_diff]
  refine⟨by omega,by omega,⟨by omega,by omega⟩,?_⟩
  rw [a26]
  refine a1U (R:=b6F) ⟨line,rfl,hl,⟨hsz,hsp⟩,rfl,rfl⟩ (by decide) (by decide) (a0a.refl _) (a0a.refl _) (a0a.refl _) (a0a.refl _) (a0a.refl _) fun u1 u2 u3 u4 nx' g1 g2 g3 g4 hn=>?_
  simp only [go_sem,a0q,a07,a0y,a1b,a08,a0o,a0x,a0A,a0p,a0r,a0l]
  refine⟨_,a0g (fun p=>p) (l:=[(4,.st ((a1L line a).1))]) (r:=[(0,.box v 106 10 (shC 1 2 3 4 u1 u2 u3 u4 ((a1L line a).2))),(1,a0m u1 ((a1L line a).2).1.1),(2,a0m u2 ((a1L line a).2).1.2.1),(3,a0m u3 ((a1L line a).2).1.2.2),(4,mgR u4 ((a1L line a).2).2.2)]) (sz:=78) (top:=5) (nx:=nx') (df:=[]) ?_,?_⟩
  ·simp only [go_sem,a0q,a07,a0y,a1b,a08,a0o,a0x,a0A,a0p,a0r,a0l]
   exact⟨a0a.refl _,a0a.refl _,a0a.refl _,a0a.refl _,a0a.refl _⟩
  ·simp only [go_sem,a0q,a07,a0y,a1b,a08,a0o,a0x,a0A,a0p,a0r,a0l]
   exact hK u1 u2 u3 u4 nx' g1 g2 g3 g4 hn
 have e:doP line a=(a0V,a):=by unfold doP;rw [hv,if_neg h_add,if_neg (fun h=>h.elim h_bare h_clear),if_neg (fun h=>h.elim h_style (fun h=>h.elim h_width h_favour)),if_neg h_labels,if_neg h_merge,if_neg (fun h=>h.elim h_text (fun h=>h.elim h_wide (fun h=>h.elim h_chunks h_show))),if_neg h_resolve,if_neg h_pick,if_neg h_diff,if_neg h_parse]
 rw [e] at hK
 refine AW.of hΓ mixed [99999] _ _ _ rfl ?_
 simp only [go_sem,a0q,a07,a0y,a1b,a08,a0o,a0x,a0A,a0p,a0r,a0l,hv,h_add,h_bare,h_clear,h_style,h_width,h_favour,h_labels,h_merge,h_text,h_wide,h_chunks,h_show,h_resolve,h_pick,h_diff,h_parse]
 refine⟨by omega,by omega,⟨by omega,by omega⟩,?_⟩
 have hk:=a0U hK rfl
 refine⟨_,a0g (fun p=>p) (l:=[(4,.st a0V)]) (r:=[(0,.box v 106 10 (shC 1 2 3 4 v1 v2 v3 v4 a)),(1,a0m v1 a.1.1),(2,a0m v2 a.1.2.1),(3,a0m v3 a.1.2.2),(4,mgR v4 a.2.2)]) (sz:=78) (top:=5) (nx:=nx) (df:=[]) ?_,?_⟩
 ·simp only [go_sem,a0q,a07,a0y,a1b,a08,a0o,a0x,a0A,a0p,a0r,a0l]
  exact⟨a0a.refl _,a0a.refl _,a0a.refl _,a0a.refl _,a0a.refl _⟩
 ·simp only [go_sem,a0q,a07,a0y,a1b,a08,a0o,a0x,a0A,a0p,a0r,a0l]
  exact hk v1 v2 v3 nx (.inl rfl) (.inl rfl) (.inl rfl) (Nat.le_refl _)
def d9g:a0L:=fun args hp top nx K=>∃ line:List UInt8,args=[.val (.pointer none),.st line]/\K (.st a0V) hp top nx
theorem d62:a0i Tryz.prog 20 d9g:=by
 refine a0i.mk Tryz.func20 rfl (by decide) Tryz.results20 Tryz.ntmps20 ?_
 rintro args hp top nx K ⟨line,rfl,hK⟩
 have hΓ:GOK Tryz.prog (gam [(55,a0q),(56,a07),(57,a0y),(58,a1b),(59,a08),(60,a0o),(61,a0x),(62,a0A),(63,a0p),(64,a0r),(65,a0l)]):=(.cons b70 (.cons c7a (.cons c0J (.cons c7c (.cons c71 (.cons b6J (.cons c1q (.cons c1L (.cons b6o (.cons b7F (.cons b4r .nil)))))))))))
 refine⟨Nat.le_of_ble_eq_true rfl,?_⟩
 refine AW.of hΓ mixed [99999] _ _ _ rfl ?_
 simp only [go_sem,a0q,a07,a0y,a1b,a08,a0o,a0x,a0A,a0p,a0r,a0l]
 exact hK
noncomputable def a3H:a0L:=fun args hp top nx K=>a1F d2n args hp top nx K\/d9g args hp top nx K
theorem c5C:a0i Tryz.prog 20 a3H:=d18.frame.or d62
end Go.Proofs.YthpjjjnbkfnghaaGreatDoor
set_option maxRecDepth 100000
set_option maxHeartbeats 8000000
namespace Go.Proofs.YthpjjjnbkfnghaaGreatDoor
open Go
attribute [local irreducible] a6E
theorem c5i (t:BS):a7c t=if a1d t=true then some (t.take (t.length-1)) else none:=by
 unfold a7c a1d
 rcases t.eq_nil_or_concat with rfl|⟨p,c,rfl⟩
 ·rfl
 ·rw [List.concat_eq_append]
  have e:(p++[c]).getD ((p++[c]).length-1) 0=c:=by simp [List.getD]
  rw [e]
  simp
theorem d0Q (a:Ss) (k:Int) (t:BS):(b8U a k t).2=a.2:=by
 unfold b8U
 repeat' split
 all_goals rfl
end Go.Proofs.YthpjjjnbkfnghaaGreatDoor
namespace Go.Proofs.YthpjjjnbkfnghaaGreatDoor
open Go
section
variable {P:Program} {Γ:Gam} {ops:Array Oper} {st:AS} {K:AS->Prop}
def a4d (P:Program) (Γ:Gam) (ops:Array Oper):List Nat->List Oper->AS->(AS->Prop)->Prop
 | _,[],st,K=>K st
 | 0::W,o::r,st,K=>match gop P Γ ops st o with
   | some (pre,z,row)=>(a0N st.sz o.dst/\pre)/\a4d P Γ ops W r (st.put o.dst z row) K
   | none=>o.guard=none/\bop P Γ st o fun st'=>a4d P Γ ops W r st' K
 | 1::W,o::r,st,K=>gOK ops st.fr o.guard/\match gop P Γ ops st (b4P o) with
   | some (pre,z,row)=>(a0N st.sz o.dst/\pre)/\a4d P Γ ops W r (st.put o.dst z row) K
   | none=>bop P Γ st (b4P o) fun st'=>a4d P Γ ops W r st' K
 | _::W,o::r,st,K=>gNO ops st.fr o.guard/\a0N st.sz o.dst/\a4d P Γ ops W r (st.put o.dst (.gd false .any) .dead) K
 | [],l,st,K=>a9G P Γ ops l st K
def c1J (P:Program) (Γ:Gam) (ops:Array Oper) (W:List Nat) (r:List Oper) (K:AS->Prop):AS->Prop:=fun st=>a4d P Γ ops W r st K
theorem c2p {W:List Nat} {r:List Oper}:c1J P Γ ops W r K st=a4d P Γ ops W r st K:=a2J rfl
def d6y (P:Program) (Γ:Gam) (ops:Array Oper) (W:List Nat) (o:Oper) (r:List Oper) (K:AS->Prop) (st:AS):b3x->Prop
 | some (pre,z,row)=>(a0N st.sz o.dst/\pre)/\a4d P Γ ops W r (st.put o.dst z row) K
 | none=>o.guard=none/\bop P Γ st o (c1J P Γ ops W r K)
theorem b4n {W:List Nat} {o:Oper} {r:List Oper} {pre:Prop} {z:AV} {row:Row}:d6y P Γ ops W o r K st (some (pre,z,row))=((a0N st.sz o.dst/\pre)/\a4d P Γ ops W r (st.put o.dst z row) K):=a2J rfl
theorem b4c {W:List Nat} {o:Oper} {r:List Oper}:d6y P Γ ops W o r K st none=(o.guard=none/\bop P Γ st o (c1J P Γ ops W r K)):=a2J rfl
def d6A (P:Program) (Γ:Gam) (ops:Array Oper) (W:List Nat) (o:Oper) (r:List Oper) (K:AS->Prop) (st:AS):b3x->Prop
 | some (pre,z,row)=>(a0N st.sz o.dst/\pre)/\a4d P Γ ops W r (st.put o.dst z row) K
 | none=>bop P Γ st (b4P o) (c1J P Γ ops W r K)
theorem b31 {W:List Nat} {o:Oper} {r:List Oper} {pre:Prop} {z:AV} {row:Row}:d6A P Γ ops W o r K st (some (pre,z,row))=((a0N st.sz o.dst/\pre)/\a4d P Γ ops W r (st.put o.dst z row) K):=a2J rfl
theorem b4A {W:List Nat} {o:Oper} {r:List Oper}:d6A P Γ ops W o r K st none=bop P Γ st (b4P o) (c1J P Γ ops W r K):=a2J rfl
theorem c0y {W:List Nat}:a4d P Γ ops W [] st K=K st:=a2J (by rcases W with _|⟨_|_|b,W⟩<;>rfl)
theorem c0a {o:Oper} {r:List Oper}:a4d P Γ ops [] (o::r) st K=a9G P Γ ops (o::r) st K:=a2J rfl
theorem c23 {W:List Nat} {o:Oper} {r:List Oper}:a4d P Γ ops (0::W) (o::r) st K=d6y P Γ ops W o r K st (gop P Γ ops st o):=a2J rfl
theorem c3h {W:List Nat} {o:Oper} {r:List Oper}:a4d P Γ ops (1::W) (o::r) st K=(gOK ops st.fr o.guard/\d6A P Γ ops W o r K st (gop P Γ ops st (b4P o))):=a2J rfl
theorem c8F {W:List Nat} {o:Oper} {r:List Oper}:a4d P Γ ops (2::W) (o::r) st K=(gNO ops st.fr o.guard/\a0N st.sz o.dst/\a4d P Γ ops W r (st.put o.dst (.gd false .any) .dead) K):=a2J rfl
theorem a4S (hΓ:GOK P Γ) {ops:Array Oper} {Q:Exit->Act->World->Prop}:∀ (W:List Nat) (l:List Oper) (c:Ctx) (st:AS) (K:AS->Prop) (η:Env) (a:Act) (w:World),SR c st η a w->a4d P Γ ops W l st K->
  (∀ st' η' a' w',SR c st' η' a' w'->K st'->Q .normal a' w')->wpList P ops Q l a w
 | [],[],_,_,_,η,a,w,hsr,h,hQ=>hQ _ η a w hsr h
 | 0::_,[],_,_,_,η,a,w,hsr,h,hQ=>hQ _ η a w hsr (by unfold a4d at h;exact h)
 | 1::_,[],_,_,_,η,a,w,hsr,h,hQ=>hQ _ η a w hsr (by unfold a4d at h;exact h)
 | (n+2)::_,[],_,_,_,η,a,w,hsr,h,hQ=>hQ _ η a w hsr (by unfold a4d at h;exact h)
 | [],o::r,c,st,K,η,a,w,hsr,h,hQ=>a8s hΓ (o::r) c st K η a w hsr h hQ
 | 0::W,o::r,c,st,K,η,a,w,hsr,h,hQ=>by
   rw [c23] at h
   cases hg:gop P Γ ops st o with
   | some t=>
     obtain⟨pre,z,row⟩:=t
     rw [hg,b4n] at h
     exact wpList_step fun KK hKK=>b1G hΓ hsr hg h.1.2 h.1.1 fun η' a' w' hsr'=>hKK _ _ (a4S hΓ W r c _ K η' a' w' hsr' h.2 hQ)
   | none=>
     rw [hg,b4c] at h
     refine wpList_step fun KK hKK=>?_
     rw [if_pos (a5k h.1)]
     exact b4v hΓ h.2 c η a w KK Q hsr fun st' η' a' w' hsr' hx=>hKK _ _ (a4S hΓ W r c st' K η' a' w' hsr' hx hQ)
 | 1::W,o::r,c,st,K,η,a,w,hsr,h,hQ=>by
   rw [c3h] at h
   obtain⟨hg0,h⟩:=h
   refine wpList_step fun KK hKK=>?_
   rw [if_pos (b4m hsr hg0)]
   have eo:∀ K':Act->World->Prop,(b4P o).wp P a w K' Q->o.wp P a w K' Q:=fun K' hh=>hh
   refine eo KK ?_
   cases hg:gop P Γ ops st (b4P o) with
   | some t=>
     obtain⟨pre,z,row⟩:=t
     rw [hg,b31] at h
     have:=b1G hΓ hsr (o:=b4P o) (ops:=ops) hg h.1.2 h.1.1 (Q:=Q) (K:=KK) fun η' a' w' hsr'=>hKK _ _ (a4S hΓ W r c _ K η' a' w' hsr' h.2 hQ)
     rw [if_pos (a5k rfl)] at this
     exact this
   | none=>
     rw [hg,b4A] at h
     exact b4v hΓ h c η a w KK Q hsr fun st' η' a' w' hsr' hx=>hKK _ _ (a4S hΓ W r c st' K η' a' w' hsr' hx hQ)
 | (n+2)::W,o::r,c,st,K,η,a,w,hsr,h,hQ=>by
   have h:gNO ops st.fr o.guard/\a0N st.sz o.dst/\a4d P Γ ops W r (st.put o.dst (.gd false .any) .dead) K:=h
   refine wpList_step fun KK hKK=>?_
   rw [b36 hsr h.1]
   simp only [Bool.false_eq_true,if_false]
   exact hKK _ _ (a4S hΓ W r c _ K η _ w (hsr.skip h.2.1 (.inl rfl)) h.2.2 hQ)
theorem AW.regionG (hΓ:GOK P Γ) {Q:Exit->AS->Prop} {id:Nat} {l:List Oper} (W:List Nat) (h:a4d P Γ l.toArray W l st (Q .normal)):AW P (.region id l.toArray false) Q st:=by
 intro c η a w hsr
 exact wp_region_lit (a4S hΓ W l c st _ η a w hsr h fun st' η' a' w' hsr' hq=>⟨st',η',hq,hsr'⟩)
end
attribute [go_sem high] c23 c3h c8F
attribute [go_sem] c2p b4n b4c b31 b4A c0y c0a a5o a4h b7p
end Go.Proofs.YthpjjjnbkfnghaaGreatDoor
set_option maxRecDepth 100000
set_option maxHeartbeats 8000000
namespace Go.Proofs.YthpjjjnbkfnghaaGreatDoor
open Go
attribute [local irreducible] AW a0e a1g a0a a6E
theorem c6i {line:BS} (h:3<=(wdL line).length):line.length=((wdL line).getD 0 []).length+((wdL line).getD 1 []).length+2+(a9A 2 line).length:=by
 rcases a3t 32 line with h1|⟨p,r,rfl,h1⟩
 ·rw [a86 line h1] at h
  exact absurd h (by simp)
 ·rw [a7g p r h1] at h ⊢
  rcases a3t 32 r with h2|⟨q,t,rfl,h2⟩
  ·rw [a86 r h2] at h
   exact absurd h (by simp)
  ·rw [a7g q t h2,a6n 2 p _ h1,if_neg (by decide),a6n 1 q t h2,if_pos rfl]
   simp only [List.length_append,List.length_cons,List.getD_cons_zero,List.getD_cons_succ]
   omega
theorem c6H {w:BS} (h:0<=a4v w):4<=w.length:=by
 unfold a4v at h
 by_cases h1:w=[98,97,115,101]
 ·rw [h1];decide
 ·rw [if_neg h1] at h
  by_cases h2:w=[108,101,102,116]
  ·rw [h2];decide
  ·rw [if_neg h2] at h
   by_cases h3:w=[114,105,103,104,116]
   ·rw [h3];decide
   ·rw [if_neg h3] at h
    exact absurd h (by decide)
theorem b04.mono {B C:Nat} {a:Ss} (h:b04 B a) (hl:B<=C):b04 C a:=⟨Nat.le_trans h.txt hl,h.lb,h.mg⟩
theorem c47 (a:Ss) (k:Int) (t:BS):(b8U a k t).1.1.length+(b8U a k t).1.2.1.length+(b8U a k t).1.2.2.length+(txt a k).length=a.1.1.length+a.1.2.1.length+a.1.2.2.length+t.length:=by
 unfold b8U txt
 by_cases h0:k=0
 ·rw [if_pos h0,if_pos h0];dsimp only;omega
 ·rw [if_neg h0,if_neg h0]
  by_cases h1:k=1
  ·rw [if_pos h1,if_pos h1];dsimp only;omega
  ·rw [if_neg h1,if_neg h1];dsimp only;omega
theorem b5j {B C:Nat} {a:Ss} (h:b04 B a) (k:Int) (t:BS) (hl:B+t.length<=C+(txt a k).length):b04 C (b8U a k t):=by
 have e:=d0Q a k t
 have hs:=c47 a k t
 have:=h.txt
 refine⟨by omega,?_,?_⟩
 ·rw [e];exact h.lb
 ·rw [e];exact h.mg
theorem b9R (w:BS):(b9n w).length<=w.length:=by
 unfold b9n
 split
 ·exact Nat.zero_le _
 ·exact Nat.le_refl _
theorem d3b {w:BS} {n:Nat} (h:a6E w=some n):n<=1000000:=by
 have ht:=a4t w
 rw [h] at ht
 rcases ht with⟨k,h1,h4,h3⟩|⟨h4,h3⟩
 ·have:=Option.some.inj h3
  omega
 ·cases h3
theorem c83 {B:Nat} {a:Ss} {line:BS} (h:b04 B a) (hl:line.length<=1000) (hB:B+(line.length-8)<=9400):b04 (B+(line.length-8)) (doP line a).2:=by
 have hm:=h.mono (Nat.le_add_right B (line.length-8))
 have h9:b04 9400 a:=h.mono (by omega)
 unfold doP
 split
 ·rename_i hv
  unfold a28
  split
  ·rename_i c
   have e:=c6i c.1
   have f:=c6H c.2
   rw [hv] at e
   simp only [List.length_cons,List.length_nil] at e
   refine b5j h _ _ ?_
   simp only [List.length_append,List.length_cons,List.length_nil]
   omega
  ·exact hm
 split
 ·unfold a1p
  split
  ·unfold a4B
   split
   ·exact b5j h _ _ (by simp;omega)
   ·rw [c5i]
    by_cases he:a1d (txt a (a4v ((wdL line).getD 1 [])))=true
    ·rw [if_pos he]
     exact b5j h _ _ (by rw [List.length_take];omega)
    ·rw [if_neg he]
     exact hm
  ·exact hm
 split
 ·unfold a1R
  split
  ·refine⟨hm.txt,?_,hm.mg⟩
   unfold c4G
   dsimp only
   repeat' split
   all_goals exact h.lb
  ·exact hm
 split
 ·unfold a4l
  split
  ·refine⟨hm.txt,?_,hm.mg⟩
   have g1:=b5L line 1
   have g2:=b5L line 2
   have g3:=b5L line 3
   have k1:=b9R ((wdL line).getD 1 [])
   have k2:=b9R ((wdL line).getD 2 [])
   have k3:=b9R ((wdL line).getD 3 [])
   unfold lbN
   dsimp only
   omega
  ·exact hm
 split
 ·unfold a1t
  split
  ·split
   ·rename_i hz
    refine⟨hm.txt,hm.lb,fun m e=>?_⟩
    have e:=Option.some.inj e
    rw [<-e]
    exact b8w h9.txt hz h.lb
   ·exact hm
  ·exact hm
 split
 ·exact hm
 split
 ·exact hm
 split
 ·unfold a1V
  split
  ·cases hb:a.2.2 with
   | none=>exact hm
   | some m=>
     dsimp only
     split
     ·refine⟨hm.txt,hm.lb,fun m' e=>?_⟩
      have e:=Option.some.inj e
      rw [<-e]
      exact (h.mg m hb).pick _ _
     ·exact hm
  ·exact hm
 split
 ·exact hm
 split
 ·unfold a1L
  split
  ·rename_i c
   obtain⟨n,hn⟩:=Option.isSome_iff_exists.1 c.2
   split
   ·refine⟨hm.txt,hm.lb,fun m' e=>?_⟩
    have e:=Option.some.inj e
    rw [<-e,a3q hn]
    have:=h9.txt
    exact b79 (by omega) (d3b hn)
   ·exact hm
  ·exact hm
 exact hm
theorem c68:b04 0 ss0:=⟨Nat.le_refl _,Nat.zero_le _,fun m h=>by cases h⟩
noncomputable def a2O (a:Ss) (l:List BS):Ss:=l.foldl (fun a x=>(doP x a).2) a
theorem a6l (a:Ss) (l:List BS) (x:BS):a2O a (l++[x])=(doP x (a2O a l)).2:=by unfold a2O;rw [List.foldl_append];rfl
theorem b0b {l:List BS} (h1:l.length<=100) (h2:∀ s∈l,s.length<=100):∀ i,i<=l.length->b04 (92*i) (a2O ss0 (l.take i))
 | 0,_=>c68
 | i+1,hi=>by
   have ih:=b0b h1 h2 i (by omega)
   have hx:=h2 _ (a1e l [] (by omega:i<l.length)▸List.getElem_mem (by omega))
   rw [a1h l [] (by omega),a6l]
   exact (c83 ih (by omega) (by omega)).mono (by omega)
theorem b3u {l:List BS}:c2i l=true↔l.length<=100/\∀ s∈l,s.length<=100:=by
 unfold c2i
 rw [Bool.and_eq_true,decide_eq_true_iff,decide_eq_true_iff]
def tA:BS:=[97,100,100,32,98,97,115,101,32,97]
def tB:BS:=[97,100,100,32,108,101,102,116,32,98]
def tC:BS:=[97,100,100,32,114,105,103,104,116,32,99]
def tM:BS:=[109,101,114,103,101]
def tT:BS:=[116,101,120,116]
def tR:BS:=[114,101,115,111,108,118,101,32,114,105,103,104,116]
def tK:BS:=[99,104,117,110,107,115]
def tX:BS:=[120]
def op0:Op:=(([],[],[]),0,7,0)
def t1:Ss:=(([97,10],[],[]),op0,none)
def t2:Ss:=(([97,10],[98,10],[]),op0,none)
def t3:Ss:=(([97,10],[98,10],[99,10]),op0,none)
def tMg:Mg:=([([],[],[],true,[],[98,10],[],[99,10],false)],[60,60,60,60,60,60,60,10,98,10,61,61,61,61,61,61,61,10,99,10,62,62,62,62,62,62,62,10],7,[(false,(0,1),(0,1),(0,1))])
def t4:Ss:=(([97,10],[98,10],[99,10]),op0,some tMg)
theorem i1:Lib.itoa 1=[49]:=by
 rw [show (1:Int)=((1:Nat):Int) from rfl,a32,Lib.decDigits,dif_pos (by decide)]
 rfl
theorem i0:Lib.itoa 0=[48]:=by
 rw [show (0:Int)=((0:Nat):Int) from rfl,a32,Lib.decDigits,dif_pos (by decide)]
 rfl
theorem dA:doP tA ss0=(okT,t1):=by rfl
theorem dB:doP tB t1=(okT,t2):=by rfl
theorem dC:doP tC t2=(okT,t3):=by rfl
theorem dM:doP tM t3=([49],t4):=by
 have e:doP tM t3=a1t tM t3:=by rfl
 rw [e]
 unfold a1t
 rw [if_pos (by decide),if_pos (by decide)]
 have e2:b81 t3=_:=d0B
 rw [e2]
 show (Lib.itoa 1,_)=_
 rw [i1]
 rfl
theorem dT:doP tT t4=([60,60,60,60,60,60,60,59,98,59,61,61,61,61,61,61,61,59,99,59,62,62,62,62,62,62,62,59],t4):=by rfl
theorem dR:doP tR t4=([99,59],t4):=by rfl
theorem dK:doP tK t4=([99,32,48,32,49,32,48,32,49,32,48,32,49],t4):=by
 have e:doP tK t4=(b5B [(false,(0,1),(0,1),(0,1))],t4):=by rfl
 rw [e]
 unfold b5B b06
 rw [if_neg (by simp)]
 rw [List.map_cons,List.map_nil,i0,i1]
 rfl
theorem dX:doP tX t4=(a0V,t4):=by rfl
def a02:a0s:=a0s.f0 (kB.enc true)
theorem d8E:b04 9400 t1:=⟨by decide,by decide,fun m h=>by cases h⟩
theorem d7H:b04 9400 t2:=⟨by decide,by decide,fun m h=>by cases h⟩
theorem d6B:b04 9400 t3:=⟨by decide,by decide,fun m h=>by cases h⟩
theorem c6K:b04 9400 t4:=by
 have h:=(c83 (B:=6) (line:=tM) (a:=t3) ⟨by decide,by decide,fun m h=>by cases h⟩ (by decide) (by decide)).mono (C:=9400) (by decide)
 rw [dM] at h
 exact h
theorem b6k:a0d Tryz.prog 16 a02:=by
 refine a0d.f0 Tryz.func16 rfl (by decide) Tryz.results16 Tryz.ntmps16 ?_
 have hΓ:GOK Tryz.prog (gam [(18,a1y),(20,a3H)]):=(.cons b7Z (.cons c5C .nil))
 refine AW.of hΓ mixed [4] _ _ _ rfl ?_
 simp only [go_sem,a1y,a3H]
 refine .inl (a1U (R:=a6X) (a:=ss0) (b:=t1) (r:=.st okT) (v:=0) (v1:=1) (v2:=2) (v3:=3) (v4:=0) ⟨tA,rfl,by decide,c68.mono (by decide),by rw [dA],by rw [dA]⟩ (by decide) (by decide) (a0a.refl _) (a0a.refl _) (a0a.refl _) (a0a.refl _) (a0a.refl _) fun u1 u2 u3 u4 nx g1 g2 g3 g4 hn=>?_)
 simp only [go_sem,a1y,a3H]
 refine .inl (a1U (R:=a6X) (a:=t1) (b:=t2) (r:=.st okT) (v:=0) (v1:=u1) (v2:=u2) (v3:=u3) (v4:=u4) ⟨tB,rfl,by decide,d8E,by rw [dB],by rw [dB]⟩ (by decide) (by decide) (a0a.refl _) (a0a.refl _) (a0a.refl _) (a0a.refl _) (a0a.refl _) fun u1 u2 u3 u4 nx g1 g2 g3 g4 hn=>?_)
 simp only [go_sem,a1y,a3H]
 refine .inl (a1U (R:=a6X) (a:=t2) (b:=t3) (r:=.st okT) (v:=0) (v1:=u1) (v2:=u2) (v3:=u3) (v4:=u4) ⟨tC,rfl,by decide,d7H,by rw [dC],by rw [dC]⟩ (by decide) (by decide) (a0a.refl _) (a0a.refl _) (a0a.refl _) (a0a.refl _) (a0a.refl _) fun u1 u2 u3 u4 nx g1 g2 g3 g4 hn=>?_)
 simp only [go_sem,a1y,a3H]
 refine AW.cut ⟨[(1,.pt 0 0 0),(2,.st okT),(3,.st okT),(4,.st okT)],[(0,.box 0 106 10 (shC 1 2 3 4 u1 u2 u3 u4 t3)),(1,a0m u1 [97,10]),(2,a0m u2 [98,10]),(3,a0m u3 [99,10]),(4,mgR u4 none)],49,5,nx,[]⟩ ?_ ?_
 ·simp only [go_sem,a1y,a3H]
  exact⟨a0a.refl _,a0a.refl _,a0a.refl _,a0a.refl _,a0a.refl _⟩
 refine AW.fork (AW.regionG hΓ [0,0,0,1,1,0,0,1,1,0,0,1,1,1,0,0,1,1,1,0,0,1,1,1,0,0,1,1,1,0,0,1,1,1,0,0] ?_)
 simp only [go_sem,a1y,a3H]
 refine .inl (a1U (R:=a6X) (a:=t3) (b:=t4) (r:=.st [49]) (v:=0) (v1:=u1) (v2:=u2) (v3:=u3) (v4:=u4) ⟨tM,rfl,by decide,d6B,by rw [dM],by rw [dM]⟩ (by decide) (by decide) (a0a.refl _) (a0a.refl _) (a0a.refl _) (a0a.refl _) (a0a.refl _) fun u1 u2 u3 u4 nx g1 g2 g3 g4 hn=>?_)
 simp only [go_sem,a1y,a3H]
 refine .inl (a1U (R:=a6X) (a:=t4) (b:=t4) (r:=.st [60,60,60,60,60,60,60,59,98,59,61,61,61,61,61,61,61,59,99,59,62,62,62,62,62,62,62,59]) (v:=0) (v1:=u1) (v2:=u2) (v3:=u3) (v4:=u4) ⟨tT,rfl,by decide,c6K,by rw [dT],by rw [dT]⟩ (by decide) (by decide) (a0a.refl _) (a0a.refl _) (a0a.refl _) (a0a.refl _) (a0a.refl _) fun u1 u2 u3 u4 nx g1 g2 g3 g4 hn=>?_)
 simp only [go_sem,a1y,a3H]
 refine .inl (a1U (R:=a6X) (a:=t4) (b:=t4) (r:=.st [99,59]) (v:=0) (v1:=u1) (v2:=u2) (v3:=u3) (v4:=u4) ⟨tR,rfl,by decide,c6K,by rw [dR],by rw [dR]⟩ (by decide) (by decide) (a0a.refl _) (a0a.refl _) (a0a.refl _) (a0a.refl _) (a0a.refl _) fun u1 u2 u3 u4 nx g1 g2 g3 g4 hn=>?_)
 simp only [go_sem,a1y,a3H]
 refine .inl (a1U (R:=a6X) (a:=t4) (b:=t4) (r:=.st [99,32,48,32,49,32,48,32,49,32,48,32,49]) (v:=0) (v1:=u1) (v2:=u2) (v3:=u3) (v4:=u4) ⟨tK,rfl,by decide,c6K,by rw [dK],by rw [dK]⟩ (by decide) (by decide) (a0a.refl _) (a0a.refl _) (a0a.refl _) (a0a.refl _) (a0a.refl _) fun u1 u2 u3 u4 nx g1 g2 g3 g4 hn=>?_)
 simp only [go_sem,a1y,a3H]
 refine .inl (a1U (R:=a6X) (a:=t4) (b:=t4) (r:=.st a0V) (v:=0) (v1:=u1) (v2:=u2) (v3:=u3) (v4:=u4) ⟨tX,rfl,by decide,c6K,by rw [dX],by rw [dX]⟩ (by decide) (by decide) (a0a.refl _) (a0a.refl _) (a0a.refl _) (a0a.refl _) (a0a.refl _) fun u1 u2 u3 u4 nx g1 g2 g3 g4 hn=>?_)
 simp only [go_sem,a1y,a3H]
 refine AW.of hΓ mixed [99999] _ _ _ rfl ?_
 simp only [go_sem,a1y,a3H]
end Go.Proofs.YthpjjjnbkfnghaaGreatDoor
set_option maxRecDepth 100000
set_option maxHeartbeats 8000000
namespace Go.Proofs.YthpjjjnbkfnghaaGreatDoor
open Go
attribute [local irreducible] AW a0e a1g a0a a6E
structure Rw (l:List BS) where
 i:Nat
 u1:Nat
 u2:Nat
 u3:Nat
 u4:Nat
 nx:Nat
 hi:i<=l.length
def b1e:BS:=[115,104,111,119]
def a7r:BS:=[109,101,114,103,101]
theorem c0N {a:Ss} {m:Mg} (h:a.2.2=some m):doP tT a=(a7a m.2.1,a):=by
 have e:doP tT a=(a2d tT tT a,a):=by rfl
 rw [e]
 unfold a2d
 rw [if_pos (by decide),h]
 rfl
theorem c3x {a:Ss} {m:Mg} (h:a.2.2=some m):doP b1e a=(a3o (printR m.1 m.2.2.1).1 (printR m.1 m.2.2.1).2,a):=by
 have e:doP b1e a=(a2d b1e b1e a,a):=by rfl
 rw [e]
 unfold a2d
 rw [if_pos (by decide),h]
 rfl
theorem c5y {a:Ss} (h:b0a a.2.1=0):doP a7r a=(Lib.itoa (b81 a).2.2.2.2.2.2,(a.1,a.2.1,some (mgT (b81 a)))):=by
 have e:doP a7r a=a1t a7r a:=by rfl
 rw [e]
 unfold a1t
 rw [if_pos (by decide),if_pos h]
theorem c3y {a:Ss} (h:¬b0a a.2.1=0):doP a7r a=(b5I (b0a a.2.1),a):=by
 have e:doP a7r a=a1t a7r a:=by rfl
 rw [e]
 unfold a1t
 rw [if_pos (by decide),if_neg h]
theorem c8C {e:Int} (h:0<=e/\e<14):a8R (b5I e)=-1:=by
 have hc:e=0\/e=1\/e=2\/e=3\/e=4\/e=5\/e=6\/e=7\/e=8\/e=9\/e=10\/e=11\/e=12\/e=13:=by omega
 rcases hc with rfl|rfl|rfl|rfl|rfl|rfl|rfl|rfl|rfl|rfl|rfl|rfl|rfl|rfl
 ·exact a2o (c:=111) (by decide) (by decide)
 ·exact a2o (c:=97) (by decide) (by decide)
 ·exact a2o (c:=115) (by decide) (by decide)
 ·exact a2o (c:=108) (by decide) (by decide)
 ·exact a2o (c:=119) (by decide) (by decide)
 ·exact a2o (c:=115) (by decide) (by decide)
 ·exact a2o (c:=109) (by decide) (by decide)
 ·exact a2o (c:=110) (by decide) (by decide)
 ·exact a2o (c:=115) (by decide) (by decide)
 ·exact a2o (c:=102) (by decide) (by decide)
 ·exact a2o (c:=117) (by decide) (by decide)
 ·exact a2o (c:=102) (by decide) (by decide)
 ·exact a2o (c:=109) (by decide) (by decide)
 ·exact a2o (c:=119) (by decide) (by decide)
theorem c0L {a:Ss} (ha:b04 9400 a) (h:0<=a8R (doP a7r a).1):∃ m,(doP a7r a).2.2.2=some m/\(doP b1e (doP a7r a).2).1=(doP tT (doP a7r a).2).1/\(doP b1e (doP a7r a).2).2=(doP a7r a).2/\(doP tT (doP a7r a).2).2=(doP a7r a).2:=by
 by_cases hz:b0a a.2.1=0
 ·rw [c5y hz]
  refine⟨_,rfl,?_,?_,?_⟩
  ·rw [c0N rfl,c3x rfl]
   have hM:=b0U ha.txt
   obtain⟨p1,p2,p3⟩:=c5D hz
   have hF:=a8n hM p2 a.2.1.2.1 ha.lb p1 a.2.1.2.2.2
   have e:b81 a=d1w a.1.1 a.1.2.1 a.1.2.2 a.2.1.2.2.1 a.2.1.2.1 a.2.1.1 a.2.1.2.2.2:=by unfold b81 b4b;rw [if_pos hz]
   have hp:=b74 hF
   rw [e]
   show a3o (printR (a7x a.1.1 a.1.2.1 a.1.2.2 a.2.1.2.1 a.2.1.1 a.2.1.2.2.2) (a6Y a.2.1.2.2.1 a.1.1 a.1.2.1 a.1.2.2)).1 (printR (a7x a.1.1 a.1.2.1 a.1.2.2 a.2.1.2.1 a.2.1.1 a.2.1.2.2.2) (a6Y a.2.1.2.2.1 a.1.1 a.1.2.1 a.1.2.2)).2=a7a (a1z (a6Y a.2.1.2.2.1 a.1.1 a.1.2.1 a.1.2.2) (a7x a.1.1 a.1.2.1 a.1.2.2 a.2.1.2.1 a.2.1.1 a.2.1.2.2.2))
   rw [hp]
   unfold a3o
   rw [if_pos rfl]
  ·rw [c3x rfl]
  ·rw [c0N rfl]
 ·rw [c3y hz,c8C (c72 _)] at h
  exact absurd h (by decide)
def b48:a0s:=a0s.f1 (kL eS) (fun l=>l.length<=140737488351232) (fun _=>kB.enc true)
theorem okShellShows:a0d Tryz.prog 6 b48:=by
 refine a0d.f1 Tryz.func6 rfl (by decide) Tryz.results6 Tryz.ntmps6 (by decide) fun l hl=>?_
 have hΓ:GOK Tryz.prog (gam [(16,a02),(17,a2E),(18,a1y),(20,a3H),(24,a1Z)]):=(.cons b6k (.cons c61 (.cons b7Z (.cons c5C (.cons b9J .nil)))))
 cases hf:c2i l with
 | false=>
   refine AW.of hΓ mixed [99999] _ _ _ rfl ?_
   simp only [go_sem,a02,a2E,a1y,a3H,a1Z,hf]
   omega
 | true=>
   obtain⟨hl1,hl2⟩:=b3u.1 hf
   refine AW.of hΓ mixed [7] _ _ _ rfl ?_
   simp only [go_sem,a02,a2E,a1y,a3H,a1Z,hf]
   refine⟨by omega,?_⟩
   refine AW.round (α:=Rw l) (fun x=>⟨[(0,sL eS l),(3,.pt 0 0 0),(4,.val (.int .i64 x.i))],[(0,.box 0 106 10 (shC 1 2 3 4 x.u1 x.u2 x.u3 x.u4 (a2O ss0 (l.take x.i)))),(1,a0m x.u1 (a2O ss0 (l.take x.i)).1.1),(2,a0m x.u2 (a2O ss0 (l.take x.i)).1.2.1),(3,a0m x.u3 (a2O ss0 (l.take x.i)).1.2.2),(4,mgR x.u4 (a2O ss0 (l.take x.i)).2.2)],48,5,x.nx,[]⟩) (fun x=>l.length-x.i) ⟨0,1,2,3,0,4,Nat.zero_le _⟩ ?_ ?_
   ·simp only [go_sem,a02,a2E,a1y,a3H,a1Z]
    exact⟨a0a.refl _,a0a.refl _,a0a.refl _,a0a.refl _,a0a.refl _⟩
   ·rintro⟨i,u1,u2,u3,u4,nx,hi⟩
    have hrun:=b0b hl1 hl2 i hi
    rcases Nat.lt_or_ge i l.length with hlt|hge
    ·have hlI:((i:Int)<(l.length:Nat))=True:=eq_true (by omega)
     have hsn:a2O ss0 (l.take (i+1))=(doP (l.getD i []) (a2O ss0 (l.take i))).2:=by rw [a1h l [] hlt,a6l]
     have hx:=hl2 _ (a1e l [] hlt▸List.getElem_mem hlt)
     have ha:b04 9400 (a2O ss0 (l.take i)):=hrun.mono (by omega)
     obtain⟨line,hln⟩:∃ line,l.getD i []=line:=⟨_,rfl⟩
     rw [hln] at hsn hx
     have hb:b04 9400 (doP line (a2O ss0 (l.take i))).2:=(c83 hrun (by omega) (by omega)).mono (by omega)
     refine AW.of hΓ mixed [7] _ _ _ rfl ?_
     simp only [go_sem,a02,a2E,a1y,a3H,a1Z,hlI,hln]
     refine⟨by omega,.inl (a1U (R:=a6X) (a:=(a2O ss0 (l.take i))) (b:=(doP line (a2O ss0 (l.take i))).2) (r:=.st (doP line (a2O ss0 (l.take i))).1) (v:=0) (v1:=u1) (v2:=u2) (v3:=u3) (v4:=u4) ⟨line,rfl,by omega,ha,rfl,rfl⟩ (by decide) (by decide) (a0a.refl _) (a0a.refl _) (a0a.refl _) (a0a.refl _) (a0a.refl _) fun y1 y2 y3 y4 nx1 g1 g2 g3 g4 hn=>?_)⟩
     simp only [go_sem,a02,a2E,a1y,a3H,a1Z,hln]
     by_cases c1:line=[109,101,114,103,101]
     ·have j1:=eq_true c1
      by_cases c2:0<=a8R (doP line (a2O ss0 (l.take i))).1
      ·have j2:=eq_true c2
       have hst:∃ m,(doP line (a2O ss0 (l.take i))).2.2.2=some m/\(doP b1e (doP line (a2O ss0 (l.take i))).2).1=(doP tT (doP line (a2O ss0 (l.take i))).2).1/\(doP b1e (doP line (a2O ss0 (l.take i))).2).2=(doP line (a2O ss0 (l.take i))).2/\(doP tT (doP line (a2O ss0 (l.take i))).2).2=(doP line (a2O ss0 (l.take i))).2:=by
        rw [show line=a7r from c1] at c2 ⊢
        exact c0L ha c2
       obtain⟨m,h1,h2,h3,h4⟩:=hst
       refine AW.fork (AW.regionG hΓ [0,0,0,0,0,0,1,1,1,0,0,1,1,1,1,1,0] ?_)
       simp only [go_sem,a02,a2E,a1y,a3H,a1Z,hln,j1,j2]
       refine⟨by omega,.inl (a1U (R:=a6X) (a:=(doP line (a2O ss0 (l.take i))).2) (b:=(doP line (a2O ss0 (l.take i))).2) (r:=.st (doP b1e (doP line (a2O ss0 (l.take i))).2).1) (v:=0) (v1:=y1) (v2:=y2) (v3:=y3) (v4:=y4) ⟨b1e,rfl,by decide,hb,rfl,h3.symm⟩ (by decide) (by decide) (a0a.refl _) (a0a.refl _) (a0a.refl _) (a0a.refl _) (a0a.refl _) fun z1 z2 z3 z4 nx2 g1 g2 g3 g4 hn2=>?_)⟩
       simp only [go_sem,a02,a2E,a1y,a3H,a1Z,hln]
       refine .inl (a1U (R:=a6X) (a:=(doP line (a2O ss0 (l.take i))).2) (b:=(doP line (a2O ss0 (l.take i))).2) (r:=.st (doP tT (doP line (a2O ss0 (l.take i))).2).1) (v:=0) (v1:=z1) (v2:=z2) (v3:=z3) (v4:=z4) ⟨tT,rfl,by decide,hb,rfl,h4.symm⟩ (by decide) (by decide) (a0a.refl _) (a0a.refl _) (a0a.refl _) (a0a.refl _) (a0a.refl _) fun q1 q2 q3 q4 nx3 g1 g2 g3 g4 hn3=>?_)
       simp only [go_sem,a02,a2E,a1y,a3H,a1Z,hln,h2]
       refine AW.of hΓ mixed [] _ _ _ rfl ?_
       simp only [go_sem,a02,a2E,a1y,a3H,a1Z,hln]
       refine⟨⟨by omega,by omega⟩,⟨i+1,q1,q2,q3,q4,nx3,hlt⟩,⟨Nat.le_refl _,rfl,?_⟩,by dsimp only;omega⟩
       dsimp only
       rw [hsn]
       exact⟨a0a.refl _,a0a.refl _,a0a.refl _,a0a.refl _,a0a.refl _⟩
      ·have j2:=eq_false c2
       refine AW.fork (AW.regionG hΓ [0,0,0,0,0,0,1,1,1,0,0,2,2,2,2,2,0] ?_)
       simp only [go_sem,a02,a2E,a1y,a3H,a1Z,hln,j1,j2]
       refine⟨⟨by omega,by omega⟩,?_⟩
       refine AW.of hΓ mixed [] _ _ _ rfl ?_
       simp only [go_sem,a02,a2E,a1y,a3H,a1Z,hln]
       refine⟨⟨by omega,by omega⟩,⟨i+1,y1,y2,y3,y4,nx1,hlt⟩,⟨Nat.le_refl _,rfl,?_⟩,by dsimp only;omega⟩
       dsimp only
       rw [hsn]
       exact⟨a0a.refl _,a0a.refl _,a0a.refl _,a0a.refl _,a0a.refl _⟩
     ·have j1:=eq_false c1
      refine AW.fork (AW.regionG hΓ [0,0,0,0,0,0,2,2,2,0,0,2,2,2,2,2,0] ?_)
      simp only [go_sem,a02,a2E,a1y,a3H,a1Z,hln,j1]
      refine⟨⟨by omega,by omega⟩,?_⟩
      refine AW.of hΓ mixed [] _ _ _ rfl ?_
      simp only [go_sem,a02,a2E,a1y,a3H,a1Z,hln]
      refine⟨⟨by omega,by omega⟩,⟨i+1,y1,y2,y3,y4,nx1,hlt⟩,⟨Nat.le_refl _,rfl,?_⟩,by dsimp only;omega⟩
      dsimp only
      rw [hsn]
      exact⟨a0a.refl _,a0a.refl _,a0a.refl _,a0a.refl _,a0a.refl _⟩
    ·obtain rfl:i=l.length:=by omega
     have hlI:((l.length:Int)<(l.length:Nat))=False:=eq_false (by omega)
     refine AW.of hΓ mixed [99999] _ _ _ rfl ?_
     simp only [go_sem,a02,a2E,a1y,a3H,a1Z,hlI]
     refine .inr ⟨[109,101,114,103,101],rfl,?_⟩
     simp only [go_sem,a02,a2E,a1y,a3H,a1Z]
noncomputable def b8q (a:Ss):List BS->List BS
 | []=>[]
 | x::l=>(doP x a).1::b8q (doP x a).2 l
theorem b6T (l:List BS):∀ a,(b8q a l).length=l.length:=by
 induction l with
 | nil=>exact fun _=>rfl
 | cons x l ih=>exact fun a=>congrArg (·+1) (ih _)
theorem c0I (x:BS) (l:List BS):∀ a,b8q a (l++[x])=b8q a l++[(doP x (a2O a l)).1]:=by
 induction l with
 | nil=>exact fun _=>rfl
 | cons y l ih=>exact fun a=>congrArg ((doP y a).1::·) (ih _)
theorem c4F (l:List BS):∀ (a:Ss) (i:Nat),i<l.length->(b8q a l).getD i []=(doP (l.getD i []) (a2O a (l.take i))).1:=by
 induction l with
 | nil=>intro a i h;exact absurd h (Nat.not_lt_zero _)
 | cons y l ih=>
   intro a i h
   cases i with
   | zero=>rfl
   | succ i=>exact ih (doP y a).2 i (Nat.lt_of_succ_lt_succ h)
noncomputable def a1H:a0s:=a0s.f1 (kL eS) (fun l=>c2i l=true) (fun l=>sL eS (b8q ss0 l))
structure Rl (l:List BS) where
 i:Nat
 u1:Nat
 u2:Nat
 u3:Nat
 u4:Nat
 u5:Nat
 nx:Nat
 hi:i<=l.length
theorem c0H:a0d Tryz.prog 23 a1H:=by
 refine a0d.f1 Tryz.func23 rfl (by decide) Tryz.results23 Tryz.ntmps23 (by decide) fun l hf=>?_
 have hΓ:GOK Tryz.prog (gam [(18,a1y),(20,a3H)]):=(.cons b7Z (.cons c5C .nil))
 obtain⟨hl1,hl2⟩:=b3u.1 hf
 refine AW.of hΓ mixed [3] _ _ _ rfl ?_
 simp only [go_sem,a1y,a3H]
 refine AW.block ?_
 refine AW.adopt 4 9 1 (fun _ _=>.any) rfl ?_
 refine AW.round (α:=Rl l) (fun x=>⟨[(3,.pt 0 0 0),(4,.ow 5 x.u5 x.i),(8,sL eS l),(9,.val (.int .i64 l.length)),(10,.val (.int .i64 x.i))],[(0,.box 0 106 10 (shC 1 2 3 4 x.u1 x.u2 x.u3 x.u4 (a2O ss0 (l.take x.i)))),(1,a0m x.u1 (a2O ss0 (l.take x.i)).1.1),(2,a0m x.u2 (a2O ss0 (l.take x.i)).1.2.1),(3,a0m x.u3 (a2O ss0 (l.take x.i)).1.2.2),(4,mgR x.u4 (a2O ss0 (l.take x.i)).2.2),(5,a05 x.u5 9 eS (b8q ss0 (l.take x.i)))],22,6,x.nx,[]⟩) (fun x=>l.length-x.i) ⟨0,1,2,3,0,4,5,Nat.zero_le _⟩ ?_ ?_
 ·simp only [go_sem,a1y,a3H]
  exact⟨a0a.refl _,a0a.refl _,a0a.refl _,a0a.refl _,a0a.refl _,a8V rfl⟩
 ·rintro⟨i,u1,u2,u3,u4,u5,nx,hi⟩
  have hrun:=b0b hl1 hl2 i hi
  have hrl:(b8q ss0 (l.take i)).length=i:=by rw [b6T,List.length_take];omega
  rcases Nat.lt_or_ge i l.length with hlt|hge
  ·have hlI:((i:Int)<(l.length:Nat))=True:=eq_true (by omega)
   have hsn:a2O ss0 (l.take (i+1))=(doP (l.getD i []) (a2O ss0 (l.take i))).2:=by rw [a1h l [] hlt,a6l]
   have hsr:b8q ss0 (l.take (i+1))=b8q ss0 (l.take i)++[(doP (l.getD i []) (a2O ss0 (l.take i))).1]:=by rw [a1h l [] hlt,c0I]
   have hx:=hl2 _ (a1e l [] hlt▸List.getElem_mem hlt)
   have ha:b04 9400 (a2O ss0 (l.take i)):=hrun.mono (by omega)
   obtain⟨line,hln⟩:∃ line,l.getD i []=line:=⟨_,rfl⟩
   rw [hln] at hsn hx hsr
   refine AW.of hΓ mixed [] _ _ _ rfl ?_
   simp only [go_sem,a1y,a3H,hlI,hln]
   refine⟨by omega,.inl (a1U (R:=a6X) (a:=(a2O ss0 (l.take i))) (b:=(doP line (a2O ss0 (l.take i))).2) (r:=.st (doP line (a2O ss0 (l.take i))).1) (v:=0) (v1:=u1) (v2:=u2) (v3:=u3) (v4:=u4) ⟨line,rfl,by omega,ha,rfl,rfl⟩ (by decide) (by decide) (a0a.refl _) (a0a.refl _) (a0a.refl _) (a0a.refl _) (a0a.refl _) fun y1 y2 y3 y4 nx1 g1 g2 g3 g4 hn=>?_)⟩
   simp only [go_sem,a1y,a3H,hln]
   refine⟨⟨hrl,by omega⟩,⟨by omega,by omega⟩,⟨i+1,y1,y2,y3,y4,nx1,nx1+1,hlt⟩,⟨Nat.le_refl _,⟨⟨rfl,rfl⟩,rfl⟩,?_⟩,by dsimp only;omega⟩
   dsimp only
   rw [hsn]
   exact⟨a0a.refl _,a0a.refl _,a0a.refl _,a0a.refl _,a0a.refl _,a1B rfl hsr hrl.symm rfl rfl fun _ _=>a0e.refl _⟩
  ·obtain rfl:i=l.length:=by omega
   have hlI:((l.length:Int)<(l.length:Nat))=False:=eq_false (by omega)
   rw [List.take_length] at hrl
   refine AW.of hΓ mixed [99999] _ _ _ rfl ?_
   simp only [go_sem,a1y,a3H,hlI]
   refine⟨by omega,?_⟩
   show a0e _ (.sn (b8q ss0 l).length 1 _)
   rw [hrl]
   exact a0e.refl _
structure R2 (l o:List BS) where
 i:Nat
 u1:Nat
 u2:Nat
 u3:Nat
 u4:Nat
 v1:Nat
 v2:Nat
 v3:Nat
 v4:Nat
 nx:Nat
 hi:i<=l.length
def b8v:a0s:=a0s.f2 (kL eS) (kL eS) (fun l o=>l.length<=140737488351232/\o.length<=140737488351232) (fun _ _=>kB.enc true)
theorem okShellSame:a0d Tryz.prog 5 b8v:=by
 refine a0d.f2 Tryz.func5 rfl (by decide) Tryz.results5 Tryz.ntmps5 (by decide) fun l o ⟨hl,ho⟩=>?_
 have hΓ:GOK Tryz.prog (gam [(16,a02),(17,a2E),(18,a1y),(23,a1H),(20,a3H)]):=(.cons b6k (.cons c61 (.cons b7Z (.cons c0H (.cons c5C .nil)))))
 cases hf:c2i l with
 | false=>
   refine AW.of hΓ mixed [99999,200012] _ _ _ rfl ?_
   simp only [go_sem,a02,a2E,a1y,a1H,a3H,hf]
   omega
 | true=>
   cases hg:c2i o with
   | false=>
     refine AW.of hΓ mixed [99999,200012] _ _ _ rfl ?_
     simp only [go_sem,a02,a2E,a1y,a1H,a3H,hf,hg]
     exact⟨by omega,by omega⟩
   | true=>
     obtain⟨hl1,hl2⟩:=b3u.1 hf
     obtain⟨ho1,ho2⟩:=b3u.1 hg
     have hrl:=b6T l ss0
     have hI:(((b8q ss0 l).length:Int)=(l.length:Nat))=True:=eq_true (by omega)
     refine AW.of hΓ mixed [200012] _ _ _ rfl ?_
     simp only [go_sem,a02,a2E,a1y,a1H,a3H,hf,hg,hI]
     refine⟨by omega,by omega,?_⟩
     refine AW.round (α:=R2 l o) (fun x=>⟨[(0,sL eS l),(1,sL eS o),(5,sL eS (b8q ss0 l)),(6,.pt 0 0 0),(7,.pt 5 4 0),(8,.val (.int .i64 x.i))],[(0,.box 0 106 10 (shC 1 2 3 4 x.u1 x.u2 x.u3 x.u4 (a2O ss0 (l.take x.i)))),(1,a0m x.u1 (a2O ss0 (l.take x.i)).1.1),(2,a0m x.u2 (a2O ss0 (l.take x.i)).1.2.1),(3,a0m x.u3 (a2O ss0 (l.take x.i)).1.2.2),(4,mgR x.u4 (a2O ss0 (l.take x.i)).2.2),(5,.box 4 106 10 (shC 6 7 8 9 x.v1 x.v2 x.v3 x.v4 (a2O ss0 (o.take x.i)))),(6,a0m x.v1 (a2O ss0 (o.take x.i)).1.1),(7,a0m x.v2 (a2O ss0 (o.take x.i)).1.2.1),(8,a0m x.v3 (a2O ss0 (o.take x.i)).1.2.2),(9,mgR x.v4 (a2O ss0 (o.take x.i)).2.2)],58,10,x.nx,[]⟩) (fun x=>l.length-x.i) ⟨0,1,2,3,0,5,6,7,0,8,Nat.zero_le _⟩ ?_ ?_
     ·simp only [go_sem,a02,a2E,a1y,a1H,a3H]
      exact⟨a0a.refl _,a0a.refl _,a0a.refl _,a0a.refl _,a0a.refl _,a0a.refl _,a0a.refl _,a0a.refl _,a0a.refl _,a0a.refl _⟩
     ·rintro⟨i,u1,u2,u3,u4,v1,v2,v3,v4,nx,hi⟩
      have hrun:=b0b hl1 hl2 i hi
      rcases Nat.lt_or_ge i l.length with hlt|hge
      ·have hlI:((i:Int)<(l.length:Nat))=True:=eq_true (by omega)
       have hsn:a2O ss0 (l.take (i+1))=(doP (l.getD i []) (a2O ss0 (l.take i))).2:=by rw [a1h l [] hlt,a6l]
       have hx:=hl2 _ (a1e l [] hlt▸List.getElem_mem hlt)
       have ha:b04 9400 (a2O ss0 (l.take i)):=hrun.mono (by omega)
       have hget:=c4F l ss0 i hlt
       obtain⟨line,hln⟩:∃ line,l.getD i []=line:=⟨_,rfl⟩
       rw [hln] at hsn hx hget
       rcases Nat.lt_or_ge i o.length with hot|hog
       ·have hoI:((i:Int)<(o.length:Nat))=True:=eq_true (by omega)
        have hrunO:=b0b ho1 ho2 i (by omega)
        have hsO:a2O ss0 (o.take (i+1))=(doP (o.getD i []) (a2O ss0 (o.take i))).2:=by rw [a1h o [] hot,a6l]
        have hxO:=ho2 _ (a1e o [] hot▸List.getElem_mem hot)
        have haO:b04 9400 (a2O ss0 (o.take i)):=hrunO.mono (by omega)
        obtain⟨lo,hlo⟩:∃ lo,o.getD i []=lo:=⟨_,rfl⟩
        rw [hlo] at hsO hxO
        refine AW.of hΓ mixed [200012] _ _ _ rfl ?_
        simp only [go_sem,a02,a2E,a1y,a1H,a3H,hlI,hln]
        refine AW.fork (AW.fork ?_)
        refine AW.of hΓ mixed [200012] _ _ _ rfl ?_
        simp only [go_sem,a02,a2E,a1y,a1H,a3H,hoI,hlo]
        refine AW.of hΓ mixed [200012] _ _ _ rfl ?_
        simp only [go_sem,a02,a2E,a1y,a1H,a3H,hoI,hlo]
        refine⟨by omega,.inl (a1U (R:=a6X) (a:=(a2O ss0 (o.take i))) (b:=(doP lo (a2O ss0 (o.take i))).2) (r:=.st (doP lo (a2O ss0 (o.take i))).1) (v:=4) (v1:=v1) (v2:=v2) (v3:=v3) (v4:=v4) ⟨lo,rfl,by omega,haO,rfl,rfl⟩ (by decide) (by decide) (a0a.refl _) (a0a.refl _) (a0a.refl _) (a0a.refl _) (a0a.refl _) fun x1 x2 x3 x4 nx1 g1 g2 g3 g4 hn=>?_)⟩
        simp only [go_sem,a02,a2E,a1y,a1H,a3H,hlo]
        refine AW.fork ?_
        refine AW.drawZ hΓ mixed 5 [6,7,8,9] [8,9] [] (by decide +kernel) ?_
        simp only [go_sem,a02,a2E,a1y,a1H,a3H,hln,hget,a7J]
        refine⟨⟨by omega,by omega⟩,by omega,.inl (a1U (R:=a6X) (a:=(a2O ss0 (l.take i))) (b:=(doP line (a2O ss0 (l.take i))).2) (r:=.st (doP line (a2O ss0 (l.take i))).1) (v:=0) (v1:=u1) (v2:=u2) (v3:=u3) (v4:=u4) ⟨line,rfl,by omega,ha,rfl,rfl⟩ (by decide) (by decide) (a0a.refl _) (a0a.refl _) (a0a.refl _) (a0a.refl _) (a0a.refl _) fun y1 y2 y3 y4 nx2 g1 g2 g3 g4 hn2=>?_)⟩
        simp only [go_sem,a02,a2E,a1y,a1H,a3H,hln,hget,a7J]
        refine AW.of hΓ mixed [200012] _ _ _ rfl ?_
        simp only [go_sem,a02,a2E,a1y,a1H,a3H,hln]
        refine⟨⟨by omega,by omega⟩,⟨i+1,y1,y2,y3,y4,x1,x2,x3,x4,nx2,hlt⟩,⟨Nat.le_refl _,rfl,?_⟩,by dsimp only;omega⟩
        dsimp only
        rw [hsn,hsO]
        exact⟨a0a.refl _,a0a.refl _,a0a.refl _,a0a.refl _,a0a.refl _,a0a.refl _,a0a.refl _,a0a.refl _,a0a.refl _,a0a.refl _⟩
       ·have hoI:((i:Int)<(o.length:Nat))=False:=eq_false (by omega)
        have hsO:a2O ss0 (o.take (i+1))=a2O ss0 (o.take i):=by rw [List.take_of_length_le (by omega),List.take_of_length_le (by omega)]
        refine AW.of hΓ mixed [200012] _ _ _ rfl ?_
        simp only [go_sem,a02,a2E,a1y,a1H,a3H,hlI,hln]
        refine AW.fork (AW.fork ?_)
        refine AW.of hΓ mixed [200012] _ _ _ rfl ?_
        simp only [go_sem,a02,a2E,a1y,a1H,a3H,hoI]
        refine AW.of hΓ mixed [200012] _ _ _ rfl ?_
        simp only [go_sem,a02,a2E,a1y,a1H,a3H,hoI]
        refine AW.fork ?_
        refine AW.drawZ hΓ mixed 5 [6,7,8,9] [8,9] [] (by decide +kernel) ?_
        simp only [go_sem,a02,a2E,a1y,a1H,a3H,hln,hget,a7J]
        refine⟨⟨by omega,by omega⟩,by omega,.inl (a1U (R:=a6X) (a:=(a2O ss0 (l.take i))) (b:=(doP line (a2O ss0 (l.take i))).2) (r:=.st (doP line (a2O ss0 (l.take i))).1) (v:=0) (v1:=u1) (v2:=u2) (v3:=u3) (v4:=u4) ⟨line,rfl,by omega,ha,rfl,rfl⟩ (by decide) (by decide) (a0a.refl _) (a0a.refl _) (a0a.refl _) (a0a.refl _) (a0a.refl _) fun y1 y2 y3 y4 nx2 g1 g2 g3 g4 hn2=>?_)⟩
        simp only [go_sem,a02,a2E,a1y,a1H,a3H,hln,hget,a7J]
        refine AW.of hΓ mixed [200012] _ _ _ rfl ?_
        simp only [go_sem,a02,a2E,a1y,a1H,a3H,hln]
        refine⟨⟨by omega,by omega⟩,⟨i+1,y1,y2,y3,y4,v1,v2,v3,v4,nx2,hlt⟩,⟨Nat.le_refl _,rfl,?_⟩,by dsimp only;omega⟩
        dsimp only
        rw [hsn,hsO]
        exact⟨a0a.refl _,a0a.refl _,a0a.refl _,a0a.refl _,a0a.refl _,a0a.refl _,a0a.refl _,a0a.refl _,a0a.refl _,a0a.refl _⟩
      ·obtain rfl:i=l.length:=by omega
       have hlI:((l.length:Int)<(l.length:Nat))=False:=eq_false (by omega)
       refine AW.of hΓ mixed [99999,200012] _ _ _ rfl ?_
       simp only [go_sem,a02,a2E,a1y,a1H,a3H,hlI]
end Go.Proofs.YthpjjjnbkfnghaaGreatDoor
namespace Go.Proofs.YthpjjjnbkfnghaaGreatDoor
open Go Go.ChangeShapes Go.WideShapes Go.ChangeAt Go.RowKit
theorem returns_laid {H:Type} {enc:TypeId×Value->H} {a:Assume} {C:Checked} {os:Go.Os} {f:FuncId} {fn:Func} {s:ChangeSpec} {conds:List PathCond} {apart fresh handsOn b5k:Bool} {X:World->Array Value->Prop}
  (hX:∀ (w w':World) (args:Array Value),w.heap=w'.heap->X w args->X w' args)
  (own:ownKnob C.prog.godebug=none) (started:os.Started) (noInit:C.prog.inits.idxOf? f=none) (hfn:C.prog.funcs[f]?=some fn)
  (witness:∃ (w:World) (tape:Tape) (i:Input),w.os=os/\(w.forCall tape i).Shaped C.prog/\i.vars=[]/\Input.okWide C.prog (w.forCall tape i) .any w.heap.size f i/\
   ((s.pre enc C.prog fn conds apart (w.forCall tape i).memory i.args/\X (w.forCall tape i).memory i.args)/\sizedMet enc C.prog fn (OpenSpec.ofChange s) apart (w.forCall tape i).memory i.args)/\a.holds C.prog (lone (Frame.enter C.prog f i.args .normal) [] (w.forCall tape i)))
  (contract:∀ (W:World) (base:Nat) (args:Array Value) (ds gs:List (DataW H)) (before:List MemPlace),
   (∀ (j:Nat) t v,fn.params[j]?=some t->args[j]?=some v->Value.okWide C.prog W .any base t v)->
   DataW.Whole enc C.prog fn.params.toList s.vars apart W args.toList ds gs before->
   conds.all (PathCond.test C.prog ⟨fn.params.toList,ds,s.plain.varTypes C.prog,gs⟩)=true->
   (DataW.weightsEach C.prog (fn.params.toList++s.plain.varTypes C.prog) (ds++gs)).all (·<=reachBytes)=true->X W args->W.ShapedOpen C.prog->
   a.holds C.prog (lone (Frame.enter C.prog f args .normal) [] W)->
   Calls C.prog f args W fun e W'=>∃ v,e=.returned v/\s.post enc C.prog fn apart fresh handsOn b5k W args v W') :
  ReturnsInHanded a C os f .any (fun w args=>(s.pre enc C.prog fn conds apart w args/\X w args)/\sizedMet enc C.prog fn (OpenSpec.ofChange s) apart w args) (s.post enc C.prog fn apart fresh handsOn b5k):=by
 refine returnsInHanded_of_calls own started noInit witness ?_
 intro w tape i _ hsh _ hok hpre hholds
 obtain⟨_,_,_,fn',hfn',_,_,_,_,hval⟩:=hok
 have e:fn'=fn:=Option.some.inj (hfn'.symm.trans hfn)
 subst e
 obtain⟨⟨⟨ds,gs,before,hw,hc⟩,hx⟩,hz⟩:=hpre
 have hw':=DataW.Whole.of_heap (w':=w.forCall tape i) (by rfl) hw
 refine (contract (w.forCall tape i) w.heap.size i.args ds gs before hval hw' hc (hz.weights hw) (hX _ _ _ (by rfl) hx) hsh hholds).mono fun e W' ⟨v,he,hp⟩=>?_
 subst he
 exact ChangeSpec.post_blind hp
theorem len_shaped {P:Program} {w:World} {g:Nat} {t:TypeId} {zero:Array Value} (h:w.ShapedOpen P) (hg:g<P.globals.size)
  (h0:((begin P (fun _ _=>0) default).world.heap[g]?).bind Obj.row?=some (zero,t)) (hz:zero.size=1) (hb:P.buildable t=true) (hc:P.cellTypes P.depth t=some [t]) (hu:P.underlying t=some (.int .i64)) :
  ∃ o,w.heap[g]?=some o/\∃ m t' f,o=.cells #[.int .i64 m] t' f:=by
 obtain⟨cs,hh,hs,hr⟩:=h.1 g zero t hg h0
 obtain⟨ts,hts,_,hall⟩:=hr hb
 rw [hc] at hts
 cases hts
 have h1:0<cs.size:=by omega
 obtain⟨u,hu',hok⟩:=hall 0 cs[0] (by simp [h1])
 have:u=t:=by simpa using hu'.symm
 subst this
 unfold Cell.ok at hok
 rw [hu] at hok
 have hcs:cs=#[cs[0]]:=by
  apply Array.ext
  ·simp;omega
  ·intro i h2 h3
   have:i=0:=by omega
   subst this
   rfl
 cases hv:cs[0]<;>rw [hv] at hok<;>simp at hok
 case int k' n=>
  rw [hok.1] at hv
  rw [hv] at hcs
  exact⟨_,hh,n,_,_,by rw [hcs]⟩
theorem c4Y {P:Program} {w:World} {name:String} {k:IntKind} {zs:List Int} {g:Nat} (h:Lib.TabIs P w name k zs) (hg:P.globalNamed name=some g):∃ o,w.heap[g]?=some o/\∃ t f,o=.cells (zs.map fun z=>Value.int k z).toArray t f:=by
 unfold Lib.TabIs World.var? at h
 rw [hg] at h
 simp only [Option.bind_some] at h
 split at h
 ·rename_i cs t f hh
  exact⟨_,hh,t,f,by rw [Option.some.inj h]⟩
 ·cases h
theorem b7U {P:Program} {W:World} {name:String} {k:IntKind} {zs:List Int} {g:Nat} {t e:TypeId} {n:Nat}
  (hg:P.globalNamed name=some g) (hty:(P.globals[g]?).map (·.type)=some t) (ht:P.underlying t=some (.array n e)) (he:P.underlying e=some (.int k)) (hce:P.cellsOf e=1) (hct:P.cellsOf t=n) :
  ∀ (l:List (String×DataW Unit)) (ps:List MemPlace),(name,Lib.tabData k zs)∈l->DataW.LaidVars P W l ps->Lib.TabIs P W name k zs
 | [],_,hm,_=>by cases hm
 | (m,d)::r,ps,hm,⟨g',t',cs,fuel,p,q,hg',ht',hvar,hd,hs,_⟩=>by
   rcases List.mem_cons.1 hm with e'|hm
   ·obtain⟨rfl,rfl⟩:=Prod.mk.inj e'
    obtain rfl:=Option.some.inj (hg.symm.trans hg')
    obtain rfl:=Option.some.inj (hty.symm.trans ht')
    unfold Lib.TabIs
    rw [hvar,<-Lib.cells_of_tab ht he hce hct hd]
   ·exact b7U hg hty ht he hce hct r q hm hs
theorem tab_met {P:Program} {W:World} {name:String} {k:IntKind} {zs:List Int} {g:Nat} {t e:TypeId} {n:Nat} {l:List (String×DataW Unit)}
  (hg:P.globalNamed name=some g) (hty:(P.globals[g]?).map (·.type)=some t) (ht:P.underlying t=some (.array n e)) (he:P.underlying e=some (.int k)) (hce:P.cellsOf e=1) (hct:P.cellsOf t=n)
  (hp:(l.all fun x=>x.2.handleName?.isNone)=true) (hm:(name,Lib.tabData k zs)∈l) (h:laidMetH P l W):∃ o,W.heap[g]?=some o/\∃ t f,o=.cells (zs.map fun z=>Value.int k z).toArray t f:=by
 rw [MakeChecks.laidMetH_plain _ _ _ hp] at h
 obtain⟨ps,h,_⟩:=h
 exact c4Y (b7U hg hty ht he hce hct l ps hm h) hg
theorem b6g {P:Program} {W:World} {name nm:String} {d0:DataW Unit} {g:Nat} {t:TypeId} {ms:Array (String×TypeId)}
  (hg:P.globalNamed name=some g) (hty:(P.globals[g]?).map (·.type)=some t) (ht:P.underlying t=some (.interface ms)) :
  ∀ (l:List (String×DataW Unit)) (ps:List MemPlace),(name,DataW.iface nm d0)∈l->DataW.LaidVars P W l ps->∃ u v,W.var? P name=some #[.iface u v]
 | [],_,hm,_=>by cases hm
 | (m,d)::r,ps,hm,⟨g',t',cs,fuel,p,q,hg',ht',hvar,hd,hs,_⟩=>by
   rcases List.mem_cons.1 hm with e'|hm
   ·obtain⟨rfl,rfl⟩:=Prod.mk.inj e'
    obtain rfl:=Option.some.inj (hg.symm.trans hg')
    obtain rfl:=Option.some.inj (hty.symm.trans ht')
    obtain⟨_,u,v,hc,_⟩:=iface_of_trod ht hd
    exact⟨u,v,by rw [hvar,<-hc]⟩
   ·exact b6g hg hty ht r q hm hs
theorem sen_met {P:Program} {W:World} {name nm:String} {d0:DataW Unit} {g:Nat} {t:TypeId} {ms:Array (String×TypeId)} {l:List (String×DataW Unit)}
  (hg:P.globalNamed name=some g) (hty:(P.globals[g]?).map (·.type)=some t) (ht:P.underlying t=some (.interface ms))
  (hp:(l.all fun x=>x.2.handleName?.isNone)=true) (hm:(name,DataW.iface nm d0)∈l) (h:laidMetH P l W):∃ o,W.heap[g]?=some o/\∃ u v t f,o=.cells #[.iface u v] t f:=by
 rw [MakeChecks.laidMetH_plain _ _ _ hp] at h
 obtain⟨ps,h,_⟩:=h
 obtain⟨u,v,h⟩:=b6g hg hty ht l ps hm h
 unfold World.var? at h
 rw [hg] at h
 simp only [Option.bind_some] at h
 split at h
 ·rename_i cs t f hh
  exact⟨_,hh,u,v,t,f,by rw [Option.some.inj h]⟩
 ·cases h
theorem witness_zip {H:Type} {enc:TypeId×Value->H} {C:Checked} {os:Go.Os} {f:FuncId} {fn:Func} {s:ChangeSpec} {conds:List PathCond} {apart:Bool} {X:World->Array Value->Prop} (modest:Bool) (w0:World) (args:Array Value) (fuel:Nat) (hos:w0.os=os)
  (hv:(w0.forCall (fun _ _=>0) ⟨#[],args,[]⟩).variablesZipB C.prog=true)
  (hr:((w0.forCall (fun _ _=>0) ⟨#[],args,[]⟩).heap.toList.drop C.prog.globals.size).take ((begin C.prog (fun _ _=>0) default).world.heap.size-C.prog.globals.size) =
   (begin C.prog (fun _ _=>0) default).world.heap.toList.drop C.prog.globals.size)
  (hok:Input.okWideB C.prog (w0.forCall (fun _ _=>0) ⟨#[],args,[]⟩) f ⟨#[],args,[]⟩=true)
  (hpre:s.preB enc C.prog fn conds apart (w0.forCall (fun _ _=>0) ⟨#[],args,[]⟩).memory args fuel=true)
  (hsz:s.sizedB enc C.prog fn apart (w0.forCall (fun _ _=>0) ⟨#[],args,[]⟩).memory args fuel=true)
  (hx:X (w0.forCall (fun _ _=>0) ⟨#[],args,[]⟩).memory args) :
  ∃ (w:World) (tape:Tape) (i:Input),w.os=os/\(w.forCall tape i).Shaped C.prog/\i.vars=[]/\Input.okWide C.prog (w.forCall tape i) .any w.heap.size f i/\
   ((s.pre enc C.prog fn conds apart (w.forCall tape i).memory i.args/\X (w.forCall tape i).memory i.args)/\sizedMet enc C.prog fn (OpenSpec.ofChange s) apart (w.forCall tape i).memory i.args)/\({ modest:=modest }:Assume).holds C.prog (lone (Frame.enter C.prog f i.args .normal) [] (w.forCall tape i)):=
 ⟨w0,fun _ _=>0,⟨#[],args,[]⟩,hos,World.shaped_of_ZipB hv hr,(Input.okWide_of_okWideB (base:=0) hok).1,(Input.okWide_of_okWideB hok).2,⟨⟨ChangeSpec.pre_of_preB hpre,hx⟩,sizedMet_of_sizedB hsz⟩,by
  simp only [Assume.holds]
  exact⟨by simp,by simp,fun _=>Modest.zero,by simp,by simp⟩⟩
theorem met_laid {P:Program} {os:Go.Os} {laid:List (String×DataW Unit)} (args:Array Value) (hp:(laid.all fun x=>x.2.handleName?.isNone)=true)
  (hf:(World.holding P os ⟨#[],#[],[]⟩).layFits P laid []=true)
  (hi:(World.holding P os ⟨#[],#[],[]⟩).layIfaces P laid (World.laidAll P os laid)=true) :
  laidMetH P laid ((World.laidAll P os laid).forCall (fun _ _=>0) ⟨#[],args,[]⟩).memory:=by
 rw [MakeChecks.laidMetH_plain _ _ _ hp]
 exact laidMet_laidAll args hf hi
end Go.Proofs.YthpjjjnbkfnghaaGreatDoor
