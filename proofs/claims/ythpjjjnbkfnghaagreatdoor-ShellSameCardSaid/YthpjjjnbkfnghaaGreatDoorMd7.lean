/-
  Part 7 of what the proof rests on: values that are told, code that is walked, what comes out.
-/
import Derived.Test.YthpjjjnbkfnghaaGreatDoorMd6
import Derived.LaidLaws
import Derived.LaidHandle
import Derived.Handed
import Derived.HandedShaped
import Derived.Lib.LaidTab
import Derived.Lay
import Derived.MakeChecks
set_option maxRecDepth 100000
set_option maxHeartbeats 8000000
set_option linter.all false
namespace Go.Proofs.YthpjjjnbkfnghaaGreatDoor
open Go
attribute [local irreducible] AW a0e a1g a0a a6w
structure Rw (l:List BS) where
 i:Nat
 u1:Nat
 u2:Nat
 u3:Nat
 u4:Nat
 nx:Nat
 hi:i<=l.length
def b03:BS:=[115,104,111,119]
def a7j:BS:=[109,101,114,103,101]
theorem b99 {a:Ss} {m:Mg} (h:a.2.2=some m):doP tT a=(a7n m.2.1,a):=by
 have e:doP tT a=(a2g tT tT a,a):=by rfl
 rw [e]
 unfold a2g
 rw [if_pos (by decide),h]
 rfl
theorem c0P {a:Ss} {m:Mg} (h:a.2.2=some m):doP b03 a=(a3m (printR m.1 m.2.2.1).1 (printR m.1 m.2.2.1).2,a):=by
 have e:doP b03 a=(a2g b03 b03 a,a):=by rfl
 rw [e]
 unfold a2g
 rw [if_pos (by decide),h]
 rfl
theorem c4d {a:Ss} (h:a99 a.2.1=0):doP a7j a=(Lib.itoa (b8W a).2.2.2.2.2.2,(a.1,a.2.1,some (mgT (b8W a)))):=by
 have e:doP a7j a=a1s a7j a:=by rfl
 rw [e]
 unfold a1s
 rw [if_pos (by decide),if_pos h]
theorem c1N {a:Ss} (h:¬a99 a.2.1=0):doP a7j a=(b5X (a99 a.2.1),a):=by
 have e:doP a7j a=a1s a7j a:=by rfl
 rw [e]
 unfold a1s
 rw [if_pos (by decide),if_neg h]
theorem c9e {e:Int} (h:0<=e/\e<14):a8x (b5X e)=-1:=by
 have hc:e=0\/e=1\/e=2\/e=3\/e=4\/e=5\/e=6\/e=7\/e=8\/e=9\/e=10\/e=11\/e=12\/e=13:=by omega
 rcases hc with rfl|rfl|rfl|rfl|rfl|rfl|rfl|rfl|rfl|rfl|rfl|rfl|rfl|rfl
 ·exact a2o (c:=111) (by decide) (by decide)
 ·exact a2o (c:=97) (by decide) (by decide)
 ·exact a2o (c:=115) (by decide) (by decide)
 ·exact a2o (c:=108) (by decide) (by decide)
 ·exact a2o (c:=119) (by decide) (by decide)
 ·exact a2o (c:=115) (by decide) (by decide)
 ·exact a2o (c:=109) (by decide) (by decide)
 ·exact a2o (c:=110) (by decide) (by decide)
 ·exact a2o (c:=115) (by decide) (by decide)
 ·exact a2o (c:=102) (by decide) (by decide)
 ·exact a2o (c:=117) (by decide) (by decide)
 ·exact a2o (c:=102) (by decide) (by decide)
 ·exact a2o (c:=109) (by decide) (by decide)
 ·exact a2o (c:=119) (by decide) (by decide)
theorem c2n {a:Ss} (ha:b0Z 9400 a) (h:0<=a8x (doP a7j a).1):∃ m,(doP a7j a).2.2.2=some m/\(doP b03 (doP a7j a).2).1=(doP tT (doP a7j a).2).1/\(doP b03 (doP a7j a).2).2=(doP a7j a).2/\(doP tT (doP a7j a).2).2=(doP a7j a).2:=by
 by_cases hz:a99 a.2.1=0
 ·rw [c4d hz]
  refine⟨_,rfl,?_,?_,?_⟩
  ·rw [b99 rfl,c0P rfl]
   have hM:=b0J ha.txt
   obtain⟨p1,p2,p3⟩:=c5q hz
   have hF:=a8g hM p2 a.2.1.2.1 ha.lb p1 a.2.1.2.2.2
   have e:b8W a=d1b a.1.1 a.1.2.1 a.1.2.2 a.2.1.2.2.1 a.2.1.2.1 a.2.1.1 a.2.1.2.2.2:=by unfold b8W b4x;rw [if_pos hz]
   have hp:=b6K hF
   rw [e]
   show a3m (printR (a7w a.1.1 a.1.2.1 a.1.2.2 a.2.1.2.1 a.2.1.1 a.2.1.2.2.2) (a6Z a.2.1.2.2.1 a.1.1 a.1.2.1 a.1.2.2)).1 (printR (a7w a.1.1 a.1.2.1 a.1.2.2 a.2.1.2.1 a.2.1.1 a.2.1.2.2.2) (a6Z a.2.1.2.2.1 a.1.1 a.1.2.1 a.1.2.2)).2=a7n (a1y (a6Z a.2.1.2.2.1 a.1.1 a.1.2.1 a.1.2.2) (a7w a.1.1 a.1.2.1 a.1.2.2 a.2.1.2.1 a.2.1.1 a.2.1.2.2.2))
   rw [hp]
   unfold a3m
   rw [if_pos rfl]
  ·rw [c0P rfl]
  ·rw [b99 rfl]
 ·rw [c1N hz,c9e (c61 _)] at h
  exact absurd h (by decide)
def b5P:a0s:=a0s.f1 (kL eS) (fun l=>l.length<=140737488351232) (fun _=>kB.enc true)
theorem okShellShows:a0d Tryz.prog 6 b5P:=by
 refine a0d.f1 Tryz.func6 rfl (by decide) Tryz.results6 Tryz.ntmps6 (by decide) fun l hl=>?_
 have hΓ:GOK Tryz.prog (gam [(16,a03),(17,a2D),(18,a1w),(20,a3H),(24,a1Y)]):=(.cons b6U (.cons c6X (.cons b63 (.cons c5N (.cons c1h .nil)))))
 cases hf:c1C l with
 | false=>
   refine AW.of hΓ a0c [99999] _ _ _ rfl ?_
   simp only [go_sem,a03,a2D,a1w,a3H,a1Y,hf]
   omega
 | true=>
   obtain⟨hl1,hl2⟩:=b3b.1 hf
   refine AW.of hΓ a0c [7] _ _ _ rfl ?_
   simp only [go_sem,a03,a2D,a1w,a3H,a1Y,hf]
   refine⟨by omega,?_⟩
   refine AW.round (α:=Rw l) (fun x=>⟨[(0,sL eS l),(3,.pt 0 0 0),(4,.val (.int .i64 x.i))],[(0,.box 0 106 10 (shC 1 2 3 4 x.u1 x.u2 x.u3 x.u4 (a2K ss0 (l.take x.i)))),(1,a0m x.u1 (a2K ss0 (l.take x.i)).1.1),(2,a0m x.u2 (a2K ss0 (l.take x.i)).1.2.1),(3,a0m x.u3 (a2K ss0 (l.take x.i)).1.2.2),(4,mgR x.u4 (a2K ss0 (l.take x.i)).2.2)],48,5,x.nx,[]⟩) (fun x=>l.length-x.i) ⟨0,1,2,3,0,4,Nat.zero_le _⟩ ?_ ?_
   ·simp only [go_sem,a03,a2D,a1w,a3H,a1Y]
    exact⟨a0a.refl _,a0a.refl _,a0a.refl _,a0a.refl _,a0a.refl _⟩
   ·rintro⟨i,u1,u2,u3,u4,nx,hi⟩
    have hrun:=b0X hl1 hl2 i hi
    rcases Nat.lt_or_ge i l.length with hlt|hge
    ·have hlI:((i:Int)<(l.length:Nat))=True:=eq_true (by omega)
     have hsn:a2K ss0 (l.take (i+1))=(doP (l.getD i []) (a2K ss0 (l.take i))).2:=by rw [a1f l [] hlt,a6p]
     have hx:=hl2 _ (a1h l [] hlt▸List.getElem_mem hlt)
     have ha:b0Z 9400 (a2K ss0 (l.take i)):=hrun.mono (by omega)
     obtain⟨line,hln⟩:∃ line,l.getD i []=line:=⟨_,rfl⟩
     rw [hln] at hsn hx
     have hb:b0Z 9400 (doP line (a2K ss0 (l.take i))).2:=(c9i hrun (by omega) (by omega)).mono (by omega)
     refine AW.of hΓ a0c [7] _ _ _ rfl ?_
     simp only [go_sem,a03,a2D,a1w,a3H,a1Y,hlI,hln]
     refine⟨by omega,.inl (a1U (R:=a6W) (a:=(a2K ss0 (l.take i))) (b:=(doP line (a2K ss0 (l.take i))).2) (r:=.st (doP line (a2K ss0 (l.take i))).1) (v:=0) (v1:=u1) (v2:=u2) (v3:=u3) (v4:=u4) ⟨line,rfl,by omega,ha,rfl,rfl⟩ (by decide) (by decide) (a0a.refl _) (a0a.refl _) (a0a.refl _) (a0a.refl _) (a0a.refl _) fun y1 y2 y3 y4 nx1 g1 g2 g3 g4 hn=>?_)⟩
     simp only [go_sem,a03,a2D,a1w,a3H,a1Y,hln]
     by_cases c1:line=[109,101,114,103,101]
     ·have j1:=eq_true c1
      by_cases c2:0<=a8x (doP line (a2K ss0 (l.take i))).1
      ·have j2:=eq_true c2
       have hst:∃ m,(doP line (a2K ss0 (l.take i))).2.2.2=some m/\(doP b03 (doP line (a2K ss0 (l.take i))).2).1=(doP tT (doP line (a2K ss0 (l.take i))).2).1/\(doP b03 (doP line (a2K ss0 (l.take i))).2).2=(doP line (a2K ss0 (l.take i))).2/\(doP tT (doP line (a2K ss0 (l.take i))).2).2=(doP line (a2K ss0 (l.take i))).2:=by
        rw [show line=a7j from c1] at c2 ⊢
        exact c2n ha c2
       obtain⟨m,h1,h2,h3,h4⟩:=hst
       refine AW.fork (AW.regionG hΓ [0,0,0,0,0,0,1,1,1,0,0,1,1,1,1,1,0] ?_)
       simp only [go_sem,a03,a2D,a1w,a3H,a1Y,hln,j1,j2]
       refine⟨by omega,.inl (a1U (R:=a6W) (a:=(doP line (a2K ss0 (l.take i))).2) (b:=(doP line (a2K ss0 (l.take i))).2) (r:=.st (doP b03 (doP line (a2K ss0 (l.take i))).2).1) (v:=0) (v1:=y1) (v2:=y2) (v3:=y3) (v4:=y4) ⟨b03,rfl,by decide,hb,rfl,h3.symm⟩ (by decide) (by decide) (a0a.refl _) (a0a.refl _) (a0a.refl _) (a0a.refl _) (a0a.refl _) fun z1 z2 z3 z4 nx2 g1 g2 g3 g4 hn2=>?_)⟩
       simp only [go_sem,a03,a2D,a1w,a3H,a1Y,hln]
       refine .inl (a1U (R:=a6W) (a:=(doP line (a2K ss0 (l.take i))).2) (b:=(doP line (a2K ss0 (l.take i))).2) (r:=.st (doP tT (doP line (a2K ss0 (l.take i))).2).1) (v:=0) (v1:=z1) (v2:=z2) (v3:=z3) (v4:=z4) ⟨tT,rfl,by decide,hb,rfl,h4.symm⟩ (by decide) (by decide) (a0a.refl _) (a0a.refl _) (a0a.refl _) (a0a.refl _) (a0a.refl _) fun q1 q2 q3 q4 nx3 g1 g2 g3 g4 hn3=>?_)
       simp only [go_sem,a03,a2D,a1w,a3H,a1Y,hln,h2]
       refine AW.of hΓ a0c [] _ _ _ rfl ?_
       simp only [go_sem,a03,a2D,a1w,a3H,a1Y,hln]
       refine⟨⟨by omega,by omega⟩,⟨i+1,q1,q2,q3,q4,nx3,hlt⟩,⟨Nat.le_refl _,rfl,?_⟩,by dsimp only;omega⟩
       dsimp only
       rw [hsn]
       exact⟨a0a.refl _,a0a.refl _,a0a.refl _,a0a.refl _,a0a.refl _⟩
      ·have j2:=eq_false c2
       refine AW.fork (AW.regionG hΓ [0,0,0,0,0,0,1,1,1,0,0,2,2,2,2,2,0] ?_)
       simp only [go_sem,a03,a2D,a1w,a3H,a1Y,hln,j1,j2]
       refine⟨⟨by omega,by omega⟩,?_⟩
       refine AW.of hΓ a0c [] _ _ _ rfl ?_
       simp only [go_sem,a03,a2D,a1w,a3H,a1Y,hln]
       refine⟨⟨by omega,by omega⟩,⟨i+1,y1,y2,y3,y4,nx1,hlt⟩,⟨Nat.le_refl _,rfl,?_⟩,by dsimp only;omega⟩
       dsimp only
       rw [hsn]
       exact⟨a0a.refl _,a0a.refl _,a0a.refl _,a0a.refl _,a0a.refl _⟩
     ·have j1:=eq_false c1
      refine AW.fork (AW.regionG hΓ [0,0,0,0,0,0,2,2,2,0,0,2,2,2,2,2,0] ?_)
      simp only [go_sem,a03,a2D,a1w,a3H,a1Y,hln,j1]
      refine⟨⟨by omega,by omega⟩,?_⟩
      refine AW.of hΓ a0c [] _ _ _ rfl ?_
      simp only [go_sem,a03,a2D,a1w,a3H,a1Y,hln]
      refine⟨⟨by omega,by omega⟩,⟨i+1,y1,y2,y3,y4,nx1,hlt⟩,⟨Nat.le_refl _,rfl,?_⟩,by dsimp only;omega⟩
      dsimp only
      rw [hsn]
      exact⟨a0a.refl _,a0a.refl _,a0a.refl _,a0a.refl _,a0a.refl _⟩
    ·obtain rfl:i=l.length:=by omega
     have hlI:((l.length:Int)<(l.length:Nat))=False:=eq_false (by omega)
     refine AW.of hΓ a0c [99999] _ _ _ rfl ?_
     simp only [go_sem,a03,a2D,a1w,a3H,a1Y,hlI]
     refine .inr ⟨[109,101,114,103,101],rfl,?_⟩
     simp only [go_sem,a03,a2D,a1w,a3H,a1Y]
noncomputable def b89 (a:Ss):List BS->List BS
 | []=>[]
 | x::l=>(doP x a).1::b89 (doP x a).2 l
theorem b6Y (l:List BS):∀ a,(b89 a l).length=l.length:=by
 induction l with
 | nil=>exact fun _=>rfl
 | cons x l ih=>exact fun a=>congrArg (·+1) (ih _)
theorem c1F (x:BS) (l:List BS):∀ a,b89 a (l++[x])=b89 a l++[(doP x (a2K a l)).1]:=by
 induction l with
 | nil=>exact fun _=>rfl
 | cons y l ih=>exact fun a=>congrArg ((doP y a).1::·) (ih _)
theorem c44 (l:List BS):∀ (a:Ss) (i:Nat),i<l.length->(b89 a l).getD i []=(doP (l.getD i []) (a2K a (l.take i))).1:=by
 induction l with
 | nil=>intro a i h;exact absurd h (Nat.not_lt_zero _)
 | cons y l ih=>
   intro a i h
   cases i with
   | zero=>rfl
   | succ i=>exact ih (doP y a).2 i (Nat.lt_of_succ_lt_succ h)
noncomputable def a1I:a0s:=a0s.f1 (kL eS) (fun l=>c1C l=true) (fun l=>sL eS (b89 ss0 l))
structure Rl (l:List BS) where
 i:Nat
 u1:Nat
 u2:Nat
 u3:Nat
 u4:Nat
 u5:Nat
 nx:Nat
 hi:i<=l.length
theorem c1c:a0d Tryz.prog 23 a1I:=by
 refine a0d.f1 Tryz.func23 rfl (by decide) Tryz.results23 Tryz.ntmps23 (by decide) fun l hf=>?_
 have hΓ:GOK Tryz.prog (gam [(18,a1w),(20,a3H)]):=(.cons b63 (.cons c5N .nil))
 obtain⟨hl1,hl2⟩:=b3b.1 hf
 refine AW.of hΓ a0c [3] _ _ _ rfl ?_
 simp only [go_sem,a1w,a3H]
 refine AW.block ?_
 refine AW.adopt 4 9 1 (fun _ _=>.any) rfl ?_
 refine AW.round (α:=Rl l) (fun x=>⟨[(3,.pt 0 0 0),(4,.ow 5 x.u5 x.i),(8,sL eS l),(9,.val (.int .i64 l.length)),(10,.val (.int .i64 x.i))],[(0,.box 0 106 10 (shC 1 2 3 4 x.u1 x.u2 x.u3 x.u4 (a2K ss0 (l.take x.i)))),(1,a0m x.u1 (a2K ss0 (l.take x.i)).1.1),(2,a0m x.u2 (a2K ss0 (l.take x.i)).1.2.1),(3,a0m x.u3 (a2K ss0 (l.take x.i)).1.2.2),(4,mgR x.u4 (a2K ss0 (l.take x.i)).2.2),(5,a05 x.u5 9 eS (b89 ss0 (l.take x.i)))],22,6,x.nx,[]⟩) (fun x=>l.length-x.i) ⟨0,1,2,3,0,4,5,Nat.zero_le _⟩ ?_ ?_
 ·simp only [go_sem,a1w,a3H]
  exact⟨a0a.refl _,a0a.refl _,a0a.refl _,a0a.refl _,a0a.refl _,a8G rfl⟩
 ·rintro⟨i,u1,u2,u3,u4,u5,nx,hi⟩
  have hrun:=b0X hl1 hl2 i hi
  have hrl:(b89 ss0 (l.take i)).length=i:=by rw [b6Y,List.length_take];omega
  rcases Nat.lt_or_ge i l.length with hlt|hge
  ·have hlI:((i:Int)<(l.length:Nat))=True:=eq_true (by omega)
   have hsn:a2K ss0 (l.take (i+1))=(doP (l.getD i []) (a2K ss0 (l.take i))).2:=by rw [a1f l [] hlt,a6p]
   have hsr:b89 ss0 (l.take (i+1))=b89 ss0 (l.take i)++[(doP (l.getD i []) (a2K ss0 (l.take i))).1]:=by rw [a1f l [] hlt,c1F]
   have hx:=hl2 _ (a1h l [] hlt▸List.getElem_mem hlt)
   have ha:b0Z 9400 (a2K ss0 (l.take i)):=hrun.mono (by omega)
   obtain⟨line,hln⟩:∃ line,l.getD i []=line:=⟨_,rfl⟩
   rw [hln] at hsn hx hsr
   refine AW.of hΓ a0c [] _ _ _ rfl ?_
   simp only [go_sem,a1w,a3H,hlI,hln]
   refine⟨by omega,.inl (a1U (R:=a6W) (a:=(a2K ss0 (l.take i))) (b:=(doP line (a2K ss0 (l.take i))).2) (r:=.st (doP line (a2K ss0 (l.take i))).1) (v:=0) (v1:=u1) (v2:=u2) (v3:=u3) (v4:=u4) ⟨line,rfl,by omega,ha,rfl,rfl⟩ (by decide) (by decide) (a0a.refl _) (a0a.refl _) (a0a.refl _) (a0a.refl _) (a0a.refl _) fun y1 y2 y3 y4 nx1 g1 g2 g3 g4 hn=>?_)⟩
   simp only [go_sem,a1w,a3H,hln]
   refine⟨⟨hrl,by omega⟩,⟨by omega,by omega⟩,⟨i+1,y1,y2,y3,y4,nx1,nx1+1,hlt⟩,⟨Nat.le_refl _,⟨⟨rfl,rfl⟩,rfl⟩,?_⟩,by dsimp only;omega⟩
   dsimp only
   rw [hsn]
   exact⟨a0a.refl _,a0a.refl _,a0a.refl _,a0a.refl _,a0a.refl _,a1A rfl hsr hrl.symm rfl rfl fun _ _=>a0e.refl _⟩
  ·obtain rfl:i=l.length:=by omega
   have hlI:((l.length:Int)<(l.length:Nat))=False:=eq_false (by omega)
   rw [List.take_length] at hrl
   refine AW.of hΓ a0c [99999] _ _ _ rfl ?_
   simp only [go_sem,a1w,a3H,hlI]
   refine⟨by omega,?_⟩
   show a0e _ (.sn (b89 ss0 l).length 1 _)
   rw [hrl]
   exact a0e.refl _
structure R2 (l o:List BS) where
 i:Nat
 u1:Nat
 u2:Nat
 u3:Nat
 u4:Nat
 v1:Nat
 v2:Nat
 v3:Nat
 v4:Nat
 nx:Nat
 hi:i<=l.length
def b8M:a0s:=a0s.f2 (kL eS) (kL eS) (fun l o=>l.length<=140737488351232/\o.length<=140737488351232) (fun _ _=>kB.enc true)
theorem okShellSame:a0d Tryz.prog 5 b8M:=by
 refine a0d.f2 Tryz.func5 rfl (by decide) Tryz.results5 Tryz.ntmps5 (by decide) fun l o ⟨hl,ho⟩=>?_
 have hΓ:GOK Tryz.prog (gam [(16,a03),(17,a2D),(18,a1w),(23,a1I),(20,a3H)]):=(.cons b6U (.cons c6X (.cons b63 (.cons c1c (.cons c5N .nil)))))
 cases hf:c1C l with
 | false=>
   refine AW.of hΓ a0c [99999,200012] _ _ _ rfl ?_
   simp only [go_sem,a03,a2D,a1w,a1I,a3H,hf]
   omega
 | true=>
   cases hg:c1C o with
   | false=>
     refine AW.of hΓ a0c [99999,200012] _ _ _ rfl ?_
     simp only [go_sem,a03,a2D,a1w,a1I,a3H,hf,hg]
     exact⟨by omega,by omega⟩
   | true=>
     obtain⟨hl1,hl2⟩:=b3b.1 hf
     obtain⟨ho1,ho2⟩:=b3b.1 hg
     have hrl:=b6Y l ss0
     have hI:(((b89 ss0 l).length:Int)=(l.length:Nat))=True:=eq_true (by omega)
     refine AW.of hΓ a0c [200012] _ _ _ rfl ?_
     simp only [go_sem,a03,a2D,a1w,a1I,a3H,hf,hg,hI]
     refine⟨by omega,by omega,?_⟩
     refine AW.round (α:=R2 l o) (fun x=>⟨[(0,sL eS l),(1,sL eS o),(5,sL eS (b89 ss0 l)),(6,.pt 0 0 0),(7,.pt 5 4 0),(8,.val (.int .i64 x.i))],[(0,.box 0 106 10 (shC 1 2 3 4 x.u1 x.u2 x.u3 x.u4 (a2K ss0 (l.take x.i)))),(1,a0m x.u1 (a2K ss0 (l.take x.i)).1.1),(2,a0m x.u2 (a2K ss0 (l.take x.i)).1.2.1),(3,a0m x.u3 (a2K ss0 (l.take x.i)).1.2.2),(4,mgR x.u4 (a2K ss0 (l.take x.i)).2.2),(5,.box 4 106 10 (shC 6 7 8 9 x.v1 x.v2 x.v3 x.v4 (a2K ss0 (o.take x.i)))),(6,a0m x.v1 (a2K ss0 (o.take x.i)).1.1),(7,a0m x.v2 (a2K ss0 (o.take x.i)).1.2.1),(8,a0m x.v3 (a2K ss0 (o.take x.i)).1.2.2),(9,mgR x.v4 (a2K ss0 (o.take x.i)).2.2)],58,10,x.nx,[]⟩) (fun x=>l.length-x.i) ⟨0,1,2,3,0,5,6,7,0,8,Nat.zero_le _⟩ ?_ ?_
     ·simp only [go_sem,a03,a2D,a1w,a1I,a3H]
      exact⟨a0a.refl _,a0a.refl _,a0a.refl _,a0a.refl _,a0a.refl _,a0a.refl _,a0a.refl _,a0a.refl _,a0a.refl _,a0a.refl _⟩
     ·rintro⟨i,u1,u2,u3,u4,v1,v2,v3,v4,nx,hi⟩
      have hrun:=b0X hl1 hl2 i hi
      rcases Nat.lt_or_ge i l.length with hlt|hge
      ·have hlI:((i:Int)<(l.length:Nat))=True:=eq_true (by omega)
       have hsn:a2K ss0 (l.take (i+1))=(doP (l.getD i []) (a2K ss0 (l.take i))).2:=by rw [a1f l [] hlt,a6p]
       have hx:=hl2 _ (a1h l [] hlt▸List.getElem_mem hlt)
       have ha:b0Z 9400 (a2K ss0 (l.take i)):=hrun.mono (by omega)
       have hget:=c44 l ss0 i hlt
       obtain⟨line,hln⟩:∃ line,l.getD i []=line:=⟨_,rfl⟩
       rw [hln] at hsn hx hget
       rcases Nat.lt_or_ge i o.length with hot|hog
       ·have hoI:((i:Int)<(o.length:Nat))=True:=eq_true (by omega)
        have hrunO:=b0X ho1 ho2 i (by omega)
        have hsO:a2K ss0 (o.take (i+1))=(doP (o.getD i []) (a2K ss0 (o.take i))).2:=by rw [a1f o [] hot,a6p]
        have hxO:=ho2 _ (a1h o [] hot▸List.getElem_mem hot)
        have haO:b0Z 9400 (a2K ss0 (o.take i)):=hrunO.mono (by omega)
        obtain⟨lo,hlo⟩:∃ lo,o.getD i []=lo:=⟨_,rfl⟩
        rw [hlo] at hsO hxO
        refine AW.of hΓ a0c [200012] _ _ _ rfl ?_
        simp only [go_sem,a03,a2D,a1w,a1I,a3H,hlI,hln]
        refine AW.fork (AW.fork ?_)
        refine AW.of hΓ a0c [200012] _ _ _ rfl ?_
        simp only [go_sem,a03,a2D,a1w,a1I,a3H,hoI,hlo]
        refine AW.of hΓ a0c [200012] _ _ _ rfl ?_
        simp only [go_sem,a03,a2D,a1w,a1I,a3H,hoI,hlo]
        refine⟨by omega,.inl (a1U (R:=a6W) (a:=(a2K ss0 (o.take i))) (b:=(doP lo (a2K ss0 (o.take i))).2) (r:=.st (doP lo (a2K ss0 (o.take i))).1) (v:=4) (v1:=v1) (v2:=v2) (v3:=v3) (v4:=v4) ⟨lo,rfl,by omega,haO,rfl,rfl⟩ (by decide) (by decide) (a0a.refl _) (a0a.refl _) (a0a.refl _) (a0a.refl _) (a0a.refl _) fun x1 x2 x3 x4 nx1 g1 g2 g3 g4 hn=>?_)⟩
        simp only [go_sem,a03,a2D,a1w,a1I,a3H,hlo]
        refine AW.fork ?_
        refine AW.drawZ hΓ a0c 5 [6,7,8,9] [8,9] [] (by decide +kernel) ?_
        simp only [go_sem,a03,a2D,a1w,a1I,a3H,hln,hget,a7F]
        refine⟨⟨by omega,by omega⟩,by omega,.inl (a1U (R:=a6W) (a:=(a2K ss0 (l.take i))) (b:=(doP line (a2K ss0 (l.take i))).2) (r:=.st (doP line (a2K ss0 (l.take i))).1) (v:=0) (v1:=u1) (v2:=u2) (v3:=u3) (v4:=u4) ⟨line,rfl,by omega,ha,rfl,rfl⟩ (by decide) (by decide) (a0a.refl _) (a0a.refl _) (a0a.refl _) (a0a.refl _) (a0a.refl _) fun y1 y2 y3 y4 nx2 g1 g2 g3 g4 hn2=>?_)⟩
        simp only [go_sem,a03,a2D,a1w,a1I,a3H,hln,hget,a7F]
        refine AW.of hΓ a0c [200012] _ _ _ rfl ?_
        simp only [go_sem,a03,a2D,a1w,a1I,a3H,hln]
        refine⟨⟨by omega,by omega⟩,⟨i+1,y1,y2,y3,y4,x1,x2,x3,x4,nx2,hlt⟩,⟨Nat.le_refl _,rfl,?_⟩,by dsimp only;omega⟩
        dsimp only
        rw [hsn,hsO]
        exact⟨a0a.refl _,a0a.refl _,a0a.refl _,a0a.refl _,a0a.refl _,a0a.refl _,a0a.refl _,a0a.refl _,a0a.refl _,a0a.refl _⟩
       ·have hoI:((i:Int)<(o.length:Nat))=False:=eq_false (by omega)
        have hsO:a2K ss0 (o.take (i+1))=a2K ss0 (o.take i):=by rw [List.take_of_length_le (by omega),List.take_of_length_le (by omega)]
        refine AW.of hΓ a0c [200012] _ _ _ rfl ?_
        simp only [go_sem,a03,a2D,a1w,a1I,a3H,hlI,hln]
        refine AW.fork (AW.fork ?_)
        refine AW.of hΓ a0c [200012] _ _ _ rfl ?_
        simp only [go_sem,a03,a2D,a1w,a1I,a3H,hoI]
        refine AW.of hΓ a0c [200012] _ _ _ rfl ?_
        simp only [go_sem,a03,a2D,a1w,a1I,a3H,hoI]
        refine AW.fork ?_
        refine AW.drawZ hΓ a0c 5 [6,7,8,9] [8,9] [] (by decide +kernel) ?_
        simp only [go_sem,a03,a2D,a1w,a1I,a3H,hln,hget,a7F]
        refine⟨⟨by omega,by omega⟩,by omega,.inl (a1U (R:=a6W) (a:=(a2K ss0 (l.take i))) (b:=(doP line (a2K ss0 (l.take i))).2) (r:=.st (doP line (a2K ss0 (l.take i))).1) (v:=0) (v1:=u1) (v2:=u2) (v3:=u3) (v4:=u4) ⟨line,rfl,by omega,ha,rfl,rfl⟩ (by decide) (by decide) (a0a.refl _) (a0a.refl _) (a0a.refl _) (a0a.refl _) (a0a.refl _) fun y1 y2 y3 y4 nx2 g1 g2 g3 g4 hn2=>?_)⟩
        simp only [go_sem,a03,a2D,a1w,a1I,a3H,hln,hget,a7F]
        refine AW.of hΓ a0c [200012] _ _ _ rfl ?_
        simp only [go_sem,a03,a2D,a1w,a1I,a3H,hln]
        refine⟨⟨by omega,by omega⟩,⟨i+1,y1,y2,y3,y4,v1,v2,v3,v4,nx2,hlt⟩,⟨Nat.le_refl _,rfl,?_⟩,by dsimp only;omega⟩
        dsimp only
        rw [hsn,hsO]
        exact⟨a0a.refl _,a0a.refl _,a0a.refl _,a0a.refl _,a0a.refl _,a0a.refl _,a0a.refl _,a0a.refl _,a0a.refl _,a0a.refl _⟩
      ·obtain rfl:i=l.length:=by omega
       have hlI:((l.length:Int)<(l.length:Nat))=False:=eq_false (by omega)
       refine AW.of hΓ a0c [99999,200012] _ _ _ rfl ?_
       simp only [go_sem,a03,a2D,a1w,a1I,a3H,hlI]
end Go.Proofs.YthpjjjnbkfnghaaGreatDoor
namespace Go.Proofs.YthpjjjnbkfnghaaGreatDoor
open Go Go.ChangeShapes Go.WideShapes Go.ChangeAt Go.RowKit
theorem returns_laid {H:Type} {enc:TypeId×Value->H} {a:Assume} {C:Checked} {os:Go.Os} {f:FuncId} {fn:Func} {s:ChangeSpec} {conds:List PathCond} {apart fresh handsOn b4X:Bool} {X:World->Array Value->Prop}
  (hX:∀ (w w':World) (args:Array Value),w.heap=w'.heap->X w args->X w' args)
  (own:ownKnob C.prog.godebug=none) (started:os.Started) (noInit:C.prog.inits.idxOf? f=none) (hfn:C.prog.funcs[f]?=some fn)
  (witness:∃ (w:World) (tape:Tape) (i:Input),w.os=os/\(w.forCall tape i).Shaped C.prog/\i.vars=[]/\Input.okWide C.prog (w.forCall tape i) .any w.heap.size f i/\
   ((s.pre enc C.prog fn conds apart (w.forCall tape i).memory i.args/\X (w.forCall tape i).memory i.args)/\sizedMet enc C.prog fn (OpenSpec.ofChange s) apart (w.forCall tape i).memory i.args)/\a.holds C.prog (lone (Frame.enter C.prog f i.args .normal) [] (w.forCall tape i)))
  (contract:∀ (W:World) (base:Nat) (args:Array Value) (ds gs:List (DataW H)) (before:List MemPlace),
   (∀ (j:Nat) t v,fn.params[j]?=some t->args[j]?=some v->Value.okWide C.prog W .any base t v)->
   DataW.Whole enc C.prog fn.params.toList s.vars apart W args.toList ds gs before->
   conds.all (PathCond.test C.prog ⟨fn.params.toList,ds,s.plain.varTypes C.prog,gs⟩)=true->
   (DataW.weightsEach C.prog (fn.params.toList++s.plain.varTypes C.prog) (ds++gs)).all (·<=reachBytes)=true->X W args->W.ShapedOpen C.prog->
   a.holds C.prog (lone (Frame.enter C.prog f args .normal) [] W)->
   Calls C.prog f args W fun e W'=>∃ v,e=.returned v/\s.post enc C.prog fn apart fresh handsOn b4X W args v W') :
  ReturnsInHanded a C os f .any (fun w args=>(s.pre enc C.prog fn conds apart w args/\X w args)/\sizedMet enc C.prog fn (OpenSpec.ofChange s) apart w args) (s.post enc C.prog fn apart fresh handsOn b4X):=by
 refine returnsInHanded_of_calls own started noInit witness ?_
 intro w tape i _ hsh _ hok hpre hholds
 obtain⟨_,_,_,fn',hfn',_,_,_,_,hval⟩:=hok
 have e:fn'=fn:=Option.some.inj (hfn'.symm.trans hfn)
 subst e
 obtain⟨⟨⟨ds,gs,before,hw,hc⟩,hx⟩,hz⟩:=hpre
 have hw':=DataW.Whole.of_heap (w':=w.forCall tape i) (by rfl) hw
 refine (contract (w.forCall tape i) w.heap.size i.args ds gs before hval hw' hc (hz.weights hw) (hX _ _ _ (by rfl) hx) hsh hholds).mono fun e W' ⟨v,he,hp⟩=>?_
 subst he
 exact ChangeSpec.post_blind hp
theorem len_shaped {P:Program} {w:World} {g:Nat} {t:TypeId} {zero:Array Value} (h:w.ShapedOpen P) (hg:g<P.globals.size)
  (h0:((begin P (fun _ _=>0) default).world.heap[g]?).bind Obj.row?=some (zero,t)) (hz:zero.size=1) (hb:P.buildable t=true) (hc:P.cellTypes P.depth t=some [t]) (hu:P.underlying t=some (.int .i64)) :
  ∃ o,w.heap[g]?=some o/\∃ m t' f,o=.cells #[.int .i64 m] t' f:=by
 obtain⟨cs,hh,hs,hr⟩:=h.1 g zero t hg h0
 obtain⟨ts,hts,_,hall⟩:=hr hb
 rw [hc] at hts
 cases hts
 have h1:0<cs.size:=by omega
 obtain⟨u,hu',hok⟩:=hall 0 cs[0] (by simp [h1])
 have:u=t:=by simpa using hu'.symm
 subst this
 unfold Cell.ok at hok
 rw [hu] at hok
 have hcs:cs=#[cs[0]]:=by
  apply Array.ext
  ·simp;omega
  ·intro i h2 h3
   have:i=0:=by omega
   subst this
   rfl
 cases hv:cs[0]<;>rw [hv] at hok<;>simp at hok
 case int k' n=>
  rw [hok.1] at hv
  rw [hv] at hcs
  exact⟨_,hh,n,_,_,by rw [hcs]⟩
theorem c5f {P:Program} {w:World} {name:String} {k:IntKind} {zs:List Int} {g:Nat} (h:Lib.TabIs P w name k zs) (hg:P.globalNamed name=some g):∃ o,w.heap[g]?=some o/\∃ t f,o=.cells (zs.map fun z=>Value.int k z).toArray t f:=by
 unfold Lib.TabIs World.var? at h
 rw [hg] at h
 simp only [Option.bind_some] at h
 split at h
 ·rename_i cs t f hh
  exact⟨_,hh,t,f,by rw [Option.some.inj h]⟩
 ·cases h
theorem b7h {P:Program} {W:World} {name:String} {k:IntKind} {zs:List Int} {g:Nat} {t e:TypeId} {n:Nat}
  (hg:P.globalNamed name=some g) (hty:(P.globals[g]?).map (·.type)=some t) (ht:P.underlying t=some (.array n e)) (he:P.underlying e=some (.int k)) (hce:P.cellsOf e=1) (hct:P.cellsOf t=n) :
  ∀ (l:List (String×DataW Unit)) (ps:List MemPlace),(name,Lib.tabData k zs)∈l->DataW.LaidVars P W l ps->Lib.TabIs P W name k zs
 | [],_,hm,_=>by cases hm
 | (m,d)::r,ps,hm,⟨g',t',cs,fuel,p,q,hg',ht',hvar,hd,hs,_⟩=>by
   rcases List.mem_cons.1 hm with e'|hm
   ·obtain⟨rfl,rfl⟩:=Prod.mk.inj e'
    obtain rfl:=Option.some.inj (hg.symm.trans hg')
    obtain rfl:=Option.some.inj (hty.symm.trans ht')
    unfold Lib.TabIs
    rw [hvar,<-Lib.cells_of_tab ht he hce hct hd]
   ·exact b7h hg hty ht he hce hct r q hm hs
theorem tab_met {P:Program} {W:World} {name:String} {k:IntKind} {zs:List Int} {g:Nat} {t e:TypeId} {n:Nat} {l:List (String×DataW Unit)}
  (hg:P.globalNamed name=some g) (hty:(P.globals[g]?).map (·.type)=some t) (ht:P.underlying t=some (.array n e)) (he:P.underlying e=some (.int k)) (hce:P.cellsOf e=1) (hct:P.cellsOf t=n)
  (hp:(l.all fun x=>x.2.handleName?.isNone)=true) (hm:(name,Lib.tabData k zs)∈l) (h:laidMetH P l W):∃ o,W.heap[g]?=some o/\∃ t f,o=.cells (zs.map fun z=>Value.int k z).toArray t f:=by
 rw [MakeChecks.laidMetH_plain _ _ _ hp] at h
 obtain⟨ps,h,_⟩:=h
 exact c5f (b7h hg hty ht he hce hct l ps hm h) hg
theorem b7a {P:Program} {W:World} {name nm:String} {d0:DataW Unit} {g:Nat} {t:TypeId} {ms:Array (String×TypeId)}
  (hg:P.globalNamed name=some g) (hty:(P.globals[g]?).map (·.type)=some t) (ht:P.underlying t=some (.interface ms)) :
  ∀ (l:List (String×DataW Unit)) (ps:List MemPlace),(name,DataW.iface nm d0)∈l->DataW.LaidVars P W l ps->∃ u v,W.var? P name=some #[.iface u v]
 | [],_,hm,_=>by cases hm
 | (m,d)::r,ps,hm,⟨g',t',cs,fuel,p,q,hg',ht',hvar,hd,hs,_⟩=>by
   rcases List.mem_cons.1 hm with e'|hm
   ·obtain⟨rfl,rfl⟩:=Prod.mk.inj e'
    obtain rfl:=Option.some.inj (hg.symm.trans hg')
    obtain rfl:=Option.some.inj (hty.symm.trans ht')
    obtain⟨_,u,v,hc,_⟩:=iface_of_trod ht hd
    exact⟨u,v,by rw [hvar,<-hc]⟩
   ·exact b7a hg hty ht r q hm hs
theorem sen_met {P:Program} {W:World} {name nm:String} {d0:DataW Unit} {g:Nat} {t:TypeId} {ms:Array (String×TypeId)} {l:List (String×DataW Unit)}
  (hg:P.globalNamed name=some g) (hty:(P.globals[g]?).map (·.type)=some t) (ht:P.underlying t=some (.interface ms))
  (hp:(l.all fun x=>x.2.handleName?.isNone)=true) (hm:(name,DataW.iface nm d0)∈l) (h:laidMetH P l W):∃ o,W.heap[g]?=some o/\∃ u v t f,o=.cells #[.iface u v] t f:=by
 rw [MakeChecks.laidMetH_plain _ _ _ hp] at h
 obtain⟨ps,h,_⟩:=h
 obtain⟨u,v,h⟩:=b7a hg hty ht l ps hm h
 unfold World.var? at h
 rw [hg] at h
 simp only [Option.bind_some] at h
 split at h
 ·rename_i cs t f hh
  exact⟨_,hh,u,v,t,f,by rw [Option.some.inj h]⟩
 ·cases h
theorem witness_zip {H:Type} {enc:TypeId×Value->H} {C:Checked} {os:Go.Os} {f:FuncId} {fn:Func} {s:ChangeSpec} {conds:List PathCond} {apart:Bool} {X:World->Array Value->Prop} (modest:Bool) (w0:World) (args:Array Value) (fuel:Nat) (hos:w0.os=os)
  (hv:(w0.forCall (fun _ _=>0) ⟨#[],args,[]⟩).variablesZipB C.prog=true)
  (hr:((w0.forCall (fun _ _=>0) ⟨#[],args,[]⟩).heap.toList.drop C.prog.globals.size).take ((begin C.prog (fun _ _=>0) default).world.heap.size-C.prog.globals.size) =
   (begin C.prog (fun _ _=>0) default).world.heap.toList.drop C.prog.globals.size)
  (hok:Input.okWideB C.prog (w0.forCall (fun _ _=>0) ⟨#[],args,[]⟩) f ⟨#[],args,[]⟩=true)
  (hpre:s.preB enc C.prog fn conds apart (w0.forCall (fun _ _=>0) ⟨#[],args,[]⟩).memory args fuel=true)
  (hsz:s.sizedB enc C.prog fn apart (w0.forCall (fun _ _=>0) ⟨#[],args,[]⟩).memory args fuel=true)
  (hx:X (w0.forCall (fun _ _=>0) ⟨#[],args,[]⟩).memory args) :
  ∃ (w:World) (tape:Tape) (i:Input),w.os=os/\(w.forCall tape i).Shaped C.prog/\i.vars=[]/\Input.okWide C.prog (w.forCall tape i) .any w.heap.size f i/\
   ((s.pre enc C.prog fn conds apart (w.forCall tape i).memory i.args/\X (w.forCall tape i).memory i.args)/\sizedMet enc C.prog fn (OpenSpec.ofChange s) apart (w.forCall tape i).memory i.args)/\({ modest:=modest }:Assume).holds C.prog (lone (Frame.enter C.prog f i.args .normal) [] (w.forCall tape i)):=
 ⟨w0,fun _ _=>0,⟨#[],args,[]⟩,hos,World.shaped_of_ZipB hv hr,(Input.okWide_of_okWideB (base:=0) hok).1,(Input.okWide_of_okWideB hok).2,⟨⟨ChangeSpec.pre_of_preB hpre,hx⟩,sizedMet_of_sizedB hsz⟩,by
  simp only [Assume.holds]
  exact⟨by simp,by simp,fun _=>Modest.zero,by simp,by simp⟩⟩
theorem met_laid {P:Program} {os:Go.Os} {laid:List (String×DataW Unit)} (args:Array Value) (hp:(laid.all fun x=>x.2.handleName?.isNone)=true)
  (hf:(World.holding P os ⟨#[],#[],[]⟩).layFits P laid []=true)
  (hi:(World.holding P os ⟨#[],#[],[]⟩).layIfaces P laid (World.laidAll P os laid)=true) :
  laidMetH P laid ((World.laidAll P os laid).forCall (fun _ _=>0) ⟨#[],args,[]⟩).memory:=by
 rw [MakeChecks.laidMetH_plain _ _ _ hp]
 exact laidMet_laidAll args hf hi
end Go.Proofs.YthpjjjnbkfnghaaGreatDoor
