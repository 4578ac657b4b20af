import Derived.Test.YtblhmeidbjigaabGreatDoorT04
import Derived.Test.YtblhmeidbjigaabGreatDoorT10
set_option linter.unusedSimpArgs false
set_option linter.unusedVariables false
set_option maxRecDepth 100000
set_option maxHeartbeats 8000000
namespace Go.Proofs.YtblhmeidbjigaabGreatDoor
open Go.RowKit
open Go.Value renaming int→N,slice→L,string→Tq,agg→Aq,bool→Bq,tuple→Uq,pointer→Pq
open Go.IntKind renaming i64→Z
open Go.Obj renaming cells→Y
open Go.Ending renaming returned→Xq
open Option renaming none→z,some→y
open Nat renaming le_refl→Rq
open Go renaming World→W,Value→Vq
open Go.RowKit renaming Below→G
def hI(w:W)(a:Nat)(b:List (aN×Vq)):Prop:=∀x∈b,∃p,a≤p∧x.2=L (y ⟨p,0,z⟩) x.1.ops.length (x.1.ops.length+1)∧Row w p 36 (bB x.1.ops++[N Z 77,N Z 0,N Z 0,N Z 0])
def nL:List Vq:=[L z 0 0,N Z 0,N Z 0,N Z 0,N Z 0]
def xD:List Vq:=[N Z 0,N Z 0,N Z 0,N Z 0]
def mS(a:List (aN×Vq))(n:Nat):List Vq:=bu a++iC nL (n-a.length)
theorem sf:(Value.agg #[L z 0 0,N Z 0,N Z 0,N Z 0,N Z 0]).cells=nL.toArray:=rfl
theorem Bs:(Value.agg #[N Z 0,N Z 0,N Z 0,N Z 0]).cells=xD.toArray:=rfl
theorem vD{a:List (aN×Vq)}{n:Nat}(h:a.length<n):(mS a n)[a.length*5]?=y (L z 0 0)∧(mS a n)[a.length*5+1]?=y (N Z 0)∧(mS a n)[a.length*5+2]?=y (N Z 0)∧(mS a n)[a.length*5+3]?=y (N Z 0)∧(mS a n)[a.length*5+4]?=y (N Z 0):=by
 have b:=cL a;unfold mS;obtain⟨c,d⟩:∃c,n-a.length=c+1:=⟨n-a.length-1,by omega⟩;rw[d,nA];refine⟨?_,?_,?_,?_,?_⟩;·rw[List.getElem?_append_right (by omega),b,Nat.sub_self];rfl
 all_goals(rw[List.getElem?_append_right (by omega),b,Nat.add_sub_cancel_left];rfl)
theorem By{a:List (aN×Vq)}{n:Nat}(h:a.length<n)(ops:List dr)(k c x d:Int)(sv:Vq):(((((mS a n).set (a.length*5) sv).set (a.length*5+1) (N Z k)).set (a.length*5+2) (N Z c)).set (a.length*5+3) (N Z x)).set (a.length*5+4) (N Z d)=mS (a++[(⟨ops,⟨k,c,x,d⟩⟩,sv)]) n:=by
 have b:=cL a;unfold mS;obtain⟨e,f⟩:∃e,n-a.length=e+1:=⟨n-a.length-1,by omega⟩;have g:n-(a++[(⟨ops,⟨k,c,x,d⟩⟩,sv)]:List (aN×Vq)).length=e:=by simp;omega
 rw[g,f,nA,l7];rw[List.set_append_right _ _ (by omega),b,Nat.sub_self];rw[List.set_append_right _ _ (by omega),b,Nat.add_sub_cancel_left];rw[List.set_append_right _ _ (by omega),b,Nat.add_sub_cancel_left];rw[List.set_append_right _ _ (by omega),b,Nat.add_sub_cancel_left];rw[List.set_append_right _ _ (by omega),b,Nat.add_sub_cancel_left];simp[nL]
theorem Ce(l:List dr):(bB l++xD).set (l.length*4) (N Z 77)=bB l++[N Z 77,N Z 0,N Z 0,N Z 0]:=by have a:=cK l;rw[List.set_append_right _ _ (by omega),a,Nat.sub_self];rfl
theorem Ay(l:List dr):bB l++(iC xD (l.length+1)).drop (bB l).length=bB l++xD:=by have b:=cK l;have a:=cQ xD l.length;congr 1;rw[iC,b,List.drop_append];have e1:xD.length=4:=rfl;rw[e1]at a;rw[List.drop_of_length_le (by omega),a,Nat.sub_self];rfl
theorem Cs{w:W}{n c:Nat}{l:List dr}{a:Option Addr}(h:iH w (L a n c) l):a=z→bB l=[]:=by obtain⟨f,cap,e,_,hc⟩:=h;simp only[Value.slice.injEq]at e;obtain⟨rfl,rfl,rfl⟩:=e;intro d;cases l with|nil=>rfl|cons p g=>obtain⟨b,i,e,_⟩:=hc 0 (by simp);rw[d]at e;cases e
theorem A0{w:W}{n m:Nat}{l:List dr}{g:Option Addr}(h:iH w (L g n m) l):∀d,g=y d→∀j u,(bB l)[j]?=y u→w.cell? (d.add j)=y u:=by
 obtain⟨p,cap,e,_,hc⟩:=h;simp only[Value.slice.injEq]at e;obtain⟨rfl,rfl,rfl⟩:=e;intro d o j u c;have q:=cK l;have r:j<(bB l).length:=(List.getElem?_eq_some_iff.1 c).1;obtain⟨b,s,e,c1,c2,c3,c4⟩:=hc (j/4) (by omega);rw[o]at e;obtain rfl:=Option.some.inj e;obtain⟨g1,g2,i,k⟩:=lz l (j/4) (by omega);rw[Addr.add_lit];obtain f|f|f|f:j%4=0∨j%4=1∨j%4=2∨j%4=3:=by omega
 ·have a:j/4*4=j:=by omega
  rw[a]at g1 c1;rw[c1,←g1,c]
 ·have a:j/4*4+1=j:=by omega
  rw[a]at g2;rw[Nat.add_assoc,a]at c2;rw[c2,←g2,c]
 ·have a:j/4*4+2=j:=by omega
  rw[a]at i;rw[Nat.add_assoc,a]at c3;rw[c3,←i,c]
 ·have a:j/4*4+3=j:=by omega
  rw[a]at k;rw[Nat.add_assoc,a]at c4;rw[c4,←k,c]
theorem De(l:List dr):∀u∈bB l,u.oneCell'=true:=by intro u a;simp only[bB,List.mem_flatMap]at a;obtain⟨p,_,b⟩:=a;simp at b;rcases b with rfl|rfl|rfl|rfl<;>rfl
theorem gp{w w':W}{a:Nat}{b:List (aN×Vq)}(h:hI w a b)(hs:∀p xs,a≤p→Row w p 36 xs→Row w' p 36 xs):hI w' a b:=fun x d=>let⟨p,c,e,f⟩:=h x d;⟨p,c,e,hs p _ c f⟩
theorem hI.lower{w:W}{a b:Nat}{c:List (aN×Vq)}(h:hI w a c)(g:b≤a):hI w b c:=fun x d=>let⟨p,i,e,f⟩:=h x d;⟨p,by omega,e,f⟩
theorem BB{w:W}{d:Nat}{a:List (aN×Vq)}(h:hI w d a):∀u∈bu a,u.oneCell'=true:=by
 intro u b;simp only[bu,List.mem_flatMap]at b;obtain⟨x,f,c⟩:=b;obtain⟨p,_,e,_⟩:=h x f;simp at c;rcases c with rfl|rfl|rfl|rfl|rfl;·rw[e];rfl
 all_goals rfl
theorem mi(C E F H:Int)(v:Vq)(l:List aN)(w:W)(aK:bm w v l)(b2:l.length≤2513169434916)(bp:∀k,k<l.length→(aj l k).length≤4398046511104)(aL:Ending→W→Prop)(ao:∀w' d c n,dT d=l→hI w' w.heap.size d→Row w' c 42 (bu d++[L z 0 0,N Z 77,N Z 0,N Z 0,N Z 0])→Row w' n 42 (bu d)→G w.heap.size w w'→aL (Xq (Uq #[Aq #[N Z C,N Z E,N Z F,N Z H,L (y ⟨c,0,z⟩) d.length (d.length+1)],L (y ⟨n,0,z⟩) d.length d.length])) w'):Calls Tryz.prog 40 #[Aq #[N Z C,N Z E,N Z F,N Z H,v]] w aL:=by
 obtain⟨ap,aq,aM,ar,aO⟩:=info_parts Tryz.pP;obtain⟨aP,aQ,bq,aR,br⟩:=info_parts Tryz.uU;have b3:=aK;obtain⟨au,cap,rfl,aS,hc⟩:=aK;go_enter Tryz.func40,Tryz.ntmps40;go_wp2_with(at_make;refine db _ rfl _ _ 23 rfl 42 ap _ nL Tryz.underlying23 aq aM ar sf (by decide) _ _ _ _ (l.length+1) rfl rfl (by simp) (by simp) ?c1 ?c2 ?_);case c1=>first|omega|(rw[aO];omega)
 case c2=>unfold maxLen;omega
 intro w1 r Q aT;have av:=aT.out;try simp at r
 try simp at av
 clear aT;have bs:G w.heap.size w w1:=((((Below.refl w.heap.size w).alloc (Rq _) _).alloc (by simp) _).alloc (by simp;omega) _).trans (Q.mono (by omega));have bt:Hid (w1.cell? ⟨w.heap.size,4,z⟩=y (L au l.length cap)):=by refine(Q.cell (p:=⟨w.heap.size,4,z⟩) (by show w.heap.size<_;omega)).trans ?_;rw[World.cell?_alloc_lt _ _ _ (by show w.heap.size<_;simp only[World.size_alloc];omega),World.cell?_alloc_lt _ _ _ (by show w.heap.size<_;simp only[World.size_alloc];omega)];simp
 have R:Hid (Row w1 (w.heap.size+1) 25 [N Z 0,N Z 0,N Z 0,N Z 0,L z 0 0]):=(Q.block (w.heap.size+1) (by simp)).trans ((Below.heap_alloc _ _ _ (by simp)).trans (heap_alloc2_new w _ _));have aV:Hid (Row w1 (w.heap.size+2) 25 [N Z C,N Z E,N Z F,N Z H,L z 0 0]):=by refine(Q.block (w.heap.size+2) (by simp)).trans ?_;have h:=heap_alloc2_new (w.alloc (Y #[N Z C,N Z E,N Z F,N Z H,L au l.length cap] 25)) (Y #[N Z 0,N Z 0,N Z 0,N Z 0,L z 0 0] 25) (Y #[N Z C,N Z E,N Z F,N Z H,L z 0 0] 25);simp only[World.size_alloc]at h;exact h
 obtain⟨c,ac⟩:∃c,c=w.heap.size+3:=⟨_,rfl⟩;have aW:Row w1 c 42 (iC nL (l.length+1)):=by rw[ac];exact r
 have bv:w1.heap.size=w.heap.size+4:=av;clear r av Q;have aX:Hid (c=w.heap.size+3):=ac;rw[show w.heap.size+1+1+1=c from ac.symm];go_wp2;have ad:w.heap.size+2<c:=by omega
 clear ac;go_loopw[7](fun i wr=>∃(k:Nat)(d:List (aN×Vq)),k≤l.length∧i=N Z k∧Hid (d.length=k)∧Hid (dT d=l.take k)∧hI wr (w.heap.size+4) d∧Row wr c 42 (mS d (l.length+1))∧G (w.heap.size+3) w1 wr)(fun i _=>l.length-(intOf i).toNat);case atStart=>exact⟨0,[],Nat.zero_le _,rfl,rfl,rfl,fun x I=>by simp at I,by simpa[mS,bu]using aW,Below.refl _ _⟩
 case round=>
  clear aW;obtain⟨k,d,b4,rfl,q,aY,S,r,K⟩:=hrel;have J:G w.heap.size w wr:=bs.trans (K.mono (by omega));have aw:wr.cell? ⟨w.heap.size,4,z⟩=y (L au l.length cap):=(K.cell (by simp)).trans bt.out;have aZ:=K.size;rw[bv]at aZ;have bw:=r.lt;by_cases ax:k<l.length;case neg=>
   obtain rfl:k=l.length:=by omega
   have ae:d.length<l.length+1:=by have:=q.out;omega
   have a0:=R.out.same (K.block (w.heap.size+1) (by omega));have af:=aV.out.same (K.block (w.heap.size+2) (by omega));have ag:=r.cell (vD ae).2.1;rw[q.out]at ag;have a1:=r.frozen (l.length*5+1);have ah:=af.cell (i:=4) rfl;have bx:=af.frozen 4;have T:c≠w.heap.size+1:=by omega
   have bA:c≠w.heap.size+2:=by omega
   have ay:=(r.set (d.length*5+1) (N Z 77)).a7 (a:=⟨w.heap.size+2,4,z⟩) bA (L (y ⟨c,0,z⟩) l.length (l.length+1));have bC:(mS d (l.length+1)).set (d.length*5+1) (N Z 77)=bu d++[L z 0 0,N Z 77,N Z 0,N Z 0,N Z 0]:=by
    have aS:=cL d;have f:l.length+1-d.length=1:=by have:=q.out;omega
    unfold mS;rw[f,List.set_append_right _ _ (by omega),aS,Nat.add_sub_cancel_left];rfl
   rw[bC,q.out]at ay;have a2:=(a0.a7 (a:=⟨c,l.length*5+1,z⟩) (by show w.heap.size+1≠c;omega) (N Z 77)).a7 (a:=⟨w.heap.size+2,4,z⟩) (by show w.heap.size+1≠w.heap.size+2;omega) (L (y ⟨c,0,z⟩) l.length (l.length+1));have a3:=(af.a7 (a:=⟨c,l.length*5+1,z⟩) (by show w.heap.size+2≠c;omega) (N Z 77)).set 4 (L (y ⟨c,0,z⟩) l.length (l.length+1));have a4:hI ((wr.setCell ⟨c,l.length*5+1,z⟩ (N Z 77)).setCell ⟨w.heap.size+2,4,z⟩ (L (y ⟨c,0,z⟩) l.length (l.length+1))) (w.heap.size+4) d:=gp S fun p xs ai f=>(f.a7 (a:=⟨c,_,z⟩) (by show p≠c;have:=aX.out;omega) _).a7 (a:=⟨w.heap.size+2,_,z⟩) (by show p≠w.heap.size+2;omega) _;have m:=(J.setCell (p:=⟨c,l.length*5+1,z⟩) (by show _≤c;omega) (N Z 77)).setCell (p:=⟨w.heap.size+2,4,z⟩) (by show _≤w.heap.size+2;omega) (L (y ⟨c,0,z⟩) l.length (l.length+1));have ak:((wr.setCell ⟨c,l.length*5+1,z⟩ (N Z 77)).setCell ⟨w.heap.size+2,4,z⟩ (L (y ⟨c,0,z⟩) l.length (l.length+1))).heap.size=wr.heap.size:=by simp
   have a5:=BB S;have bD:Hid (dT d=l):=by have:=aY.out;rw[List.take_length]at this;exact this
   go_wp2_with(at_make;refine db _ rfl _ _ 23 rfl 42 ap _ nL Tryz.underlying23 aq aM ar sf (by decide) _ _ _ _ l.length rfl rfl (by simp) (by simp) ?k1 ?k2 ?_);case k1=>first|omega|(rw[aO];omega)
   case k2=>unfold maxLen;omega
   intro al U A bE;try rw[ak]at U
   try rw[ak]at A
   generalize bF:(wr.setCell ⟨c,l.length*5+1,z⟩ (N Z 77)).setCell ⟨w.heap.size+2,4,z⟩ (L (y ⟨c,0,z⟩) l.length (l.length+1))=a6 at*;have bG:wr.heap.size=a6.heap.size:=ak.symm;obtain⟨n,a7⟩:∃n,n=wr.heap.size:=⟨_,rfl⟩;have b5:c<n:=by omega
   have V:n≠w.heap.size+1:=by omega
   have ad:=ay.below A (by omega);have a8:=a2.below A (by omega);have a9:=a3.below A (by omega);have a_:hI al (w.heap.size+4) d:=gp a4 fun p xs _ f=>f.below A (by have:=f.lt;omega);have ba:=m.trans (A.mono (by omega));rw[←a7]at U⊢;have b6:Hid (∀p xs,Row a6 p 36 xs→p<n):=fun p xs f=>by have:=f.lt;omega
   have bH:Hid (∀p xs,w.heap.size+4≤p→Row al p 36 xs→p≠n):=fun p xs _ f=>j_ f U (by decide);clear bF ak bG A bE a7 aw ag a1 ah bx J S a4 r ay m K aZ bw a0 af a2 a3;have aU:∀az,y (⟨c,0,z⟩:Addr)=y az→∀j u,(bu d)[j]?=y u→al.cell? (az.add j)=y u:=by intro az bI j u bb;obtain rfl:=Option.some.inj bI;rw[Addr.add_lit,Nat.zero_add];exact ad.cell (by rw[List.getElem?_append_left (List.getElem?_eq_some_iff.1 bb).1];exact bb)
   go_wp2_with(refine dR _ rfl (.tmp 81) (.tmp 82) 23 rfl 42 ap Tryz.underlying23 aq 5 ar n _ _ (y ⟨c,0,z⟩) _ _ rfl rfl _ U (bu d) ?m1 (by intro h;cases h) aU ?m2 a5 ?_);case m1=>rw[cL,q.out,show(l.length+1).min l.length=l.length from Nat.min_eq_right (by omega)]
   case m2=>rw[cL,cQ,q.out];simp[nL]
   intro M aA g;have bJ:bu d++(iC nL l.length).drop (bu d).length=bu d:=by rw[List.drop_of_length_le (by rw[cQ,cL,q.out];simp[nL]),List.append_nil]
   rw[bJ]at aA;have bc:=ad.same (g.block c (by omega));have s:=a8.same (g.block (w.heap.size+1) (by omega));have O:=a9.same (g.block (w.heap.size+2) (by omega));have bd:hI M (w.heap.size+4) d:=gp a_ fun p xs ai f=>f.same (g.block p (bH.out p xs ai f));have be:=g.below ba (by omega);have bK:=s.cell (i:=0) rfl;have bL:=s.cell (i:=1) rfl;have bM:=s.cell (i:=2) rfl;have bN:=s.cell (i:=3) rfl;have bO:=s.cell (i:=4) rfl;have aB:=s.frozen 0;have aC:=s.frozen 1;have aD:=s.frozen 2;have aE:=s.frozen 3;have aF:=s.frozen 4;have b7:=O.cell (i:=0) (u:=N Z C) rfl;have am:=O.cell (i:=1) (u:=N Z E) rfl;have aG:=O.cell (i:=2) (u:=N Z F) rfl;have aH:=O.cell (i:=3) (u:=N Z H) rfl;have ah:=O.cell (i:=4) (u:=L (y ⟨c,0,z⟩) l.length (l.length+1)) rfl;have bf:=ao (((((M.setCell ⟨w.heap.size+1,0,z⟩ (N Z C)).setCell ⟨w.heap.size+1,1,z⟩ (N Z E)).setCell ⟨w.heap.size+1,2,z⟩ (N Z F)).setCell ⟨w.heap.size+1,3,z⟩ (N Z H)).setCell ⟨w.heap.size+1,4,z⟩ (L (y ⟨c,0,z⟩) l.length (l.length+1))) d c n bD.out ((gp bd fun p xs ai f=>((((f.a7 (a:=⟨w.heap.size+1,_,z⟩) (by show p≠w.heap.size+1;omega) _).a7 (a:=⟨w.heap.size+1,_,z⟩) (by show p≠w.heap.size+1;omega) _).a7 (a:=⟨w.heap.size+1,_,z⟩) (by show p≠w.heap.size+1;omega) _).a7 (a:=⟨w.heap.size+1,_,z⟩) (by show p≠w.heap.size+1;omega) _).a7 (a:=⟨w.heap.size+1,_,z⟩) (by show p≠w.heap.size+1;omega) _).lower (by omega)) (((((bc.a7 (a:=⟨w.heap.size+1,_,z⟩) T _).a7 (a:=⟨w.heap.size+1,_,z⟩) T _).a7 (a:=⟨w.heap.size+1,_,z⟩) T _).a7 (a:=⟨w.heap.size+1,_,z⟩) T _).a7 (a:=⟨w.heap.size+1,_,z⟩) T _) (((((aA.a7 (a:=⟨w.heap.size+1,_,z⟩) V _).a7 (a:=⟨w.heap.size+1,_,z⟩) V _).a7 (a:=⟨w.heap.size+1,_,z⟩) V _).a7 (a:=⟨w.heap.size+1,_,z⟩) V _).a7 (a:=⟨w.heap.size+1,_,z⟩) V _) (((((be.setCell (by simp) _).setCell (by simp) _).setCell (by simp) _).setCell (by simp) _).setCell (by simp) _);rw[q.out]at bf;clear ao bd bc aA be s O g U ad a8 a9 a_ aU a5 ba;go_wp2;refine bodyPost_ret (v:=Uq #[Aq #[N Z C,N Z E,N Z F,N Z H,L (y ⟨c,0,z⟩) l.length (l.length+1)],L (y ⟨n,0,z⟩) l.length l.length]) (by simp[results,Tryz.results40,go_sem,bK,bL,bM,bN,bO]) rfl ?_;exact bf
  obtain⟨b,B,sv,rfl,c1,c2,c3,c4,c5,bP⟩:=hc k ax;have d1:=aa J c1;have d2:=aa J c2;have d3:=aa J c3;have d4:=aa J c4;have d5:=aa J c5;have bg:=bP.ab J;have b8:b<w.heap.size:=World.block_lt_of_cell? _ _ c1;have b9:=bp k ax;obtain⟨bQ,ca,e3,_,_⟩:=id bg;subst e3;go_wp2_with(first|(at_make;refine db _ rfl _ _ 34 rfl 36 aP _ xD Tryz.underlying34 aQ bq aR Bs (by decide) _ _ _ _ ((aj l k).length+1) rfl rfl (by simp) (by simp) ?e1 ?e2 ?_));case e1=>first|omega|(rw[br];omega)
  case e2=>unfold maxLen;omega
  intro al bh m bi;obtain⟨P,aI⟩:∃P,P=wr.heap.size:=⟨_,rfl⟩;have bR:=bi.out;have bj:=m;rw[←aI]at bh m bR⊢;clear bi;have bS:c<P:=by omega
  have cb:b<P:=by omega
  have cc:b<c:=by omega
  have bT:Hid (P=wr.heap.size):=aI;have bU:w.heap.size+4≤P:=by omega
  clear aI;have aB:=(m.cell (p:=⟨w.heap.size,4,z⟩) (by show w.heap.size<P;omega)).trans aw;have aC:=(m.cell (p:=⟨b,B+k*5,z⟩) (by show b<P;omega)).trans d1;have aD:=(m.cell (p:=⟨b,B+k*5+1,z⟩) (by show b<P;omega)).trans d2;have aE:=(m.cell (p:=⟨b,B+k*5+2,z⟩) (by show b<P;omega)).trans d3;have aF:=(m.cell (p:=⟨b,B+k*5+3,z⟩) (by show b<P;omega)).trans d4;have bk:=(m.cell (p:=⟨b,B+k*5+4,z⟩) (by show b<P;omega)).trans d5;have aJ:=bg.ab bj;go_wp2_with(refine dR _ rfl (.tmp 41) (.tmp 47) 34 rfl 36 aP Tryz.underlying34 aQ 4 aR P _ _ bQ _ _ rfl rfl _ bh (bB (aj l k)) ?g1 (Cs aJ) (A0 aJ) ?g2 (De _) ?_);case g1=>rw[cK,show(aj l k).length.min ((aj l k).length+1)=(aj l k).length from Nat.min_eq_left (by omega)]
  case g2=>rw[cK,cQ];simp[xD];omega
  intro M an g;rw[Ay]at an;have t:Row M c 42 (mS d (l.length+1)):=(r.below m bS).same (g.block c (by omega));have cd:=an.cell (i:=(aj l k).length*4) (u:=N Z 0) (by rw[List.getElem?_append_right (by rw[cK];omega),cK,Nat.sub_self];rfl);have ce:=an.frozen ((aj l k).length*4);have ae:d.length<l.length+1:=by have:=q.out;omega
  obtain⟨bl,m1,m2,bn,bo⟩:=vD ae;have bV:=t.cell bl;have ag:=t.cell m1;have bW:=t.cell m2;have bX:=t.cell bn;have bY:=t.cell bo;clear bl m1 m2 bn bo;rw[q.out]at bV ag bW bX bY;have cf:=t.frozen (k*5);have a1:=t.frozen (k*5+1);have cg:=t.frozen (k*5+2);have ch:=t.frozen (k*5+3);have ci:=t.frozen (k*5+4);have cj:=(g.cell (b:=w.heap.size) (o:=4) (by omega)).trans aB;have ck:=(g.cell (b:=b) (o:=B+k*5) (by omega)).trans aC;have cl:=(g.cell (b:=b) (o:=B+k*5+1) (by omega)).trans aD;have cm:=(g.cell (b:=b) (o:=B+k*5+2) (by omega)).trans aE;have cn:=(g.cell (b:=b) (o:=B+k*5+3) (by omega)).trans aF;have co:=(g.cell (b:=b) (o:=B+k*5+4) (by omega)).trans bk;have A:G (w.heap.size+3) w1 M:=g.below (K.trans (m.mono (by omega))) (by omega);have X:P≠c:=by omega
  have bZ:c≠P:=by omega
  clear bj aB aC aD aE aF bk aJ aw d1 d2 d3 d4 d5;have am:=an.set ((aj l k).length*4) (N Z 77);rw[Ce]at am;have aG:=((((am.a7 (a:=⟨c,k*5,z⟩) X (L (y ⟨P,0,z⟩) (aj l k).length ((aj l k).length+1))).a7 (a:=⟨c,k*5+1,z⟩) X (N Z (fX l k))).a7 (a:=⟨c,k*5+2,z⟩) X (N Z (gJ l k))).a7 (a:=⟨c,k*5+3,z⟩) X (N Z (iT l k))).a7 (a:=⟨c,k*5+4,z⟩) X (N Z (ja l k));have aH:=(((((t.a7 (a:=⟨P,(aj l k).length*4,z⟩) bZ (N Z 77)).set (d.length*5) (L (y ⟨P,0,z⟩) (aj l k).length ((aj l k).length+1))).set (d.length*5+1) (N Z (fX l k))).set (d.length*5+2) (N Z (gJ l k))).set (d.length*5+3) (N Z (iT l k))).set (d.length*5+4) (N Z (ja l k));rw[By ae (aj l k),q.out]at aH;have ah:hI ((((((M.setCell ⟨P,(aj l k).length*4,z⟩ (N Z 77)).setCell ⟨c,k*5,z⟩ (L (y ⟨P,0,z⟩) (aj l k).length ((aj l k).length+1))).setCell ⟨c,k*5+1,z⟩ (N Z (fX l k))).setCell ⟨c,k*5+2,z⟩ (N Z (gJ l k))).setCell ⟨c,k*5+3,z⟩ (N Z (iT l k))).setCell ⟨c,k*5+4,z⟩ (N Z (ja l k))) (w.heap.size+4) (d++[(⟨aj l k,⟨fX l k,gJ l k,iT l k,ja l k⟩⟩,L (y ⟨P,0,z⟩) (aj l k).length ((aj l k).length+1))]):=by
   intro x I;rcases List.mem_append.1 I with I|I
   ·refine gp S ?_ x I;intro p xs ai f;have b0:p<P:=by have:=f.lt;rw[bT.out];exact this
    have ab:p≠c:=by have:=aX.out;omega
    exact((((((f.same (m.block p b0)).same (g.block p (by omega))).a7 (a:=⟨P,_,z⟩) (by show p≠P;omega) _).a7 (a:=⟨c,_,z⟩) ab _).a7 (a:=⟨c,_,z⟩) ab _).a7 (a:=⟨c,_,z⟩) ab _).a7 (a:=⟨c,_,z⟩) ab _|>.a7 (a:=⟨c,_,z⟩) ab _
   ·simp at I;subst I;exact⟨P,bU,rfl,aG⟩
  have b1:=(((((A.setCell (p:=⟨P,(aj l k).length*4,z⟩) (by show _≤P;omega) (N Z 77)).setCell (p:=⟨c,k*5,z⟩) (by show _≤c;omega) (L (y ⟨P,0,z⟩) (aj l k).length ((aj l k).length+1))).setCell (p:=⟨c,k*5+1,z⟩) (by show _≤c;omega) (N Z (fX l k))).setCell (p:=⟨c,k*5+2,z⟩) (by show _≤c;omega) (N Z (gJ l k))).setCell (p:=⟨c,k*5+3,z⟩) (by show _≤c;omega) (N Z (iT l k))).setCell (p:=⟨c,k*5+4,z⟩) (by show _≤c;omega) (N Z (ja l k));clear am aG A S r m ao R aV;go_wp2;go_roundw;case rel=>
   refine⟨k+1,_,by omega,by go_num,?_,?_,ah,aH,b1⟩;·show List.length _=_;have:=q.out;simp;exact this
   ·show dT _=_;have e:=aY.out;rw[dn l bz k ax,←e];simp[dT,aj,fX,gJ,iT,ja,b_]
  case measure=>simp[intOf];omega
theorem nE{w:W}{h:Nat}{a:List (aN×Vq)}{d cap:Nat}{t:List Vq}(k:hI w h a)(l:Row w d 42 (bu a++t))(m:a.length≤9223372036854775807)(n:∀x∈a,x.1.ops.length≤9223372036854775807):bm w (L (y ⟨d,0,z⟩) a.length cap) (dT a):=by
 refine⟨_,_,by rw[bD],by rw[bD];exact m,fun i b=>?_⟩;rw[bD]at b;have E:=cL a;obtain⟨o,g1,g2,q,r⟩:=km a i b;obtain⟨e1,e2⟩:=gF a b;obtain⟨p,_,s,v⟩:=k _ (List.getElem_mem b);have c:∀i u,i<a.length*5→(bu a)[i]?=y u→w.cell? ⟨d,i,z⟩=y u:=fun i u b g=>l.cell (by rw[List.getElem?_append_left (by omega)];exact g);refine⟨d,0,a[i].2,rfl,?_,?_,?_,?_,?_,?_⟩;·rw[Nat.zero_add];exact c _ _ (by omega) o
 ·rw[Nat.zero_add];unfold fX;rw[e2];exact c _ _ (by omega) g1
 ·rw[Nat.zero_add];unfold gJ;rw[e2];exact c _ _ (by omega) g2
 ·rw[Nat.zero_add];unfold iT;rw[e2];exact c _ _ (by omega) q
 ·rw[Nat.zero_add];unfold ja;rw[e2];exact c _ _ (by omega) r
 ·rw[e1,s];refine⟨_,_,rfl,n _ (List.getElem_mem b),fun j A=>?_⟩;have F:=cK a[i].1.ops;obtain⟨k1,k2,B,C⟩:=lz a[i].1.ops j A;have e:∀f u,f<a[i].1.ops.length*4→(bB a[i].1.ops)[f]?=y u→w.cell? ⟨p,f,z⟩=y u:=fun f u b g=>v.cell (by rw[List.getElem?_append_left (by omega)];exact g);refine⟨p,0,rfl,?_,?_,?_,?_⟩;·rw[Nat.zero_add];exact e _ _ (by omega) k1
  ·rw[Nat.zero_add];exact e _ _ (by omega) k2
  ·rw[Nat.zero_add];exact e _ _ (by omega) B
  ·rw[Nat.zero_add];exact e _ _ (by omega) C
theorem hI.ab{w w':W}{a:Nat}{b:List (aN×Vq)}(h:hI w a b)(c:G w.heap.size w w'):hI w' a b:=gp h fun _ _ _ d=>d.ab c
theorem sP(b c d f:Int)(a:List (aN×Vq))(g j ag:Nat)(u:Vq)(w:W)(r:hI w ag a)(s:Row w g 42 (bu a++[L z 0 0,N Z 77,N Z 0,N Z 0,N Z 0]))(v:Row w j 42 (bu a))(A:bm w u (dT a))(ay:a.length≤2513169434916)(J:∀x∈a,x.1.ops.length≤4398046511104):Calls Tryz.prog 69 #[Aq #[N Z b,N Z c,N Z d,N Z f,L (y ⟨g,0,z⟩) a.length (a.length+1)],L (y ⟨j,0,z⟩) a.length a.length,Aq #[N Z b,N Z c,N Z d,N Z f,u]] w fun e w'=>e=Xq (Bq true)∧G w.heap.size w w':=by
 have K:a.length≤9223372036854775807:=by omega
 have M:∀x∈a,x.1.ops.length≤9223372036854775807:=fun x ah=>by have:=J x ah;omega
 have O:=nE (cap:=a.length+1) r s K M;have Q:=nE (t:=[]) (cap:=a.length) r (by simpa using v) K M;obtain⟨l,m,ai,_,_⟩:=id A;subst ai;rw[bD]at A⊢;have az:=fun(w:W)=>run_neq_slice_nil_any (P:=Tryz.prog) w 34 36 z 0 0 0 0 Tryz.underlying34;have aA:=s.lt;have aB:=v.lt;have B:G w.heap.size w (((w.alloc (Y #[N Z b,N Z c,N Z d,N Z f,L (y ⟨g,0,z⟩) a.length (a.length+1)] 25)).alloc (Y #[N Z b,N Z c,N Z d,N Z f,L l a.length m] 25)).alloc (Y #[N Z b,N Z c,N Z d,N Z f,L (y ⟨j,0,z⟩) a.length a.length] 25)):=(((Below.refl w.heap.size w).alloc (Rq _) _).alloc (by simp) _).alloc (by simp;omega) _;have R:Row (((w.alloc (Y #[N Z b,N Z c,N Z d,N Z f,L (y ⟨g,0,z⟩) a.length (a.length+1)] 25)).alloc (Y #[N Z b,N Z c,N Z d,N Z f,L l a.length m] 25)).alloc (Y #[N Z b,N Z c,N Z d,N Z f,L (y ⟨j,0,z⟩) a.length a.length] 25)) w.heap.size 25 [N Z b,N Z c,N Z d,N Z f,L (y ⟨g,0,z⟩) a.length (a.length+1)]:=by have h:Row (w.alloc (Y #[N Z b,N Z c,N Z d,N Z f,L (y ⟨g,0,z⟩) a.length (a.length+1)] 25)) w.heap.size 25 [N Z b,N Z c,N Z d,N Z f,L (y ⟨g,0,z⟩) a.length (a.length+1)]:=heap_alloc_new w _;exact(h.alloc _).alloc _
 have S:Row (((w.alloc (Y #[N Z b,N Z c,N Z d,N Z f,L (y ⟨g,0,z⟩) a.length (a.length+1)] 25)).alloc (Y #[N Z b,N Z c,N Z d,N Z f,L l a.length m] 25)).alloc (Y #[N Z b,N Z c,N Z d,N Z f,L (y ⟨j,0,z⟩) a.length a.length] 25)) (w.heap.size+1) 25 [N Z b,N Z c,N Z d,N Z f,L l a.length m]:=by have h:Row ((w.alloc (Y #[N Z b,N Z c,N Z d,N Z f,L (y ⟨g,0,z⟩) a.length (a.length+1)] 25)).alloc (Y #[N Z b,N Z c,N Z d,N Z f,L l a.length m] 25)) (w.heap.size+1) 25 [N Z b,N Z c,N Z d,N Z f,L l a.length m]:=heap_alloc2_new w _ _;exact h.alloc _
 have T:Row (((w.alloc (Y #[N Z b,N Z c,N Z d,N Z f,L (y ⟨g,0,z⟩) a.length (a.length+1)] 25)).alloc (Y #[N Z b,N Z c,N Z d,N Z f,L l a.length m] 25)).alloc (Y #[N Z b,N Z c,N Z d,N Z f,L (y ⟨j,0,z⟩) a.length a.length] 25)) (w.heap.size+2) 25 [N Z b,N Z c,N Z d,N Z f,L (y ⟨j,0,z⟩) a.length a.length]:=by have h:=heap_alloc2_new (w.alloc (Y #[N Z b,N Z c,N Z d,N Z f,L (y ⟨g,0,z⟩) a.length (a.length+1)] 25)) (Y #[N Z b,N Z c,N Z d,N Z f,L l a.length m] 25) (Y #[N Z b,N Z c,N Z d,N Z f,L (y ⟨j,0,z⟩) a.length a.length] 25);simp only[World.size_alloc]at h;exact h
 have F:(((w.alloc (Y #[N Z b,N Z c,N Z d,N Z f,L (y ⟨g,0,z⟩) a.length (a.length+1)] 25)).alloc (Y #[N Z b,N Z c,N Z d,N Z f,L l a.length m] 25)).alloc (Y #[N Z b,N Z c,N Z d,N Z f,L (y ⟨j,0,z⟩) a.length a.length] 25)).heap.size=w.heap.size+3:=by simp
 go_enter Tryz.func69,Tryz.ntmps69;go_wp2_with fail;refine(fe _ _ _ _ _ _ _ _ (O.ab B) (A.ab B)).mono ?_;rintro e w1⟨rfl,n⟩;have U:=R.ab n;have o:=S.ab n;have q:=T.ab n;have C:G w.heap.size w w1:=B.trans (n.mono (by rw[F];omega));have aj:=n.size;rw[F]at aj;clear n R S T B F;have V:=U.cell (i:=4) rfl;have ak:=o.cell (i:=0) rfl;have al:=o.cell (i:=1) rfl;have am:=o.cell (i:=2) rfl;have an:=o.cell (i:=3) rfl;have ao:=o.cell (i:=4) rfl;have ap:=q.cell (i:=0) rfl;have aq:=q.cell (i:=1) rfl;have ar:=q.cell (i:=2) rfl;have au:=q.cell (i:=3) rfl;have av:=q.cell (i:=4) rfl;go_wp2_with fail;refine(fe _ _ _ _ _ _ _ _ (Q.ab C) (A.ab C)).mono ?_;rintro e aC⟨rfl,H⟩;have E:=C.trans (H.mono (by omega));have aD:=aa H V;have X:=s.ab E;have aw:=v.ab E;have ax:=r.ab E;have ab:=cL a;have aE:=X.cell (i:=a.length*5) (u:=L z 0 0) (by rw[List.getElem?_append_right (by omega),ab,Nat.sub_self];rfl);have aF:=X.cell (i:=a.length*5+1) (u:=N Z 77) (by rw[List.getElem?_append_right (by omega),ab,Nat.add_sub_cancel_left];rfl);clear V ak al am an ao ap aq ar au av U o q O Q C H s v r;go_wp2;go_loop[12](fun i=>∃(k:Nat),k≤a.length∧i=N Z k)(fun i=>a.length-(intOf i).toNat);case atStart=>exact⟨0,Nat.zero_le _,rfl⟩
 case round=>
  obtain⟨k,aG,rfl⟩:=hrel;by_cases I:k<a.length
  ·obtain⟨ac,_⟩:=km a k I;obtain⟨p,_,ad,ae⟩:=ax _ (List.getElem_mem I);have aH:=J _ (List.getElem_mem I);have d2:=aw.cell ac;rw[ad]at d2;have af:=cK a[k].1.ops;have aI:=ae.cell (i:=a[k].1.ops.length*4) (u:=N Z 77) (by rw[List.getElem?_append_right (by omega),af,Nat.sub_self];rfl);clear ad ac af ae;generalize a[k].1.ops.length=aJ at*;go_wp2;go_round;case rel=>exact⟨k+1,by omega,by go_num⟩
   case measure=>simp[intOf];omega
  ·go_wp2;go_ret;exact⟨rfl,E⟩
theorem xz(p:a8)(v:Vq)(w:W)(b:bm w v p.blocks):Calls Tryz.prog 54 #[dy p v] w fun e w'=>e=Xq (Uq (if aB p then#[Tq (ay (aK p)),N Z 0]else#[Tq ⟨#[]⟩,N Z 1]))∧G w.heap.size w w':=by
 obtain⟨c,d,f,g,l⟩:=p;unfold dy;simp only at b⊢;obtain⟨j,cap,k,_,_⟩:=id b;subst k;have hc:=vN c d f g _ l (w.alloc (Y #[N Z c,N Z d,N Z f,N Z g,L j l.length cap] 25)) (b.ab ((Below.refl _ _).alloc (Rq _) _));cases a:aB ⟨c,d,f,g,l⟩;·simp only[a]at hc;go_enter Tryz.func54,Tryz.ntmps54;go_wp2_with fail;refine hc.mono ?_;rintro e w1⟨rfl,i⟩;clear hc;go_wp2;go_ret2;exact⟨by simp[a],((Below.refl _ _).alloc (Rq _) _).trans (i.mono (by simp))⟩
 ·simp only[a]at hc;go_enter Tryz.func54,Tryz.ntmps54;go_wp2_with fail;refine hc.mono ?_;rintro e w1⟨rfl,i⟩;clear hc;go_wp2;go_ret2;exact⟨by simp[a],((Below.refl _ _).alloc (Rq _) _).trans (i.mono (by simp))⟩
theorem xy(s:ByteArray)(w:W)(hs:s.size≤maxLen)(j:Ending→W→Prop)(k:∀c d f g l v b w',aC w' w.heap.size v b→dT b=l→aB ⟨c,d,f,g,l⟩=true→ay (aK ⟨c,d,f,g,l⟩)=s→G w.heap.size w w'→j (Xq (Uq #[Aq #[N Z c,N Z d,N Z f,N Z g,v],N Z 0])) w')(m:∀w',(∀p,aB p=true→ay (aK p)≠s)→G w.heap.size w w'→j (Xq (Uq #[Aq #[N Z 0,N Z 0,N Z 0,N Z 0,L z 0 0],N Z 1])) w'):Calls Tryz.prog 23 #[Tq s] w j:=by
 have hc:=gw s (w.alloc (Y #[N Z 0,N Z 0,N Z 0,N Z 0,L z 0 0] 25)) hs;have H:Row (w.alloc (Y #[N Z 0,N Z 0,N Z 0,N Z 0,L z 0 0] 25)) w.heap.size 25 [N Z 0,N Z 0,N Z 0,N Z 0,L z 0 0]:=heap_alloc_new w _;go_enter Tryz.func23,Tryz.ntmps23;go_wp2_with fail;refine hc.mono ?_;clear hc;rintro e w1⟨I,n⟩;have J:=n.size;simp at J;have a:=H.ab n;have q:=a.cell (i:=0) rfl;have r:=a.cell (i:=1) rfl;have t:=a.cell (i:=2) rfl;have u:=a.cell (i:=3) rfl;have x:=a.cell (i:=4) rfl;have M:=a.frozen 0;have O:=a.frozen 1;have P:=a.frozen 2;have Q:=a.frozen 3;have R:=a.frozen 4;have A:G w.heap.size w w1:=((Below.refl _ _).alloc (Rq _) _).trans (n.mono (by simp));rcases I with⟨⟨c,d,f,g,l⟩,v,b,rfl,ho,K,B,C⟩|⟨E,rfl⟩
 ·obtain⟨h,cap,rfl⟩:=af ho.row;have F:aC w1 (w.heap.size+1) (L h b.length cap) b:=by simpa using ho
  have o:=k c d f g l (L h b.length cap) b (((((w1.setCell ⟨w.heap.size,0,z⟩ (N Z c)).setCell ⟨w.heap.size,1,z⟩ (N Z d)).setCell ⟨w.heap.size,2,z⟩ (N Z f)).setCell ⟨w.heap.size,3,z⟩ (N Z g)).setCell ⟨w.heap.size,4,z⟩ (L h b.length cap)) ((((((F.set (by simp) _).set (by simp) _).set (by simp) _).set (by simp) _).set (by simp) _).base (by omega)) K B C (((((A.setCell (by simp) _).setCell (by simp) _).setCell (by simp) _).setCell (by simp) _).setCell (by simp) _);clear k m ho F B C;unfold dy;go_wp2;exact bodyPost_ret (v:=Uq #[Aq #[N Z c,N Z d,N Z f,N Z g,L h b.length cap],N Z 0]) (by simp[results,Tryz.results23,go_sem,q,r,t,u,x]) rfl o
 ·have o:=m (((((w1.setCell ⟨w.heap.size,0,z⟩ (N Z 0)).setCell ⟨w.heap.size,1,z⟩ (N Z 0)).setCell ⟨w.heap.size,2,z⟩ (N Z 0)).setCell ⟨w.heap.size,3,z⟩ (N Z 0)).setCell ⟨w.heap.size,4,z⟩ (L z 0 0)) E (((((A.setCell (by simp) _).setCell (by simp) _).setCell (by simp) _).setCell (by simp) _).setCell (by simp) _);clear k m E;go_wp2;exact bodyPost_ret (v:=Uq #[Aq #[N Z 0,N Z 0,N Z 0,N Z 0,L z 0 0],N Z 1]) (by simp[results,Tryz.results23,go_sem,q,r,t,u,x]) rfl o
theorem k7(U V X aa:Int)(v:Vq)(a:List (aN×Vq))(w:W)(base:Nat)(A:aC w base v a)(aF:base≤w.heap.size)(aG:a.length≤1000)(ab:∀x∈a,x.1.ops.length≤1000)(S:Nat→Prop)(ac:∀g,v.ownBlock=y g→S g)(ad:∀x∈a,∀g,x.2.ownBlock=y g→S g):Calls Tryz.prog 73 #[Aq #[N Z U,N Z V,N Z X,N Z aa,v]] w fun e w'=>e=Xq (Uq #[])∧aC w' base v a∧aH S w w':=by
 obtain⟨ae,ag,ah,ai,aj⟩:=info_parts Tryz.pP;obtain⟨ak,al,am,an,ao⟩:=info_parts Tryz.uU;obtain⟨E,cap,rfl⟩:=af A.row;have aI:=A.rd;go_enter Tryz.func73,Tryz.ntmps73;go_wp2;go_loopw[2](fun i wr=>∃(k:Nat),k≤a.length∧i=N Z k∧aC wr base (L E a.length cap) a∧wr.cell? ⟨w.heap.size,4,z⟩=y (L E a.length cap)∧aH S w wr∧w.heap.size+1≤wr.heap.size)(fun i _=>a.length-(intOf i).toNat);case atStart=>exact⟨0,Nat.zero_le _,rfl,A.alloc _,by simp,(aH.refl _ _).alloc _,by simp⟩
 case round=>
  obtain⟨k,aJ,rfl,ho,ap,P,hz⟩:=hrel;by_cases p:k<a.length;case neg=>
   obtain⟨r,F⟩:∃r,r=wr:=⟨_,rfl⟩;subst F;go_wp2;go_loopw[5,6](fun l i c=>∃(j:Nat),j≤9∧i=N Z j∧aC c base (L E a.length cap) a∧c.ownsRow base 42 5 l (a.length+j) (bu a++iC [L z 0 0,N Z 0,N Z 0,N Z 0,N Z 0] j)∧Hid (∀g,l.ownBlock=y g→S g∨w.heap.size≤g)∧aH S w c∧w.heap.size+1≤c.heap.size)(fun _ i _=>9-(intOf i).toNat);case atStart=>exact⟨0,Nat.zero_le _,rfl,ho,by simpa[iC]using ho.row,fun g d=>.inl (ac g d),P,hz⟩
   case round=>
    obtain⟨j,aq,rfl,n,h,Q,o,R⟩:=hrel;obtain⟨ar,au,rfl⟩:=af h;by_cases av:j<9
    ·have B:Hid (iC [L z 0 0,N Z 0,N Z 0,N Z 0,N Z 0] (j+1)=iC [L z 0 0,N Z 0,N Z 0,N Z 0,N Z 0] j++[L z 0 0,N Z 0,N Z 0,N Z 0,N Z 0]):=rfl;go_wp2_with(at_builtin;refine ev _ rfl _ _ 23 rfl base 42 ae (Aq #[L z 0 0,N Z 0,N Z 0,N Z 0,N Z 0]) 5 56 Tryz.underlying23 ag ah ai aj rfl (by decide) _ _ _ rfl (h.alloc _) ⟨wr.heap.size,0,z⟩ 1 1 [L z 0 0,N Z 0,N Z 0,N Z 0,N Z 0] rfl rfl (ld wr _ _ _ _ _ _) ?d2 ?d3 ?d4 ?d5 (by decide) ?_);case d2=>first|exact⟨rfl,rfl,rfl,rfl,rfl⟩|exact mZ|(intro u s;simp at s;rcases s with rfl|rfl<;>rfl)
     case d3=>unfold maxLen;omega
     case d4=>omega
     case d5=>first|omega|(simp;omega)
     intro H c m f t q;try rw[List.append_assoc]at m
     rw[←B.out]at m;have I:=(n.alloc _).xL (h.alloc _) (fun g _ _=>⟨_,rfl⟩) f t;have J:=(o.alloc _).grown f Q.out;have aw:Hid (∀g,H.ownBlock=y g→S g∨w.heap.size≤g):=fun g d=>by
      rcases q g d with e|e;·exact Q.out g e
      ·exact .inr (by omega)
     have K:=f.size;simp at K;obtain⟨ax,ay,rfl⟩:=af m;clear f t q h n o;go_wp2;go_roundw;case rel=>exact⟨j+1,by omega,by go_num,I,m,aw,J,by omega⟩
     case measure=>simp[intOf];omega
    ·go_wp2;go_end0;exact⟨rfl,n,o⟩
  obtain⟨r,F⟩:∃r,r=wr:=⟨_,rfl⟩;subst F;obtain⟨b,rfl,aK,aL,c1,c2,c3,c4,aM⟩:=gV ho p;have aO:=ab _ (List.getElem_mem p);have az:=ho.each _ (List.getElem_mem p);have aA:=uq.start ho p;have aB:Hid (∀g,a[k].2.ownBlock=y g→S g∧g<w.heap.size∨w.heap.size+1≤g):=fun g d=>.inl ⟨ad _ (List.getElem_mem p) g d,((A.each _ (List.getElem_mem p)).lt g d).2⟩;generalize a[k].1.ops=ps at*;generalize a[k].2=sv at*;go_wp2;go_loopw[3,4](fun l i c=>∃(j:Nat),j≤9∧i=N Z j∧aC c base (L (y ⟨b,0,z⟩) a.length cap) a∧c.ownsRow base 36 4 l (ps.length+j) (bB ps++iC [N Z 77,N Z 0,N Z 0,N Z 0] j)∧uq a l (bB ps++iC [N Z 77,N Z 0,N Z 0,N Z 0] j)∧Hid (∀g,l.ownBlock=y g→S g∧g<w.heap.size∨w.heap.size+1≤g)∧c.cell? ⟨w.heap.size,4,z⟩=y (L (y ⟨b,0,z⟩) a.length cap)∧aH S w c∧w.heap.size+1≤c.heap.size)(fun _ i _=>9-(intOf i).toNat);case atStart=>exact⟨0,Nat.zero_le _,rfl,ho,by simpa[iC]using az,by simpa[iC]using aA,aB,ap,P,hz⟩
  case round=>
   obtain⟨j,aq,rfl,n,h,M,C,O,o,R⟩:=hrel;obtain⟨ar,au,rfl⟩:=af h;by_cases av:j<9
   ·have B:Hid (iC [N Z 77,N Z 0,N Z 0,N Z 0] (j+1)=iC [N Z 77,N Z 0,N Z 0,N Z 0] j++[N Z 77,N Z 0,N Z 0,N Z 0]):=rfl;go_wp2_with(at_builtin;refine ev _ rfl _ _ 34 rfl base 36 ak (Aq #[N Z 0,N Z 0,N Z 0,N Z 0]) 4 32 Tryz.underlying34 al am an ao rfl (by decide) _ _ _ rfl (h.alloc _) ⟨wr.heap.size,0,z⟩ 1 1 [N Z 77,N Z 0,N Z 0,N Z 0] rfl rfl (qE wr _ _ _ _ _) ?e2 ?e3 ?e4 ?e5 (by decide) ?_);case e2=>first|exact⟨rfl,rfl,rfl,rfl⟩|exact qG|(intro u s;simp at s;rcases s with rfl|rfl<;>rfl)
    case e3=>unfold maxLen;omega
    case e4=>omega
    case e5=>first|omega|(simp;omega)
    intro H c m f t q;have T:=uq.step (news:=[N Z 77,N Z 0,N Z 0,N Z 0]) n M (fun g d=>by rcases q g d with e|e;exact .inl e;exact .inr (by omega));try rw[List.append_assoc]at m
    rw[←B.out]at m;rw[List.append_assoc,←B.out]at T;have I:=(n.alloc _).app (h.alloc _) M f t;have J:=(o.alloc _).grown f (fun g d=>by
     rcases C.out g d with e|e;·exact .inl e.1
     ·exact .inr (by omega));have aD:c.cell? ⟨w.heap.size,4,z⟩=y (L (y ⟨b,0,z⟩) a.length cap):=f.cell (by rw[World.cell?_alloc_lt _ _ _ (by show w.heap.size<_;omega)];exact O) (fun e=>by rcases C.out _ e.symm with e1|e1;exact absurd e1.2 (Nat.lt_irrefl _);exact absurd e1 (by simp));have aE:Hid (∀g,H.ownBlock=y g→S g∧g<w.heap.size∨w.heap.size+1≤g):=fun g d=>by
     rcases q g d with e|e;·exact C.out g e
     ·exact .inr (by omega)
    have K:=f.size;simp at K;obtain⟨ax,ay,rfl⟩:=af m;clear f t q h n o M O C;go_wp2;go_roundw;case rel=>exact⟨j+1,by omega,by go_num,I,m,T,aE,aD,J,by omega⟩
    case measure=>simp[intOf];omega
   ·go_wp2;go_roundw;case rel=>exact⟨k+1,by omega,by go_num,n,O,o,R⟩
    case measure=>simp[intOf];omega
def xG(mark:Int)(k:Nat)(a:List (aN×Vq)):Prop:=∀i(b:i<a.length),i<k→a[i].1.fin.kind=mark+i∧∀j,j<a[i].1.ops.length→cD a[i].1.ops j=mark+i
theorem xG.set{mark:Int}{k:Nat}{a:List (aN×Vq)}(h:xG mark k a)(x:aN×Vq):xG mark k (a.set k x):=by
 intro i b c;have e:(a.set k x)[i]=a[i]'(by simpa using b):=by rw[List.getElem_set,if_neg (by omega)]
 rw[e];exact h i _ c
theorem v_(a b c d:Int)(u:Vq)(l:List aN)(w:W)(m:bm w u l)(ac:l.length≤2513169434916)(ad:∀k,k<l.length→(aj l k).length≤4398046511104):Calls Tryz.prog 38 #[Aq #[N Z a,N Z b,N Z c,N Z d,u]] w fun e w'=>e=Xq (Bq true)∧G w.heap.size w w':=by
 obtain⟨o,p,au,_,_⟩:=id m;subst au;have av:G w.heap.size w (w.alloc (Y #[N Z a,N Z b,N Z c,N Z d,L o l.length p] 25)):=(Below.refl w.heap.size w).alloc (Rq _) _;have aw:Row (w.alloc (Y #[N Z a,N Z b,N Z c,N Z d,L o l.length p] 25)) w.heap.size 25 [N Z a,N Z b,N Z c,N Z d,L o l.length p]:=heap_alloc_new w _;have ax:=m.ab av;go_enter Tryz.func38,Tryz.ntmps38;go_wp2_with fail;refine mi a b c d _ l _ ax ac ad _ ?_;intro w1 f q az r J K P Q;have n:=aw.ab Q;have ae:G (w.heap.size+1) (w.alloc (Y #[N Z a,N Z b,N Z c,N Z d,L o l.length p] 25)) w1:=by simpa using Q
 have aA:=ae.size;simp at aA;have aC:=Below.under ae;have aD:=n.cell (i:=0) rfl;have aE:=n.cell (i:=1) rfl;have aF:=n.cell (i:=2) rfl;have aG:=n.cell (i:=3) rfl;have aH:=n.cell (i:=4) rfl;have af:f.length=l.length:=by rw[←r,bD]
 have ag:∀x∈f,x.1.ops.length≤4398046511104:=by intro x R;obtain⟨k,aI,rfl⟩:=List.getElem_of_mem R;have:=ad k (by omega);rw[←r,(gF f aI).1]at this;exact this
 have aJ:Hid (f.length=l.length):=af;have rg:=nE (cap:=f.length+1) J K (by omega) (fun x R=>by have:=ag x R;omega);rw[r]at rg;have aL:Hid (dT f=l):=r;clear Q af r;have aU:w.heap.size<w1.heap.size:=by omega
 have aM:Row (w1.alloc (Y #[N Z a,N Z b,N Z c,N Z d,L (y ⟨q,0,z⟩) f.length (f.length+1)] 25)) w1.heap.size 25 [N Z a,N Z b,N Z c,N Z d,L (y ⟨q,0,z⟩) f.length (f.length+1)]:=heap_alloc_new w1 _;have hc:=xz ⟨a,b,c,d,l⟩ _ (w1.alloc (Y #[N Z a,N Z b,N Z c,N Z d,L (y ⟨q,0,z⟩) f.length (f.length+1)] 25)) (rg.ab ((Below.refl _ _).alloc (Rq _) _));simp only[dy]at hc;go_wp2_with fail;refine hc.mono ?_;clear hc;rintro e S⟨rfl,T⟩;have s:=aM.ab T;have U:G (w1.heap.size+1) (w1.alloc (Y #[N Z a,N Z b,N Z c,N Z d,L (y ⟨q,0,z⟩) f.length (f.length+1)] 25)) S:=by simpa using T
 have t:=Below.under U;have aO:=U.size;simp at aO;have h:=n.ab t;have ah:=h.cell (i:=0) rfl;have ai:=h.cell (i:=1) rfl;have ak:=h.cell (i:=2) rfl;have al:=h.cell (i:=3) rfl;have am:=h.cell (i:=4) rfl;have an:=s.cell (i:=0) rfl;have ao:=s.cell (i:=1) rfl;have ap:=s.cell (i:=2) rfl;have aq:=s.cell (i:=3) rfl;have ar:=s.cell (i:=4) rfl;have V:=aC.trans (t.mono (by omega));have X:=m.ab V;have aa:bm S (L o l.length p) (dT f):=by rw[aL.out];exact X
 have M:=sP a b c d f q az _ _ S (J.ab t) (K.ab t) (P.ab t) aa (by rw[aJ.out];exact ac) ag;clear T U aD aE aF aG aH;cases ab:aB ⟨a,b,c,d,l⟩;·simp only[Bool.false_eq_true,if_false];go_wp2_with fail;refine M.mono ?_;clear M;rintro e aP⟨rfl,j⟩;have g:=h.ab j;have v:=g.cell (i:=0) rfl;have A:=g.cell (i:=1) rfl;have B:=g.cell (i:=2) rfl;have C:=g.cell (i:=3) rfl;have E:=g.cell (i:=4) rfl;have F:=V.trans (j.mono (by omega));have aQ:=j.size;clear ah ai ak al am an ao ap aq ar;go_wp2_with fail;refine(nX a b c d _ l _ (m.ab F)).mono ?_;rintro e aR⟨rfl,H⟩;have O:=F.trans (H.mono (by omega));clear J K P rg X aa v A B C E;rw[ab];go_wp2;go_ret;exact⟨by simp,O⟩
 ·simp only[if_true];go_wp2_with fail;refine M.mono ?_;clear M;rintro e aP⟨rfl,j⟩;have g:=h.ab j;have v:=g.cell (i:=0) rfl;have A:=g.cell (i:=1) rfl;have B:=g.cell (i:=2) rfl;have C:=g.cell (i:=3) rfl;have E:=g.cell (i:=4) rfl;have F:=V.trans (j.mono (by omega));have aQ:=j.size;clear ah ai ak al am an ao ap aq ar;go_wp2_with fail;refine(nX a b c d _ l _ (m.ab F)).mono ?_;rintro e aR⟨rfl,H⟩;have I:=g.ab H;have O:=F.trans (H.mono (by omega));have aV:=H.size;clear J K P rg X aa v A B C E;have v:=I.cell (i:=0) rfl;have A:=I.cell (i:=1) rfl;have B:=I.cell (i:=2) rfl;have C:=I.cell (i:=3) rfl;have E:=I.cell (i:=4) rfl;rw[ab];go_wp2_with fail;refine(tT ⟨a,b,c,d,l⟩ _ _ (m.ab O) ab).mono ?_;rintro e aW⟨rfl,aS⟩;have aT:=O.trans (aS.mono (by omega));have hs:=o8 (ay (aK ⟨a,b,c,d,l⟩));clear v A B C E;go_wp2;go_ret;exact⟨by simp,aT⟩
theorem Row.kept{S:Nat→Prop}{w w':W}{g:Nat}{e:TypeId}{xs:List Vq}(h:Row w g e xs)(a:aH S w w')(b:¬S g):Row w' g e xs:=h.same (a.block g h.lt b)
theorem aC.jX{S:Nat→Prop}{w w':W}{base:Nat}{v:Vq}{c:List (aN×Vq)}(h:aC w base v c)(i:aH S w w')(j:∀g,S g→g<base):aC w' base v c:=by
 have d:∀(e:TypeId)(a:Nat)(u:Vq)(n:Nat)(xs:List Vq),w.ownsRow base e a u n xs→w'.ownsRow base e a u n xs:=by intro e a u n xs b;refine d_ b fun g f=>i.block g (b.lt g f).2 (fun hs=>?_);have:=j g hs;have:=(b.lt g f).1;omega
 exact⟨d _ _ _ _ _ h.row,fun x k=>d _ _ _ _ _ (h.each x k),h.apart⟩
def k5(v:Vq)(a:List (aN×Vq))(g:Nat):Prop:=v.ownBlock=y g∨∃x∈a,x.2.ownBlock=y g
theorem zw{w:W}{base:Nat}{v:Vq}{b:List (aN×Vq)}(h:aC w base v b):∀g,k5 v b g→base≤g∧g<w.heap.size:=by
 rintro g(a|⟨x,c,a⟩);·exact h.row.lt g a
 ·exact(h.each x c).lt g a
theorem wv{a:List (aN×Vq)}{p:a8}(b:dT a=p.blocks)(c:aB p=true):a.length≤1000∧∀x∈a,x.1.ops.length≤1000:=by have d:=dw c;rw[←b,bD]at d;refine⟨by omega,fun x e=>?_⟩;have:=eX c x.1 (by rw[←b];exact List.mem_map.2 ⟨x,e,rfl⟩);simp[cI]at this;omega
theorem aH.trans{S:Nat→Prop}{w a b:W}(h:aH S w a)(c:aH S a b):aH S w b:=h.step c.os c.tape c.output c.size fun k d e=>c.block k (Nat.lt_of_lt_of_le d h.size) e
theorem Row.grown{w w':W}{M:Nat}{t:TypeId}{xs:List Vq}{a:Option Nat}(h:Row w M t xs)(b:w.grownBy w' a)(c:a≠y M):Row w' M t xs:=h.same (b.block M h.lt (fun e=>c e.symm))
theorem aH.mono{S a:Nat→Prop}{w w':W}(h:aH S w w')(hs:∀g,S g→a g):aH a w w':=⟨h.os,h.tape,h.output,h.size,fun k b c=>h.block k b (fun e=>c (hs k e))⟩
def dJ(K:Nat→Prop)(w:W)(M:Nat)(s:bq):Prop:=∃rv cv sv lv,Row w M 126 [rv,cv,sv,lv,N Z s.bK]∧cN K w rv cv sv lv s∧¬K M
theorem dJ.ab{K:Nat→Prop}{w w':W}{M:Nat}{s:bq}(h:dJ K w M s)(a:G w.heap.size w w'):dJ K w' M s:=by obtain⟨rv,cv,sv,lv,b,c,d⟩:=h;exact⟨rv,cv,sv,lv,b.ab a,c.ab a,d⟩
theorem dJ.kept{K K':Nat→Prop}{w w':W}{M:Nat}{s:bq}(h:dJ K w M s)(a:∀g,K' g→K g∨w.heap.size≤g)(d:∀g,K' g→g<w'.heap.size)(b:G w.heap.size w w'):dJ K' w' M s:=by
 obtain⟨rv,cv,sv,lv,c,f,i⟩:=h;refine⟨rv,cv,sv,lv,c.ab b,f.kept a d b,fun e=>?_⟩;rcases a M e with q|q;·exact i q
 ·have:=c.lt;omega
theorem dJ.lt{K:Nat→Prop}{w:W}{M:Nat}{s:bq}(h:dJ K w M s):∀g,K g→g<w.heap.size:=by obtain⟨rv,cv,sv,lv,b,a,c⟩:=h;exact a.lt
theorem gU(w:W)(x:Vq)(t:TypeId):∀j u,[x][j]?=y u→(w.alloc (Y #[x] t)).cell? ((⟨w.heap.size,0,z⟩:Addr).add j)=y u:=by intro j u a;match j,a with|0,a=>simp at a;subst a;simp[Addr.add]
theorem jr(K:Nat→Prop)(M:Nat)(s:bq)(x:Int)(w:W)(h:dJ K w M s)(S:s.aI.length≤100000)(j:Ending→W→Prop)(n:∀w',dJ K w' M (s.out x)→aH (fun g=>¬K g) w w'→j (Xq (Uq #[])) w'):Calls Tryz.prog 141 #[Pq (y ⟨M,0,z⟩),N Z x] w j:=by
 obtain⟨rv,cv,sv,lv,d,a,o⟩:=h;obtain⟨H,I,J,O,P⟩:=info_parts Tryz.gh;obtain⟨T,U,rfl⟩:=af a.aI;have V:=d.cell (i:=3) rfl;have Q:=bO d a.aI (by decide);have k:=(Below.refl w.heap.size w).alloc (Rq _) (Y #[N Z x] 3);have l:=a.ab k;have q:=d.ab k;have r:aH (fun g=>¬K g) w (w.alloc (Y #[N Z x] 3)):=(aH.refl _ _).alloc _;go_enter Tryz.func141,Tryz.ntmps141;go_wp2_with(at_builtin;refine wpList_append_own_at _ rfl _ _ 22 rfl 0 3 H (N Z 0) 1 8 Tryz.underlying22 I J O P rfl (by decide) _ _ _ rfl l.aI ⟨w.heap.size,0,z⟩ 1 1 [N Z x] rfl rfl ?c1 ?c2 ?c3 ?c4 (by omega) ?_);case c1=>exact gU w _ _
 case c2=>intro u t;simp at t;subst t;rfl
 case c3=>unfold maxLen;omega
 case c4=>omega
 intro b w1 m f _ v;have A:=l.app m f (by simpa using v);have c:=q.grown f Q;have B:=r.grown f (fun g e=>.inl (a.kl g e));have X:=c.cell (i:=3) rfl;have aa:=c.frozen 3;have C:=A.sC c (by decide) 3 b;have E:=c.set 3 b;have F:=B.setCell (p:=⟨M,3,z⟩) (.inl o) b;have R:Hid (j (Xq (Uq #[])) (w1.setCell ⟨M,3,z⟩ b)):=n _ ⟨rv,cv,sv,b,E,C,o⟩ F;obtain⟨ab,ac,rfl⟩:=af m;clear n a l q A c B C E F f m v k r d;go_wp2;go_end0;exact R.out
theorem o6(K:Nat→Prop)(M:Nat)(s:bq)(n:Int)(w:W)(h:dJ K w M s)(o:s.aI.length≤100000)(c:Ending→W→Prop)(l:0≤n∧n<s.cells.length→∀w',dJ K w' M (s.out n)→aH (fun g=>¬K g) w w'→c (Xq (Bq true)) w')(e:¬(0≤n∧n<s.cells.length)→∀w',dJ K w' M ((s.out n).die 2)→aH (fun g=>¬K g) w w'→c (Xq (Bq false)) w'):Calls Tryz.prog 186 #[Pq (y ⟨M,0,z⟩),N Z n] w c:=by
 go_enter Tryz.func186,Tryz.ntmps186;go_wp2_with fail;refine jr K M s n w h o _ ?_;intro w1 f d;clear h o;obtain⟨rv,cv,sv,lv,a,b,m⟩:=id f;obtain⟨x,A,rfl⟩:=af b.cells;have q:=a.cell (i:=1) rfl;have r:(s.out n).cells.length=s.cells.length:=rfl;rw[r]at q a b;by_cases B:n<0;·have t:=a.cell (i:=4) rfl;have u:=a.frozen 4;have j:=d.setCell (p:=⟨M,4,z⟩) (.inl m) (N Z 2);have k:Hid (c (Xq (Bq false)) (w1.setCell ⟨M,4,z⟩ (N Z 2))):=e (by omega) _ ⟨rv,_,sv,lv,a.set 4 (N Z 2),(b.sC a (by decide) 4 _).nH 2,m⟩ j;clear l e d j b a f;go_wp2;exact k.out
 by_cases v:n<s.cells.length;·have k:Hid (c (Xq (Bq true)) w1):=l ⟨by omega,v⟩ _ f d;clear l e d b a f;go_wp2;exact k.out
 ·have t:=a.cell (i:=4) rfl;have u:=a.frozen 4;have j:=d.setCell (p:=⟨M,4,z⟩) (.inl m) (N Z 2);have k:Hid (c (Xq (Bq false)) (w1.setCell ⟨M,4,z⟩ (N Z 2))):=e (by omega) _ ⟨rv,_,sv,lv,a.set 4 (N Z 2),(b.sC a (by decide) 4 _).nH 2,m⟩ j;clear l e d j b a f;go_wp2;exact k.out
end Go.Proofs.YtblhmeidbjigaabGreatDoor
