import Derived.Test.YtblhmeidbjigaabGreatDoorT27
set_option linter.unusedSimpArgs false
set_option linter.unusedVariables false
set_option maxRecDepth 100000
set_option maxHeartbeats 8000000
namespace Go.Proofs.YtblhmeidbjigaabGreatDoor
open Go.RowKit
open Go.Value renaming int→N,slice→L,string→Tq,agg→Aq,bool→Bq,tuple→Uq
open Go.IntKind renaming i64→Z
open Go.Obj renaming cells→Y
open Go.Ending renaming returned→Xq
open Option renaming none→z,some→y
open Go.Lib renaming hid→D
open Nat renaming le_refl→Rq
open Go renaming World→W,Value→Vq
open Go.RowKit renaming Below→G
theorem nR{l:List Int}{k:Nat}(h:k<l.length):l.getD k 0∈l:=by simp[List.getD,h]
theorem sN(g m o p r b2 s t:Int)(u v ho:Option Addr)(x pc A B hc:Nat)(h:List aL)(lv rv:Vq)(l a:List Int)(w:W)(ai:cj w (L ho h.length hc) h)(aj:aM w lv l)(ak:aM w rv a)(al:∀d∈a,0≤d∧d<h.length)(U:Ending→W→Prop)(V:∀X w',(X=true↔∀i,i<l.length→i<a.length→aU h (a.getD i 0).toNat=l.getD i 0)→G w.heap.size w w'→U (Xq (Bq X)) w'):Calls Tryz.prog 136 #[Aq #[N Z g,N Z m,N Z o,N Z p,L u x pc,N Z r,N Z b2,N Z s,N Z t,L v A B,L ho h.length hc],lv,rv] w U:=by
 obtain⟨aA,aB,rfl,aC,C⟩:=aj;obtain⟨aD,aE,rfl,aF,E⟩:=ak;obtain⟨aG,aH,ab,aI,F⟩:=ai;simp only[Value.slice.injEq,true_and]at ab;obtain⟨rfl,rfl⟩:=ab;have J:G w.heap.size w (w.alloc (Y #[N Z g,N Z m,N Z o,N Z p,L u x pc,N Z r,N Z b2,N Z s,N Z t,L v A B,L ho h.length hc] 120)):=(Below.refl _ _).alloc (Rq _) _;have ac:Row (w.alloc (Y #[N Z g,N Z m,N Z o,N Z p,L u x pc,N Z r,N Z b2,N Z s,N Z t,L v A B,L ho h.length hc] 120)) w.heap.size 120 [N Z g,N Z m,N Z o,N Z p,L u x pc,N Z r,N Z b2,N Z s,N Z t,L v A B,L ho h.length hc]:=heap_alloc_new w _;obtain⟨H,K⟩:∃H,H=(w.alloc (Y #[N Z g,N Z m,N Z o,N Z p,L u x pc,N Z r,N Z b2,N Z s,N Z t,L v A B,L ho h.length hc] 120)):=⟨_,rfl⟩;rw[←K]at J ac;have ad:=D K;have M:=D V;clear K V;go_enter Tryz.func136,Tryz.ntmps136;go_wp2;rw[←ad.out];clear ad;go_loopw[7](fun i wr=>∃(k:Nat),k≤l.length∧k≤a.length∧i=N Z k∧G H.heap.size H wr∧Hid (∀j,j<k→aU h (a.getD j 0).toNat=l.getD j 0))(fun i _=>l.length-(intOf i).toNat);case atStart=>exact⟨0,Nat.zero_le _,Nat.zero_le _,rfl,Below.refl _ _,fun j am=>by omega⟩
 case round=>
  obtain⟨k,aJ,aK,rfl,f,c⟩:=hrel;have b:G w.heap.size w wr:=J.trans (f.mono J.size);by_cases ae:k<l.length
  ·by_cases O:k<a.length
   ·obtain⟨af,an⟩:=al (a.getD k 0) (nR O);obtain⟨d,P⟩:=Int.eq_ofNat_of_zero_le af;obtain⟨aN,aO,rfl,ag⟩:=C k ae;obtain⟨aP,aQ,rfl,g1⟩:=E k O;rw[P]at g1;obtain⟨aR,aS,sv,rfl,g2,ao,_⟩:=F d (by omega);have aT:=aa b ag;have aV:=aa b g1;have aW:=aa b g2;have aX:=aa f (ac.cell (i:=10) rfl);have aY:(0:Int)≤(k:Int):=by omega
    have ah:(k:Int)<(l.length:Int):=by omega
    have ap:(k:Int)<(a.length:Int):=by omega
    have aZ:(0:Int)≤(d:Int):=by omega
    have a0:(d:Int)<(h.length:Int):=by omega
    have aq:=D (fun n=>below_drewN f n);have ar:=D (fun n=>below_drewN b n);have I:Hid (aU h (a.getD k 0).toNat=aU h d):=by show _=_;rw[P];rfl
    clear ag g1 g2 ao C E F P af an f b;by_cases e:aU h d=l.getD k 0
    ·have au:Hid (∀j,j<k+1→aU h (a.getD j 0).toNat=l.getD j 0):=fun j am=>by
      by_cases q:j=k;·rw[q,I.out];exact e
      ·exact c.out j (by omega)
     have Q:(aU h d==l.getD k 0)=true:=by simp[e]
     have a1:=D e;clear e c I;generalize l.getD k 0=av at*;generalize aU h d=aw at*;go_wp2;go_quiet(fail);go_wp2;go_roundw;case rel=>exact⟨k+1,by omega,by omega,by go_num,aq.out _,au⟩
     case measure=>simp[intOf];omega
    ·have ax:Hid (¬∀i,i<l.length→i<a.length→aU h (a.getD i 0).toNat=l.getD i 0):=fun R=>e (by rw[←I.out];exact R k ae O);have Q:(aU h d==l.getD k 0)=false:=by rw[beq_eq_false_iff_ne];exact e
     clear e c I;generalize l.getD k 0=av at*;generalize aU h d=aw at*;go_wp2;go_quiet(fail);go_wp2;exact M.out false _ ⟨fun Q=>(by cases Q),fun R=>absurd R ax.out⟩ (ar.out _)
   ·have S:Hid (∀i,i<l.length→i<a.length→aU h (a.getD i 0).toNat=l.getD i 0):=fun i ay az=>c.out i (by omega);have T:=D (M.out true _ ⟨fun _=>S.out,fun _=>rfl⟩ b);have ah:(k:Int)<(l.length:Int):=by omega
    have ap:¬((k:Int)<(a.length:Int)):=by omega
    clear C E F c f b;go_wp2;exact T.out
  ·have S:Hid (∀i,i<l.length→i<a.length→aU h (a.getD i 0).toNat=l.getD i 0):=fun i ay az=>c.out i (by omega);have T:=D (M.out true _ ⟨fun _=>S.out,fun _=>rfl⟩ b);have ah:¬((k:Int)<(l.length:Int)):=by omega
   clear C E F c f b;go_wp2;exact T.out
theorem zj(ai aj ak al am b2 l an:Int)(ao ap ho:Option Addr)(ar pc au av hc:Nat){r m s n:Nat}{was1 was2:Int→TD}(t:Nat)(u A B C E:Int)(F H:Option Addr)(I J K M:Nat)(O:ByteArray)(P:Bool)(Q:Nat)(R S T U V:Int)(X ab:Option Addr)(ac ad ae af:Nat)(ag:ByteArray)(ah:Bool)(h:List aL)(rv:Vq)(g:List Int)(w:W)(aY:cj w (L ho h.length hc) h)(aZ:aM w rv g)(a0:∀d∈g,0≤d∧d<h.length)(a1:xH w r m was1)(a2:xH w s n was2)(a3:m≤1000)(a4:n≤1000)(a5:∀b,b<h.length→∀x∈aq h b,(0≤x.cT∧x.cT<m)∧(0≤x.place∧x.place<n))(a6:∀i:Int,0≤i→i<m→(was1 i).aJ)(a7:∀i:Int,0≤i→i<n→(was2 i).aJ):Calls Tryz.prog 137 #[Aq #[N Z ai,N Z aj,N Z ak,N Z al,L ao ar pc,N Z am,N Z b2,N Z l,N Z an,L ap au av,L ho h.length hc],Aq #[L (y ⟨r,0,z⟩) m t,N Z u,N Z A,L F I J,N Z B,Tq O,L H K M,Bq P,N Z C,N Z E],Aq #[L (y ⟨s,0,z⟩) n Q,N Z R,N Z S,L X ac ad,N Z T,Tq ag,L ab ae af,Bq ah,N Z U,N Z V],rv] w fun e w'=>∃az,e=Xq (Bq az)∧(az=true↔∀d∈g,∀x∈aq h d.toNat,was1 x.cT=was2 x.place)∧G w.heap.size w w':=by
 obtain⟨bi,bj,rfl,bk,aF⟩:=aZ;obtain⟨bl,bm,aO,bn,aG⟩:=aY;simp only[Value.slice.injEq,true_and]at aO;obtain⟨rfl,rfl⟩:=aO;have aH:G w.heap.size w (((w.alloc (Y #[N Z ai,N Z aj,N Z ak,N Z al,L ao ar pc,N Z am,N Z b2,N Z l,N Z an,L ap au av,L ho h.length hc] 120)).alloc (Y #[L (y ⟨r,0,z⟩) m t,N Z u,N Z A,L F I J,N Z B,Tq O,L H K M,Bq P,N Z C,N Z E] 181)).alloc (Y #[L (y ⟨s,0,z⟩) n Q,N Z R,N Z S,L X ac ad,N Z T,Tq ag,L ab ae af,Bq ah,N Z U,N Z V] 181)):=(((Below.refl _ _).alloc (Rq _) _).alloc (by simp) _).alloc (by simp;omega) _;have aP:Row (((w.alloc (Y #[N Z ai,N Z aj,N Z ak,N Z al,L ao ar pc,N Z am,N Z b2,N Z l,N Z an,L ap au av,L ho h.length hc] 120)).alloc (Y #[L (y ⟨r,0,z⟩) m t,N Z u,N Z A,L F I J,N Z B,Tq O,L H K M,Bq P,N Z C,N Z E] 181)).alloc (Y #[L (y ⟨s,0,z⟩) n Q,N Z R,N Z S,L X ac ad,N Z T,Tq ag,L ab ae af,Bq ah,N Z U,N Z V] 181)) w.heap.size 120 [N Z ai,N Z aj,N Z ak,N Z al,L ao ar pc,N Z am,N Z b2,N Z l,N Z an,L ap au av,L ho h.length hc]:=Row.alloc (Row.alloc (heap_alloc_new w _) _) _;have o:Row (((w.alloc (Y #[N Z ai,N Z aj,N Z ak,N Z al,L ao ar pc,N Z am,N Z b2,N Z l,N Z an,L ap au av,L ho h.length hc] 120)).alloc (Y #[L (y ⟨r,0,z⟩) m t,N Z u,N Z A,L F I J,N Z B,Tq O,L H K M,Bq P,N Z C,N Z E] 181)).alloc (Y #[L (y ⟨s,0,z⟩) n Q,N Z R,N Z S,L X ac ad,N Z T,Tq ag,L ab ae af,Bq ah,N Z U,N Z V] 181)) (w.heap.size+1) 181 [L (y ⟨r,0,z⟩) m t,N Z u,N Z A,L F I J,N Z B,Tq O,L H K M,Bq P,N Z C,N Z E]:=Row.alloc (heap_alloc2_new w _ _) _;have p:Row (((w.alloc (Y #[N Z ai,N Z aj,N Z ak,N Z al,L ao ar pc,N Z am,N Z b2,N Z l,N Z an,L ap au av,L ho h.length hc] 120)).alloc (Y #[L (y ⟨r,0,z⟩) m t,N Z u,N Z A,L F I J,N Z B,Tq O,L H K M,Bq P,N Z C,N Z E] 181)).alloc (Y #[L (y ⟨s,0,z⟩) n Q,N Z R,N Z S,L X ac ad,N Z T,Tq ag,L ab ae af,Bq ah,N Z U,N Z V] 181)) (w.heap.size+1+1) 181 [L (y ⟨s,0,z⟩) n Q,N Z R,N Z S,L X ac ad,N Z T,Tq ag,L ab ae af,Bq ah,N Z U,N Z V]:=by have:=heap_alloc_new ((w.alloc (Y #[N Z ai,N Z aj,N Z ak,N Z al,L ao ar pc,N Z am,N Z b2,N Z l,N Z an,L ap au av,L ho h.length hc] 120)).alloc (Y #[L (y ⟨r,0,z⟩) m t,N Z u,N Z A,L F I J,N Z B,Tq O,L H K M,Bq P,N Z C,N Z E] 181)) (Y #[L (y ⟨s,0,z⟩) n Q,N Z R,N Z S,L X ac ad,N Z T,Tq ag,L ab ae af,Bq ah,N Z U,N Z V] 181);simp only[World.size_alloc]at this;exact this
 obtain⟨aA,aI⟩:∃aA,aA=(((w.alloc (Y #[N Z ai,N Z aj,N Z ak,N Z al,L ao ar pc,N Z am,N Z b2,N Z l,N Z an,L ap au av,L ho h.length hc] 120)).alloc (Y #[L (y ⟨r,0,z⟩) m t,N Z u,N Z A,L F I J,N Z B,Tq O,L H K M,Bq P,N Z C,N Z E] 181)).alloc (Y #[L (y ⟨s,0,z⟩) n Q,N Z R,N Z S,L X ac ad,N Z T,Tq ag,L ab ae af,Bq ah,N Z U,N Z V] 181)):=⟨_,rfl⟩;rw[←aI]at aH aP o p;have aQ:=D aI;clear aI;go_enter Tryz.func137,Tryz.ntmps137;go_wp2;rw[←aQ.out];clear aQ;go_loopw[9](fun i wr=>∃(k:Nat),k≤g.length∧i=N Z k∧G aA.heap.size aA wr∧Hid (∀j,j<k→∀x∈aq h (g.getD j 0).toNat,was1 x.cT=was2 x.place))(fun i _=>g.length-(intOf i).toNat);case atStart=>exact⟨0,Nat.zero_le _,rfl,Below.refl _ _,fun j aB=>by omega⟩
 case round=>
  obtain⟨k,bo,rfl,f,ax⟩:=hrel;have aw:G w.heap.size w wr:=aH.trans (f.mono aH.size);by_cases aJ:k<g.length
  ·obtain⟨aR,a8⟩:=a0 (g.getD k 0) (nR aJ);obtain⟨d,ay⟩:=Int.eq_ofNat_of_zero_le aR;obtain⟨a9,a_,rfl,g1⟩:=aF k aJ;rw[ay]at g1;obtain⟨aS,aT,sv,rfl,g2,aU,aK⟩:=aG d (by omega);obtain⟨bp,bq,ba,_,_⟩:=id aK;have aC:G wr.heap.size wr wr.drew:=(Below.refl _ _).drew;have aD:G w.heap.size w wr.drew:=aw.trans (aC.mono aw.size);have q:=Bl (was1:=was1) (was2:=was2) t u A B C E F H I J K M O P Q R S T U V X ab ac ad ae af ag ah sv (aq h d) wr.drew (a1.ab aD) (a2.ab aD) (aK.ab aD) a3 a4 (a5 d (by omega)) a6 a7;have br:∀a,G wr.heap.size wr a→a.cell? ⟨a9,a_+k,z⟩=y (N Z d):=fun a c=>aa c (aa aw g1);have bs:∀a,G wr.heap.size wr a→a.cell? ⟨aS,aT+d*2+1,z⟩=y sv:=fun a c=>aa c (aa aw aU);have bt:∀a,G wr.heap.size wr a→a.cell? ⟨w.heap.size,10,z⟩=y (L (y ⟨aS,aT,z⟩) h.length hc):=fun a c=>aa c (aa f (aP.cell (i:=10) rfl));subst ba;have bu:=fun a(c:G wr.heap.size wr a)=>aa c (aa f (o.cell (i:=0) rfl));have bv:=fun a(c:G wr.heap.size wr a)=>aa c (aa f (p.cell (i:=0) rfl));have c1:=fun a(c:G wr.heap.size wr a)=>aa c (aa f (o.cell (i:=1) rfl));have d1:=fun a(c:G wr.heap.size wr a)=>aa c (aa f (p.cell (i:=1) rfl));have c2:=fun a(c:G wr.heap.size wr a)=>aa c (aa f (o.cell (i:=2) rfl));have d2:=fun a(c:G wr.heap.size wr a)=>aa c (aa f (p.cell (i:=2) rfl));have c3:=fun a(c:G wr.heap.size wr a)=>aa c (aa f (o.cell (i:=3) rfl));have d3:=fun a(c:G wr.heap.size wr a)=>aa c (aa f (p.cell (i:=3) rfl));have c4:=fun a(c:G wr.heap.size wr a)=>aa c (aa f (o.cell (i:=4) rfl));have d4:=fun a(c:G wr.heap.size wr a)=>aa c (aa f (p.cell (i:=4) rfl));have c5:=fun a(c:G wr.heap.size wr a)=>aa c (aa f (o.cell (i:=5) rfl));have d5:=fun a(c:G wr.heap.size wr a)=>aa c (aa f (p.cell (i:=5) rfl));have bw:=fun a(c:G wr.heap.size wr a)=>aa c (aa f (o.cell (i:=6) rfl));have bx:=fun a(c:G wr.heap.size wr a)=>aa c (aa f (p.cell (i:=6) rfl));have bz:=fun a(c:G wr.heap.size wr a)=>aa c (aa f (o.cell (i:=7) rfl));have bA:=fun a(c:G wr.heap.size wr a)=>aa c (aa f (p.cell (i:=7) rfl));have bB:=fun a(c:G wr.heap.size wr a)=>aa c (aa f (o.cell (i:=8) rfl));have bC:=fun a(c:G wr.heap.size wr a)=>aa c (aa f (p.cell (i:=8) rfl));have bD:=fun a(c:G wr.heap.size wr a)=>aa c (aa f (o.cell (i:=9) rfl));have bE:=fun a(c:G wr.heap.size wr a)=>aa c (aa f (p.cell (i:=9) rfl));have bF:(0:Int)≤(k:Int):=by omega
   have bG:(k:Int)<(g.length:Int):=by omega
   have bH:(0:Int)≤(d:Int):=by omega
   have bI:(d:Int)<(h.length:Int):=by omega
   have aV:=D f;have aW:=D aw;have aE:Hid (aq h (g.getD k 0).toNat=aq h d):=by show _=_;rw[ay];rfl
   clear g1 g2 aU aK aF aG ay aR a8 f aw aD;generalize(aq h d).length=bJ at*;go_wp2;go_region_held3(fun a=>G wr.heap.size wr a)(first|with_reducible exact aC|with_reducible exact l)(first|(go_at_call 166;refine q.mono ?_;rintro e bb⟨az,rfl,hz,b2⟩;have l:G wr.heap.size wr bb:=aC.trans (b2.mono aC.size)));have aX:=D hz;clear q b2 hz;cases az with
    |true=>
     have bc:Hid (∀j,j<k+1→∀x∈aq h (g.getD j 0).toNat,was1 x.cT=was2 x.place):=fun j aB=>by
      by_cases e:j=k;·rw[e,aE.out];exact aX.out.1 rfl
      ·exact ax.out j (by omega)
     clear ax aE;go_wp2;go_roundw;case rel=>exact⟨k+1,by omega,by go_num,aV.out.trans (l.mono aV.out.size),bc⟩
     case measure=>simp[intOf];omega
    |false=>
     have bd:Hid (¬∀d∈g,∀x∈aq h d.toNat,was1 x.cT=was2 x.place):=fun aN=>by have:=aN (g.getD k 0) (nR aJ);rw[aE.out]at this;have:=aX.out.2 this;cases this
     have be:=D (aW.out.trans (l.mono aW.out.size));clear ax aE;go_wp2;(try simp only[Exit.inBlock,Exit.then]);refine bodyPost_ret (v:=Bq false) ?_ rfl ?_;·simp[results,Tryz.results137,go_sem]
     ·exact⟨false,rfl,⟨fun bf=>(by cases bf),fun aN=>absurd aN bd.out⟩,be.out⟩
  ·obtain rfl:k=g.length:=by omega
   have bg:Hid (∀d∈g,∀x∈aq h d.toNat,was1 x.cT=was2 x.place):=fun d ay=>by obtain⟨j,aB,rfl⟩:=List.getElem_of_mem ay;have:=ax.out j aB;simpa[List.getD,aB]using this
   have bh:=D aw;clear aF aG ax f aw;go_wp2;go_ret;exact⟨true,rfl,⟨fun _=>bg.out,fun _=>rfl⟩,bh.out⟩
theorem Bk(s f t u v b2 A c:Int)(B C ho:Option Addr)(g pc E F H hc:Nat)(h:Int)(o:Option Addr)(ac p:Nat)(a:List bM)(w:W)(q:dH w (L o ac p) a)(ax:IntKind.i64.wrap (b2+c)=b2+c)(ad:Ending→W→Prop)(ae:∀af w',(af=true↔h<g∧∀x∈a,x.cT<f∧x.place<b2+c)→G w.heap.size w w'→ad (Xq (Bq af)) w'):Calls Tryz.prog 100 #[Aq #[N Z s,N Z f,N Z t,N Z u,L B g pc,N Z v,N Z b2,N Z A,N Z c,L C E F,L ho H hc],Aq #[N Z h,L o ac p]] w ad:=by
 obtain⟨ay,az,ag,aA,Q⟩:=q;simp only[Value.slice.injEq]at ag;obtain⟨rfl,rfl,rfl⟩:=ag;have M:G w.heap.size w ((w.alloc (Y #[N Z s,N Z f,N Z t,N Z u,L B g pc,N Z v,N Z b2,N Z A,N Z c,L C E F,L ho H hc] 120)).alloc (Y #[N Z h,L o a.length p] 33)):=((Below.refl _ _).alloc (Rq _) _).alloc (by simp) _;have I:Row ((w.alloc (Y #[N Z s,N Z f,N Z t,N Z u,L B g pc,N Z v,N Z b2,N Z A,N Z c,L C E F,L ho H hc] 120)).alloc (Y #[N Z h,L o a.length p] 33)) w.heap.size 120 [N Z s,N Z f,N Z t,N Z u,L B g pc,N Z v,N Z b2,N Z A,N Z c,L C E F,L ho H hc]:=Row.alloc (heap_alloc_new w _) _;have R:Row ((w.alloc (Y #[N Z s,N Z f,N Z t,N Z u,L B g pc,N Z v,N Z b2,N Z A,N Z c,L C E F,L ho H hc] 120)).alloc (Y #[N Z h,L o a.length p] 33)) (w.heap.size+1) 33 [N Z h,L o a.length p]:=heap_alloc2_new w _ _;have O:=D ae;clear ae;by_cases aU:h<g
 ·obtain⟨S,V⟩:∃S,S=((w.alloc (Y #[N Z s,N Z f,N Z t,N Z u,L B g pc,N Z v,N Z b2,N Z A,N Z c,L C E F,L ho H hc] 120)).alloc (Y #[N Z h,L o a.length p] 33)):=⟨_,rfl⟩;rw[←V]at M I R;have ah:=D V;clear V;go_enter Tryz.func100,Tryz.ntmps100;go_wp2;rw[←ah.out];clear ah;go_loopw[5](fun i wr=>∃(k:Nat),k≤a.length∧i=N Z k∧G S.heap.size S wr∧Hid (∀j,j<k→bP a j<f∧aG a j<b2+c))(fun i _=>a.length-(intOf i).toNat);case atStart=>exact⟨0,Nat.zero_le _,rfl,Below.refl _ _,fun j T=>by omega⟩
  case round=>
   obtain⟨k,aB,rfl,m,J⟩:=hrel;have K:G w.heap.size w wr:=M.trans (m.mono M.size);have aC:=aa m (R.cell (i:=1) rfl);by_cases ai:k<a.length
   ·obtain⟨b,aD,rfl,aj,g1⟩:=Q k ai;have aE:=aa K aj;have aF:=aa K g1;have c1:=aa m (I.cell (i:=1) rfl);have aH:=aa m (I.cell (i:=6) rfl);have aI:=aa m (I.cell (i:=8) rfl);have aJ:(0:Int)≤(k:Int):=by omega
    have aK:(k:Int)<(a.length:Int):=by omega
    have ao:=D (fun n=>below_drewN m n);have ak:=D (fun n=>below_drewN K n);have P:=D (cm (d:=pz) ai);have r:Hid ((a.getD k pz).cT=bP a k∧(a.getD k pz).place=aG a k):=⟨rfl,rfl⟩;clear aj g1 Q m K I R;generalize bP a k=rg at*;generalize aG a k=U at*;by_cases al:rg<f
    ·have am:¬(f≤rg):=by omega
     by_cases an:U<b2+c
     ·have ap:¬(b2+c≤U):=by omega
      have aq:Hid (∀j,j<k+1→bP a j<f∧aG a j<b2+c):=fun j T=>by
       by_cases e:j=k;·rw[e];have ar:bP a k=rg:=r.out.1;have au:aG a k=U:=r.out.2;rw[ar,au];exact⟨al,an⟩
       ·exact J.out j (by omega)
      clear J r P;go_wp2;go_quiet(fail);go_wp2;go_roundw;case rel=>exact⟨k+1,by omega,by go_num,ao.out _,aq⟩
      case measure=>simp[intOf];omega
     ·have ap:b2+c≤U:=by omega
      have X:Hid (¬(h<g∧∀x∈a,x.cT<f∧x.place<b2+c)):=fun l=>an (by have:=(l.2 _ P.out).2;rw[r.out.2]at this;exact this);clear J r P;go_wp2;go_quiet(fail);go_wp2;exact O.out false _ ⟨fun q=>(by cases q),fun l=>absurd l X.out⟩ (ak.out _)
    ·have am:f≤rg:=by omega
     have X:Hid (¬(h<g∧∀x∈a,x.cT<f∧x.place<b2+c)):=fun l=>al (by have:=(l.2 _ P.out).1;rw[r.out.1]at this;exact this);clear J r P;go_wp2;go_quiet(fail);go_wp2;exact O.out false _ ⟨fun q=>(by cases q),fun l=>absurd l X.out⟩ (ak.out _)
   ·obtain rfl:k=a.length:=by omega
    have av:Hid (h<g∧∀x∈a,x.cT<f∧x.place<b2+c):=⟨aU,fun x aw=>by obtain⟨j,T,rfl⟩:=List.getElem_of_mem aw;have:=J.out j T;simpa[bP,aG,List.getD,T]using this⟩;have ab:=D (O.out true _ ⟨fun _=>av.out,fun _=>rfl⟩ K);clear Q J m K;go_wp2;exact ab.out
 ·have am:(g:Int)≤h:=by omega
  have ab:=D (O.out false _ ⟨fun q=>(by cases q),fun l=>absurd l.1 aU⟩ M);clear Q I R M O aU;go_enter Tryz.func100,Tryz.ntmps100;go_wp2;exact ab.out
theorem CG(r n s t u b2 l g:Int)(v A ho:Option Addr)(o pc m B U hc:Nat)(h:List aL)(w:W)(ap:cj w (L ho U hc) h)(ar:IntKind.i64.wrap (b2+g)=b2+g)(V:Ending→W→Prop)(X:∀J w',(J=true↔h.length=m∧∀b,b<h.length→aU h b<o∧∀x∈aq h b,x.cT<n∧x.place<b2+g)→G w.heap.size w w'→V (Xq (Bq J)) w'):Calls Tryz.prog 60 #[Aq #[N Z r,N Z n,N Z s,N Z t,L v o pc,N Z u,N Z b2,N Z l,N Z g,L A m B,L ho U hc]] w V:=by
 obtain⟨az,aA,ab,aB,K⟩:=ap;simp only[Value.slice.injEq]at ab;obtain⟨rfl,rfl,rfl⟩:=ab;have C:G w.heap.size w (w.alloc (Y #[N Z r,N Z n,N Z s,N Z t,L v o pc,N Z u,N Z b2,N Z l,N Z g,L A m B,L ho h.length hc] 120)):=(Below.refl _ _).alloc (Rq _) _;have f:Row (w.alloc (Y #[N Z r,N Z n,N Z s,N Z t,L v o pc,N Z u,N Z b2,N Z l,N Z g,L A m B,L ho h.length hc] 120)) w.heap.size 120 [N Z r,N Z n,N Z s,N Z t,L v o pc,N Z u,N Z b2,N Z l,N Z g,L A m B,L ho h.length hc]:=heap_alloc_new w _;have M:=D X;clear X;by_cases E:h.length=m
 ·have F:((h.length:Int)==(m:Int))=true:=by simp[E]
  have au:=D E;obtain⟨O,R⟩:∃O,O=(w.alloc (Y #[N Z r,N Z n,N Z s,N Z t,L v o pc,N Z u,N Z b2,N Z l,N Z g,L A m B,L ho h.length hc] 120)):=⟨_,rfl⟩;rw[←R]at C f;have ac:=D R;clear R E;go_enter Tryz.func60,Tryz.ntmps60;go_wp2;rw[←ac.out];clear ac;go_loopw[3](fun i wr=>∃(k:Nat),k≤h.length∧i=N Z k∧G O.heap.size O wr∧Hid (∀b,b<k→aU h b<o∧∀x∈aq h b,x.cT<n∧x.place<b2+g))(fun i _=>h.length-(intOf i).toNat);case atStart=>exact⟨0,Nat.zero_le _,rfl,Below.refl _ _,fun j av=>by omega⟩
  case round=>
   obtain⟨k,aC,rfl,d,H⟩:=hrel;have p:G w.heap.size w wr:=C.trans (d.mono C.size);have aD:=aa d (f.cell (i:=10) rfl);by_cases ad:k<h.length
   ·obtain⟨b,S,sv,rfl,ae,g1,g2⟩:=K k ad;obtain⟨af,ag,ah,_,_⟩:=id g2;have P:G wr.heap.size wr wr.drew:=(Below.refl _ _).drew;have ai:G w.heap.size w wr.drew:=p.trans (P.mono p.size);obtain⟨Q,aj⟩:∃Q,Q=(aq h k).length:=⟨_,rfl⟩;rw[←aj]at ah;subst ah;have q:=fun aw=>Bk r n s t u b2 l g v A (y ⟨b,S,z⟩) o pc m B h.length hc (aU h k) af Q ag (aq h k) wr.drew (g2.ab ai) ar aw;have aE:=fun a(c:G wr.heap.size wr a)=>aa c (aa d (f.cell (i:=0) rfl));have c1:=fun a(c:G wr.heap.size wr a)=>aa c (aa d (f.cell (i:=1) rfl));have c2:=fun a(c:G wr.heap.size wr a)=>aa c (aa d (f.cell (i:=2) rfl));have c3:=fun a(c:G wr.heap.size wr a)=>aa c (aa d (f.cell (i:=3) rfl));have c4:=fun a(c:G wr.heap.size wr a)=>aa c (aa d (f.cell (i:=4) rfl));have c5:=fun a(c:G wr.heap.size wr a)=>aa c (aa d (f.cell (i:=5) rfl));have aF:=fun a(c:G wr.heap.size wr a)=>aa c (aa d (f.cell (i:=6) rfl));have aG:=fun a(c:G wr.heap.size wr a)=>aa c (aa d (f.cell (i:=7) rfl));have aH:=fun a(c:G wr.heap.size wr a)=>aa c (aa d (f.cell (i:=8) rfl));have aI:=fun a(c:G wr.heap.size wr a)=>aa c (aa d (f.cell (i:=9) rfl));have aJ:=fun a(c:G wr.heap.size wr a)=>aa c (aa d (f.cell (i:=10) rfl));have aK:∀a,G wr.heap.size wr a→a.cell? ⟨b,S+k*2,z⟩=y (N Z (aU h k)):=fun a c=>aa c (aa p ae);have aM:∀a,G wr.heap.size wr a→a.cell? ⟨b,S+k*2+1,z⟩=y (L af Q ag):=fun a c=>aa c (aa p g1);have aN:(0:Int)≤(k:Int):=by omega
    have aO:(k:Int)<(h.length:Int):=by omega
    have ak:=D d;have al:=D p;clear ae g1 g2 K d p ai f aj;generalize am:aU h k=hs at*;have an:=D am;clear am;go_wp2;go_region_held3(fun a=>G wr.heap.size wr a)(first|with_reducible exact P|with_reducible exact l)(first|(go_at_call 100;refine q _ ?_;intro J ax hz b2;have l:G wr.heap.size wr ax:=P.trans (b2.mono P.size)));have ao:=D hz;clear q b2 hz;cases J with
     |true=>
      have ay:Hid (∀b,b<k+1→aU h b<o∧∀x∈aq h b,x.cT<n∧x.place<b2+g):=fun j av=>by
       by_cases e:j=k;·rw[e,an.out];exact ao.out.1 rfl
       ·exact H.out j (by omega)
      clear H;go_wp2;go_roundw;case rel=>exact⟨k+1,by omega,by go_num,ak.out.trans (l.mono ak.out.size),ay⟩
      case measure=>simp[intOf];omega
     |false=>have I:=D (M.out false _ ⟨fun F=>(by cases F),fun T=>by have:=T.2 k ad;rw[an.out]at this;have:=ao.out.2 this;cases this⟩ (al.out.trans (l.mono al.out.size)));clear H;go_wp2;exact I.out
   ·obtain rfl:k=h.length:=by omega
    have I:=D (M.out true _ ⟨fun _=>⟨au.out,H.out⟩,fun _=>rfl⟩ p);clear K H d p;go_wp2;exact I.out
 ·have F:((h.length:Int)==(m:Int))=false:=by simp;omega
  have I:=D (M.out false _ ⟨fun F=>(by cases F),fun T=>absurd T.1 E⟩ C);clear K f C M E;go_enter Tryz.func60,Tryz.ntmps60;go_wp2;exact I.out
theorem zg(e i j k l b2 m n:Int)(o p ho:Option Addr)(r pc s t u hc:Nat)(rg a:Int)(w:W)(v:Ending→W→Prop)(x:∀A w',(A=true↔a<b2∧(rg=a∨(e≤rg∧e≤a)))→G w.heap.size w w'→v (Xq (Bq A)) w'):Calls Tryz.prog 101 #[Aq #[N Z e,N Z i,N Z j,N Z k,L o r pc,N Z l,N Z b2,N Z m,N Z n,L p s t,L ho u hc],Aq #[N Z rg,N Z a]] w v:=by
 have B:G w.heap.size w ((w.alloc (Y #[N Z e,N Z i,N Z j,N Z k,L o r pc,N Z l,N Z b2,N Z m,N Z n,L p s t,L ho u hc] 120)).alloc (Y #[N Z rg,N Z a] 38)):=((Below.refl _ _).alloc (Rq _) _).alloc (by simp) _;have b:=D x;have c:=D B;clear x B;by_cases h:a<b2
 ·have E:¬(b2≤a):=by omega
  by_cases f:rg=a
  ·subst f;have d:=D (b.out true _ ⟨fun _=>⟨h,.inl rfl⟩,fun _=>rfl⟩ c.out);have F:(rg==rg)=true:=by simp
   clear b c;by_cases C:e≤rg;·go_enter Tryz.func101,Tryz.ntmps101;go_wp2;exact d.out
   ·go_enter Tryz.func101,Tryz.ntmps101;go_wp2;exact d.out
  ·have F:(rg==a)=false:=by simp[f]
   by_cases C:e≤rg
   ·by_cases H:e≤a;·have d:=D (b.out true _ ⟨fun _=>⟨h,.inr ⟨C,H⟩⟩,fun _=>rfl⟩ c.out);clear b c f;go_enter Tryz.func101,Tryz.ntmps101;go_wp2;exact d.out
    ·have d:=D (b.out false _ ⟨fun q=>(by cases q),fun g=>absurd g.2 (by omega)⟩ c.out);clear b c f;go_enter Tryz.func101,Tryz.ntmps101;go_wp2;exact d.out
   ·have d:=D (b.out false _ ⟨fun q=>(by cases q),fun g=>absurd g.2 (by omega)⟩ c.out);clear b c f;go_enter Tryz.func101,Tryz.ntmps101;go_wp2;exact d.out
 ·have E:b2≤a:=by omega
  have d:=D (b.out false _ ⟨fun q=>(by cases q),fun g=>absurd g.1 h⟩ c.out);clear b c;go_enter Tryz.func101,Tryz.ntmps101;go_wp2;exact d.out
theorem zk(l o p r s b2 n t:Int)(u v ho:Option Addr)(A pc B C ai hc:Nat)(h:List aL)(az:0<h.length)(w:W)(aA:cj w (L ho ai hc) h)(aj:Ending→W→Prop)(ab:∀T w',(T=true↔aU h 0=0∧∀x∈aq h 0,x.place<b2∧(x.cT=x.place∨(l≤x.cT∧l≤x.place)))→G w.heap.size w w'→aj (Xq (Bq T)) w'):Calls Tryz.prog 61 #[Aq #[N Z l,N Z o,N Z p,N Z r,L u A pc,N Z s,N Z b2,N Z n,N Z t,L v B C,L ho ai hc]] w aj:=by
 obtain⟨aP,aQ,ak,aR,al⟩:=aA;simp only[Value.slice.injEq]at ak;obtain⟨rfl,rfl,rfl⟩:=ak;obtain⟨E,F,sv,rfl,H,g1,g2⟩:=al 0 az;obtain⟨K,M,am,aB,O⟩:=id g2;obtain⟨a,an⟩:∃a,a=aq h 0:=⟨_,rfl⟩;rw[←an]at am O aB ab;subst am;simp only[Nat.zero_mul,Nat.add_zero]at H g1;have P:G w.heap.size w ((w.alloc (Y #[N Z l,N Z o,N Z p,N Z r,L u A pc,N Z s,N Z b2,N Z n,N Z t,L v B C,L (y ⟨E,F,z⟩) h.length hc] 120)).alloc (Y #[N Z (aU h 0),L K a.length M] 33)):=((Below.refl _ _).alloc (Rq _) _).alloc (by simp) _;have ac:G w.heap.size w (w.alloc (Y #[N Z l,N Z o,N Z p,N Z r,L u A pc,N Z s,N Z b2,N Z n,N Z t,L v B C,L (y ⟨E,F,z⟩) h.length hc] 120)):=(Below.refl _ _).alloc (Rq _) _;have ao:=aa ac H;have ap:=aa ac g1;have m:Row ((w.alloc (Y #[N Z l,N Z o,N Z p,N Z r,L u A pc,N Z s,N Z b2,N Z n,N Z t,L v B C,L (y ⟨E,F,z⟩) h.length hc] 120)).alloc (Y #[N Z (aU h 0),L K a.length M] 33)) w.heap.size 120 [N Z l,N Z o,N Z p,N Z r,L u A pc,N Z s,N Z b2,N Z n,N Z t,L v B C,L (y ⟨E,F,z⟩) h.length hc]:=Row.alloc (heap_alloc_new w _) _;have Q:Row ((w.alloc (Y #[N Z l,N Z o,N Z p,N Z r,L u A pc,N Z s,N Z b2,N Z n,N Z t,L v B C,L (y ⟨E,F,z⟩) h.length hc] 120)).alloc (Y #[N Z (aU h 0),L K a.length M] 33)) (w.heap.size+1) 33 [N Z (aU h 0),L K a.length M]:=heap_alloc2_new w _ _;have aS:(0:Int)<(h.length:Int):=by omega
 have U:=D ab;clear ab al H g1 g2 an ac;by_cases hz:aU h 0=0
 ·have aC:(aU h 0==0)=true:=by simp[hz]
  have aD:=D hz;obtain⟨V,ad⟩:∃V,V=((w.alloc (Y #[N Z l,N Z o,N Z p,N Z r,L u A pc,N Z s,N Z b2,N Z n,N Z t,L v B C,L (y ⟨E,F,z⟩) h.length hc] 120)).alloc (Y #[N Z (aU h 0),L K a.length M] 33)):=⟨_,rfl⟩;rw[←ad]at P m Q;have ar:=D ad;clear ad hz;generalize aU h 0=aE at*;go_enter Tryz.func61,Tryz.ntmps61;go_wp2;rw[←ar.out];clear ar ao ap;go_loopw[4](fun i wr=>∃(k:Nat),k≤a.length∧i=N Z k∧G V.heap.size V wr∧Hid (∀j,j<k→aG a j<b2∧(bP a j=aG a j∨(l≤bP a j∧l≤aG a j))))(fun i _=>a.length-(intOf i).toNat);case atStart=>exact⟨0,Nat.zero_le _,rfl,Below.refl _ _,fun j X=>by omega⟩
  case round=>
   obtain⟨k,aT,rfl,g,R⟩:=hrel;have I:G w.heap.size w wr:=P.trans (g.mono P.size);have aV:=aa g (Q.cell (i:=1) rfl);by_cases au:k<a.length
   ·obtain⟨b,av,rfl,H,g1⟩:=O k au;have ae:G wr.heap.size wr wr.drew:=(Below.refl _ _).drew;have q:=fun aF=>zg l o p r s b2 n t u v (y ⟨E,F,z⟩) A pc B C h.length hc (bP a k) (aG a k) wr.drew aF;have aW:=fun c(f:G wr.heap.size wr c)=>aa f (aa g (m.cell (i:=0) rfl));have c1:=fun c(f:G wr.heap.size wr c)=>aa f (aa g (m.cell (i:=1) rfl));have c2:=fun c(f:G wr.heap.size wr c)=>aa f (aa g (m.cell (i:=2) rfl));have c3:=fun c(f:G wr.heap.size wr c)=>aa f (aa g (m.cell (i:=3) rfl));have c4:=fun c(f:G wr.heap.size wr c)=>aa f (aa g (m.cell (i:=4) rfl));have c5:=fun c(f:G wr.heap.size wr c)=>aa f (aa g (m.cell (i:=5) rfl));have aX:=fun c(f:G wr.heap.size wr c)=>aa f (aa g (m.cell (i:=6) rfl));have aY:=fun c(f:G wr.heap.size wr c)=>aa f (aa g (m.cell (i:=7) rfl));have aZ:=fun c(f:G wr.heap.size wr c)=>aa f (aa g (m.cell (i:=8) rfl));have a0:=fun c(f:G wr.heap.size wr c)=>aa f (aa g (m.cell (i:=9) rfl));have a1:=fun c(f:G wr.heap.size wr c)=>aa f (aa g (m.cell (i:=10) rfl));have a2:=fun c(f:G wr.heap.size wr c)=>aa f (aa g (Q.cell (i:=1) rfl));have ao:∀c,G wr.heap.size wr c→c.cell? ⟨b,av+k*2,z⟩=y (N Z (bP a k)):=fun c f=>aa f (aa I H);have ap:∀c,G wr.heap.size wr c→c.cell? ⟨b,av+k*2+1,z⟩=y (N Z (aG a k)):=fun c f=>aa f (aa I g1);have a3:(0:Int)≤(k:Int):=by omega
    have a4:(k:Int)<(a.length:Int):=by omega
    have aw:=D g;have ax:=D I;have af:=D (cm (d:=pz) au);have J:Hid ((a.getD k pz).cT=bP a k∧(a.getD k pz).place=aG a k):=⟨rfl,rfl⟩;clear H g1 O g I m Q;generalize bP a k=rg at*;generalize aG a k=aH at*;go_wp2;go_region_held3(fun c=>G wr.heap.size wr c)(first|with_reducible exact ae|with_reducible exact n)(first|(go_at_call 101;refine q _ ?_;intro T aI hz b2;have n:G wr.heap.size wr aI:=ae.trans (b2.mono ae.size)));have ay:=D hz;clear q b2 hz;cases T with
     |true=>
      have aJ:Hid (∀j,j<k+1→aG a j<b2∧(bP a j=aG a j∨(l≤bP a j∧l≤aG a j))):=fun j X=>by
       by_cases e:j=k;·rw[e];have aK:bP a k=rg:=J.out.1;have aM:aG a k=aH:=J.out.2;rw[aK,aM];exact ay.out.1 rfl
       ·exact R.out j (by omega)
      clear R J af;go_wp2;go_roundw;case rel=>exact⟨k+1,by omega,by go_num,aw.out.trans (n.mono aw.out.size),aJ⟩
      case measure=>simp[intOf];omega
     |false=>have S:=D (U.out false _ ⟨fun ag=>(by cases ag),fun ah=>by have:=ah.2 _ af.out;rw[J.out.1,J.out.2]at this;have:=ay.out.2 this;cases this⟩ (ax.out.trans (n.mono ax.out.size)));clear R J af;go_wp2;exact S.out
   ·obtain rfl:k=a.length:=by omega
    have aN:Hid (∀x∈a,x.place<b2∧(x.cT=x.place∨(l≤x.cT∧l≤x.place))):=fun x aO=>by obtain⟨j,X,rfl⟩:=List.getElem_of_mem aO;have:=R.out j X;simpa[bP,aG,List.getD,X]using this
    have S:=D (U.out true _ ⟨fun _=>⟨aD.out,aN.out⟩,fun _=>rfl⟩ I);clear O R g I;go_wp2;exact S.out
 ·have aC:(aU h 0==0)=false:=by simp[hz]
  have S:=D (U.out false _ ⟨fun ag=>(by cases ag),fun ah=>absurd ah.1 hz⟩ P);clear O m Q U hz P;generalize aU h 0=aE at*;go_enter Tryz.func61,Tryz.ntmps61;go_wp2;exact S.out
noncomputable section
open Classical
def gD:MD→List UInt8|.cell u=>64::32::ae u|.div u v=>47::32::(ae u++32::ae v)
def MD.aJ:MD→Prop|.cell u=>u.aJ|.div u v=>u.aJ∧v.aJ
theorem xx(x:List UInt8):pV (32::x):=fun a b e=>by first|(cases e;decide)|(cases e;simp)|skip
theorem ug{a n:MD}(b:a.aJ)(c:n.aJ)(h:gD a=gD n):a=n:=by
 cases a with
  |cell u=>cases n with|cell v=>simp only[gD,List.cons.injEq,true_and]at h;rw[ke b.ok c.ok h]|div v w=>simp[gD]at h
  |div u v=>cases n with|cell w=>simp[gD]at h|div d f=>simp only[gD,List.cons.injEq,true_and]at h;obtain⟨rfl,e⟩:=xp u d (32::ae v) (32::ae f) b.1.ok c.1.ok (xx _) (xx _) h;simp only[List.cons.injEq,true_and]at e;rw[ke b.2.ok c.2.ok e]
theorem BP(u v:TD)(data:Int):ix u v=if uT data (.div u v)=true then[]else gD (.div u v):=by
 unfold ix;simp only[uT,gD];rcases Option.eq_none_or_eq_some u.isNum with a|⟨x,a⟩;·simp[a]
 ·rcases Option.eq_none_or_eq_some v.isNum with hc|⟨b,hc⟩;·simp[a,hc]
  ·by_cases c:b=0<;>simp[a,hc,c]
theorem th(u:TD)(data:Int):eN data u=if uT data (.cell u)=true then[]else gD (.cell u):=by
 unfold eN;simp only[uT,gD];rcases Option.eq_none_or_eq_some u.isNum with a|⟨x,a⟩;·simp[a]
 ·by_cases b:0≤x∧x<data;·simp[a,b]
  ·have:¬(0≤x∧x<data):=b;simp only[a];rw[if_neg b,if_neg (by simpa using b)]
theorem wO(data:Int)(was:Int→TD)(o:dr):fq data was o=match mB was o with|z=>[]|y d=>if uT data d=true then[]else gD d:=by
 unfold fq mB;by_cases a:o.kind=11;·rw[if_pos a,if_pos a,BP _ _ data]
 ·rw[if_neg a,if_neg a];by_cases b:o.kind=12;·rw[if_pos b,if_pos b,th]
  ·rw[if_neg b,if_neg b];by_cases c:o.kind=13;·rw[if_pos c,if_pos c,th]
   ·rw[if_neg c,if_neg c]
theorem Cy(a:MD):gD a≠[]:=by cases a<;>simp[gD]
theorem nl{l:List MD}{a:MD}(c:∀x∈l,x.aJ)(d:a.aJ):gD a∈l.map gD↔a∈l:=by
 constructor;·intro h;obtain⟨x,b,e⟩:=List.mem_map.1 h;rw[←ug (c x b) d e];exact b
 ·exact fun h=>List.mem_map_of_mem h
theorem kD{regs slots data:Int}{names:List Int}{ops:List dr}(f:∀k,k≤ops.length→∀i:Int,0≤i→i≤regs+slots→(aD regs slots names ops k i).aJ)(o:fQ regs slots ops=true)(t:0≤regs)(hs:0≤slots):∀k,k≤ops.length→bG regs slots data names ops k=(cP regs slots data names ops k).map gD∧∀a∈cP regs slots data names ops k,a.aJ:=by
 intro k;induction k with
  |zero=>intro _;exact⟨rfl,fun a b=>by simp[cP]at b⟩
  |succ k p=>
   intro u;obtain⟨e,d⟩:=p (by omega);have v:zI regs slots names ops k=mB (aD regs slots names ops k) (ops.getD k oz):=rfl;have c:aw regs slots (ops.getD k oz)=true:=pN o (by omega);have j:∀a,mB (aD regs slots names ops k) (ops.getD k oz)=y a→a.aJ:=by
    intro a b;unfold mB at b;unfold aw at c;by_cases l:(ops.getD k oz).kind=11;·rw[if_neg (by omega),if_pos (by omega)]at c;simp only[Bool.and_eq_true,below,decide_eq_true_eq]at c;rw[if_pos l]at b;cases b;exact⟨f k (by omega) _ (by omega) (by omega),f k (by omega) _ (by omega) (by omega)⟩
    ·rw[if_neg l]at b;by_cases m:(ops.getD k oz).kind=12;·rw[if_neg (by omega),if_neg (by omega),if_pos (by omega)]at c;simp only[Bool.and_eq_true,below,decide_eq_true_eq]at c;rw[if_pos m]at b;cases b;exact f k (by omega) _ (by omega) (by omega)
     ·rw[if_neg m]at b;by_cases n:(ops.getD k oz).kind=13;·rw[if_neg (by omega),if_neg (by omega),if_pos (by omega)]at c;simp only[Bool.and_eq_true,below,decide_eq_true_eq]at c;rw[if_pos n]at b;cases b;exact f k (by omega) _ (by omega) (by omega)
      ·rw[if_neg n]at b;cases b
   rw[qW,wO,e];have r:cP regs slots data names ops (k+1)=match mB (aD regs slots names ops k) (ops.getD k oz)with|y a=>if uT data a=true∨a∈cP regs slots data names ops k then cP regs slots data names ops k else cP regs slots data names ops k++[a]|z=>cP regs slots data names ops k:=rfl;rw[r];cases b:mB (aD regs slots names ops k) (ops.getD k oz)with
    |none=>exact⟨by simp only;rw[gP],d⟩
    |some a=>
     simp only;by_cases g:uT data a=true;·rw[if_pos g,if_pos (.inl g),gP];exact⟨rfl,d⟩
     ·rw[if_neg g];by_cases h:a∈cP regs slots data names ops k;·rw[if_pos (.inr h),zD ((nl d (j a b)).2 h)];exact⟨rfl,d⟩
      ·rw[if_neg (by simp[g,h]),wz (Cy a) (fun q=>h ((nl d (j a b)).1 q))];refine⟨by simp,fun x s=>?_⟩;rcases List.mem_append.1 s with q|q;·exact d x q
       ·simp at q;rw[q];exact j a b
theorem kA:∀{l n:List MD},(∀a∈l,a.aJ)→(∀a∈n,a.aJ)→l.map gD=n.map gD→l=n|[],[],_,_,_=>rfl|[],c::n,_,_,h=>by simp at h|x::l,[],_,_,h=>by simp at h|x::l,c::n,d,e,h=>by simp only[List.map_cons,List.cons.injEq]at h;rw[ug (d x (by simp)) (e c (by simp)) h.1,kA (fun a b=>d a (by simp[b])) (fun a b=>e a (by simp[b])) h.2]
section
variable(p q:a8)(h:List aL)(b:Nat)
def uQ:E7:=gK (fs p h b) (b_ p.blocks (aU h b).toNat)
def tq:E7:=gK (ft q h b) (b_ q.blocks b)
def dG:Int:=if dK p.regs 0 (ax p.regs 0) (bV p h b)=true∨dK q.regs q.slots (aY (aq h b) (q.regs+q.slots).toNat) (aj q.blocks b)=true then 5 else if bG p.regs 0 p.data (ax p.regs 0) (bV p h b) (bV p h b).length≠bG q.regs q.slots q.data (aY (aq h b) (q.regs+q.slots).toNat) (aj q.blocks b) (aj q.blocks b).length then 10 else if fs p h b p.regs≠ft q h b (q.regs+q.slots)then 11 else if(uQ p h b).kind≠(tq q h b).kind∨cY (uQ p h b).on≠cY (tq q h b).on then 12 else if¬(∀i,i<(uQ p h b).next.length→i<(tq q h b).next.length→aU h ((tq q h b).next.getD i 0).toNat=(uQ p h b).next.getD i 0)then 13 else if¬(∀d∈(tq q h b).next,∀x∈aq h d.toNat,fs p h b x.cT=ft q h b x.place)then 14 else 0
end
theorem zO{x a:List UInt8}(h:ay x=ay a):x=a:=by have:=congrArg ByteArray.toList h;simpa[ay]using this
theorem qD(was:Int→TD)(e:fw)(a:e.kind=1∨e.kind=2∨e.kind=3):(∃x,gK was e=⟨1,z,[x]⟩∧(iI e (was e.r)).kind=1∧(iI e (was e.r)).x=x)∨(gK was e=⟨2,y (was e.r),[e.x,e.y]⟩∧iI e (was e.r)=e∧e.kind=2)∨(gK was e=⟨3,y (was e.r),[]⟩∧iI e (was e.r)=e∧e.kind=3):=by
 rcases a with a|a|a
 ·refine .inl ⟨e.x,?_,?_,?_⟩;·unfold gK;rw[if_neg (by omega),if_pos a]
  ·unfold iI;rw[if_neg (by omega)];exact a
  ·unfold iI;rw[if_neg (by omega)]
 ·cases b:(was e.r).isNum with
   |none=>
    refine .inr (.inl ⟨?_,?_,a⟩);·unfold gK;rw[if_neg (by omega),if_neg (by omega),b]
    ·unfold iI;rw[if_pos a,b]
   |some n=>
    by_cases c:n=0
    ·refine .inl ⟨e.y,?_,?_,?_⟩;·unfold gK;rw[if_neg (by omega),if_neg (by omega),b];simp[c]
     ·unfold iI;rw[if_pos a,b]
     ·unfold iI;rw[if_pos a,b];simp[c]
    ·refine .inl ⟨e.x,?_,?_,?_⟩;·unfold gK;rw[if_neg (by omega),if_neg (by omega),b];simp[c]
     ·unfold iI;rw[if_pos a,b]
     ·unfold iI;rw[if_pos a,b];simp[c]
 ·refine .inr (.inr ⟨?_,?_,a⟩);·unfold gK;rw[if_pos a]
  ·unfold iI;rw[if_neg (by omega)]
theorem xX(p q:a8)(h:List aL)(b:Nat)(m:bG p.regs 0 p.data (ax p.regs 0) (bV p h b) (bV p h b).length=bG q.regs q.slots q.data (aY (aq h b) (q.regs+q.slots).toNat) (aj q.blocks b) (aj q.blocks b).length↔cP p.regs 0 p.data (ax p.regs 0) (bV p h b) (bV p h b).length=cP q.regs q.slots q.data (aY (aq h b) (q.regs+q.slots).toNat) (aj q.blocks b) (aj q.blocks b).length)(w:(b_ p.blocks (aU h b).toNat).kind=1∨(b_ p.blocks (aU h b).toNat).kind=2∨(b_ p.blocks (aU h b).toNat).kind=3)(A:(b_ q.blocks b).kind=1∨(b_ q.blocks b).kind=2∨(b_ q.blocks b).kind=3)(t:(fs p h b (b_ p.blocks (aU h b).toNat).r).aJ)(u:(ft q h b (b_ q.blocks b).r).aJ):dG p q h b=hH p q h b:=by
 unfold dG hH;by_cases c1:dK p.regs 0 (ax p.regs 0) (bV p h b)=true∨dK q.regs q.slots (aY (aq h b) (q.regs+q.slots).toNat) (aj q.blocks b)=true;·rw[if_pos c1,if_pos c1]
 rw[if_neg c1,if_neg c1];by_cases c2:¬cP p.regs 0 p.data (ax p.regs 0) (bV p h b) (bV p h b).length=cP q.regs q.slots q.data (aY (aq h b) (q.regs+q.slots).toNat) (aj q.blocks b) (aj q.blocks b).length;·rw[if_pos (fun e=>c2 (m.1 e)),if_pos c2]
 have c2:=Classical.not_not.1 c2;have k1:¬(bG p.regs 0 p.data (ax p.regs 0) (bV p h b) (bV p h b).length≠bG q.regs q.slots q.data (aY (aq h b) (q.regs+q.slots).toNat) (aj q.blocks b) (aj q.blocks b).length):=fun e=>e (m.2 c2);have k2:¬(cP p.regs 0 p.data (ax p.regs 0) (bV p h b) (bV p h b).length≠cP q.regs q.slots q.data (aY (aq h b) (q.regs+q.slots).toNat) (aj q.blocks b) (aj q.blocks b).length):=fun e=>e c2;rw[if_neg k1,if_neg k2];by_cases c3:¬fs p h b p.regs=ft q h b (q.regs+q.slots);·rw[if_pos c3,if_pos c3]
 have c3:=Classical.not_not.1 c3;have o:¬(fs p h b p.regs≠ft q h b (q.regs+q.slots)):=fun e=>e c3;rw[if_neg o,if_neg o];clear c1 c2 c3 m k1 k2 o;unfold nB;unfold eu iw;rcases qD (fs p h b) (b_ p.blocks (aU h b).toNat) w with⟨x,e1,e2,e3⟩|⟨e1,e2,e3⟩|⟨e1,e2,e3⟩<;>rcases qD (ft q h b) (b_ q.blocks b) A with⟨r,a,c,f⟩|⟨a,c,f⟩|⟨a,c,f⟩
 ·have g1:uQ p h b=⟨1,z,[x]⟩:=e1;have g2:tq q h b=⟨1,z,[r]⟩:=a;rw[g1,g2,e2,e3,c,f];simp only[cY,ne_eq,not_true_eq_false,or_self,if_false];by_cases d1:aU h r.toNat=x
  ·by_cases d2:∀g∈aq h r.toNat,fs p h b g.cT=ft q h b g.place;·simp[d1,d2]
   ·simp[d1,d2]
  ·simp[d1]
 ·have g1:uQ p h b=⟨1,z,[x]⟩:=e1;have g2:tq q h b=_:=a;rw[g1,g2,e2,c,f];simp
 ·have g1:uQ p h b=⟨1,z,[x]⟩:=e1;have g2:tq q h b=_:=a;rw[g1,g2,e2,c,f];simp
 ·have g1:uQ p h b=_:=e1;have g2:tq q h b=_:=a;rw[g1,g2,e2,e3,c];simp
 ·have g1:uQ p h b=_:=e1;have g2:tq q h b=_:=a;rw[g1,g2,e2,e3,c,f];simp only[cY];by_cases j:fs p h b (b_ p.blocks (aU h b).toNat).r=ft q h b (b_ q.blocks b).r
  ·rw[j];by_cases d1:aU h (b_ q.blocks b).x.toNat=(b_ p.blocks (aU h b).toNat).x
   ·by_cases d2:aU h (b_ q.blocks b).y.toNat=(b_ p.blocks (aU h b).toNat).y
    ·have k:(∀i,i<([(b_ p.blocks (aU h b).toNat).x,(b_ p.blocks (aU h b).toNat).y]:List Int).length→i<([(b_ q.blocks b).x,(b_ q.blocks b).y]:List Int).length→aU h (([(b_ q.blocks b).x,(b_ q.blocks b).y]:List Int).getD i 0).toNat=([(b_ p.blocks (aU h b).toNat).x,(b_ p.blocks (aU h b).toNat).y]:List Int).getD i 0):=by
      intro i B _;have:i=0∨i=1:=by simp at B;omega
      rcases this with rfl|rfl;·simpa using d1
      ·simpa using d2
     rw[if_neg (by simp),if_neg (fun n=>n k)];simp only[ne_eq,not_true_eq_false,and_false,if_false,d1,d2,true_and,true_or];by_cases d3:∀g∈aq h (b_ q.blocks b).x.toNat,fs p h b g.cT=ft q h b g.place
     ·by_cases d4:∀g∈aq h (b_ q.blocks b).y.toNat,fs p h b g.cT=ft q h b g.place
      ·have l:∀d∈([(b_ q.blocks b).x,(b_ q.blocks b).y]:List Int),∀x∈aq h d.toNat,fs p h b x.cT=ft q h b x.place:=by
        intro d v;simp at v;rcases v with rfl|rfl;·exact d3
        ·exact d4
       rw[if_neg (fun n=>n l),if_neg (by omega),if_neg (fun n=>n d3),if_neg (fun n=>n d4)]
      ·rw[if_pos (fun l=>d4 (l _ (by simp))),if_neg (by omega),if_neg (fun n=>n d3),if_pos d4]
     ·rw[if_pos (fun l=>d3 (l _ (by simp))),if_neg (by omega),if_pos d3]
    ·rw[if_neg (by simp),if_pos (fun k=>d2 (by simpa using k 1 (by simp) (by simp)))];simp[d1,d2]
   ·rw[if_neg (by simp),if_pos (fun k=>d1 (by simpa using k 0 (by simp) (by simp)))];simp[d1]
  ·have s:ay (ae (fs p h b (b_ p.blocks (aU h b).toNat).r))≠ay (ae (ft q h b (b_ q.blocks b).r)):=fun e=>j (ke t.ok u.ok (zO e));rw[if_pos (.inr s)];simp[j]
 ·have g1:uQ p h b=_:=e1;have g2:tq q h b=_:=a;rw[g1,g2,e2,e3,c,f];simp
 ·have g1:uQ p h b=_:=e1;have g2:tq q h b=_:=a;rw[g1,g2,e2,e3,c];simp
 ·have g1:uQ p h b=_:=e1;have g2:tq q h b=_:=a;rw[g1,g2,e2,e3,c,f];simp
 ·have g1:uQ p h b=_:=e1;have g2:tq q h b=_:=a;rw[g1,g2,e2,e3,c,f];simp only[cY];by_cases j:fs p h b (b_ p.blocks (aU h b).toNat).r=ft q h b (b_ q.blocks b).r;·rw[j];simp
  ·have s:ay (ae (fs p h b (b_ p.blocks (aU h b).toNat).r))≠ay (ae (ft q h b (b_ q.blocks b).r)):=fun e=>j (ke t.ok u.ok (zO e));rw[if_pos (.inr s)];simp[j]
end
theorem uH(s:ByteArray)(d:Int)(w:W)(hs:s.size≤maxLen)(aw:TabW w)(ag:Ending→W→Prop)(ah:∀l ak v w',eV s d l ak→w'.ownsRow w.heap.size 9 1 v l.length (dq l)→G w.heap.size w w'→ag (Xq (Uq #[v,N Z ak])) w'):Calls Tryz.prog 119 #[Tq s,N Z d] w ag:=by
 have hc:=gw s w hs;have h:=D ah;clear ah;go_enter Tryz.func119,Tryz.ntmps119;go_wp2_with fail;refine hc.mono ?_;clear hc;rintro e w1⟨aA,x⟩;rcases aA with⟨p,v,aB,rfl,ho,X,C,aa⟩|⟨E,rfl⟩
 ·obtain⟨k,m,rfl⟩:=af ho.row;have al:aB.length=p.blocks.length:=by rw[←X,bD]
  have K:=ho.rd;rw[X]at K;rw[al]at K⊢;obtain⟨aI,aJ,aK,aL⟩:=bF C;have ab:G w.heap.size w (w1.alloc (Y #[N Z p.args,N Z p.regs,N Z p.data,N Z p.slots,L k p.blocks.length m] 25)):=x.alloc x.size _;have am:G w1.heap.size w1 (w1.alloc (Y #[N Z p.args,N Z p.regs,N Z p.data,N Z p.slots,L k p.blocks.length m] 25)):=(Below.refl _ _).alloc (Rq _) _;have an:=K.ab am;have ao:Row (w1.alloc (Y #[N Z p.args,N Z p.regs,N Z p.data,N Z p.slots,L k p.blocks.length m] 25)) w1.heap.size 25 [N Z p.args,N Z p.regs,N Z p.data,N Z p.slots,L k p.blocks.length m]:=heap_alloc_new w1 _;have ap:=vQ p.args p.regs p.data p.slots k p.blocks.length m d (w1.alloc (Y #[N Z p.args,N Z p.regs,N Z p.data,N Z p.slots,L k p.blocks.length m] 25));unfold dy;clear ho X K x am al;go_wp2_with fail;refine ap.mono ?_;rintro e aq⟨rfl,b2⟩;have j:=ao.ab b2;have M:=an.ab b2;have a:G w.heap.size w aq:=ab.trans (b2.mono ab.size);have aM:=j.cell (i:=0) rfl;have aN:=j.cell (i:=1) rfl;have aO:=j.cell (i:=2) rfl;have aP:=j.cell (i:=3) rfl;have aQ:=j.cell (i:=4) rfl;clear ap b2 ao an ab;by_cases F:0≤d∧d<p.blocks.length
  ·obtain⟨aC,aR⟩:=id F;obtain⟨b,rfl⟩:=Int.eq_ofNat_of_zero_le aC;obtain⟨n,E⟩:=Int.eq_ofNat_of_zero_le (show 0≤p.regs+p.slots by omega);have aE:b<p.blocks.length:=by omega
   have H:(decide ((0:Int)≤(b:Int))&&decide ((b:Int)<(p.blocks.length:Int)))=true:=by simp;omega
   rw[H];have ar:=D F;have O:=fun aF=>mw p (L k p.blocks.length m) b n E.symm C aE aq M (aw.ab a) aF;unfold dy at O;clear F H E;go_wp2_with fail;refine O _ ?_ ?_;·intro I v A f c ms ac o;obtain⟨B,Lo,P,cap,ps,pc,mv,aG,rfl,g⟩:=ac;have r:Hid (eV s b [] 5):=.inr ⟨p,C,aa,.inr ⟨ar.out,.inl ⟨rfl,rfl,by simpa using I⟩⟩⟩;obtain⟨Q,R,S,rfl⟩:=g.pc.slice;obtain⟨T,U,rfl⟩:=af g.pS;have J:G w.heap.size w (A.alloc (Y #[L (y ⟨P,0,z⟩) n cap,N Z (ai c),N Z (az c),L Q R S,N Z c.size,Tq (ay (ae c)),L T ms.length U,Bq true,N Z p.regs,N Z p.data] 181)):=(a.trans (o.mono a.size)).alloc (Nat.le_trans a.size o.size) _;have t:=D (h.out [] 5 (L z 0 0) _ r.out (World.ownsRow_nil _ _ _ _) J);unfold yY;clear I g a o O j M h J;go_wp2;exact t.out
   ·intro I v A ac o;obtain⟨B,Lo,P,cap,ps,pc,mv,aG,rfl,g⟩:=ac;obtain⟨Q,R,S,rfl⟩:=g.pc.slice;obtain⟨T,U,aH⟩:=af g.pS;subst aH;obtain⟨u,ad⟩:∃u,u=bG p.regs p.slots p.data (ax p.regs p.slots) (aj p.blocks b) (aj p.blocks b).length:=⟨_,rfl⟩;have r:Hid (eV s b u 0):=.inr ⟨p,C,aa,.inr ⟨ar.out,.inr ⟨rfl,by simpa using I,by rw[ad];simp⟩⟩⟩;obtain⟨c,hc⟩:∃c,aD p.regs p.slots (ax p.regs p.slots) (aj p.blocks b) (aj p.blocks b).length (n:Int)=c:=⟨_,rfl⟩;rw[←ad]at g⊢;unfold yY;rw[hc];have au:G A.heap.size A (A.alloc (Y #[L (y ⟨P,0,z⟩) n cap,N Z (ai c),N Z (az c),L Q R S,N Z c.size,Tq (ay (ae c)),L T u.length U,Bq false,N Z p.regs,N Z p.data] 181)):=(Below.refl _ _).alloc (Rq _) _;have J:G w.heap.size w (A.alloc (Y #[L (y ⟨P,0,z⟩) n cap,N Z (ai c),N Z (az c),L Q R S,N Z c.size,Tq (ay (ae c)),L T u.length U,Bq false,N Z p.regs,N Z p.data] 181)):=(a.trans (o.mono a.size)).alloc (Nat.le_trans a.size o.size) _;have V:=g.next au;have av:=a_ V.pS (show w.heap.size≤Lo by have:=V.hP;have:=V.kX;have:=a.size;omega);have t:=D (h.out u 0 _ _ r.out av J);clear hc ad I g V au J O j M h av a o;generalize u.length=aS at*;go_wp2;exact t.out
  ·have r:Hid (eV s d [] 4):=.inr ⟨p,C,aa,.inl ⟨rfl,rfl,F⟩⟩;have t:=D (h.out [] 4 (L z 0 0) _ r.out (World.ownsRow_nil _ _ _ _) a);clear a M j h;have H:(decide (0≤d)&&decide (d<(p.blocks.length:Int)))=false:=by
    rw[Bool.and_eq_false_iff];by_cases q:0≤d;·exact .inr (by simp;omega)
    ·exact .inl (by simp;omega)
   rw[H];clear F H;go_wp2;exact t.out
 ·have r:Hid (eV s d [] 1):=.inl ⟨rfl,rfl,E⟩;have t:=D (h.out [] 1 (L z 0 0) _ r.out (World.ownsRow_nil _ _ _ _) (x.alloc x.size (Y #[N Z 0,N Z 0,N Z 0,N Z 0,L z 0 0] 25)));clear x E h;go_wp2;exact t.out
theorem zd(s:ByteArray)(b:Int)(w:W)(hs:s.size≤maxLen)(g:TabW w)(c:Ending→W→Prop)(d:∀l a v w',eV s b l a→w'.ownsRow w.heap.size 9 1 v l.length (dq l)→G w.heap.size w w'→c (Xq (Uq #[v,N Z a])) w'):Calls Tryz.prog 88 #[Tq s,N Z b] w c:=by have hc:=fun h=>uH s b w hs g h;go_enter Tryz.func88,Tryz.ntmps88;go_wp2_with fail;refine hc _ ?_;intro l a v w1 e ho f;obtain⟨j,k,rfl⟩:=af ho;have i:=D (d l a _ w1 e ho f);clear hc e ho f d;generalize l.length=m at*;go_wp2;exact i.out
end Go.Proofs.YtblhmeidbjigaabGreatDoor
