import Derived.Test.YtblhmeidbjigaabGreatDoorT08
set_option linter.unusedSimpArgs false
set_option linter.unusedVariables false
set_option maxRecDepth 100000
set_option maxHeartbeats 8000000
namespace Go.Proofs.YtblhmeidbjigaabGreatDoor
open Go.RowKit
open Go.Value renaming int→N,slice→L,string→Tq,agg→Aq,bool→Bq,tuple→Uq
open Go.IntKind renaming i64→Z
open Go.Obj renaming cells→Y
open Go.Ending renaming returned→Xq
open Option renaming none→z,some→y
open Nat renaming le_refl→Rq
open Go renaming World→W,Value→Vq
open Go.RowKit renaming Below→G
def nk(n:Int)(k:Int)(a:Nat):Nat:=min a ((n-k+3)/4).toNat
def eQ(s:ByteArray):Nat→Int|0=>7|i+1=>eQ s i+1+4*nk s.size (eQ s i+1) (ah 0 s (eQ s i)).toNat+4
def fR(s:ByteArray):Nat→List aN|0=>[]|i+1=>fR s i++[sY 0 s (eQ s i) (nk s.size (eQ s i+1) (ah 0 s (eQ s i)).toNat)]
theorem Da(n k:Int)(a:Nat):nk n k a≤a:=by unfold nk;omega
theorem C_{n k:Int}{b j:Nat}(e:j≤b)(a:j=0∨k+4*((j:Int)-1)<n)(c:¬((j:Int)<b∧k+4*(j:Int)<n)):j=nk n k b:=by
 unfold nk;by_cases d:(j:Int)<b;·have:¬k+4*(j:Int)<n:=fun h=>c ⟨d,h⟩;rcases a with a|a<;>omega
 ·rcases a with a|a<;>omega
theorem Dh(s:ByteArray)(i:Nat):7≤eQ s i∧eQ s i≤7+1025*i:=by induction i with|zero=>simp[eQ]|succ k a=>have b:=ig s (eQ s k);have c:=Da s.size (eQ s k+1) (ah 0 s (eQ s k)).toNat;simp only[eQ];omega
structure nN(s:ByteArray)(i:Nat):Prop where
 done:∀j,j<i→(j:Int)<ah 0 s 6∧eQ s j<s.size
 stop:¬((i:Int)<ah 0 s 6∧eQ s i<s.size)
def fH(s:ByteArray)(i:Nat):a8:=⟨ah 0 s 2,ah 0 s 3,ah 0 s 4,ah 0 s 5,fR s i⟩
theorem tN{w a wr b:W}{k:Option Addr}{l f:Nat}{h:Option Addr}{c:List (aN×Vq)}{e1 e2 e3 e4:Int}{ps:List dr}{m:Vq}{n o:Obj}(p:aC a (w.heap.size+2) (L k c.length l) c)(d:G a.heap.size a wr)(q:wr.ownsRow (a.heap.size+1) 36 4 (L h ps.length f) ps.length (bB ps))(t:G (w.heap.size+1) (w.alloc n) a)(hz:w.heap.size+2≤a.heap.size)(u:b.ownsRow (w.heap.size+2) 42 5 m (c.length+1) (bu c++[L h ps.length f,N Z e1,N Z e2,N Z e3,N Z e4]))(r:(wr.alloc o).grownBy b (Value.slice k c.length l).ownBlock):aC b (w.heap.size+2) m (c++[(⟨ps,⟨e1,e2,e3,e4⟩⟩,L h ps.length f)])∧G (w.heap.size+2) a b∧G (w.heap.size+1) (w.alloc n) b∧w.heap.size+2≤b.heap.size:=by have A:=d.size;have s:=p.below d (Rq _);have i:=(((Below.refl (w.heap.size+2) wr).alloc (by omega) o).grown r (by simp;omega) (fun g j=>(s.row.lt g j).1));have B:=i.size;refine⟨?_,(d.mono (by omega)).trans i,(t.trans (d.mono (by omega))).trans (i.mono (by omega)),by omega⟩;refine(s.alloc _).snoc ((a_ q (by omega)).alloc _) ?_ r u;intro v x g j e;have C:=((p.each v x).lt g j).2;have E:=(q.lt g e).1;omega
theorem wZ(s:ByteArray)(w:W)(hs:s.size≤maxLen)(ai:Ending→W→Prop)(bt:∀v f w' i,nN s i→aC w' w.heap.size v f→dT f=fR s i→aB (fH s i)=true→ay (aK (fH s i))=s→G w.heap.size w w'→ai (Xq (Uq #[Aq #[N Z (ah 0 s 2),N Z (ah 0 s 3),N Z (ah 0 s 4),N Z (ah 0 s 5),v],Bq true])) w')(bu:∀w' i,nN s i→(aB (fH s i)=true→ay (aK (fH s i))≠s)→G w.heap.size w w'→ai (Xq (Uq #[Aq #[N Z 0,N Z 0,N Z 0,N Z 0,L z 0 0],Bq false])) w'):Calls Tryz.prog 72 #[Tq s] w ai:=by
 obtain⟨bv,bw,bx,bz,bA⟩:=info_parts Tryz.pP;obtain⟨bU,bV,bW,bX,bY⟩:=info_parts Tryz.uU;have bC:=ig s 6;have bZ:=hs;unfold maxLen at bZ;obtain⟨n,bD⟩:=Int.eq_ofNat_of_zero_le bC.1;have bE:Hid (ah 0 s 6=n):=bD;have bF:Hid (∀i,fH s i=⟨ah 0 s 2,ah 0 s 3,ah 0 s 4,ah 0 s 5,fR s i⟩):=fun i=>rfl;generalize b0:ah 0 s 2=B at*;generalize b1:ah 0 s 3=C at*;generalize b2:ah 0 s 4=E at*;generalize b3:ah 0 s 5=F at*;have X:Hid (∀v f w' i,nN s i→aC w' w.heap.size v f→dT f=fR s i→aB (fH s i)=true→ay (aK (fH s i))=s→G w.heap.size w w'→ai (Xq (Uq #[Aq #[N Z B,N Z C,N Z E,N Z F,v],Bq true])) w'):=bt;have H:Hid (∀w' i,nN s i→(aB (fH s i)=true→ay (aK (fH s i))≠s)→G w.heap.size w w'→ai (Xq (Uq #[Aq #[N Z 0,N Z 0,N Z 0,N Z 0,L z 0 0],Bq false])) w'):=bu;clear bt bu;go_enter Tryz.func72,Tryz.ntmps72;go_wp2_with(go_at_call 111;refine(kZ _ _ _ hs).mono ?_;rintro e w'⟨rfl,rfl⟩);have cu:n≤255:=by omega
 clear bC bD b0 b1 b2 b3;go_loopw[6,7](fun p i wr=>∃(k:Nat)(v:Vq)(f:List (aN×Vq)),k≤n∧i=N Z k∧p=N Z (eQ s k)∧wr.cell? ⟨w.heap.size+1,0,z⟩=y (N Z B)∧wr.cell? ⟨w.heap.size+1,1,z⟩=y (N Z C)∧wr.cell? ⟨w.heap.size+1,2,z⟩=y (N Z E)∧wr.cell? ⟨w.heap.size+1,3,z⟩=y (N Z F)∧wr.cell? ⟨w.heap.size+1,4,z⟩=y v∧wr.frozen? ⟨w.heap.size+1,4,z⟩=false∧aC wr (w.heap.size+2) v f∧Hid (dT f=fR s k)∧Hid (f.length=k)∧Hid (∀j,j<k→(j:Int)<ah 0 s 6∧eQ s j<s.size)∧G (w.heap.size+1) (w.alloc (Y #[N Z 0,N Z 0,N Z 0,N Z 0,L z 0 0] 25)) wr∧w.heap.size+2≤wr.heap.size)(fun _ i _=>n-(intOf i).toNat);case atStart=>refine⟨0,L z 0 0,[],Nat.zero_le _,rfl,rfl,by simp,by simp,by simp,by simp,by simp,by simp,iA _ _,rfl,rfl,fun j bG=>by omega,?_,by simp⟩;exact(Below.refl _ _).alloc (by simp) _
 case round=>
  obtain⟨k,v,f,cv,rfl,rfl,ab,ac,ad,ae,S,aj,x,aE,av,a5,t,hz⟩:=hrel;obtain⟨I,J,rfl⟩:=af x.row;have a6:w.heap.size+1<wr.heap.size:=by omega
  have bH:w.heap.size<wr.heap.size:=by omega
  have cw:=Dh s k;by_cases aT:(k:Int)<n∧eQ s k<s.size;case neg=>
   have aw:Hid (nN s k):=⟨a5.out,by rw[bE.out];exact aT⟩;have a7:(k:Int)<n→¬(eQ s k<s.size):=fun T ak=>aT ⟨T,ak⟩;clear aT a5;have aU:wr.cell? ⟨w.heap.size,0,z⟩=y (N Z 0):=(t.cell (by simp)).trans (by simp);have aV:wr.cell? ⟨w.heap.size,1,z⟩=y (N Z 0):=(t.cell (by simp)).trans (by simp);have aW:wr.cell? ⟨w.heap.size,2,z⟩=y (N Z 0):=(t.cell (by simp)).trans (by simp);have aX:wr.cell? ⟨w.heap.size,3,z⟩=y (N Z 0):=(t.cell (by simp)).trans (by simp);have aY:wr.cell? ⟨w.heap.size,4,z⟩=y (L z 0 0):=(t.cell (by simp)).trans (by simp);have aZ:Hid (∀o,wr.frozen? ⟨w.heap.size,o,z⟩=false):=fun o=>(t.frozen (by simp)).trans (by simp);have ax:=x.rd;rw[aE.out]at ax;have a0:=Below.under t;have bI:=bF.out k;have a8:Hid (fH s k=⟨B,C,E,F,fR s k⟩):=bI;clear bI bF;have a1:=nX B C E F _ _ wr ax;have bJ:Hid (aB ⟨B,C,E,F,fR s k⟩=aB (fH s k)):=by show _=_;rw[a8.out]
   have az:Hid (aB (fH s k)=true→∀(w1:W),bm w1 (L I f.length J) (fR s k)→Calls Tryz.prog 71 #[Aq #[N Z B,N Z C,N Z E,N Z F,L I f.length J]] w1 fun e w'=>e=Xq (Tq (ay (aK (fH s k))))∧G w1.heap.size w1 w'):=by intro m w1 T;have:=tT (fH s k) (L I f.length J) w1 (by rw[a8.out];exact T) m;rw[a8.out]at this⊢;exact this
   by_cases a9:(k:Int)<n
   ·have b4:=a7 a9;clear a7;go_wp2_with fail;refine a1.mono ?_;clear a1;rintro e w1⟨rfl,c⟩;rw[bJ.out];have al:=aa c aU;have am:=aa c aV;have an:=aa c aW;have ao:=aa c aX;have K:=aa c aY;have l:Hid (∀o,w1.frozen? ⟨w.heap.size,o,z⟩=false):=fun o=>(c.frozen (p:=⟨w.heap.size,o,z⟩) bH).trans (aZ.out o);have aF:=l.out 0;have aG:=l.out 1;have aH:=l.out 2;have aI:=l.out 3;have aJ:=l.out 4;have M:=aa c ab;have O:=aa c ac;have P:=aa c ad;have Q:=aa c ae;have R:=aa c S;have b5:=c.size;have bK:w.heap.size+1<w1.heap.size:=by omega
    have A:w.heap.size<w1.heap.size:=by omega
    have h:=a0.trans (c.mono (by omega));have aL:=x.below c (Rq _);have aM:=ax.ab c;clear aU aV aW aX aY aZ ab ac ad ae S aj t x c ax a0;cases m:aB (fH s k)
    ·have ap:=fun w'=>H.out w' k aw.out (by simp[m]);clear H X az;go_wp2;refine bodyPost_ret (v:=Uq #[Aq #[N Z 0,N Z 0,N Z 0,N Z 0,L z 0 0],Bq false]) (by simp[results,Tryz.results72,go_sem,al,am,an,ao,K]) rfl (ap _ ?_);repeat(refine Below.setCell ?_ (by simp) _)
     exact h
    have aO:=az.out m w1 aM;clear az;go_wp2_with fail;refine aO.mono ?_;clear aO;rintro e q⟨rfl,b⟩;have u0:=aa b al;have u1:=aa b am;have u2:=aa b an;have u3:=aa b ao;have u4:=aa b K;have b6:=(b.frozen (p:=⟨w.heap.size,0,z⟩) A).trans aF;have g1:=(b.frozen (p:=⟨w.heap.size,1,z⟩) A).trans aG;have g2:=(b.frozen (p:=⟨w.heap.size,2,z⟩) A).trans aH;have b7:=(b.frozen (p:=⟨w.heap.size,3,z⟩) A).trans aI;have b8:=(b.frozen (p:=⟨w.heap.size,4,z⟩) A).trans aJ;have b9:=aa b M;have b_:=aa b O;have ca:=aa b P;have cb:=aa b Q;have cc:=aa b R;have aP:=h.trans (b.mono (by omega));have U:=aL.below b (Rq _);clear al am an ao K l aF aG aH aI aJ M O P Q R h aL aM b;by_cases u:ay (aK (fH s k))=s
    ·have a_:Hid (∀w',aC w' w.heap.size (L I f.length J) f→G w.heap.size w w'→ai (Xq (Uq #[Aq #[N Z B,N Z C,N Z E,N Z F,L I f.length J],Bq true])) w'):=fun w' T ak=>X.out _ f w' k aw.out T aE.out m u ak;rw[u];clear u m H X;go_wp2;refine bodyPost_ret (v:=Uq #[Aq #[N Z B,N Z C,N Z E,N Z F,L I f.length J],Bq true]) (by simp[results,Tryz.results72,go_sem,u0,u1,u2,u3,u4]) rfl (a_.out _ ?_ ?_)
     ·refine aC.base (base:=w.heap.size+2) ?_ (by omega);repeat(refine aC.set ?_ (by simp) _)
      exact U
     ·repeat(refine Below.setCell ?_ (by simp) _)
      exact aP
    ·have ap:=fun w'=>H.out w' k aw.out (fun _=>u);have cd:=lW u;generalize ay (aK (fH s k))=ce at*;clear H X u m;go_wp2;refine bodyPost_ret (v:=Uq #[Aq #[N Z 0,N Z 0,N Z 0,N Z 0,L z 0 0],Bq false]) (by simp[results,Tryz.results72,go_sem,u0,u1,u2,u3,u4]) rfl (ap _ ?_);repeat(refine Below.setCell ?_ (by simp) _)
     exact aP
   ·clear a7;go_wp2_with fail;refine a1.mono ?_;clear a1;rintro e w1⟨rfl,c⟩;rw[bJ.out];have al:=aa c aU;have am:=aa c aV;have an:=aa c aW;have ao:=aa c aX;have K:=aa c aY;have l:Hid (∀o,w1.frozen? ⟨w.heap.size,o,z⟩=false):=fun o=>(c.frozen (p:=⟨w.heap.size,o,z⟩) bH).trans (aZ.out o);have aF:=l.out 0;have aG:=l.out 1;have aH:=l.out 2;have aI:=l.out 3;have aJ:=l.out 4;have M:=aa c ab;have O:=aa c ac;have P:=aa c ad;have Q:=aa c ae;have R:=aa c S;have b5:=c.size;have bK:w.heap.size+1<w1.heap.size:=by omega
    have A:w.heap.size<w1.heap.size:=by omega
    have h:=a0.trans (c.mono (by omega));have aL:=x.below c (Rq _);have aM:=ax.ab c;clear aU aV aW aX aY aZ ab ac ad ae S aj t x c ax a0;cases m:aB (fH s k)
    ·have ap:=fun w'=>H.out w' k aw.out (by simp[m]);clear H X az;go_wp2;refine bodyPost_ret (v:=Uq #[Aq #[N Z 0,N Z 0,N Z 0,N Z 0,L z 0 0],Bq false]) (by simp[results,Tryz.results72,go_sem,al,am,an,ao,K]) rfl (ap _ ?_);repeat(refine Below.setCell ?_ (by simp) _)
     exact h
    have aO:=az.out m w1 aM;clear az;go_wp2_with fail;refine aO.mono ?_;clear aO;rintro e q⟨rfl,b⟩;have u0:=aa b al;have u1:=aa b am;have u2:=aa b an;have u3:=aa b ao;have u4:=aa b K;have b6:=(b.frozen (p:=⟨w.heap.size,0,z⟩) A).trans aF;have g1:=(b.frozen (p:=⟨w.heap.size,1,z⟩) A).trans aG;have g2:=(b.frozen (p:=⟨w.heap.size,2,z⟩) A).trans aH;have b7:=(b.frozen (p:=⟨w.heap.size,3,z⟩) A).trans aI;have b8:=(b.frozen (p:=⟨w.heap.size,4,z⟩) A).trans aJ;have b9:=aa b M;have b_:=aa b O;have ca:=aa b P;have cb:=aa b Q;have cc:=aa b R;have aP:=h.trans (b.mono (by omega));have U:=aL.below b (Rq _);clear al am an ao K l aF aG aH aI aJ M O P Q R h aL aM b;by_cases u:ay (aK (fH s k))=s
    ·have a_:Hid (∀w',aC w' w.heap.size (L I f.length J) f→G w.heap.size w w'→ai (Xq (Uq #[Aq #[N Z B,N Z C,N Z E,N Z F,L I f.length J],Bq true])) w'):=fun w' T ak=>X.out _ f w' k aw.out T aE.out m u ak;rw[u];clear u m H X;go_wp2;refine bodyPost_ret (v:=Uq #[Aq #[N Z B,N Z C,N Z E,N Z F,L I f.length J],Bq true]) (by simp[results,Tryz.results72,go_sem,u0,u1,u2,u3,u4]) rfl (a_.out _ ?_ ?_)
     ·refine aC.base (base:=w.heap.size+2) ?_ (by omega);repeat(refine aC.set ?_ (by simp) _)
      exact U
     ·repeat(refine Below.setCell ?_ (by simp) _)
      exact aP
    ·have ap:=fun w'=>H.out w' k aw.out (fun _=>u);have cd:=lW u;generalize ay (aK (fH s k))=ce at*;clear H X u m;go_wp2;refine bodyPost_ret (v:=Uq #[Aq #[N Z 0,N Z 0,N Z 0,N Z 0,L z 0 0],Bq false]) (by simp[results,Tryz.results72,go_sem,u0,u1,u2,u3,u4]) rfl (ap _ ?_);repeat(refine Below.setCell ?_ (by simp) _)
     exact aP
  obtain⟨cf,cg⟩:=aT;obtain⟨a,ch⟩:∃a,a=wr:=⟨_,rfl⟩;subst ch;have aQ:Hid (fR s (k+1)=fR s k++[⟨f_ 0 s (eQ s k+1) (nk s.size (eQ s k+1) (ah 0 s (eQ s k)).toNat),⟨ah 0 s (eQ s k+1+4*(nk s.size (eQ s k+1) (ah 0 s (eQ s k)).toNat:Nat)),ah 0 s (eQ s k+1+4*(nk s.size (eQ s k+1) (ah 0 s (eQ s k)).toNat:Nat)+1),ah 0 s (eQ s k+1+4*(nk s.size (eQ s k+1) (ah 0 s (eQ s k)).toNat:Nat)+2),ah 0 s (eQ s k+1+4*(nk s.size (eQ s k+1) (ah 0 s (eQ s k)).toNat:Nat)+3)⟩⟩]):=rfl;have aR:Hid (eQ s (k+1)=eQ s k+1+4*(nk s.size (eQ s k+1) (ah 0 s (eQ s k)).toNat:Nat)+4):=rfl;have bL:=ig s (eQ s k);obtain⟨aA,bM⟩:=Int.eq_ofNat_of_zero_le bL.1;go_wp2_with(go_at_call 111;refine(kZ _ _ _ hs).mono ?_;rintro e w'⟨rfl,rfl⟩);rw[bM,Int.toNat_natCast]at aQ aR;have cx:aA≤255:=by omega
  clear bL bM;obtain⟨d,bb⟩:∃d,d=eQ s k+1:=⟨_,rfl⟩;rw[←bb]at aQ aR;have cy:8≤d∧d≤1000000:=by omega
  have ci:Hid (d=eQ s k+1):=bb;clear bb;go_loopw[6,10](fun p i q=>∃(j:Nat)(sv:Vq),j≤aA∧i=N Z j∧p=N Z (d+4*j)∧Hid (j=0∨d+4*((j:Int)-1)<s.size)∧q.cell? ⟨a.heap.size,0,z⟩=y sv∧q.cell? ⟨a.heap.size,1,z⟩=y (N Z 0)∧q.cell? ⟨a.heap.size,2,z⟩=y (N Z 0)∧q.cell? ⟨a.heap.size,3,z⟩=y (N Z 0)∧q.cell? ⟨a.heap.size,4,z⟩=y (N Z 0)∧Hid (∀o,q.frozen? ⟨a.heap.size,o,z⟩=false)∧q.ownsRow (a.heap.size+1) 36 4 sv j (bB (f_ 0 s d j))∧G a.heap.size a q∧a.heap.size+1≤q.heap.size)(fun _ i _=>aA-(intOf i).toNat);case atStart=>refine⟨0,L z 0 0,Nat.zero_le _,rfl,by rw[ci.out];simp,.inl rfl,by simp,by simp,by simp,by simp,by simp,fun o=>by simp,World.ownsRow_nil _ _ _ _,?_,by simp⟩;exact(Below.refl _ _).alloc (by simp) _
  case round=>
   obtain⟨j,sv,bG,rfl,rfl,bN,M,O,P,Q,R,V,aq,ar,cj⟩:=hrel;obtain⟨bc,bd,rfl⟩:=af aq;have cz:a.heap.size<wr.heap.size:=by omega
   have be:=V.out 0;have bf:=V.out 1;have bg:=V.out 2;have bh:=V.out 3;have bi:=V.out 4;by_cases a2:(j:Int)<aA∧d+4*(j:Int)<s.size;case neg=>
    have bO:=C_ bG bN.out a2;rw[←bO]at aQ aR;have bj:(j:Int)<aA→¬(d+4*(j:Int)<s.size):=fun T ak=>a2 ⟨T,ak⟩;clear a2 bO bN;have bP:Hid (∀i,i<k+1→(i:Int)<ah 0 s 6∧eQ s i<s.size):=by
     intro i cA;by_cases e:i=k;·subst e;rw[bE.out];exact⟨cf,cg⟩
     ·exact a5.out i (by omega)
    have ck:=kG 0 s d j;generalize f_ 0 s d j=ps at*;subst ck;have a3:∀bk,G a.heap.size a bk→aC bk (w.heap.size+2) (L I f.length J) f:=fun bk cl=>x.below cl (Rq _);have K:=(ar.cell (p:=⟨w.heap.size+1,4,z⟩) a6).trans S;have l:=(ar.frozen (p:=⟨w.heap.size+1,4,z⟩) a6).trans aj;have bK:w.heap.size+1<wr.heap.size:=by omega
    have cB:w.heap.size+1<a.heap.size:=a6;have aD:∀u1 u2 u3 u4,G a.heap.size a ((((wr.setCell ⟨a.heap.size,1,z⟩ u1).setCell ⟨a.heap.size,2,z⟩ u2).setCell ⟨a.heap.size,3,z⟩ u3).setCell ⟨a.heap.size,4,z⟩ u4):=fun u1 u2 u3 u4=>(((ar.setCell (Rq _) u1).setCell (Rq _) u2).setCell (Rq _) u3).setCell (Rq _) u4;have a4:∀u1 u2 u3 u4,((((wr.setCell ⟨a.heap.size,1,z⟩ u1).setCell ⟨a.heap.size,2,z⟩ u2).setCell ⟨a.heap.size,3,z⟩ u3).setCell ⟨a.heap.size,4,z⟩ u4).ownsRow (a.heap.size+1) 36 4 (L bc ps.length bd) ps.length (bB ps):=fun u1 u2 u3 u4=>ownsRow_setCell_below (ownsRow_setCell_below (ownsRow_setCell_below (ownsRow_setCell_below aq (by simp) u1) (by simp) u2) (by simp) u3) (by simp) u4;by_cases a9:(ps.length:Int)<aA
    ·have b4:=bj a9;clear bj;go_wp2_with(first|(go_at_call 111;refine(kZ _ _ _ hs).mono ?_;rintro e w'⟨rfl,rfl⟩)|(at_builtin;refine wpList_append_own _ rfl _ _ 23 rfl (w.heap.size+2) 42 bv (Aq #[L z 0 0,N Z 0,N Z 0,N Z 0,N Z 0]) 5 56 Tryz.underlying23 bw bx bz bA rfl (by decide) _ _ _ rfl ((a3 _ (aD _ _ _ _)).row.alloc _) ⟨wr.heap.size,0,z⟩ 1 1 [L bc ps.length bd,N Z (ah 0 s (d+4*ps.length)),N Z (ah 0 s (d+4*ps.length+1)),N Z (ah 0 s (d+4*ps.length+2)),N Z (ah 0 s (d+4*ps.length+3))] rfl rfl ?d1 mZ ?d3 ?d4 ?d5 ?_));case d1=>simpa using ld ((((wr.setCell ⟨a.heap.size,1,z⟩ _).setCell ⟨a.heap.size,2,z⟩ _).setCell ⟨a.heap.size,3,z⟩ _).setCell ⟨a.heap.size,4,z⟩ _) _ _ _ _ _ _
     case d3=>have:=av.out;unfold maxLen;omega
     case d4=>have:=av.out;omega
     case d5=>first|omega|(simp;omega)
     intro bQ q aS ag _;obtain⟨U,r,b,cm⟩:=tN x (aD _ _ _ _) (a4 _ _ _ _) t hz aS ag;have bl:=(r.cell (p:=⟨w.heap.size+1,0,z⟩) (by simp)).trans ab;have bn:=(r.cell (p:=⟨w.heap.size+1,1,z⟩) (by simp)).trans ac;have bo:=(r.cell (p:=⟨w.heap.size+1,2,z⟩) (by simp)).trans ad;have bp:=(r.cell (p:=⟨w.heap.size+1,3,z⟩) (by simp)).trans ae;have bq:=(r.cell (p:=⟨w.heap.size+1,4,z⟩) (by simp)).trans S;have br:=(r.frozen (p:=⟨w.heap.size+1,4,z⟩) (by simp)).trans aj;obtain⟨bR,bS,au⟩:=af U.row;rw[List.length_append]at au;simp only[List.length_cons,List.length_nil,Nat.zero_add]at au;subst au;have cn:w.heap.size+1<q.heap.size:=by omega
     clear ag x aS a3 ab ac ad ae S aj K l t ar aq M O P Q R V be bf bg bh bi aD a4 r;go_wp2;go_roundw;case rel=>
      refine⟨k+1,_,_,by omega,by go_num,by rw[aR.out],ba (by simp) bl,ba (by simp) bn,ba (by simp) bo,ba (by simp) bp,fZ bq,by simp[br],U.set (by simp) _,?_,?_,bP,b.setCell (by simp) _,by simp;omega⟩;·show dT _=_;rw[aQ.out,←aE.out];simp[dT]
      ·show List.length _=_;have:=av.out;simp;exact this
     case measure=>simp[intOf];omega
    ·clear bj;go_wp2_with(first|(go_at_call 111;refine(kZ _ _ _ hs).mono ?_;rintro e w'⟨rfl,rfl⟩)|(at_builtin;refine wpList_append_own _ rfl _ _ 23 rfl (w.heap.size+2) 42 bv (Aq #[L z 0 0,N Z 0,N Z 0,N Z 0,N Z 0]) 5 56 Tryz.underlying23 bw bx bz bA rfl (by decide) _ _ _ rfl ((a3 _ (aD _ _ _ _)).row.alloc _) ⟨wr.heap.size,0,z⟩ 1 1 [L bc ps.length bd,N Z (ah 0 s (d+4*ps.length)),N Z (ah 0 s (d+4*ps.length+1)),N Z (ah 0 s (d+4*ps.length+2)),N Z (ah 0 s (d+4*ps.length+3))] rfl rfl ?e1 mZ ?e3 ?e4 ?e5 ?_));case e1=>simpa using ld ((((wr.setCell ⟨a.heap.size,1,z⟩ _).setCell ⟨a.heap.size,2,z⟩ _).setCell ⟨a.heap.size,3,z⟩ _).setCell ⟨a.heap.size,4,z⟩ _) _ _ _ _ _ _
     case e3=>have:=av.out;unfold maxLen;omega
     case e4=>have:=av.out;omega
     case e5=>first|omega|(simp;omega)
     intro bQ q aS ag _;obtain⟨U,r,b,cm⟩:=tN x (aD _ _ _ _) (a4 _ _ _ _) t hz aS ag;have bl:=(r.cell (p:=⟨w.heap.size+1,0,z⟩) (by simp)).trans ab;have bn:=(r.cell (p:=⟨w.heap.size+1,1,z⟩) (by simp)).trans ac;have bo:=(r.cell (p:=⟨w.heap.size+1,2,z⟩) (by simp)).trans ad;have bp:=(r.cell (p:=⟨w.heap.size+1,3,z⟩) (by simp)).trans ae;have bq:=(r.cell (p:=⟨w.heap.size+1,4,z⟩) (by simp)).trans S;have br:=(r.frozen (p:=⟨w.heap.size+1,4,z⟩) (by simp)).trans aj;obtain⟨bR,bS,au⟩:=af U.row;rw[List.length_append]at au;simp only[List.length_cons,List.length_nil,Nat.zero_add]at au;subst au;have cn:w.heap.size+1<q.heap.size:=by omega
     clear ag x aS a3 ab ac ad ae S aj K l t ar aq M O P Q R V be bf bg bh bi aD a4 r;go_wp2;go_roundw;case rel=>
      refine⟨k+1,_,_,by omega,by go_num,by rw[aR.out],ba (by simp) bl,ba (by simp) bn,ba (by simp) bo,ba (by simp) bp,fZ bq,by simp[br],U.set (by simp) _,?_,?_,bP,b.setCell (by simp) _,by simp;omega⟩;·show dT _=_;rw[aQ.out,←aE.out];simp[dT]
      ·show List.length _=_;have:=av.out;simp;exact this
     case measure=>simp[intOf];omega
   obtain⟨cC,cD⟩:=a2;have co:Hid (f_ 0 s d (j+1)=f_ 0 s d j++[⟨ah 0 s (d+4*j),ah 0 s (d+4*j+1),ah 0 s (d+4*j+2),ah 0 s (d+4*j+3)⟩]):=rfl;go_wp2_with(first|(go_at_call 111;refine(kZ _ _ _ hs).mono ?_;rintro e w'⟨rfl,rfl⟩)|(at_builtin;refine wpList_append_own _ rfl _ _ 34 rfl (a.heap.size+1) 36 bU (Aq #[N Z 0,N Z 0,N Z 0,N Z 0]) 4 32 Tryz.underlying34 bV bW bX bY rfl (by decide) _ _ _ rfl ((aq.alloc _).alloc _) ⟨wr.heap.size+1,0,z⟩ 1 1 [N Z (ah 0 s (d+4*j)),N Z (ah 0 s (d+4*j+1)),N Z (ah 0 s (d+4*j+2)),N Z (ah 0 s (d+4*j+3))] rfl rfl ?c1 qG ?c3 ?c4 ?c5 ?_));case c1=>simpa using qE (wr.alloc _) _ _ _ _ _
   case c3=>unfold maxLen;omega
   case c4=>omega
   case c5=>first|omega|(simp;omega)
   intro bQ w1 bs ag _;rw[←nt,←co.out]at bs;have h:=((((Below.refl (a.heap.size+1) wr).alloc cj _).alloc (by simp;omega) _).grown ag (by simp;omega) (fun g m=>(aq.lt g m).1));have cp:=(h.cell (p:=⟨a.heap.size,0,z⟩) (by simp)).trans M;have cq:=(h.cell (p:=⟨a.heap.size,1,z⟩) (by simp)).trans O;have cr:=(h.cell (p:=⟨a.heap.size,2,z⟩) (by simp)).trans P;have cs:=(h.cell (p:=⟨a.heap.size,3,z⟩) (by simp)).trans Q;have ct:=(h.cell (p:=⟨a.heap.size,4,z⟩) (by simp)).trans R;have bT:Hid (∀o,w1.frozen? ⟨a.heap.size,o,z⟩=false):=fun o=>(h.frozen (p:=⟨a.heap.size,o,z⟩) (by simp)).trans (V.out o);have cE:=bT.out 0;have cF:=h.size;have b:=ar.trans (h.mono (by omega));obtain⟨bR,bS,rfl⟩:=af bs;clear ag aq M O P Q R V be bf bg bh bi h ar;go_wp2;go_roundw;case rel=>exact⟨j+1,_,by omega,by go_num,by go_num,.inr (by simp;omega),fZ cp,ba (by simp) cq,ba (by simp) cr,ba (by simp) cs,ba (by simp) ct,fun o=>by simp[bT.out o],ownsRow_setCell_below bs (by simp) _,b.setCell (by simp) _,by simp;omega⟩
   case measure=>simp[intOf];omega
def Az(a b c d:Int):Prop:=(0≤a∧a<256)∧(0≤b∧b<256)∧(0≤c∧c<256)∧(0≤d∧d<256)
theorem yp{regs slots:Int}{o:dr}(h:aw regs slots o=true)(a:regs≤8)(hs:slots≤8):Az o.kind o.a o.b o.c:=by
 unfold Az;simp only[aw,below]at h;repeat' split at h
 all_goals first|(simp at h;done)|(simp at h;omega)
theorem wg{regs n:Int}{e:fw}(h:bw regs n e=true)(a:regs≤8)(b:n≤6):Az e.kind e.r e.x e.y:=by
 unfold Az;simp only[bw,below]at h;repeat' split at h
 all_goals first|(simp at h;done)|(simp at h;omega)
theorem wQ(l:List dr)(i:Nat)(a:i<l.length):(eU l)[i*4]?=y (cx (cD l i))∧(eU l)[i*4+1]?=y (cx (oa l i))∧(eU l)[i*4+2]?=y (cx (ob l i))∧(eU l)[i*4+3]?=y (cx (oc l i)):=by
 induction l generalizing i with
  |nil=>simp at a
  |cons p c b=>
   cases i with
    |zero=>exact⟨rfl,rfl,rfl,rfl⟩
    |succ i=>
     have h:=b i (by simpa using a);have e1:(i+1)*4=i*4+1+1+1+1:=by omega
     rw[e1];exact h
def Dx(l:List dr):Prop:=∀i,i<l.length→Az (cD l i) (oa l i) (ob l i) (oc l i)
theorem eM{d:Int}{l a b c:List UInt8}{o i:Nat}{x:Int}{q:Int}(e:l=a++b++c)(ho:a.length=o)(h:b[i]?=y (cx x))(f:0≤x)(g:x<256)(j:q=((o+i:Nat):Int)):ah d (ay l) q=x:=by rw[j,ee (nd e ho h),jb f g]
theorem yz{d:Int}{l a c:List UInt8}{ps:List dr}{o:Nat}(b:l=a++eU ps++c)(ho:a.length=o)(j:Dx ps)(k:Nat)(q:k≤ps.length):f_ d (ay l) o k=ps.take k:=by
 induction k with
  |zero=>rfl
  |succ k m=>
   have e:k<ps.length:=by omega
   obtain⟨g1,g2,n,p⟩:=wQ ps k e;obtain⟨f,g,h,i⟩:=j k e;have e1:ah d (ay l) ((o:Int)+4*k)=cD ps k:=eM b ho g1 f.1 f.2 (by omega);have e2:ah d (ay l) ((o:Int)+4*k+1)=oa ps k:=eM b ho g2 g.1 g.2 (by omega);have e3:ah d (ay l) ((o:Int)+4*k+2)=ob ps k:=eM b ho n h.1 h.2 (by omega);have e4:ah d (ay l) ((o:Int)+4*k+3)=oc ps k:=eM b ho p i.1 i.2 (by omega);rw[f_,m (by omega),e1,e2,e3,e4,dn ps oz k e];rfl
theorem lF(p:a8){k:Nat}(a:k<p.blocks.length):aK p=(fj p++(p.blocks.take k).flatMap bx)++bx (p.blocks.getD k bz)++(p.blocks.drop (k+1)).flatMap bx:=by
 unfold aK;have e:p.blocks=p.blocks.take k++(p.blocks.getD k bz::p.blocks.drop (k+1)):=by rw[←je p.blocks bz k a,List.take_append_drop]
 conv=>lhs;arg 2;rw[e]
 simp[List.flatMap_append,List.flatMap_cons]
def jv(p:a8)(k:Nat):Nat:=7+((p.blocks.take k).flatMap bx).length
theorem lP{p:a8}{k:Nat}(a:k<p.blocks.length):jv p (k+1)=jv p k+1+4*(aj p.blocks k).length+4:=by unfold jv;rw[dn p.blocks bz k a,List.flatMap_append];simp[fL,aj];omega
theorem iR(p:a8):(fj p).length=7:=rfl
theorem Cm(p:a8):(aK p).length=jv p p.blocks.length:=by simp[jv,aK,iR]
theorem tM{p:a8}{k:Nat}(a:k<p.blocks.length):jv p (k+1)≤(aK p).length:=by have:=lF p a;rw[this];rw[lP a];simp[fL,jv,aj,iR];omega
theorem mg{p:a8}(a:aB p=true):(1≤p.regs∧p.regs≤8)∧(0≤p.args∧p.args≤p.regs)∧(0≤p.data∧p.data≤8)∧(0≤p.slots∧p.slots≤8):=by simp[aB]at a;omega
theorem ve{p:a8}(a:aB p=true){k:Nat}(c:k<p.blocks.length):Dx (aj p.blocks k)∧Az (fX p.blocks k) (gJ p.blocks k) (iT p.blocks k) (ja p.blocks k):=by have b:=eX a (p.blocks.getD k bz) (cm c);have f:=mg a;have g:=dw a;simp only[cI,Bool.and_eq_true]at b;refine⟨?_,wg b.2 (by omega) (by omega)⟩;intro i e;have:=b.1.2;simp only[fQ,List.all_eq_true]at this;exact yp (this _ (cm (d:=oz) e)) (by omega) (by omega)
theorem o7{d:Int}{p:a8}(e:aB p=true){k:Nat}(c:k<p.blocks.length):ah d (ay (aK p)) (jv p k)=(aj p.blocks k).length∧sY d (ay (aK p)) (jv p k) (aj p.blocks k).length=p.blocks.getD k bz:=by
 have hs:=lF p c;obtain⟨m,n⟩:=ve e c;have v:=i_ e c;have ho:(fj p++(p.blocks.take k).flatMap bx).length=jv p k:=by simp[jv,iR]
 have o:ah d (ay (aK p)) (jv p k)=(aj p.blocks k).length:=eM hs ho (i:=0) rfl (by omega) (by omega) (by omega);have q:aK p=(fj p++(p.blocks.take k).flatMap bx++[cx (aj p.blocks k).length])++eU (aj p.blocks k)++(lN (b_ p.blocks k)++(p.blocks.drop (k+1)).flatMap bx):=by rw[hs];simp[bx,aj,b_]
 have a:aK p=(fj p++(p.blocks.take k).flatMap bx++[cx (aj p.blocks k).length]++eU (aj p.blocks k))++lN (b_ p.blocks k)++(p.blocks.drop (k+1)).flatMap bx:=by rw[hs];simp[bx,aj,b_]
 have f:(fj p++(p.blocks.take k).flatMap bx++[cx (aj p.blocks k).length]).length=jv p k+1:=by rw[List.length_append,ho];rfl
 have b:(fj p++(p.blocks.take k).flatMap bx++[cx (aj p.blocks k).length]++eU (aj p.blocks k)).length=jv p k+1+4*(aj p.blocks k).length:=by rw[List.length_append,f,jt]
 have e1:=yz (d:=d) q f m _ (Rq _);rw[List.take_length]at e1;obtain⟨g,h,j,l⟩:=n;have r:ah d (ay (aK p)) ((jv p k:Int)+1+4*(aj p.blocks k).length)=fX p.blocks k:=eM a b (i:=0) rfl g.1 g.2 (by omega);have s:ah d (ay (aK p)) ((jv p k:Int)+1+4*(aj p.blocks k).length+1)=gJ p.blocks k:=eM a b (i:=1) rfl h.1 h.2 (by omega);have t:ah d (ay (aK p)) ((jv p k:Int)+1+4*(aj p.blocks k).length+2)=iT p.blocks k:=eM a b (i:=2) rfl j.1 j.2 (by omega);have u:ah d (ay (aK p)) ((jv p k:Int)+1+4*(aj p.blocks k).length+3)=ja p.blocks k:=eM a b (i:=3) rfl l.1 l.2 (by omega);refine⟨o,?_⟩;unfold sY BV;rw[r,s,t,u,show(jv p k:Int)+1=((jv p k+1:Nat):Int)by omega,e1];rfl
theorem kL{d:Int}{p:a8}(a:aB p=true):ah d (ay (aK p)) 0=84∧ah d (ay (aK p)) 1=87∧ah d (ay (aK p)) 2=p.args∧ah d (ay (aK p)) 3=p.regs∧ah d (ay (aK p)) 4=p.data∧ah d (ay (aK p)) 5=p.slots∧ah d (ay (aK p)) 6=p.blocks.length:=by
 have c:=dw a;have e:=mg a;have hs:aK p=[]++fj p++p.blocks.flatMap bx:=rfl;refine⟨ee (i:=0) (b:=84) rfl,ee (i:=1) (b:=87) rfl,?_,?_,?_,?_,?_⟩;·exact eM hs (o:=0) rfl (i:=2) rfl (by omega) (by omega) (by omega)
 ·exact eM hs (o:=0) rfl (i:=3) rfl (by omega) (by omega) (by omega)
 ·exact eM hs (o:=0) rfl (i:=4) rfl (by omega) (by omega) (by omega)
 ·exact eM hs (o:=0) rfl (i:=5) rfl (by omega) (by omega) (by omega)
 ·exact eM hs (o:=0) rfl (i:=6) rfl (by omega) (by omega) (by omega)
theorem mE{p:a8}(b:aB p=true)(k:Nat)(f:k≤p.blocks.length):cw (ay (aK p)) k=jv p k∧dU (ay (aK p)) k=p.blocks.take k:=by
 induction k with
  |zero=>exact⟨rfl,rfl⟩
  |succ k c=>
   obtain⟨e1,e2⟩:=c (by omega);obtain⟨a,e⟩:=o7 (d:=-1) b (show k<p.blocks.length by omega);constructor;·rw[cw,e1,a,lP (by omega),Int.toNat_natCast];omega
   ·rw[dU,e2,e1,a,Int.toNat_natCast,e,dn p.blocks bz k (by omega)]
theorem rD{p:a8}(c:aB p=true)(k:Nat)(h:k≤p.blocks.length):eQ (ay (aK p)) k=jv p k∧fR (ay (aK p)) k=p.blocks.take k:=by
 induction k with
  |zero=>exact⟨rfl,rfl⟩
  |succ k e=>
   obtain⟨e1,e2⟩:=e (by omega);obtain⟨a,f⟩:=o7 (d:=0) c (show k<p.blocks.length by omega);have i:=tM (show k<p.blocks.length by omega);have g:=lP (show k<p.blocks.length by omega);have b:nk (ay (aK p)).size ((jv p k:Int)+1) (aj p.blocks k).length=(aj p.blocks k).length:=by unfold nk;rw[gZ];omega
   constructor;·rw[eQ,e1,a,Int.toNat_natCast,b,g];omega
   ·rw[fR,e2,e1,a,Int.toNat_natCast,b,f,dn p.blocks bz k (by omega)]
theorem nW(p:a8):(⟨p.args,p.regs,p.data,p.slots,p.blocks⟩:a8)=p:=rfl
theorem yG{p:a8}(a:aB p=true){i:Nat}(b:nN (ay (aK p)) i):fH (ay (aK p)) i=p:=by
 obtain⟨_,_,f,g,h,j,c⟩:=kL (d:=0) a;have:i=p.blocks.length:=by
  rcases Nat.lt_trichotomy i p.blocks.length with e|k|l;·exfalso;apply b.stop;rw[c,(rD a i (by omega)).1,gZ];have:=tM e;have:=lP e;omega
  ·exact k
  ·have:=(b.done p.blocks.length l).1;rw[c]at this;omega
 subst this;unfold fH;rw[(rD a _ (Rq _)).2,List.take_length,f,g,h,j]
theorem zK{s:ByteArray}{i:Nat}(h:i<s.size):nF s i 1=[cx (ah (-1) s i)]:=by have a:s.data.toList.length=s.size:=Array.length_toList;rw[fN h,uD];unfold nF;rw[List.drop_eq_getElem_cons (by omega)];rfl
theorem rY{s:ByteArray}{i:Nat}(h:i+3<s.size):nF s i 4=[cx (ah (-1) s i),cx (ah (-1) s ((i:Int)+1)),cx (ah (-1) s ((i:Int)+2)),cx (ah (-1) s ((i:Int)+3))]:=by rw[show(4:Nat)=2+2 from rfl,fS,lT (by omega),lT (by omega)];rw[show((i+2:Nat):Int)=(i:Int)+2 by omega,show(i:Int)+2+1=(i:Int)+3 by omega];rfl
theorem Df{s:ByteArray}{o:Nat}(k:Nat)(h:o+4*k≤s.size):eU (f_ (-1) s o k)=nF s o (4*k):=by induction k with|zero=>simp[f_,eU,nF]|succ k a=>rw[show 4*(k+1)=4*k+4 by omega,fS,←a (by omega),rY (by omega)];simp only[f_,eU,List.flatMap_append,List.flatMap_cons,List.flatMap_nil,List.append_nil];rw[show((o+4*k:Nat):Int)=(o:Int)+4*k by omega];rfl
theorem zZ{s:ByteArray}{a b:Nat}(c:ah (-1) s a=b)(h:a+1+4*b+4≤s.size):bx (sY (-1) s a b)=nF s a (1+4*b+4):=by rw[fS,fS,zK (by omega),c,←Df b (by omega),rY (by omega)];simp only[bx,sY,kG,lN,BV];rw[show((a+(1+4*b):Nat):Int)=(a:Int)+1+4*b by omega,show((a+1:Nat):Int)=(a:Int)+1 by omega]
theorem pw(s:ByteArray)(k:Nat):(dU s k).length=k:=by induction k with|zero=>rfl|succ k a=>simp[dU,a]
theorem xQ{s:ByteArray}(k:Nat)(h:cw s k≤s.size):(dU s k).flatMap bx=nF s 7 (cw s k-7).toNat:=by
 induction k with
  |zero=>simp[dU,cw,nF]
  |succ k e=>
   have j:=ri s k;obtain⟨a,b⟩:=Int.eq_ofNat_of_zero_le (show 0≤cw s k by omega);have f:cw s (k+1)=cw s k+(1+4*(ah (-1) s (cw s k)).toNat+4):=rfl;generalize c:(ah (-1) s (cw s k)).toNat=d at f;have g:ah (-1) s a=d:=by rw[b,fN (by omega)]at c;rw[fN (by omega)];omega
   have e3:(cw s (k+1)-7).toNat=(cw s k-7).toNat+(1+4*d+4):=by omega
   rw[dU,List.flatMap_append,e (by omega),e3,fS];have i:7+(cw s k-7).toNat=a:=by omega
   rw[i,c,b];congr 1;simp only[List.flatMap_cons,List.flatMap_nil,List.append_nil];exact zZ g (by omega)
theorem AK{s:ByteArray}(h:dj s=true):ay (aK (jw s))=s:=by
 simp only[dj,Bool.and_eq_true,decide_eq_true_eq]at h;obtain⟨⟨⟨b,c⟩,q⟩,r⟩:=h;have t:=ri s (ah (-1) s 6).toNat;have f:s.data.toList.length=s.size:=Array.length_toList;have hc:((ah (-1) s 6).toNat:Int)=ah (-1) s 6:=by have e:ah (-1) s ((6:Nat):Int)=_:=fN (d:=-1) (show 6<s.size by omega);have e':ah (-1) s 6=_:=e;rw[e'];omega
 have hs:=xQ (s:=s) (ah (-1) s 6).toNat (by omega);have a:nF s 0 s.size=s.data.toList:=by unfold nF;rw[List.drop_zero,←f,List.take_length]
 have g:s.size=2+4+1+(cw s (ah (-1) s 6).toNat-7).toNat:=by omega
 have e2:=lT (s:=s) (i:=0) (by omega);have e4:=rY (s:=s) (i:=2) (by omega);have e1:=zK (s:=s) (i:=6) (by omega);have j:ah (-1) s ((0:Nat):Int)=84:=b;have k:ah (-1) s (((0:Nat):Int)+1)=87:=c;rw[j,k]at e2;rw[g,fS,fS,fS]at a;have l:nF s 0 2=[84,87]:=e2;have m:nF s (0+2) 4=[cx (ah (-1) s 2),cx (ah (-1) s 3),cx (ah (-1) s 4),cx (ah (-1) s 5)]:=e4;have n:nF s (0+(2+4)) 1=[cx (ah (-1) s 6)]:=e1;have o:nF s (0+(2+4+1)) (cw s (ah (-1) s 6).toNat-7).toNat=(dU s (ah (-1) s 6).toNat).flatMap bx:=hs.symm;rw[l,m,n,o]at a;have p:aK (jw s)=s.data.toList:=by rw[←a];simp only[aK,fj,jw,pw,hc];rfl
 rw[p,←y_]
theorem gw(s:ByteArray)(w:W)(hs:s.size≤maxLen):Calls Tryz.prog 35 #[Tq s] w fun e w'=>((∃p v b,e=Xq (Uq #[dy p v,N Z 0])∧aC w' w.heap.size v b∧dT b=p.blocks∧aB p=true∧ay (aK p)=s)∨((∀p,aB p=true→ay (aK p)≠s)∧e=Xq (Uq #[Aq #[N Z 0,N Z 0,N Z 0,N Z 0,L z 0 0],N Z 1])))∧G w.heap.size w w':=by
 refine vM s w hs _ ?_ ?_;·intro v b w' a ho g c;refine⟨.inl ⟨jw s,v,b,rfl,ho,g,?_,AK a⟩,c⟩;simp only[dj,Bool.and_eq_true]at a;exact a.2
 ·intro w' a c;refine⟨.inr ⟨?_,rfl⟩,c⟩;intro p f h;subst h;obtain⟨i,j,k,l,m,n,o⟩:=kL (d:=-1) f;have:=mE f p.blocks.length (Rq _);simp only[dj,jw,i,j,k,l,m,n,o,Int.toNat_natCast,this.1,this.2,List.take_length,nW,f,gZ,Cm]at a;simp at a
theorem fJ(s:ByteArray)(w:W)(hs:s.size≤maxLen):Calls Tryz.prog 72 #[Tq s] w fun e w'=>((∃p v a,e=Xq (Uq #[dy p v,Bq true])∧aC w' w.heap.size v a∧dT a=p.blocks∧aB p=true∧ay (aK p)=s)∨((∀p,aB p=true→ay (aK p)≠s)∧e=Xq (Uq #[Aq #[N Z 0,N Z 0,N Z 0,N Z 0,L z 0 0],Bq false])))∧G w.heap.size w w':=by
 refine wZ s w hs _ ?_ ?_;·intro v a w' i _ ho f b g c;exact⟨.inl ⟨fH s i,v,a,rfl,ho,f,b,g⟩,c⟩
 ·intro w' i h d c;refine⟨.inr ⟨?_,rfl⟩,c⟩;intro p b j;subst j;have:=yG b h;rw[this]at d;exact d b rfl
theorem iL{p q:a8}(a:aB p=true)(b:aB q=true)(e:ay (aK p)=ay (aK q)):p=q:=by
 obtain⟨_,_,f,g,h,i,k⟩:=kL (d:=-1) a;obtain⟨_,_,b2,l,m,n,o⟩:=kL (d:=-1) b;have c:=(mE a p.blocks.length (Rq _)).2;have d:=(mE b q.blocks.length (Rq _)).2;rw[e]at f g h i k c;have j:p.blocks.length=q.blocks.length:=by omega
 rw[j,d,List.take_length,←j,List.take_length]at c;rw[←nW p,←nW q,←c,←f,←g,←h,←i,b2,l,m,n]
theorem xm(v u:Vq)(ps:List dr)(w:W)(d:iH w v ps)(f:iH w u ps):Calls Tryz.prog 92 #[v,u] w fun e w'=>e=Xq (Bq true)∧G w.heap.size w w':=by
 obtain⟨h,cap,rfl,j,hc⟩:=d;obtain⟨l,m,rfl,_,g⟩:=f;go_enter Tryz.func92,Tryz.ntmps92;go_wp2;go_loopw[5](fun i wr=>∃(k:Nat),k≤ps.length∧i=N Z k∧G w.heap.size w wr)(fun i _=>ps.length-(intOf i).toNat);case atStart=>exact⟨0,Nat.zero_le _,rfl,Below.refl _ _⟩
 case round=>
  obtain⟨k,n,rfl,a⟩:=hrel;by_cases c:k<ps.length
  ·obtain⟨b,o,rfl,c1,c2,c3,c4⟩:=hc k c;obtain⟨p,q,rfl,d1,d2,d3,d4⟩:=g k c;have e1:=aa a c1;have e2:=aa a c2;have e3:=aa a c3;have e4:=aa a c4;have r:=aa a d1;have s:=aa a d2;have t:=aa a d3;have x:=aa a d4;go_wp2;go_quiet(fail);go_wp2;go_roundw;case rel=>exact⟨k+1,by omega,by go_num,below_drewN a _⟩
   case measure=>simp[intOf];omega
  ·go_wp2;go_ret;exact⟨rfl,a⟩
theorem fe(d f g h:Int)(v u:Vq)(l:List aN)(w:W)(r:bm w v l)(s:bm w u l):Calls Tryz.prog 49 #[Aq #[N Z d,N Z f,N Z g,N Z h,v],Aq #[N Z d,N Z f,N Z g,N Z h,u]] w fun e w'=>e=Xq (Bq true)∧G w.heap.size w w':=by
 obtain⟨j,cap,rfl,T,hc⟩:=r;obtain⟨m,n,rfl,_,t⟩:=s;go_enter Tryz.func49,Tryz.ntmps49;go_wp2;go_loopw[5](fun i wr=>∃(k:Nat),k≤l.length∧i=N Z k∧G (w.heap.size+2) ((w.alloc (Y #[N Z d,N Z f,N Z g,N Z h,L j l.length cap] 25)).alloc (Y #[N Z d,N Z f,N Z g,N Z h,L m l.length n] 25)) wr)(fun i _=>l.length-(intOf i).toNat);case atStart=>exact⟨0,Nat.zero_le _,rfl,Below.refl _ _⟩
 case round=>
  obtain⟨k,U,rfl,c⟩:=hrel;have a:G w.heap.size w wr:=(((Below.refl w.heap.size w).alloc (Rq _) _).alloc (by simp) _).trans (c.mono (by omega));have o:wr.cell? ⟨w.heap.size,4,z⟩=y (L j l.length cap):=(c.cell (by simp)).trans (by simp);have p:wr.cell? ⟨w.heap.size+1,4,z⟩=y (L m l.length n):=(c.cell (by simp)).trans (by simp);have A:=c.size;simp at A;by_cases q:k<l.length
  ·obtain⟨b,V,sv,rfl,c1,c2,c3,c4,c5,B⟩:=hc k q;obtain⟨X,ab,ac,rfl,d1,d2,d3,d4,d5,C⟩:=t k q;have e1:=aa a c1;have e2:=aa a c2;have e3:=aa a c3;have e4:=aa a c4;have e5:=aa a c5;have E:=aa a d1;have F:=aa a d2;have H:=aa a d3;have I:=aa a d4;have J:=aa a d5;have K:=B.ab a;have M:=C.ab a;have O:=fun x:cJ wr.heap.size wr=>x.cell o;have P:=fun x:cJ wr.heap.size wr=>x.cell p;have Q:=fun x:cJ wr.heap.size wr=>x.cell e1;have R:=fun x:cJ wr.heap.size wr=>x.cell E;have np:=cJ.any wr.heap.size wr;go_wp2;refine eA wr.heap.size (by kernel_rfl) (by kernel_rfl) ?_;repeat(go_big_quiet_step(exact Calls.kJ (Rq _) (xm _ _ _ _ (K.ab (cJ.ok _)) (M.ab (cJ.ok _)))))
   refine wpQuiet_nil ?_;rintro _⟨x,rfl⟩;have ad:=x.cell o;have ae:=x.cell p;have g2:=x.cell e2;have af:=x.cell e3;have ag:=x.cell e4;have ah:=x.cell e5;have ai:=x.cell F;have aj:=x.cell H;have ak:=x.cell I;have al:=x.cell J;have S:=c.trans (x.ok.mono (by omega));generalize x.wd=w1 at*;clear O P Q R np;go_wp2;go_quiet(fail);go_wp2;go_roundw;case rel=>exact⟨k+1,by omega,by go_num,below_drewN S _⟩
   case measure=>simp[intOf];omega
  ·go_wp2;go_ret;exact⟨rfl,a⟩
def uq(a:List (aN×Vq))(lv:Vq)(b:List Vq):Prop:=∀x∈a,∀g,x.2.ownBlock=y g→lv.ownBlock=y g→∃t,b=bB x.1.ops++t
theorem aC.app{w w':W}{base:Nat}{v lv:Vq}{c:List (aN×Vq)}{i:Nat}{d:List Vq}(h:aC w base v c)(j:w.ownsRow base 36 4 lv i d)(k:uq c lv d)(f:w.grownBy w' lv.ownBlock)(l:w'.ownsRow base 36 4 lv i d):aC w' base v c:=by
 refine⟨?_,?_,h.apart⟩;·refine h.row.kept f ?_;cases a:v.ownBlock with|none=>exact .inl rfl|some g=>exact .inr (fun e=>eS h.row j (by decide) g a e.symm)
 ·intro x b;cases a:x.2.ownBlock with
   |none=>exact(h.each x b).kept f (.inl a)
   |some g=>
    by_cases e:lv.ownBlock=y g;·obtain⟨t,m⟩:=k x b g a e;exact lC (by decide) (h.each x b) j a e l m
    ·exact(h.each x b).kept f (.inr (by rw[a];exact fun e'=>e e'.symm))
theorem uq.step{w:W}{base:Nat}{v lv b:Vq}{a:List (aN×Vq)}{c news:List Vq}(h:aC w base v a)(i:uq a lv c)(j:∀g,b.ownBlock=y g→lv.ownBlock=y g∨w.heap.size≤g):uq a b (c++news):=by
 intro x d g f k;rcases j g k with e|e;·obtain⟨t,l⟩:=i x d g f e;exact⟨t++news,by rw[l,List.append_assoc]⟩
 ·have:=((h.each x d).lt g f).2;omega
theorem uq.start{w:W}{base:Nat}{v:Vq}{a:List (aN×Vq)}(h:aC w base v a){i:Nat}(b:i<a.length):uq a a[i].2 (bB a[i].1.ops):=by
 intro x k g c d;obtain⟨j,f,rfl⟩:=List.getElem_of_mem k;by_cases e:j=i;·subst e;exact⟨[],by simp⟩
 ·exfalso;rcases Nat.lt_or_gt_of_ne e with l|m;·exact List.pairwise_iff_getElem.1 h.apart j i f b l g c d
  ·exact List.pairwise_iff_getElem.1 h.apart i j b f m g d c
theorem aC.xL{w w':W}{base:Nat}{v lv:Vq}{b:List (aN×Vq)}{f:Nat}{c:List Vq}(h:aC w base v b)(i:w.ownsRow base 42 5 lv f c)(k:∀g,v.ownBlock=y g→lv.ownBlock=y g→∃t,c=bu b++t)(d:w.grownBy w' lv.ownBlock)(l:w'.ownsRow base 42 5 lv f c):aC w' base v b:=by
 refine⟨?_,?_,h.apart⟩
 ·cases a:v.ownBlock with
   |none=>exact h.row.kept d (.inl a)
   |some g=>
    by_cases e:lv.ownBlock=y g;·obtain⟨t,m⟩:=k g a e;exact lC (by decide) h.row i a e l m
    ·exact h.row.kept d (.inr (by rw[a];exact fun e'=>e e'.symm))
 ·intro x j;refine(h.each x j).kept d ?_;cases a:x.2.ownBlock with|none=>exact .inl rfl|some g=>exact .inr (fun e=>eS (h.each x j) i (by decide) g a e.symm)
theorem pj(a:List (aN×Vq))(i:Nat)(b:i<a.length)(k c x d:Int):bu (a.set i (⟨a[i].1.ops,⟨k,c,x,d⟩⟩,a[i].2))=((((bu a).set (i*5+1) (N Z k)).set (i*5+2) (N Z c)).set (i*5+3) (N Z x)).set (i*5+4) (N Z d):=by
 induction a generalizing i with
  |nil=>simp at b
  |cons p q e=>
   cases i with
    |zero=>rfl
    |succ i=>
     have h:=e i (by simpa using b);have e1:(i+1)*5=i*5+1+1+1+1+1:=by omega
     rw[e1];show[_,_,_,_,_]++bu (q.set i _)=[_,_,_,_,_]++((((bu q).set (i*5+1) _).set (i*5+2) _).set (i*5+3) _).set (i*5+4) _;rw[←h];rfl
theorem wN(l:List dr)(j:Nat)(d:j<l.length)(k a b c:Int):bB (l.set j ⟨k,a,b,c⟩)=((((bB l).set (j*4) (N Z k)).set (j*4+1) (N Z a)).set (j*4+2) (N Z b)).set (j*4+3) (N Z c):=by
 induction l generalizing j with
  |nil=>simp at d
  |cons p e f=>
   cases j with
    |zero=>rfl
    |succ j=>
     have h:=f j (by simpa using d);have e1:(j+1)*4=j*4+1+1+1+1:=by omega
     rw[e1];show[_,_,_,_]++bB (e.set j _)=[_,_,_,_]++((((bB e).set (j*4) _).set (j*4+1) _).set (j*4+2) _).set (j*4+3) _;rw[←h]
theorem pk(a:List (aN×Vq))(i:Nat)(b:i<a.length)(l:List dr):bu (a.set i (⟨l,a[i].1.fin⟩,a[i].2))=bu a:=by induction a generalizing i with|nil=>simp at b|cons p c d=>cases i with|zero=>rfl|succ i=>have h:=d i (by simpa using b);show[_,_,_,_,_]++bu (c.set i _)=[_,_,_,_,_]++bu c;rw[←h];rfl
theorem pW{c:List (aN×Vq)}{i:Nat}(o:i<c.length)(x:aN)(h:c.Pairwise fun x d=>∀g,x.2.ownBlock=y g→d.2.ownBlock≠y g):(c.set i (x,c[i].2)).Pairwise fun x d=>∀g,x.2.ownBlock=y g→d.2.ownBlock≠y g:=by
 rw[List.pairwise_iff_getElem]at*;have f:∀(j:Nat)(k:j<(c.set i (x,c[i].2)).length),((c.set i (x,c[i].2))[j]).2=(c[j]'(by simpa using k)).2:=by
  intro j k;rw[List.getElem_set];split;·rename_i e;subst e;rfl
  ·rfl
 intro a b l m n;rw[f a l,f b m];exact h a b _ _ n
def jF(w:W)(g o:Nat)(a b c d:Int):W:=(((w.setCell ⟨g,o,z⟩ (N Z a)).setCell ⟨g,o+1,z⟩ (N Z b)).setCell ⟨g,o+2,z⟩ (N Z c)).setCell ⟨g,o+3,z⟩ (N Z d)
theorem tL{w:W}{B:Nat}{e:TypeId}{i:Nat}{v:Vq}{n:Nat}{xs:List Vq}(h:w.ownsRow B e i v n xs){g o:Nat}(f:v.ownBlock=y g)(j:o+3<xs.length)(a b c d:Int):(jF w g o a b c d).ownsRow B e i v n ((((xs.set o (N Z a)).set (o+1) (N Z b)).set (o+2) (N Z c)).set (o+3) (N Z d)):=fG (fG (fG (fG h f (by omega) _) f (by simp;omega) _) f (by simp;omega) _) f (by simp;omega) _
theorem jI{w:W}{B:Nat}{e:TypeId}{i:Nat}{v:Vq}{n:Nat}{xs:List Vq}(h:w.ownsRow B e i v n xs){g o:Nat}(f:v.ownBlock≠y g)(a b c d:Int):(jF w g o a b c d).ownsRow B e i v n xs:=bj (bj (bj (bj h f _) f _) f _) f _
theorem aH.jF{S:Nat→Prop}{w a:W}(h:aH S w a){g o:Nat}(b:S g∨w.heap.size≤g)(x c d u:Int):aH S w (jF a g o x c d u):=(((h.setCell (p:=⟨g,o,z⟩) b _).setCell (p:=⟨g,o+1,z⟩) b _).setCell (p:=⟨g,o+2,z⟩) b _).setCell (p:=⟨g,o+3,z⟩) b _
theorem oK{w:W}{g o:Nat}{a b c d:Int}{p:Addr}{u:Vq}(f:p.block≠g)(hc:w.cell? p=y u):(jF w g o a b c d).cell? p=y u:=by unfold jF;have k:∀(w:W)(i:Nat)(x:Vq),w.cell? p=y u→(w.setCell ⟨g,i,z⟩ x).cell? p=y u:=fun w i x h=>ba (fun e=>f (by first|rw[e]|rw[←e])) h;exact k _ _ _ (k _ _ _ (k _ _ _ (k _ _ _ hc)))
theorem ub(w:W)(g o:Nat)(a b c d:Int):(jF w g o a b c d).heap.size=w.heap.size:=by simp[jF]
theorem aC.DZ{w:W}{base:Nat}{b n cap:Nat}{a:List (aN×Vq)}(h:aC w base (L (y ⟨b,0,z⟩) n cap) a){i:Nat}(d:i<a.length)(k g x c:Int):aC (jF w b (i*5+1) k g x c) base (L (y ⟨b,0,z⟩) n cap) (a.set i (⟨a[i].1.ops,⟨k,g,x,c⟩⟩,a[i].2)):=by
 have m:=cL a;refine⟨?_,?_,pW d _ h.apart⟩;·rw[pj a i d,List.length_set];exact tL h.row rfl (by omega) _ _ _ _
 ·intro c f;have j:∀x∈a,x.2.ownBlock≠y b:=fun x l e=>eS h.row (h.each x l) (by decide) b rfl e;rcases List.mem_or_eq_of_mem_set f with f|rfl;·exact jI (h.each c f) (j c f) _ _ _ _
  ·exact jI (h.each _ (List.getElem_mem d)) (j _ (List.getElem_mem d)) _ _ _ _
theorem aC.EU{w:W}{base:Nat}{v:Vq}{d:List (aN×Vq)}(h:aC w base v d){i j g:Nat}(f:i<d.length)(l:d[i].2.ownBlock=y g)(q:j<d[i].1.ops.length)(k a b c:Int):aC (jF w g (j*4) k a b c) base v (d.set i (⟨d[i].1.ops.set j ⟨k,a,b,c⟩,d[i].1.fin⟩,d[i].2)):=by
 have x:=cK d[i].1.ops;have p:=h.each _ (List.getElem_mem f);refine⟨?_,?_,pW f _ h.apart⟩;·rw[pk d i f,List.length_set];have n:v.ownBlock≠y g:=fun e=>eS h.row p (by decide) g e l;exact jI h.row n _ _ _ _
 ·intro A hz;obtain⟨m,r,rfl⟩:=List.getElem_of_mem hz;have o:m<d.length:=by simpa using r
  rw[List.getElem_set];split;·show World.ownsRow _ base 36 4 d[i].2 (d[i].1.ops.set j ⟨k,a,b,c⟩).length (bB (d[i].1.ops.set j ⟨k,a,b,c⟩));rw[wN _ _ q,List.length_set];exact tL p l (by omega) _ _ _ _
  ·rename_i n;have s:d[m].2.ownBlock≠y g:=by
    intro e;rcases Nat.lt_or_gt_of_ne n with t|u;·exact List.pairwise_iff_getElem.1 h.apart i m f o t g l e
    ·exact List.pairwise_iff_getElem.1 h.apart m i o f u g e l
   exact jI (h.each _ (List.getElem_mem o)) s _ _ _ _
end Go.Proofs.YtblhmeidbjigaabGreatDoor
