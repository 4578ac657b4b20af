import Derived.Lib.ItoaNum
import Derived.Lib.ItoaLen
import Derived.OpenShut
import Derived.Maps.AppendAt
import Derived.Shelf.Strconv.Itoa3
import Derived.Shelf.Lay
import Derived.Ground.NamesProg
import Derived.Lib.SmallJoins
import Derived.Lib.Hide
import Derived.StillTailTactics
import Derived.ProofKit
import Derived.SizedLaws
import Derived.Deep.Slices
import Derived.ShutString
import Derived.ChangeOld
import Derived.Deep.Strs
import Derived.Test.YtblhmeidbjigaabGreatDoorT03
set_option linter.unusedSimpArgs false
set_option linter.unusedVariables false
set_option maxRecDepth 100000
set_option maxHeartbeats 8000000
namespace Go.Proofs.YtblhmeidbjigaabGreatDoor
open Go.RowKit
open Go.Value renaming int→N,slice→L,string→Tq,agg→Aq,bool→Bq,tuple→Uq
open Go.IntKind renaming i64→Z
open Go.Obj renaming cells→Y
open Go.Ending renaming returned→Xq
open Option renaming none→z,some→y
open Nat renaming le_refl→Rq
open Go renaming World→W,Value→Vq
open Go.RowKit renaming Below→G
theorem ny(v:Vq)(d:List (aL×Vq))(w:W)(base:Nat)(mark:Int)(I:aP w base v d)(a3:base≤w.heap.size)(aF:d.length≤1000)(aG:∀x∈d,x.1.br.length≤1000)(a4:0≤mark∧mark≤4611686018427387904)(S:Nat→Prop)(aI:∀g,v.ownBlock=y g→S g)(aJ:∀x∈d,∀g,x.2.ownBlock=y g→S g):Calls Tryz.prog 80 #[Aq #[v],N Z mark] w fun e w'=>e=Xq (Bq true)∧(∃X,aP w' base v X∧X.length≤1000∧∀x∈X,x.1.br.length≤1000)∧aH S w w':=by
 obtain⟨al,cap,rfl⟩:=af I.row;go_enter Tryz.func80,Tryz.ntmps80;go_wp2;go_loopw[5](fun i wr=>∃(k:Nat)(c:List (aL×Vq)),k≤d.length∧i=N Z k∧Hid (c.length=d.length)∧Hid (∀x∈c,x.1.br.length≤1000)∧Hid (∀x∈c,∀g,x.2.ownBlock=y g→g<w.heap.size∧S g)∧DC mark k c∧aP wr base (L al d.length cap) c∧wr.cell? ⟨w.heap.size,0,z⟩=y (L al d.length cap)∧aH S w wr∧w.heap.size+1≤wr.heap.size)(fun i _=>d.length-(intOf i).toNat);case atStart=>exact⟨0,d,Nat.zero_le _,rfl,rfl,aG,fun x f g am=>⟨((I.each x f).lt g am).2,aJ x f g am⟩,fun i C a5=>by omega,I.alloc _,by simp,(aH.refl _ _).alloc _,by simp⟩
 case round=>
  obtain⟨k,c,a6,rfl,m,o,A,q,ho,J,E,hz⟩:=hrel;have an:w.heap.size<wr.heap.size:=by omega
  by_cases ao:k<d.length;case neg=>
   obtain⟨r,aa⟩:∃r,r=wr:=⟨_,rfl⟩;subst aa;have aK:DC mark c.length c:=fun i C _=>q i C (by have:=m.out;omega);go_wp2;clear q I;go_loop[7](fun i=>∃(j:Nat),j≤d.length∧i=N Z j)(fun i=>d.length-(intOf i).toNat);case atStart=>exact⟨0,Nat.zero_le _,rfl⟩
   case round=>
    obtain⟨j,aM,rfl⟩:=hrel;by_cases aN:j<d.length;case neg=>go_wp2;go_ret;exact⟨rfl,⟨_,ho,(by rw[m.out];exact aF),(by first|exact o.out|exact fun a b h=>o.out (a,b) h)⟩,E⟩
    have K:j<c.length:=by rw[m.out];exact aN
    obtain⟨b,rfl,aO,c1,c2,M⟩:=kI ho K;have s:=ho.each _ (List.getElem_mem K);have ab:=o.out _ (List.getElem_mem K);have ac:=aK j K K;rw[ac.1]at c1;have aQ:Hid (∀i,i<c[j].1.br.length→bP c[j].1.br i=mark+j):=ac.2;obtain⟨ad,ae,t⟩:=af s;rw[t]at c2 s;clear ac t;generalize c[j].1.br=ps at*;have a7:(mark+(j:Int)!=mark+(j:Int))=false:=by simp
    go_wp2;go_loop[8](fun i=>∃(F:Nat),F≤ps.length∧i=N Z F)(fun i=>ps.length-(intOf i).toNat);case atStart=>exact⟨0,Nat.zero_le _,rfl⟩
    case round=>
     obtain⟨F,a8,rfl⟩:=hrel;by_cases ap:F<ps.length
     ·obtain⟨g,rfl,aR,d1,d2,ag⟩:=me s ap;rw[aQ.out F ap]at d1;go_wp2;go_round;case rel=>exact⟨F+1,by omega,by go_num⟩
      case measure=>simp[intOf];omega
     ·go_wp2;go_round;case rel=>exact⟨j+1,by omega,by go_num⟩
      case measure=>simp[intOf];omega
  obtain⟨r,aa⟩:∃r,r=wr:=⟨_,rfl⟩;subst aa;have l:k<c.length:=by rw[m.out];exact ao
  obtain⟨b,rfl,aO,c1,c2,M⟩:=kI ho l;have a9:b<w.heap.size:=((I.row).lt b rfl).2;have aS:=M (k*2);have ar:=ho.D0 l (mark+k);have au:=q.set (⟨mark+k,c[k].1.br⟩,c[k].2);have av:Hid ((c.set k (⟨mark+k,c[k].1.br⟩,c[k].2)).length=d.length):=by show List.length _=_;rw[List.length_set];exact m.out
  have aw:Hid (∀x∈c.set k (⟨mark+k,c[k].1.br⟩,c[k].2),x.1.br.length≤1000):=by
   intro x f;rcases List.mem_or_eq_of_mem_set f with f|rfl;·exact o.out x f
   ·exact o.out c[k] (List.getElem_mem l)
  have ax:Hid (∀x∈c.set k (⟨mark+k,c[k].1.br⟩,c[k].2),∀g,x.2.ownBlock=y g→g<w.heap.size∧S g):=by
   intro x f;rcases List.mem_or_eq_of_mem_set f with f|rfl;·exact A.out x f
   ·exact A.out c[k] (List.getElem_mem l)
  have H:Hid (aU (da (c.set k (⟨mark+k,c[k].1.br⟩,c[k].2))) k=mark+k):=by show aU _ _=_;rw[(gN _ (by rw[List.length_set];exact l)).1,List.getElem_set_self]
  have O:(r.setCell ⟨b,k*2,z⟩ (N Z (mark+k))).cell? ⟨w.heap.size,0,z⟩=y (L (y ⟨b,0,z⟩) d.length cap):=ba (by simp) J;have P:=E.setCell (p:=⟨b,k*2,z⟩) (.inl (aI b rfl)) (N Z (mark+k));have ay:w.heap.size+1≤(r.setCell ⟨b,k*2,z⟩ (N Z (mark+k))).heap.size:=by simpa using hz
  go_wp2;generalize c.set k (⟨mark+k,c[k].1.br⟩,c[k].2)=aT at*;generalize r.setCell ⟨b,k*2,z⟩ (N Z (mark+k))=w1 at*;clear q m o A ho J E hz an l c1 c2 M aS c r;go_loopw[6](fun i Q=>∃(j:Nat)(c:List (aL×Vq)),j≤1000∧i=N Z j∧Hid (c.length=d.length)∧Hid (∀x∈c,x.1.br.length≤1000)∧Hid (∀x∈c,∀g,x.2.ownBlock=y g→g<w.heap.size∧S g)∧DC mark k c∧Hid (aU (da c) k=mark+k)∧Hid (j≤(aq (da c) k).length∧∀i,i<j→bP (aq (da c) k) i=mark+k)∧aP Q base (L (y ⟨b,0,z⟩) d.length cap) c∧Q.cell? ⟨w.heap.size,0,z⟩=y (L (y ⟨b,0,z⟩) d.length cap)∧aH S w Q∧w.heap.size+1≤Q.heap.size)(fun i _=>1000-(intOf i).toNat);case atStart=>exact⟨0,aT,by omega,rfl,av,aw,ax,au,H,⟨Nat.zero_le _,fun i C=>by omega⟩,ar,O,P,ay⟩
  case round=>
   clear av aw ax au H ar O P ay;obtain⟨j,c,aM,rfl,m,o,A,q,H,ah,ho,J,E,hz⟩:=hrel;have l:k<c.length:=by rw[m.out];exact ao
   have an:w.heap.size<wr.heap.size:=by omega
   obtain⟨a_,az,_,c1,c2,M⟩:=kI ho l;simp only[Option.some.injEq,Addr.mk.injEq,and_true]at az;obtain rfl:=az;have s:=ho.each _ (List.getElem_mem l);have ab:=o.out _ (List.getElem_mem l);have ai:=A.out _ (List.getElem_mem l);have R:Hid (aU (da c) k=c[k].1.src∧aq (da c) k=c[k].1.br):=gN c l;obtain⟨ad,ae,t⟩:=af s;have T:Hid (j≤c[k].1.br.length∧∀i,i<j→bP c[k].1.br i=mark+k):=by have:=ah.out;rw[R.out.2]at this;exact this
   have U:Hid (c[k].1.src=mark+k):=by have:=H.out;rw[R.out.1]at this;exact this
   have aA:Hid (c[k].2=L ad c[k].1.br.length ae):=t;rw[t]at c2;obtain⟨n,B⟩:∃n,n=c[k].1.br.length:=⟨_,rfl⟩;rw[←B]at c2;have aB:Hid (n=c[k].1.br.length):=B;have bb:n≤1000:=by rw[B];exact ab
   by_cases bc:j<n;case neg=>
    have aj:DC mark (k+1) c:=by
     intro i C bd;by_cases e:i=k;·subst e;exact⟨U.out,fun aV be=>T.out.2 aV (by omega)⟩
     ·exact q i C (by omega)
    clear t B ah H T U q R aA aB s;go_wp2;go_roundw;case rel=>exact⟨k+1,c,by omega,by go_num,m,o,A,aj,ho,J,E,hz⟩
    case measure=>simp[intOf];omega
   have aC:wr.ownsRow base 38 2 (L ad n ae) c[k].1.br.length (bf c[k].1.br):=by rw[t,←B]at s;rw[←B];exact s
   obtain⟨g,rfl,aR,d1,d2,ag⟩:=me aC (j:=j) (by omega);have bg:=ag (j*2);have bh:=ag (j*2+1);have ak:c[k].2.ownBlock=y g:=by rw[t];rfl
   have bi:g<w.heap.size:=(ai g ak).1;have aD:=(ai g ak).2;have aW:=ho.Dp l ak (j:=j) (by omega) (mark+k) 0;have aj:=q.set (⟨c[k].1.src,c[k].1.br.set j ⟨mark+k,0⟩⟩,c[k].2);have aX:Hid ((c.set k (⟨c[k].1.src,c[k].1.br.set j ⟨mark+k,0⟩⟩,c[k].2)).length=d.length):=by show List.length _=_;rw[List.length_set];exact m.out
   have aY:Hid (∀x∈c.set k (⟨c[k].1.src,c[k].1.br.set j ⟨mark+k,0⟩⟩,c[k].2),x.1.br.length≤1000):=by
    intro x f;rcases List.mem_or_eq_of_mem_set f with f|rfl;·exact o.out x f
    ·show List.length (List.set _ _ _)≤1000;rw[List.length_set];exact ab
   have aZ:Hid (∀x∈c.set k (⟨c[k].1.src,c[k].1.br.set j ⟨mark+k,0⟩⟩,c[k].2),∀g,x.2.ownBlock=y g→g<w.heap.size∧S g):=by
    intro x f;rcases List.mem_or_eq_of_mem_set f with f|rfl;·exact A.out x f
    ·exact ai
   have V:=gN (c.set k (⟨c[k].1.src,c[k].1.br.set j ⟨mark+k,0⟩⟩,c[k].2)) (i:=k) (by rw[List.length_set];exact l);rw[List.getElem_set_self]at V;have a0:Hid (aU (da (c.set k (⟨c[k].1.src,c[k].1.br.set j ⟨mark+k,0⟩⟩,c[k].2))) k=mark+k):=by show aU _ _=_;rw[V.1];exact U.out
   have a1:Hid (j+1≤(aq (da (c.set k (⟨c[k].1.src,c[k].1.br.set j ⟨mark+k,0⟩⟩,c[k].2))) k).length∧∀i,i<j+1→bP (aq (da (c.set k (⟨c[k].1.src,c[k].1.br.set j ⟨mark+k,0⟩⟩,c[k].2))) k) i=mark+k):=by
    show _∧_;rw[V.2];refine⟨by simp only[List.length_set];omega,fun i C=>?_⟩;by_cases e:i=j;·subst e;simp[bP,List.getD,show i<c[k].1.br.length by omega]
    ·have:=T.out.2 i (by omega);simp only[bP,List.getD,List.getElem?_set_ne (fun h=>e h.symm)]at this⊢;exact this
   have O:∀u aE,((wr.setCell ⟨g,j*2,z⟩ u).setCell ⟨g,j*2+1,z⟩ aE).cell? ⟨w.heap.size,0,z⟩=y (L (y ⟨b,0,z⟩) d.length cap):=fun u aE=>ba (by simp) (ba (by simp) J);have P:=(E.setCell (p:=⟨g,j*2,z⟩) (.inl aD) (N Z (mark+k))).setCell (p:=⟨g,j*2+1,z⟩) (.inl aD) (N Z 0);generalize c.set k (⟨c[k].1.src,c[k].1.br.set j ⟨mark+k,0⟩⟩,c[k].2)=a2 at*;clear t B ah H T U q R aA aB s aC V ho m o A;go_wp2;go_roundw;case rel=>exact⟨j+1,a2,by omega,by go_num,aX,aY,aZ,aj,a0,a1,aW,O _ _,P,by simpa using hz⟩
   case measure=>simp[intOf];omega
theorem sM(s:ByteArray)(k:Int)(w:W)(hs:s.size≤maxLen)(a9:0≤k∧k≤4611686018427387):Calls Tryz.prog 42 #[Tq s,N Z k] w fun e w'=>(∃v i,e=Xq (Uq #[Aq #[v],Bq true])∧aP w' w.heap.size v i∧i.length≤1000∧∀x∈i,x.1.br.length≤1000)∧G w.heap.size w w':=by
 obtain⟨ar,au⟩:∃ar:Ending→W→Prop,ar=fun e w'=>(∃v i,e=Xq (Uq #[Aq #[v],Bq true])∧aP w' w.heap.size v i∧i.length≤1000∧∀x∈i,x.1.br.length≤1000)∧G w.heap.size w w':=⟨_,rfl⟩;rw[←au];have an:Hid (∀v i w',aP w' w.heap.size v i→(i.length≤1000∧∀x∈i,x.1.br.length≤1000)→G w.heap.size w w'→ar (Xq (Uq #[Aq #[v],Bq true])) w'):=by intro v i w' aZ a0 a1;rw[au];exact⟨⟨v,i,rfl,aZ,a0⟩,a1⟩
 clear au;have hc:=pI s (w.alloc (Y #[L z 0 0] 30)) hs;go_enter Tryz.func42,Tryz.ntmps42;go_wp2_with fail;refine hc.mono ?_;clear hc;rintro e w1⟨P,aT⟩;have ao:G (w.heap.size+1) (w.alloc (Y #[L z 0 0] 30)) w1:=by simpa using aT
 have a2:=ao.size;simp at a2;have aU:w1.cell? ⟨w.heap.size,0,z⟩=y (L z 0 0):=(ao.cell (by simp)).trans (by simp);have aV:w1.frozen? ⟨w.heap.size,0,z⟩=false:=(ao.frozen (by simp)).trans (by simp);have aW:=Below.under ao;have aX:w.heap.size<w1.heap.size:=by omega
 clear aT;rcases P with⟨ap,a,rfl,t,g1,av⟩|⟨aY,rfl⟩
 ·obtain⟨d,c1,rfl⟩:=af t.row;have t:aP w1 (w.heap.size+1) (L d a.length c1) a:=by simpa using t
  have aw:=ya g1;have hc:=iS s (w1.alloc (Y #[L d a.length c1] 30)) hs;go_wp2_with fail;refine hc.mono ?_;clear hc;rintro e c⟨P,Q⟩;have H:G (w1.heap.size+1) (w1.alloc (Y #[L d a.length c1] 30)) c:=by simpa using Q
  clear Q;rcases P with⟨a3,F,rfl,o,g2,aq⟩|⟨ax,rfl⟩;case inr=>exact absurd av (ax _ g1)
  obtain⟨R,c2,rfl⟩:=af o.row;have o:aP c (w1.heap.size+1) (L R F.length c2) F:=by simpa using o
  have ay:da a=da F:=nh g1 g2 (av.trans aq.symm);clear av aq g1 g2;have az:=H.size;simp at az;have aA:c.cell? ⟨w1.heap.size,0,z⟩=y (L d a.length c1):=(H.cell (by simp)).trans (by simp);have u:=Below.under H;have I:=t.fA u;have A:=aw;have aB:=aa u aU;have aC:=(u.frozen (p:=⟨w.heap.size,0,z⟩) aX).trans aV;have a4:w1.heap.size<c.heap.size:=by omega
  have aD:w.heap.size<c.heap.size:=by omega
  have q:=(I.alloc (Y #[(L R F.length c2)] 30)).rd;have j:=(o.alloc (Y #[(L R F.length c2)] 30)).rd;rw[←ay]at j;go_wp2_with fail;refine(e_ _ _ _ _ q j).mono ?_;rintro e C⟨rfl,S⟩;have J:G (c.heap.size+1) (c.alloc (Y #[(L R F.length c2)] 30)) C:=by simpa using S
  clear S q j;have l:=Below.under J;have aE:=J.size;simp at aE;have aF:=aa l aA;have aG:C.cell? ⟨c.heap.size,0,z⟩=y (L R F.length c2):=(J.cell (by simp)).trans (by simp);have aH:=aa l aB;have aI:=(l.frozen (p:=⟨w.heap.size,0,z⟩) aD).trans aC;have T:=I.fA l;have U:=o.fA l;have m:∀g,jE (L d a.length c1) a g→w.heap.size+1≤g∧g<w1.heap.size:=fun g b=>by have:=zB t g b;exact this
  have K:∀g,(Value.slice d a.length c1).ownBlock=y g→jE (L d a.length c1) a g:=fun g b=>.inl b;have M:∀x∈a,∀g,x.2.ownBlock=y g→jE (L d a.length c1) a g:=fun x V g b=>.inr ⟨x,V,b⟩;have X:¬jE (L d a.length c1) a w1.heap.size:=fun h=>by have:=m _ h;omega
  have aJ:¬jE (L d a.length c1) a c.heap.size:=fun h=>by have:=m _ h;omega
  have E:¬jE (L d a.length c1) a w.heap.size:=fun h=>by have:=m _ h;omega
  have ab:=k6 (L d a.length c1) a C (w.heap.size+1) T (by omega) A.1 A.2 (jE (L d a.length c1) a) K M;go_wp2_with fail;refine ab.mono ?_;clear ab;rintro e ac⟨rfl,O,f⟩;have u1:=f.cell X aF;have u2:=f.cell aJ aG;have u0:=f.cell E aH;have aK:ac.frozen? ⟨w.heap.size,0,z⟩=false:=(World.frozen?_of_block (w:=C) (f.block w.heap.size (by omega) E)).trans aI;have ad:=U.jX f (fun g b=>by have:=m g b;omega);have a5:=f.size;have q:=O.rd;have j:=ad.rd;rw[←ay]at j;go_wp2_with fail;refine(e_ _ _ _ _ q j).mono ?_;rintro e ae⟨rfl,n⟩;have ap:=aa n u1;have aM:=aa n u0;have aN:=(n.frozen (p:=⟨w.heap.size,0,z⟩) (by show w.heap.size<ac.heap.size;omega)).trans aK;have ag:=O.fA n;have a6:=n.size;have ah:=ny (L d a.length c1) a ae (w.heap.size+1) (77+100*k) ag (by omega) A.1 A.2 (by omega) (jE (L d a.length c1) a) K M;clear q j;go_wp2_with fail;refine ah.mono ?_;clear ah;rintro e ai⟨rfl,⟨aO,aj,aQ⟩,r⟩;have a7:=r.cell X ap;have aR:=r.cell E aM;have a8:ai.frozen? ⟨w.heap.size,0,z⟩=false:=(World.frozen?_of_block (w:=ae) (r.block w.heap.size (by omega) E)).trans aN;have ak:=aW.trans (u.mono (by omega))|>.trans (l.mono (by omega));have al:=ak.trans ((f.toBelow (B:=w.heap.size) (by omega) (fun g b=>by have:=m g b;omega)));have am:=(al.trans (n.mono (by omega))).trans ((r.toBelow (B:=w.heap.size) (by omega) (fun g b=>by have:=m g b;omega)));have aS:=an.out (L d a.length c1) aO (ai.setCell ⟨w.heap.size,0,z⟩ (L d a.length c1)) ((aj.set (by simp) _).base (by omega)) aQ (am.setCell (by simp) _);clear r f O ad ag aj T U t o I ak al am an K M;go_wp2;exact bodyPost_ret (v:=Uq #[Aq #[(L d a.length c1)],Bq true]) (by simp[results,Tryz.results42,go_sem,aR]) rfl aS
 ·have t:aP w1 (w.heap.size+1) (L z 0 0) []:=jH _ _;have aw:([]:List (aL×Vq)).length≤1000∧∀x∈([]:List (aL×Vq)),x.1.br.length≤1000:=⟨by simp,fun x V=>by cases V⟩;have hc:=iS s (w1.alloc (Y #[L z 0 0] 30)) hs;go_wp2_with fail;refine hc.mono ?_;clear hc;rintro e c⟨P,Q⟩;have H:G (w1.heap.size+1) (w1.alloc (Y #[L z 0 0] 30)) c:=by simpa using Q
  clear Q;rcases P with⟨a3,F,rfl,o,g2,aq⟩|⟨ax,rfl⟩;case inl=>exact absurd aq (aY _ g2)
  have o:aP c (w1.heap.size+1) (L z 0 0) []:=jH _ _;have ay:da []=da []:=rfl;clear aY ax;have az:=H.size;simp at az;have aA:c.cell? ⟨w1.heap.size,0,z⟩=y (L z 0 0):=(H.cell (by simp)).trans (by simp);have u:=Below.under H;have I:=t.fA u;have A:=aw;have aB:=aa u aU;have aC:=(u.frozen (p:=⟨w.heap.size,0,z⟩) aX).trans aV;have a4:w1.heap.size<c.heap.size:=by omega
  have aD:w.heap.size<c.heap.size:=by omega
  have q:=(I.alloc (Y #[(L z 0 0)] 30)).rd;have j:=(o.alloc (Y #[(L z 0 0)] 30)).rd;go_wp2_with fail;refine(e_ _ _ _ _ q j).mono ?_;rintro e C⟨rfl,S⟩;have J:G (c.heap.size+1) (c.alloc (Y #[(L z 0 0)] 30)) C:=by simpa using S
  clear S q j;have l:=Below.under J;have aE:=J.size;simp at aE;have aF:=aa l aA;have aG:C.cell? ⟨c.heap.size,0,z⟩=y (L z 0 0):=(J.cell (by simp)).trans (by simp);have aH:=aa l aB;have aI:=(l.frozen (p:=⟨w.heap.size,0,z⟩) aD).trans aC;have T:=I.fA l;have U:=o.fA l;have m:∀g,jE (L z 0 0) [] g→w.heap.size+1≤g∧g<w1.heap.size:=fun g b=>by have:=zB t g b;exact this
  have K:∀g,(Value.slice z 0 0).ownBlock=y g→jE (L z 0 0) [] g:=fun g b=>.inl b;have M:∀x∈([]:List (aL×Vq)),∀g,x.2.ownBlock=y g→jE (L z 0 0) [] g:=fun x V g b=>.inr ⟨x,V,b⟩;have X:¬jE (L z 0 0) [] w1.heap.size:=fun h=>by have:=m _ h;omega
  have aJ:¬jE (L z 0 0) [] c.heap.size:=fun h=>by have:=m _ h;omega
  have E:¬jE (L z 0 0) [] w.heap.size:=fun h=>by have:=m _ h;omega
  have ab:=k6 (L z 0 0) [] C (w.heap.size+1) T (by omega) A.1 A.2 (jE (L z 0 0) []) K M;go_wp2_with fail;refine ab.mono ?_;clear ab;rintro e ac⟨rfl,O,f⟩;have u1:=f.cell X aF;have u2:=f.cell aJ aG;have u0:=f.cell E aH;have aK:ac.frozen? ⟨w.heap.size,0,z⟩=false:=(World.frozen?_of_block (w:=C) (f.block w.heap.size (by omega) E)).trans aI;have ad:=U.jX f (fun g b=>by have:=m g b;omega);have a5:=f.size;have q:=O.rd;have j:=ad.rd;go_wp2_with fail;refine(e_ _ _ _ _ q j).mono ?_;rintro e ae⟨rfl,n⟩;have ap:=aa n u1;have aM:=aa n u0;have aN:=(n.frozen (p:=⟨w.heap.size,0,z⟩) (by show w.heap.size<ac.heap.size;omega)).trans aK;have ag:=O.fA n;have a6:=n.size;have ah:=ny (L z 0 0) [] ae (w.heap.size+1) (77+100*k) ag (by omega) A.1 A.2 (by omega) (jE (L z 0 0) []) K M;clear q j;go_wp2_with fail;refine ah.mono ?_;clear ah;rintro e ai⟨rfl,⟨aO,aj,aQ⟩,r⟩;have a7:=r.cell X ap;have aR:=r.cell E aM;have a8:ai.frozen? ⟨w.heap.size,0,z⟩=false:=(World.frozen?_of_block (w:=ae) (r.block w.heap.size (by omega) E)).trans aN;have ak:=aW.trans (u.mono (by omega))|>.trans (l.mono (by omega));have al:=ak.trans ((f.toBelow (B:=w.heap.size) (by omega) (fun g b=>by have:=m g b;omega)));have am:=(al.trans (n.mono (by omega))).trans ((r.toBelow (B:=w.heap.size) (by omega) (fun g b=>by have:=m g b;omega)));have aS:=an.out (L z 0 0) aO (ai.setCell ⟨w.heap.size,0,z⟩ (L z 0 0)) ((aj.set (by simp) _).base (by omega)) aQ (am.setCell (by simp) _);clear r f O ad ag aj T U t o I ak al am an K M;go_wp2;exact bodyPost_ret (v:=Uq #[Aq #[(L z 0 0)],Bq true]) (by simp[results,Tryz.results42,go_sem,aR]) rfl aS
theorem BF(x a b u:Int)(w:W):Calls Tryz.prog 110 #[L (y ⟨w.heap.size,0,z⟩) 4 4] (w.alloc (Y #[N Z x,N Z a,N Z b,N Z u] 3)) fun e w'=>e=Xq (Tq ⟨#[cx x,cx a,cx b,cx u]⟩)∧G w.heap.size w w':=by
 have h:=lL w.heap.size 0 4 [x,a,b,u] (w.alloc (Y #[N Z x,N Z a,N Z b,N Z u] 3)) (by simp) (by simp) (by
  intro i c;obtain rfl|rfl|rfl|rfl:i=0∨i=1∨i=2∨i=3:=by simp at c;omega
  all_goals simp[el]);refine h.mono ?_;rintro e w'⟨rfl,d⟩;exact⟨rfl,((Below.refl _ _).alloc (Rq _) _).trans (d.mono (by simp))⟩
theorem DD(x a b u v:Int)(w:W):Calls Tryz.prog 110 #[L (y ⟨w.heap.size,0,z⟩) 5 5] (w.alloc (Y #[N Z x,N Z a,N Z b,N Z u,N Z v] 3)) fun e w'=>e=Xq (Tq ⟨#[cx x,cx a,cx b,cx u,cx v]⟩)∧G w.heap.size w w':=by
 have h:=lL w.heap.size 0 5 [x,a,b,u,v] (w.alloc (Y #[N Z x,N Z a,N Z b,N Z u,N Z v] 3)) (by simp) (by simp) (by
  intro i c;obtain rfl|rfl|rfl|rfl|rfl:i=0∨i=1∨i=2∨i=3∨i=4:=by simp at c;omega
  all_goals simp[el]);refine h.mono ?_;rintro e w'⟨rfl,d⟩;exact⟨rfl,((Below.refl _ _).alloc (Rq _) _).trans (d.mono (by simp))⟩
def gY(p:a8)(k j:Nat):ByteArray:=dP p k++fM (aj p.blocks k) j
theorem vd(p:a8)(k:Nat):gY p k 0=dP p k++⟨#[cx (aj p.blocks k).length]⟩:=rfl
theorem wV{p:a8}{k j:Nat}(a:j<(aj p.blocks k).length):gY p k (j+1)=gY p k j++⟨#[cx (cD (aj p.blocks k) j),cx (oa (aj p.blocks k) j),cx (ob (aj p.blocks k) j),cx (oc (aj p.blocks k) j)]⟩:=by unfold gY;rw[mU a,jO]
theorem yH{p:a8}{k j:Nat}(a:k<p.blocks.length)(b:(aj p.blocks k).length≤j):gY p k j++⟨#[cx (fX p.blocks k),cx (gJ p.blocks k),cx (iT p.blocks k),cx (ja p.blocks k)]⟩=dP p (k+1):=by unfold gY;rw[jO,oG ⟨fX p.blocks k,gJ p.blocks k,iT p.blocks k,ja p.blocks k⟩ b,oW a]
theorem wU{p:a8}(a:aB p=true){k j:Nat}(b:k<p.blocks.length)(c:j≤(aj p.blocks k).length):(gY p k j).size≤400:=by have d:=lG a k;have e:=i_ a b;have f:=mT (aj p.blocks k) j c;unfold gY;rw[ByteArray.size_append];omega
theorem tT(p:a8)(v:Vq)(w:W)(af:bm w v p.blocks)(f:aB p=true):Calls Tryz.prog 71 #[Aq #[N Z p.args,N Z p.regs,N Z p.data,N Z p.slots,v]] w fun e w'=>e=Xq (Tq (ay (aK p)))∧G w.heap.size w w':=by
 obtain⟨B,cap,rfl,az,hc⟩:=af;obtain⟨q,C⟩:∃q,ay (aK p)=q:=⟨_,rfl⟩;rw[C];have Q:Hid (ay (aK p)=q):=C;clear C;have aA:=(dw f).2;have E:(⟨#[84,87]⟩:ByteArray)++⟨#[cx p.args,cx p.regs,cx p.data,cx p.slots,cx p.blocks.length]⟩=dP p 0:=by show ay [84,87]++ay [_,_,_,_,_]=_;rw[cE];rfl
 have F:=DD p.args p.regs p.data p.slots p.blocks.length (w.alloc (Y #[N Z p.args,N Z p.regs,N Z p.data,N Z p.slots,L B p.blocks.length cap] 25));simp only[World.size_alloc]at F;have H:Hid (∀k,k<p.blocks.length→gY p k 0=dP p k++⟨#[cx (aj p.blocks k).length]⟩):=fun k _=>vd p k;have ag:Hid (∀k,k<p.blocks.length→(aj p.blocks k).length≤12):=fun k R=>i_ f R;have S:Hid (∀k,(dP p k).size≤330):=fun k=>lG f k;have T:Hid (∀k j,k<p.blocks.length→j≤(aj p.blocks k).length→(gY p k j).size≤400):=fun k j I J=>wU f I J;have U:Hid (∀k j,j<(aj p.blocks k).length→gY p k (j+1)=gY p k j++⟨#[cx (cD (aj p.blocks k) j),cx (oa (aj p.blocks k) j),cx (ob (aj p.blocks k) j),cx (oc (aj p.blocks k) j)]⟩):=fun k j h=>wV h;have K:Hid (∀k j,k<p.blocks.length→(aj p.blocks k).length≤j→gY p k j++⟨#[cx (fX p.blocks k),cx (gJ p.blocks k),cx (iT p.blocks k),cx (ja p.blocks k)]⟩=dP p (k+1)):=fun k j I J=>yH I J;have V:Hid (dP p p.blocks.length=q):=(rH (Rq _)).trans Q.out;obtain⟨g,M⟩:∃g:Nat→ByteArray,g=dP p:=⟨_,rfl⟩;obtain⟨a,X⟩:∃a:Nat→Nat→ByteArray,a=gY p:=⟨_,rfl⟩;rw[←M]at E V;rw[←M]at H S K;rw[←X]at H T U K;clear M X Q;generalize p.blocks=l at*;generalize p.args=ah at*;generalize p.regs=ai at*;generalize p.data=ak at*;generalize p.slots=al at*;clear f;go_enter Tryz.func71,Tryz.ntmps71;go_wp2_with fail;refine F.mono ?_;clear F;rintro e w1⟨rfl,d⟩;go_wp2;go_loopw[3,4](fun s i wr=>∃(k:Nat),k≤l.length∧i=N Z k∧s=Tq (g k)∧G (w.heap.size+1) (w.alloc (Y #[N Z ah,N Z ai,N Z ak,N Z al,L B l.length cap] 25)) wr)(fun _ i _=>l.length-(intOf i).toNat);case atStart=>exact⟨0,Nat.zero_le _,rfl,by first|rfl|rw[←E],by simpa using d⟩
 case round=>
  clear E d w1;obtain⟨k,R,rfl,rfl,r⟩:=hrel;have O:=Below.under r;have t:wr.cell? ⟨w.heap.size,4,z⟩=y (L B l.length cap):=(r.cell (by simp)).trans (by simp);have hz:=r.size;simp at hz;by_cases m:k<l.length;case neg=>
   obtain rfl:k=l.length:=by omega
   have am:=V.out;go_wp2;go_ret;exact⟨by simp[am],O⟩
  obtain⟨b,an,sv,rfl,c1,c2,c3,c4,c5,ao⟩:=hc k m;have e1:=aa O c1;have ab:=ao.ab O;obtain⟨aC,aD,u,_,_⟩:=id ab;subst u;have aE:=ag.out k m;have aF:=S.out k;have ac:=BC (aj l k).length wr;have ap:Hid (a k 0=g k++⟨#[cx (aj l k).length]⟩):=H.out k m;obtain⟨x,aq⟩:∃x,x=wr:=⟨_,rfl⟩;subst aq;go_wp2_with fail;refine ac.mono ?_;clear ac;rintro e w1⟨rfl,ad⟩;clear t e1;go_wp2;go_loopw[3,5](fun s i ar=>∃(j:Nat),j≤(aj l k).length∧i=N Z j∧s=Tq (a k j)∧G x.heap.size x ar)(fun _ i _=>(aj l k).length-(intOf i).toNat);case atStart=>exact⟨0,Nat.zero_le _,rfl,by rw[ap.out],ad⟩
  case round=>
   clear ad w1;obtain⟨j,au,rfl,rfl,A⟩:=hrel;have d:=r.trans (A.mono (by omega));have n:=Below.under d;have t:wr.cell? ⟨w.heap.size,4,z⟩=y (L (y ⟨b,an,z⟩) l.length cap):=(d.cell (by simp)).trans (by simp);have e1:=aa n c1;have e2:=aa n c2;have e3:=aa n c3;have e4:=aa n c4;have e5:=aa n c5;have aG:=T.out k j m au;have aH:=A.size;by_cases ae:j<(aj l k).length;case neg=>
    have av:Hid (a k j++⟨#[cx (fX l k),cx (gJ l k),cx (iT l k),cx (ja l k)]⟩=g (k+1)):=K.out k j m (by omega);have c:=BF (fX l k) (gJ l k) (iT l k) (ja l k) (wr.alloc (Y #[N Z (fX l k),N Z (gJ l k),N Z (iT l k),N Z (ja l k)] 40));simp only[World.size_alloc]at c;go_wp2_with fail;refine c.mono ?_;clear c;rintro e w1⟨rfl,o⟩;have P:=(d.alloc (by omega) (Y #[N Z (fX l k),N Z (gJ l k),N Z (iT l k),N Z (ja l k)] 40)).trans (o.mono (by first|omega|(simp;omega)));clear t e1 e2 e3 e4 e5 o;go_wp2;go_roundw;case rel=>exact⟨k+1,by omega,by go_num,by rw[av.out],P⟩
    case measure=>simp[intOf];omega
   obtain⟨aI,aJ,u,_,aw⟩:=ab.ab A;simp only[Value.slice.injEq,true_and]at u;obtain⟨rfl,rfl⟩:=u;obtain⟨b2,aL,rfl,d1,d2,d3,d4⟩:=aw j ae;have ax:Hid (a k (j+1)=a k j++⟨#[cx (cD (aj l k) j),cx (oa (aj l k) j),cx (ob (aj l k) j),cx (oc (aj l k) j)]⟩):=U.out k j ae;have c:=BF (cD (aj l k) j) (oa (aj l k) j) (ob (aj l k) j) (oc (aj l k) j) (wr.alloc (Y #[N Z (cD (aj l k) j),N Z (oa (aj l k) j),N Z (ob (aj l k) j),N Z (oc (aj l k) j)] 36));simp only[World.size_alloc]at c;go_wp2_with fail;refine c.mono ?_;clear c;rintro e w1⟨rfl,o⟩;have P:=(A.alloc (by omega) (Y #[N Z (cD (aj l k) j),N Z (oa (aj l k) j),N Z (ob (aj l k) j),N Z (oc (aj l k) j)] 36)).trans (o.mono (by first|omega|(simp;omega)));clear t e1 e2 e3 e4 e5 o d1 d2 d3 d4;go_wp2;go_roundw;case rel=>exact⟨j+1,by omega,by go_num,by rw[ax.out],P⟩
   case measure=>simp[intOf];omega
def bB(l:List dr):List Vq:=l.flatMap fun o=>[N Z o.kind,N Z o.a,N Z o.b,N Z o.c]
theorem nt(l:List dr)(k a b c:Int):bB (l++[⟨k,a,b,c⟩])=bB l++[N Z k,N Z a,N Z b,N Z c]:=by simp[bB]
theorem cK(l:List dr):(bB l).length=l.length*4:=by induction l with|nil=>rfl|cons p a b=>simp only[bB,List.flatMap_cons,List.length_append,List.length_cons,List.length_nil]at*;omega
theorem lz(l:List dr)(i:Nat)(a:i<l.length):(bB l)[i*4]?=y (N Z (cD l i))∧(bB l)[i*4+1]?=y (N Z (oa l i))∧(bB l)[i*4+2]?=y (N Z (ob l i))∧(bB l)[i*4+3]?=y (N Z (oc l i)):=by
 induction l generalizing i with
  |nil=>simp at a
  |cons p c b=>
   cases i with
    |zero=>exact⟨rfl,rfl,rfl,rfl⟩
    |succ i=>
     have h:=b i (by simpa using a);have e1:(i+1)*4=i*4+1+1+1+1:=by omega
     rw[e1];exact h
def bu(a:List (aN×Vq)):List Vq:=a.flatMap fun x=>[x.2,N Z x.1.fin.kind,N Z x.1.fin.r,N Z x.1.fin.x,N Z x.1.fin.y]
theorem l7(a:List (aN×Vq))(l:List dr)(k b x c:Int)(sv:Vq):bu (a++[(⟨l,⟨k,b,x,c⟩⟩,sv)])=bu a++[sv,N Z k,N Z b,N Z x,N Z c]:=by simp[bu]
theorem cL(a:List (aN×Vq)):(bu a).length=a.length*5:=by induction a with|nil=>rfl|cons p b c=>simp only[bu,List.flatMap_cons,List.length_append,List.length_cons,List.length_nil]at*;omega
theorem km(a:List (aN×Vq))(i:Nat)(b:i<a.length):(bu a)[i*5]?=y a[i].2∧(bu a)[i*5+1]?=y (N Z a[i].1.fin.kind)∧(bu a)[i*5+2]?=y (N Z a[i].1.fin.r)∧(bu a)[i*5+3]?=y (N Z a[i].1.fin.x)∧(bu a)[i*5+4]?=y (N Z a[i].1.fin.y):=by
 induction a generalizing i with
  |nil=>simp at b
  |cons p d c=>
   cases i with
    |zero=>exact⟨rfl,rfl,rfl,rfl,rfl⟩
    |succ i=>
     have h:=c i (by simpa using b);have e1:(i+1)*5=i*5+1+1+1+1+1:=by omega
     rw[e1];exact h
structure aC(w:World)(base:Nat)(v:Value)(bv:List (aN×Value)):Prop where
 row:w.ownsRow base 42 5 v bv.length (bu bv)
 each:∀x∈bv,w.ownsRow base 36 4 x.2 x.1.ops.length (bB x.1.ops)
 apart:bv.Pairwise fun x y=>∀g,x.2.ownBlock=some g→y.2.ownBlock≠some g
def dT(a:List (aN×Vq)):List aN:=a.map (·.1)
theorem bD(a:List (aN×Vq)):(dT a).length=a.length:=by simp[dT]
theorem gF(a:List (aN×Vq)){i:Nat}(b:i<a.length):aj (dT a) i=a[i].1.ops∧b_ (dT a) i=a[i].1.fin:=by constructor<;>simp[aj,b_,dT,b]
theorem iA(w:W)(base:Nat):aC w base (L z 0 0) []:=⟨World.ownsRow_nil _ _ _ _,fun x a=>by simp at a,List.Pairwise.nil⟩
theorem aC.below{w w':W}{base:Nat}{v:Vq}{a:List (aN×Vq)}(h:aC w base v a){B:Nat}(b:G B w w')(c:w.heap.size≤B):aC w' base v a:=⟨aV h.row b c,fun x d=>aV (h.each x d) b c,h.apart⟩
theorem aC.alloc{w:W}{base:Nat}{v:Vq}{a:List (aN×Vq)}(h:aC w base v a)(o:Obj):aC (w.alloc o) base v a:=⟨h.row.alloc o,fun x b=>(h.each x b).alloc o,h.apart⟩
theorem aC.set{w:W}{base:Nat}{v:Vq}{b:List (aN×Vq)}(h:aC w base v b){a:Addr}(c:a.block<base)(u:Vq):aC (w.setCell a u) base v b:=⟨ownsRow_setCell_below h.row c u,fun x d=>ownsRow_setCell_below (h.each x d) c u,h.apart⟩
theorem aC.base{w:W}{base base':Nat}{v:Vq}{a:List (aN×Vq)}(h:aC w base v a)(b:base'≤base):aC w base' v a:=⟨a_ h.row b,fun x c=>a_ (h.each x c) b,h.apart⟩
theorem aC.snoc{w w':W}{base:Nat}{v j:Vq}{f:List (aN×Vq)}(h:aC w base v f){l:List dr}{k m x c:Int}{sv:Vq}(p:w.ownsRow base 36 4 sv l.length (bB l))(q:∀c∈f,∀g,c.2.ownBlock=y g→sv.ownBlock≠y g)(r:w.grownBy w' v.ownBlock)(s:w'.ownsRow base 42 5 j (f.length+1) (bu f++[sv,N Z k,N Z m,N Z x,N Z c])):aC w' base j (f++[(⟨l,⟨k,m,x,c⟩⟩,sv)]):=by
 have n:∀(u:Vq)(ps:List dr),w.ownsRow base 36 4 u ps.length (bB ps)→w'.ownsRow base 36 4 u ps.length (bB ps):=by intro u ps o;refine o.kept r ?_;cases i:u.ownBlock with|none=>exact .inl rfl|some g=>exact .inr (fun e=>eS o h.row (by decide) g i e.symm)
 refine⟨by rw[l7];simpa using s,?_,?_⟩
 ·intro c d;rcases List.mem_append.1 d with d|d;·exact n _ _ (h.each c d)
  ·simp at d;subst d;exact n _ _ p
 ·rw[List.pairwise_append];refine⟨h.apart,by simp,?_⟩;intro a t b i;simp at i;subst i;exact q a t
theorem lB{w:W}{base:Nat}{c:Option Addr}{n f:Nat}{l:List dr}(h:w.ownsRow base 36 4 (L c n f) l.length (bB l)){j:Nat}(k:j<l.length):∃b,c=y ⟨b,0,z⟩∧base≤b∧w.cell? ⟨b,j*4,z⟩=y (N Z (cD l j))∧w.cell? ⟨b,j*4+1,z⟩=y (N Z (oa l j))∧w.cell? ⟨b,j*4+2,z⟩=y (N Z (ob l j))∧w.cell? ⟨b,j*4+3,z⟩=y (N Z (oc l j))∧∀o,w.frozen? ⟨b,o,z⟩=false:=by
 obtain⟨t,v,d⟩:=af h;simp only[Value.slice.injEq]at d;obtain⟨rfl,rfl,rfl⟩:=d;have x:=cK l;obtain⟨b,m,p,e,hc⟩:=cg h rfl (i:=j*4) (by omega);obtain⟨g1,g2,q,r⟩:=lz l j k;have a:∀i u,(bB l)[i]?=y u→w.cell? ⟨b,i,z⟩=y u:=by intro i u s;have:=h.cells (g:=b) e i u s;rwa[Addr.add_lit,Nat.zero_add]at this
 exact⟨b,m,p,a _ _ g1,a _ _ g2,a _ _ q,a _ _ r,fun o=>gC h e o⟩
theorem gV{w:W}{base:Nat}{d:Option Addr}{n cap:Nat}{a:List (aN×Vq)}(h:aC w base (L d n cap) a){i:Nat}(j:i<a.length):∃b,d=y ⟨b,0,z⟩∧base≤b∧w.cell? ⟨b,i*5,z⟩=y a[i].2∧w.cell? ⟨b,i*5+1,z⟩=y (N Z a[i].1.fin.kind)∧w.cell? ⟨b,i*5+2,z⟩=y (N Z a[i].1.fin.r)∧w.cell? ⟨b,i*5+3,z⟩=y (N Z a[i].1.fin.x)∧w.cell? ⟨b,i*5+4,z⟩=y (N Z a[i].1.fin.y)∧∀o,w.frozen? ⟨b,o,z⟩=false:=by
 obtain⟨s,t,e⟩:=af h.row;simp only[Value.slice.injEq]at e;obtain⟨rfl,rfl,rfl⟩:=e;have v:=cL a;obtain⟨b,k,l,f,hc⟩:=cg h.row rfl (i:=i*5) (by omega);obtain⟨g1,g2,m,p,q⟩:=km a i j;have c:∀i u,(bu a)[i]?=y u→w.cell? ⟨b,i,z⟩=y u:=by intro i u r;have:=h.row.cells (g:=b) f i u r;rwa[Addr.add_lit,Nat.zero_add]at this
 exact⟨b,k,l,c _ _ g1,c _ _ g2,c _ _ m,c _ _ p,c _ _ q,fun o=>gC h.row f o⟩
theorem yB{w:W}{base:Nat}{v:Vq}{l:List dr}(h:w.ownsRow base 36 4 v l.length (bB l)):iH w v l:=by obtain⟨a,cap,rfl⟩:=af h;refine⟨a,cap,rfl,iZ h,fun i c=>?_⟩;obtain⟨b,e,_,c1,c2,c3,c4,_⟩:=lB h c;exact⟨b,0,e,by rw[Nat.zero_add];exact c1,by rw[Nat.zero_add];exact c2,by rw[Nat.zero_add];exact c3,by rw[Nat.zero_add];exact c4⟩
theorem aC.rd{w:W}{base:Nat}{v:Vq}{a:List (aN×Vq)}(h:aC w base v a):bm w v (dT a):=by
 obtain⟨d,cap,rfl⟩:=af h.row;refine⟨d,cap,by rw[bD],by rw[bD];exact iZ h.row,fun i c=>?_⟩;rw[bD]at c;obtain⟨e1,e2⟩:=gF a c;obtain⟨b,e,_,f,c1,c2,c3,c4,_⟩:=gV h c;refine⟨b,0,a[i].2,e,by rw[Nat.zero_add];exact f,?_,?_,?_,?_,?_⟩;·rw[Nat.zero_add];unfold fX;rw[e2];exact c1
 ·rw[Nat.zero_add];unfold gJ;rw[e2];exact c2
 ·rw[Nat.zero_add];unfold iT;rw[e2];exact c3
 ·rw[Nat.zero_add];unfold ja;rw[e2];exact c4
 ·rw[e1];exact yB (h.each _ (by simp))
def aM(w:W)(v:Vq)(l:List Int):Prop:=∃a cap,v=L a l.length cap∧l.length≤9223372036854775807∧∀i,i<l.length→∃b c,a=y ⟨b,c,z⟩∧w.cell? ⟨b,c+i,z⟩=y (N Z (l.getD i 0))
theorem aM.ab{w w':W}{v:Vq}{l:List Int}(h:aM w v l)(a:G w.heap.size w w'):aM w' v l:=by obtain⟨c,cap,rfl,d,hc⟩:=h;exact⟨c,cap,rfl,d,fun i f=>let⟨b,g,e,j⟩:=hc i f;⟨b,g,e,aa a j⟩⟩
theorem xd(w:W):aM w (L z 0 0) []:=⟨z,0,rfl,by simp,fun i a=>by simp at a⟩
section
open Go.ChangeShapes Go.WideShapes Go.ChangeAt Go.Deep
theorem Tryz.jl:Tryz.prog.cellsOf 3=1:=by kernel_rfl
theorem Tryz.ti:Tryz.prog.cellsOf 38=2:=by kernel_rfl
theorem Tryz.tj:Tryz.prog.cellsOf 33=2:=by kernel_rfl
theorem Tryz.xV:Tryz.prog.cellsOf 31=1:=by kernel_rfl
theorem Tryz.Aa:Tryz.prog.bytesOf 38=16:=by kernel_rfl
theorem Tryz.Ab:Tryz.prog.bytesOf 33=32:=by kernel_rfl
section
variable{H:Type}{enc:TypeId×Value→H}{w:World}{spare:Nat→Bool}{held:Bool}
theorem jd{base n:Nat}{a:Addr}{b:List Vq}(h:w.cells? base a n=y b):b.length=n∧∀i(c:i<b.length),w.cell? (a.add i)=y b[i]:=by obtain⟨_,d,hc⟩:=World.cells?_some h;refine⟨d,fun i c=>?_⟩;have:=hc i (by omega);rw[List.getElem?_eq_getElem c]at this;exact this
theorem jW{a:Addr}{v:Vq}(h:w.cell? (a.add 0)=y v):a=⟨a.block,a.off,z⟩:=by
 have e:a.add 0=a:=by simp[Addr.add]
 rw[e]at h;have hs:=World.cell?_spot h;cases a;simp at hs;rw[hs]
theorem open_pair{fuel:Nat}{c:List Vq}{x:DataW H×List MemPlace}(h:DataW.trod enc Tryz.prog w 0 spare held fuel 38 c=y x):∃a b:Int,c=[N Z a,N Z b]:=by obtain⟨i,j,n,_,d,e,f⟩:=trod_struct2 Tryz.underlying38 h;rw[Tryz.ti]at d;simp only[Tryz.jl]at e f;match c,d with|[k,c1],_=>obtain⟨a,g,_,_⟩:=DataW.trod_int Tryz.underlying3 e;obtain⟨b,e1,_,_⟩:=DataW.trod_int Tryz.underlying3 f;simp at g e1;exact⟨a,b,by rw[g,e1]⟩
theorem yu{fuel:Nat}{v:Vq}{x:DataW H×List MemPlace}(h:DataW.trod enc Tryz.prog w 0 spare held fuel 31 [v]=y x)(hs:∀n∈x.1.weights Tryz.prog 31,n≤reachBytes):∃ps,dH w v ps∧ps.length≤8796093022208:=by
 rcases open_slice Tryz.underlying31 h with⟨e,_⟩|⟨a,b,cap,g,n,B,C,e,_,E,F,l,m,o⟩;·simp at e;subst e;exact⟨[],⟨z,0,rfl,by simp,fun i c=>by simp at c⟩,by simp⟩
 ·simp at e;subst e;have I:b≤g:=by rw[l];split<;>omega
  have q:∀i,i<b→∃p:bM,w.cell? (a.add (i*2))=y (N Z p.cT)∧w.cell? (a.add (i*2+1))=y (N Z p.place):=by
   intro i c;obtain⟨J,hc,r⟩:=o i (by omega);rw[Tryz.ti]at hc;obtain⟨s,t,rfl⟩:=open_pair r;have:=(jd hc).2;refine⟨⟨s,t⟩,?_,?_⟩;·have:=this 0 (by simp);simpa[add_add]using this
   ·have:=this 1 (by simp);simpa[add_add]using this
  obtain⟨f,j⟩:=@choose_lt bM ⟨pz⟩ b (fun i p=>w.cell? (a.add (i*2))=y (N Z p.cT)∧w.cell? (a.add (i*2+1))=y (N Z p.place)) q;have u:b*16≤reachBytes:=by have:=hs ((b+(g-b))*16) (by rw[m];simp[DataW.weights,Tryz.underlying31,Tryz.Aa]);omega
  have A:b≤8796093022208:=by unfold reachBytes at u;omega
  refine⟨(List.range b).map f,⟨y a,cap,by simp,by simp;omega,fun i c=>?_⟩,by simpa using A⟩;have d:i<b:=by simpa using c
  obtain⟨c1,c2⟩:=j i d;have k:=jW (by simpa using(j 0 (by omega)).1);rw[k,Addr.add_lit]at c1 c2;refine⟨a.block,a.off,by rw[←k],?_,?_⟩;·rw[c1];simp[bP,d]
  ·rw[Nat.add_assoc,c2];simp[aG,d]
theorem AE{fuel:Nat}{b:List Vq}{x:DataW H×List MemPlace}(h:DataW.trod enc Tryz.prog w 0 spare held fuel 33 b=y x)(hs:∀n∈x.1.weights Tryz.prog 33,n≤reachBytes):∃(a:Int)(sv:Vq)(ps:List bM),b=[N Z a,sv]∧dH w sv ps∧ps.length≤8796093022208:=by obtain⟨l,i,n,j,d,e,f⟩:=trod_struct2 Tryz.underlying33 h;rw[Tryz.tj]at d;simp only[Tryz.jl,Tryz.xV]at e f;match b,d with|[m,c1],_=>obtain⟨a,g,_,_⟩:=DataW.trod_int Tryz.underlying3 e;simp at g;obtain⟨ps,k,c⟩:=yu (v:=c1) (x:=i) (by simpa using f) (fun n c=>hs n (by rw[j];simp[DataW.weights,DataW.weightsEach,Tryz.underlying33];exact .inr c));exact⟨a,c1,ps,by rw[g],k,c⟩
theorem jC{P:Program}{e:TypeId}{l:List (DataW H)}{d:DataW H}(a:d∈l){n:Nat}(b:n∈d.weights P e):n∈DataW.weightsAll P e l:=by
 induction l with
  |nil=>cases a
  |cons x f c=>
   rw[DataW.weightsAll,List.mem_append];rcases List.mem_cons.1 a with rfl|a;·exact .inl b
   ·exact .inr (c a)
theorem AD{fuel:Nat}{v:Vq}{x:DataW H×List MemPlace}(h:DataW.trod enc Tryz.prog w 0 spare held fuel 28 [v]=y x)(hs:∀n∈x.1.weights Tryz.prog 28,n≤reachBytes):∃g,cj w v g∧g.length≤4398046511104∧∀k,k<g.length→(aq g k).length≤8796093022208:=by
 rcases open_slice Tryz.underlying28 h with⟨e,_⟩|⟨a,b,cap,m,n,J,K,e,_,M,O,s,o,t⟩;·simp at e;subst e;exact⟨[],⟨z,0,rfl,by simp,fun i c=>by simp at c⟩,by simp,fun i c=>by simp at c⟩
 ·simp at e;subst e;have P:b≤m:=by rw[s];split<;>omega
  have u:∀i,i<b→∃p:aL,w.cell? (a.add (i*2))=y (N Z p.src)∧(∃sv,w.cell? (a.add (i*2+1))=y sv∧dH w sv p.br)∧p.br.length≤8796093022208:=by
   intro i c;obtain⟨Q,hc,A⟩:=t i (by omega);rw[Tryz.tj]at hc;obtain⟨B,sv,ps,rfl,C,d⟩:=AE A (fun n d=>hs n (by rw[o];simp only[DataW.weights,Tryz.underlying28];refine List.mem_cons.2 (.inr (List.mem_append.2 (.inl ?_)));exact jC (List.mem_map.2 ⟨i,by simpa using c,rfl⟩) d));have:=(jd hc).2;refine⟨⟨B,ps⟩,?_,⟨sv,?_,C⟩,d⟩;·have:=this 0 (by simp);simpa[add_add]using this
   ·have:=this 1 (by simp);simpa[add_add]using this
  obtain⟨f,j⟩:=@choose_lt aL ⟨hz⟩ b _ u;have E:b*32≤reachBytes:=by have:=hs ((b+(m-b))*32) (by rw[o];simp[DataW.weights,Tryz.underlying28,Tryz.Ab]);omega
  have F:b≤4398046511104:=by unfold reachBytes at E;omega
  refine⟨(List.range b).map f,⟨y a,cap,by simp,by simp;omega,fun i c=>?_⟩,by simpa using F,fun k I=>?_⟩
  ·have l:i<b:=by simpa using c
   obtain⟨c1,⟨sv,c2,c3⟩,_⟩:=j i l;have q:=jW (by simpa using(j 0 (by omega)).1);rw[q,Addr.add_lit]at c1 c2;refine⟨a.block,a.off,sv,by rw[←q],?_,?_,?_⟩;·rw[c1];simp[aU,l]
   ·rw[Nat.add_assoc,c2]
   ·have:aq ((List.range b).map f) i=(f i).br:=by simp[aq,l]
    rw[this];exact c3
  ·have r:k<b:=by simpa using I
   have:aq ((List.range b).map f) k=(f k).br:=by simp[aq,r]
   rw[this];exact(j k r).2.2
end
theorem Tryz.BH:Tryz.prog.bytesOf 3=8:=by kernel_rfl
def Fa(l:List Int):Prop:=∀x∈l,-9223372036854775808≤x∧x≤9223372036854775807
section
variable{H:Type}{enc:TypeId×Value→H}{w:World}{spare:Nat→Bool}{held:Bool}
theorem mC{fuel:Nat}{v:Vq}{x:DataW H×List MemPlace}(h:DataW.trod enc Tryz.prog w 0 spare held fuel 22 [v]=y x)(hs:∀n∈x.1.weights Tryz.prog 22,n≤reachBytes):∃l,aM w v l∧l.length≤17592186044416∧Fa l:=by
 rcases open_slice Tryz.underlying22 h with⟨e,_⟩|⟨a,b,cap,k,n,C,E,e,_,F,I,q,c,r⟩;·simp at e;subst e;exact⟨[],xd w,by simp,fun x c=>by cases c⟩
 ·simp at e;subst e;have J:b≤k:=by rw[q];split<;>omega
  have s:∀i,i<b→∃p:Int,w.cell? (a.add i)=y (N Z p)∧-9223372036854775808≤p∧p≤9223372036854775807:=by
   intro i d;obtain⟨K,hc,t⟩:=r i (by omega);rw[Tryz.jl]at hc;obtain⟨u,rfl,_,g⟩:=DataW.trod_int Tryz.underlying3 t;have:=(jd hc).2;refine⟨u,?_,?_⟩;·have:=this 0 (by simp);simpa[add_add]using this
   ·simp only[Lit.wf,Bool.and_eq_true,decide_eq_true_eq]at g;exact⟨Int.le_trans (by decide) g.1,Int.le_trans g.2 (by decide)⟩
  obtain⟨f,j⟩:=@choose_lt Int ⟨0⟩ b _ s;have A:b*8≤reachBytes:=by have:=hs ((b+(k-b))*8) (by rw[c];simp[DataW.weights,Tryz.underlying22,Tryz.BH]);omega
  have B:b≤17592186044416:=by unfold reachBytes at A;omega
  refine⟨(List.range b).map f,⟨y a,cap,by simp,by simp;omega,fun i d=>?_⟩,by simpa using B,?_⟩
  ·have m:i<b:=by simpa using d
   obtain⟨c1,_⟩:=j i m;have o:=jW (by simpa using(j 0 (by omega)).1);rw[o,Addr.add_lit]at c1;refine⟨a.block,a.off,by rw[←o],?_⟩;rw[c1];simp[List.getD,m]
  ·intro x c;obtain⟨i,d,rfl⟩:=List.mem_map.1 c;exact(j i (by simpa using d)).2
end
theorem Tryz.oL:Tryz.prog.cellsOf 67=3:=by kernel_rfl
theorem Tryz.xU:Tryz.prog.cellsOf 22=1:=by kernel_rfl
section
variable{H:Type}{enc:TypeId×Value→H}{w:World}{spare:Nat→Bool}{held:Bool}
end
end
end Go.Proofs.YtblhmeidbjigaabGreatDoor
