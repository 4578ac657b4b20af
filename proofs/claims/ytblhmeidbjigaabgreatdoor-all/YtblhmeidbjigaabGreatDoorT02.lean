import Derived.Test.YtblhmeidbjigaabGreatDoorT01
set_option linter.unusedSimpArgs false
set_option linter.unusedVariables false
set_option maxRecDepth 100000
set_option maxHeartbeats 8000000
namespace Go.Proofs.YtblhmeidbjigaabGreatDoor
open Go.RowKit
open Go.Value renaming int→N,slice→L,string→Tq,agg→Aq,bool→Bq,tuple→Uq
open Go.IntKind renaming i64→Z
open Go.Obj renaming cells→Y
open Go.Ending renaming returned→Xq
open Option renaming none→z,some→y
open Nat renaming le_refl→Rq
open Go renaming World→W,Value→Vq
open Go.RowKit renaming Below→G
theorem BC(x:Int)(w:W):Calls Tryz.prog 110 #[L (y ⟨w.heap.size,0,z⟩) 1 1] (w.alloc (Y #[N Z x] 3)) fun e w'=>e=Xq (Tq ⟨#[cx x]⟩)∧G w.heap.size w w':=by
 have h:=lL w.heap.size 0 1 [x] (w.alloc (Y #[N Z x] 3)) (by simp) (by simp) (by
  intro i a;obtain rfl:i=0:=by simp at a;omega
  simp[el]);refine h.mono ?_;rintro e w'⟨rfl,b⟩;exact⟨rfl,((Below.refl _ _).alloc (Rq _) _).trans (b.mono (by simp))⟩
theorem BE(x a:Int)(w:W):Calls Tryz.prog 110 #[L (y ⟨w.heap.size,0,z⟩) 2 2] (w.alloc (Y #[N Z x,N Z a] 3)) fun e w'=>e=Xq (Tq ⟨#[cx x,cx a]⟩)∧G w.heap.size w w':=by
 have h:=lL w.heap.size 0 2 [x,a] (w.alloc (Y #[N Z x,N Z a] 3)) (by simp) (by simp) (by
  intro i b;obtain rfl|rfl:i=0∨i=1:=by simp at b;omega
  all_goals simp[el]);refine h.mono ?_;rintro e w'⟨rfl,c⟩;exact⟨rfl,((Below.refl _ _).alloc (Rq _) _).trans (c.mono (by simp))⟩
def gn(h:List aL)(k j:Nat):ByteArray:=eR h k++gX (aU h k) (aq h k) j
theorem uS(h:List aL)(k:Nat):gn h k 0=eR h k++⟨#[cx (aU h k),cx (aq h k).length]⟩:=rfl
theorem jO(a b c:ByteArray):a++b++c=a++(b++c):=by apply ByteArray.ext;simp[Array.append_assoc]
theorem wy{h:List aL}{k j:Nat}(a:j<(aq h k).length):gn h k (j+1)=gn h k j++⟨#[cx (bP (aq h k) j),cx (aG (aq h k) j)]⟩:=by unfold gn;rw[oV a,jO]
theorem yd{h:List aL}{k j:Nat}(a:k<h.length)(b:(aq h k).length≤j):gn h k j=eR h (k+1):=by unfold gn;rw[rj b,oP a]
theorem wx{h:List aL}(a:aO h=true){k j:Nat}(b:k<h.length)(c:j≤(aq h k).length):(gn h k j).size≤310:=by have d:=lk a k;have e:=jo a b;have f:=oU (aU h k) (aq h k) j c;unfold gn;rw[ByteArray.size_append];omega
theorem jS(v:Vq)(h:List aL)(w:W)(A:cj w v h)(g:aO h=true):Calls Tryz.prog 77 #[Aq #[v]] w fun e w'=>e=Xq (Tq (ay (aQ h)))∧G w.heap.size w w':=by
 have ag:=A;obtain⟨q,cap,rfl,ah,hc⟩:=A;obtain⟨m,r⟩:∃m,ay (aQ h)=m:=⟨_,rfl⟩;rw[r];have K:Hid (ay (aQ h)=m):=r;clear r;have ai:=(gM g).2;go_enter Tryz.func77,Tryz.ntmps77;go_wp2_with fail;have a:=BC (h.length) (w.alloc (Y #[L q h.length cap] 30));simp only[World.size_alloc]at a;refine a.mono ?_;rintro e w1⟨rfl,B⟩;have M:(⟨#[84,72]⟩:ByteArray)++⟨#[cx h.length]⟩=eR h 0:=by show ay [84,72]++ay [cx h.length]=_;rw[cE];rfl
 go_wp2;clear M a;go_loopw[3,4](fun l i wr=>∃(k:Nat),k≤h.length∧i=N Z k∧l=Tq (eR h k)∧G (w.heap.size+1) (w.alloc (Y #[L q h.length cap] 30)) wr)(fun _ i _=>h.length-(intOf i).toNat);case atStart=>exact⟨0,Nat.zero_le _,rfl,rfl,by simpa using B⟩
 case round=>
  obtain⟨k,aj,rfl,rfl,c⟩:=hrel;clear B w1;have O:wr.cell? ⟨w.heap.size,0,z⟩=y (L q h.length cap):=(c.cell (by simp)).trans (by simp);have hz:=c.size;simp at hz;by_cases n:k<h.length;case neg=>have s:eR h k=m:=(qJ (by omega)).trans K.out;go_wp2;go_ret;exact⟨by simp[s],Below.under c⟩
  obtain⟨b,ak,sv,rfl,C,E,F⟩:=hc k n;have o:=aa (Below.under c) C;have p:=aa (Below.under c) E;have P:=F.ab (Below.under c);obtain⟨t,u,rfl,al,Q⟩:=P;have am:=lk g k;have an:=jo g n;have x:=BE (aU h k) (aq h k).length (wr.alloc (Y #[N Z (aU h k),L t (aq h k).length u] 33));simp only[World.size_alloc]at x;go_wp2_with fail;refine x.mono ?_;rintro e w1⟨rfl,H⟩;clear x;have R:Hid (gn h k 0=eR h k++⟨#[cx (aU h k),cx (aq h k).length]⟩):=uS h k;have ao:=(Below.under c);obtain⟨f,S⟩:∃f,f=wr:=⟨_,rfl⟩;subst S;clear C E F o p O;go_wp2;go_loopw[3,6](fun l i T=>∃(j:Nat),j≤(aq h k).length∧i=N Z j∧l=Tq (gn h k j)∧G (f.heap.size+1) (f.alloc (Y #[N Z (aU h k),L t (aq h k).length u] 33)) T)(fun _ i _=>(aq h k).length-(intOf i).toNat);case atStart=>exact⟨0,Nat.zero_le _,rfl,by rw[R.out],by simpa using H⟩
  case round=>
   obtain⟨j,U,rfl,rfl,d⟩:=hrel;clear H w1;have I:wr.cell? ⟨f.heap.size,1,z⟩=y (L t (aq h k).length u):=(d.cell (by simp)).trans (by simp);have V:=d.size;simp at V;by_cases J:j<(aq h k).length;case neg=>
    have s:gn h k j=eR h (k+1):=yd n (by omega);have X:=c.trans ((Below.under d).mono (by omega));go_wp2;go_roundw;case rel=>exact⟨k+1,by omega,by go_num,by rw[s],X⟩
    case measure=>simp[intOf];omega
   obtain⟨b2,ap,rfl,e1,e2⟩:=Q j J;have o:=aa (Below.under d) e1;have p:=aa (Below.under d) e2;have ab:=fun(w':W)(a:G wr.heap.size wr w')=>aa a I;have ac:=fun(w':W)(a:G wr.heap.size wr w')=>aa a o;have ad:=fun(w':W)(a:G wr.heap.size wr w')=>aa a p;have ar:=wx g n U;go_wp2;have ae:Calls Tryz.prog 110 #[L (y ⟨wr.heap.size,0,z⟩) 2 2] (wr.alloc (Y #[N Z (bP (aq h k) j),N Z (aG (aq h k) j)] 3)).drew fun e w'=>e=Xq (Tq ⟨#[cx (bP (aq h k) j),cx (aG (aq h k) j)]⟩)∧G wr.heap.size wr w':=(BE _ _ wr.drew).mono fun e w' h=>⟨h.1,(Below.refl wr.heap.size wr).drew.trans h.2⟩;have au:(9223372036854775807<(gn h k j).size+2)=False:=by simp only[eq_iff_iff,iff_false];omega
   have av:(9223372036854775805<(gn h k j).size)=False:=by simp only[eq_iff_iff,iff_false];omega
   go_region_held3(fun w'=>G wr.heap.size wr w')(first|exact(Below.refl _ _).drew|exact((Below.refl _ _).alloc (Rq _) _).drew|assumption)(first|(go_at_call 110;refine ae.mono ?_;rintro e w'⟨rfl,aw⟩));have af:Hid (gn h k (j+1)=gn h k j++⟨#[cx (bP (aq h k) j),cx (aG (aq h k) j)]⟩):=wy J;clear ab ac ad o p I;go_wp2;go_roundw;case rel=>exact⟨j+1,by omega,by go_num,by rw[af.out],d.trans (Below.mono (by assumption) (by omega))⟩
   case measure=>simp[intOf];omega
def CL(n:Int)(k:Int)(a:Nat):Nat:=min a ((n-k+1)/2).toNat
def lH(s:ByteArray):Nat→Int|0=>3|i+1=>lH s i+2+2*CL s.size (lH s i+2) (ah 0 s (lH s i+1)).toNat
def fV(s:ByteArray):Nat→List aL|0=>[]|i+1=>fV s i++[⟨ah 0 s (lH s i),dz 0 s (lH s i+2) (CL s.size (lH s i+2) (ah 0 s (lH s i+1)).toNat)⟩]
theorem ig(s:ByteArray)(i:Int):0≤ah 0 s i∧ah 0 s i≤255:=by
 unfold ah;split;·have:=(s[i.toNat]!).toNat_lt;omega
 ·omega
theorem DP(n k:Int)(a:Nat):CL n k a≤a:=by unfold CL;omega
theorem DO{n k:Int}{b j:Nat}(e:j≤b)(a:j=0∨k+2*((j:Int)-1)<n)(c:¬((j:Int)<b∧k+2*(j:Int)<n)):j=CL n k b:=by
 unfold CL;by_cases d:(j:Int)<b;·have:¬k+2*(j:Int)<n:=fun h=>c ⟨d,h⟩;rcases a with a|a<;>omega
 ·rcases a with a|a<;>omega
theorem DV(s:ByteArray)(i:Nat):3≤lH s i∧lH s i≤3+512*i:=by induction i with|zero=>simp[lH]|succ k a=>have b:=ig s (lH s k+1);have c:=DP s.size (lH s k+2) (ah 0 s (lH s k+1)).toNat;simp only[lH];omega
structure zq(s:ByteArray)(i:Nat):Prop where
 done:∀j,j<i→(j:Int)<ah 0 s 2∧lH s j<s.size
 stop:¬((i:Int)<ah 0 s 2∧lH s i<s.size)
theorem lW{a b:ByteArray}(h:a≠b):(a.toList==b.toList)=false:=by rw[beq_eq_false_iff_ne];intro e;rw[ByteArray.toList_eq,ByteArray.toList_eq]at e;exact h (ByteArray.ext (Array.toList_inj.1 e))
theorem xh{w a wr c:W}{f:Option Addr}{h j:Nat}{k:Option Addr}{b:List (aL×Vq)}{l:Int}{ps:List bM}{n:Vq}{o q:Obj}(r:aP a (w.heap.size+2) (L f b.length h) b)(d:G a.heap.size a wr)(s:wr.ownsRow (a.heap.size+1) 38 2 (L k ps.length j) ps.length (bf ps))(v:G (w.heap.size+1) (w.alloc o) a)(A:a.cell? ⟨w.heap.size+1,0,z⟩=y (L f b.length h))(B:a.frozen? ⟨w.heap.size+1,0,z⟩=false)(hz:w.heap.size+2≤a.heap.size)(C:c.ownsRow (w.heap.size+2) 33 2 n (b.length+1) (bt b++[N Z l,L k ps.length j]))(t:(wr.alloc q).grownBy c (Value.slice f b.length h).ownBlock):aP c (w.heap.size+2) n (b++[(⟨l,ps⟩,L k ps.length j)])∧c.cell? ⟨w.heap.size+1,0,z⟩=y (L f b.length h)∧c.frozen? ⟨w.heap.size+1,0,z⟩=false∧G (w.heap.size+1) (w.alloc o) c∧w.heap.size+2≤c.heap.size:=by
 have H:=d.size;have u:=r.below d (Rq _);have i:=(((Below.refl (w.heap.size+2) wr).alloc (by omega) q).grown t (by simp;omega) (fun g m=>(u.row.lt g m).1));have I:=i.size;refine⟨?_,?_,?_,?_,by omega⟩;·refine(u.alloc _).snoc (x:=⟨l,ps⟩) ((a_ s (by omega)).alloc _) ?_ t C;intro E F g m e;have e1:=((r.each E F).lt g m).2;have e2:=(s.lt g e).1;omega
 ·exact(i.cell (p:=⟨w.heap.size+1,0,z⟩) (by simp)).trans ((d.cell (p:=⟨w.heap.size+1,0,z⟩) (by simp;omega)).trans A)
 ·exact(i.frozen (p:=⟨w.heap.size+1,0,z⟩) (by simp)).trans ((d.frozen (p:=⟨w.heap.size+1,0,z⟩) (by simp;omega)).trans B)
 ·exact(v.trans (d.mono (by omega))).trans (i.mono (by omega))
theorem pH(s:ByteArray)(w:W)(hs:s.size≤maxLen)(av:Ending→W→Prop)(J:∀v h w' i,zq s i→aP w' w.heap.size v h→da h=fV s i→aO (da h)=true→ay (aQ (da h))=s→G w.heap.size w w'→av (Xq (Uq #[Aq #[v],Bq true])) w')(A:∀w' i,zq s i→(aO (fV s i)=true→ay (aQ (fV s i))≠s)→G w.heap.size w w'→av (Xq (Uq #[Aq #[L z 0 0],Bq false])) w'):Calls Tryz.prog 78 #[Tq s] w av:=by
 obtain⟨aK,aM,aN,aR,aS⟩:=info_parts Tryz.nj;obtain⟨a9,a_,bb,bc,bd⟩:=info_parts Tryz.ni;have aT:=ig s 2;have be:=hs;unfold maxLen at be;obtain⟨n,aU⟩:=Int.eq_ofNat_of_zero_le aT.1;have aV:Hid (ah 0 s 2=n):=aU;go_enter Tryz.func78,Tryz.ntmps78;go_wp2_with(go_at_call 111;refine(kZ _ _ _ hs).mono ?_;rintro e w'⟨rfl,rfl⟩);have bw:n≤255:=by omega
 clear aT aU;go_loopw[6,7](fun p i wr=>∃(k:Nat)(v:Vq)(h:List (aL×Vq)),k≤n∧i=N Z k∧p=N Z (lH s k)∧wr.cell? ⟨w.heap.size+1,0,z⟩=y v∧wr.frozen? ⟨w.heap.size+1,0,z⟩=false∧aP wr (w.heap.size+2) v h∧Hid (da h=fV s k)∧Hid (h.length=k)∧Hid (∀j,j<k→(j:Int)<ah 0 s 2∧lH s j<s.size)∧G (w.heap.size+1) (w.alloc (Y #[L z 0 0] 30)) wr∧w.heap.size+2≤wr.heap.size)(fun _ i _=>n-(intOf i).toNat);case atStart=>refine⟨0,L z 0 0,[],Nat.zero_le _,rfl,rfl,by simp,by simp,jH _ _,rfl,rfl,fun j aW=>by omega,?_,by simp⟩;exact(Below.refl _ _).alloc (by simp) _
 case round=>
  obtain⟨k,v,h,bx,rfl,rfl,F,Q,r,H,V,aw,B,hz⟩:=hrel;obtain⟨ab,ac,rfl⟩:=af r.row;have ak:w.heap.size+1<wr.heap.size:=by omega
  have al:w.heap.size<wr.heap.size:=by omega
  have bz:=DV s k;by_cases am:(k:Int)<n∧lH s k<s.size;case neg=>
   have X:Hid (zq s k):=⟨aw.out,by rw[aV.out];exact am⟩;have ax:(k:Int)<n→¬(lH s k<s.size):=fun az aA=>am ⟨az,aA⟩;clear am aw;have an:wr.cell? ⟨w.heap.size,0,z⟩=y (L z 0 0):=(B.cell (by simp)).trans (by simp);have ao:wr.frozen? ⟨w.heap.size,0,z⟩=false:=(B.frozen (by simp)).trans (by simp);have R:=r.rd;rw[H.out]at R;by_cases aB:(k:Int)<n
   ·have bg:=ax aB;clear ax;go_wp2_with fail;refine(iF _ _ _ R).mono ?_;rintro e w1⟨rfl,d⟩;have C:=(d.cell (p:=⟨w.heap.size,0,z⟩) al).trans an;have K:=(d.frozen (p:=⟨w.heap.size,0,z⟩) al).trans ao;have E:=(d.cell (p:=⟨w.heap.size+1,0,z⟩) ak).trans F;have bh:=d.size;have ap:w.heap.size+1<w1.heap.size:=by omega
    have ad:w.heap.size<w1.heap.size:=by omega
    have l:=(Below.under B).trans (d.mono (by omega));have t:=r.below d (Rq _);have ae:=R.ab d;clear an ao F Q B r d R;cases m:aO (fV s k);·have S:=fun w'=>A w' k X.out (by simp[m]);clear A J;go_wp2;refine bodyPost_ret (v:=Uq #[Aq #[L z 0 0],Bq false]) (by simp[results,Tryz.results78,go_sem,C]) rfl (S _ ?_);exact l.setCell (by simp) _
    go_wp2_with fail;refine(jS _ _ _ ae m).mono ?_;rintro e q⟨rfl,b⟩;have u0:=(b.cell (p:=⟨w.heap.size,0,z⟩) ad).trans C;have bi:=(b.frozen (p:=⟨w.heap.size,0,z⟩) ad).trans K;have bj:=(b.cell (p:=⟨w.heap.size+1,0,z⟩) ap).trans E;have T:=l.trans (b.mono (by omega));have x:=t.below b (Rq _);clear C K E l t ae b;by_cases o:ay (aQ (fV s k))=s;·have aC:=J _ _ _ k X.out (x.set (a:=⟨w.heap.size,0,z⟩) (by simp) (L ab h.length ac)|>.base (base':=w.heap.size) (by omega)) H.out (by rw[H.out];exact m) (by rw[H.out];exact o) (T.setCell (by simp) _);rw[o];clear o m A J x T;go_wp2;exact bodyPost_ret (v:=Uq #[Aq #[L ab h.length ac],Bq true]) (by simp[results,Tryz.results78,go_sem,u0]) rfl aC
    ·have S:=fun w'=>A w' k X.out (fun _=>o);have bk:=lW o;generalize ay (aQ (fV s k))=bl at*;clear A J o m;go_wp2;refine bodyPost_ret (v:=Uq #[Aq #[L z 0 0],Bq false]) (by simp[results,Tryz.results78,go_sem,u0]) rfl (S _ ?_);exact T.setCell (by simp) _
   ·clear ax;go_wp2_with fail;refine(iF _ _ _ R).mono ?_;rintro e w1⟨rfl,d⟩;have C:=(d.cell (p:=⟨w.heap.size,0,z⟩) al).trans an;have K:=(d.frozen (p:=⟨w.heap.size,0,z⟩) al).trans ao;have E:=(d.cell (p:=⟨w.heap.size+1,0,z⟩) ak).trans F;have bh:=d.size;have ap:w.heap.size+1<w1.heap.size:=by omega
    have ad:w.heap.size<w1.heap.size:=by omega
    have l:=(Below.under B).trans (d.mono (by omega));have t:=r.below d (Rq _);have ae:=R.ab d;clear an ao F Q B r d R;cases m:aO (fV s k);·have S:=fun w'=>A w' k X.out (by simp[m]);clear A J;go_wp2;refine bodyPost_ret (v:=Uq #[Aq #[L z 0 0],Bq false]) (by simp[results,Tryz.results78,go_sem,C]) rfl (S _ ?_);exact l.setCell (by simp) _
    go_wp2_with fail;refine(jS _ _ _ ae m).mono ?_;rintro e q⟨rfl,b⟩;have u0:=(b.cell (p:=⟨w.heap.size,0,z⟩) ad).trans C;have bi:=(b.frozen (p:=⟨w.heap.size,0,z⟩) ad).trans K;have bj:=(b.cell (p:=⟨w.heap.size+1,0,z⟩) ap).trans E;have T:=l.trans (b.mono (by omega));have x:=t.below b (Rq _);clear C K E l t ae b;by_cases o:ay (aQ (fV s k))=s;·have aC:=J _ _ _ k X.out (x.set (a:=⟨w.heap.size,0,z⟩) (by simp) (L ab h.length ac)|>.base (base':=w.heap.size) (by omega)) H.out (by rw[H.out];exact m) (by rw[H.out];exact o) (T.setCell (by simp) _);rw[o];clear o m A J x T;go_wp2;exact bodyPost_ret (v:=Uq #[Aq #[L ab h.length ac],Bq true]) (by simp[results,Tryz.results78,go_sem,u0]) rfl aC
    ·have S:=fun w'=>A w' k X.out (fun _=>o);have bk:=lW o;generalize ay (aQ (fV s k))=bl at*;clear A J o m;go_wp2;refine bodyPost_ret (v:=Uq #[Aq #[L z 0 0],Bq false]) (by simp[results,Tryz.results78,go_sem,u0]) rfl (S _ ?_);exact T.setCell (by simp) _
  obtain⟨bm,aX⟩:=am;obtain⟨f,bn⟩:∃f,f=wr:=⟨_,rfl⟩;subst bn;have ag:Hid (fV s (k+1)=fV s k++[⟨ah 0 s (lH s k),dz 0 s (lH s k+2) (CL s.size (lH s k+2) (ah 0 s (lH s k+1)).toNat)⟩]):=rfl;have ai:Hid (lH s (k+1)=lH s k+2+2*CL s.size (lH s k+2) (ah 0 s (lH s k+1)).toNat):=rfl;have aY:=ig s (lH s k+1);obtain⟨aa,aZ⟩:=Int.eq_ofNat_of_zero_le aY.1;go_wp2_with(go_at_call 111;refine(kZ _ _ _ hs).mono ?_;rintro e w'⟨rfl,rfl⟩);rw[aZ,Int.toNat_natCast]at ag ai;have bA:aa≤255:=by omega
  clear aY aZ;generalize ah 0 s (lH s k)=aD at*;obtain⟨c,aE⟩:∃c,c=lH s k+2:=⟨_,rfl⟩;rw[←aE]at ag ai;have bB:5≤c∧c≤1000000:=by omega
  have aF:Hid (c=lH s k+2):=aE;clear aE;have bC:=aX;go_loopw[6,10](fun p i q=>∃(j:Nat)(sv:Vq),j≤aa∧i=N Z j∧p=N Z (c+2*j)∧Hid (j=0∨c+2*((j:Int)-1)<s.size)∧q.cell? ⟨f.heap.size,0,z⟩=y (N Z aD)∧q.cell? ⟨f.heap.size,1,z⟩=y sv∧q.frozen? ⟨f.heap.size,1,z⟩=false∧q.ownsRow (f.heap.size+1) 38 2 sv j (bf (dz 0 s c j))∧G f.heap.size f q∧f.heap.size+1≤q.heap.size)(fun _ i _=>aa-(intOf i).toNat);case atStart=>refine⟨0,L z 0 0,Nat.zero_le _,rfl,by rw[aF.out];simp,.inl rfl,by simp,by simp,by simp,World.ownsRow_nil _ _ _ _,?_,by simp⟩;exact(Below.refl _ _).alloc (by simp) _
  case round=>
   obtain⟨j,sv,aW,rfl,rfl,a0,E,aq,ar,M,I,bo⟩:=hrel;obtain⟨a1,a2,rfl⟩:=af M;have bD:f.heap.size<wr.heap.size:=by omega
   by_cases au:(j:Int)<aa∧c+2*(j:Int)<s.size;case neg=>
    have a3:=DO aW a0.out au;rw[←a3]at ag ai;have aG:(j:Int)<aa→¬(c+2*(j:Int)<s.size):=fun az aA=>au ⟨az,aA⟩;clear au a3 a0;have a4:Hid (∀i,i<k+1→(i:Int)<ah 0 s 2∧lH s i<s.size):=by
     intro i bE;by_cases e:i=k;·subst e;rw[aV.out];exact⟨bm,aX⟩
     ·exact aw.out i (by omega)
    have bp:=ju 0 s c j;generalize dz 0 s c j=ps at*;subst bp;have t:=r.below I (Rq _);have C:=(I.cell (p:=⟨w.heap.size+1,0,z⟩) ak).trans F;have K:=(I.frozen (p:=⟨w.heap.size+1,0,z⟩) ak).trans Q;have ap:w.heap.size+1<wr.heap.size:=by omega
    have a5:∀g,wr.heap.size≤g→y g≠(Value.slice ab h.length ac).ownBlock:=fun g m e=>by have:=(t.row.lt _ e.symm).2;omega
    by_cases aB:(ps.length:Int)<aa
    ·have bg:=aG aB;clear aG;go_wp2_with(at_builtin;refine wpList_append_own _ rfl _ _ 28 rfl (w.heap.size+2) 33 aK (Aq #[N Z 0,L z 0 0]) 2 32 Tryz.underlying28 aM aN aR aS rfl (by decide) _ _ _ rfl (t.row.alloc _) ⟨wr.heap.size,0,z⟩ 1 1 [N Z aD,L a1 ps.length a2] rfl rfl (kR wr _ _ _) ?d2 ?d3 ?d4 ?d5 ?_);case d2=>first|exact⟨rfl,rfl⟩|(intro u O;simp at O;rcases O with rfl|rfl<;>rfl)
     case d3=>have:=V.out;unfold maxLen;omega
     case d4=>have:=V.out;omega
     case d5=>first|omega|(simp;omega)
     intro a6 q aj P _;obtain⟨x,aH,aI,b,bq⟩:=xh r I M B F Q hz aj P;obtain⟨a7,a8,U⟩:=af x.row;rw[List.length_append]at U;simp only[List.length_cons,List.length_nil,Nat.zero_add]at U;subst U;have br:w.heap.size+1<q.heap.size:=by omega
     clear P r aj t F Q C K B a5 I M E aq ar;go_wp2;go_roundw;case rel=>
      refine⟨k+1,_,_,by omega,by go_num,by rw[ai.out,aF.out],fZ aH,by simp[aI],x.set (by simp) _,?_,?_,a4,b.setCell (by simp) _,by simp;omega⟩;·show da _=_;rw[ag.out,←H.out];simp[da]
      ·show List.length _=_;have:=V.out;simp;exact this
     case measure=>simp[intOf];omega
    ·clear aG;go_wp2_with(at_builtin;refine wpList_append_own _ rfl _ _ 28 rfl (w.heap.size+2) 33 aK (Aq #[N Z 0,L z 0 0]) 2 32 Tryz.underlying28 aM aN aR aS rfl (by decide) _ _ _ rfl (t.row.alloc _) ⟨wr.heap.size,0,z⟩ 1 1 [N Z aD,L a1 ps.length a2] rfl rfl (kR wr _ _ _) ?e2 ?e3 ?e4 ?e5 ?_);case e2=>first|exact⟨rfl,rfl⟩|(intro u O;simp at O;rcases O with rfl|rfl<;>rfl)
     case e3=>have:=V.out;unfold maxLen;omega
     case e4=>have:=V.out;omega
     case e5=>first|omega|(simp;omega)
     intro a6 q aj P _;obtain⟨x,aH,aI,b,bq⟩:=xh r I M B F Q hz aj P;obtain⟨a7,a8,U⟩:=af x.row;rw[List.length_append]at U;simp only[List.length_cons,List.length_nil,Nat.zero_add]at U;subst U;have br:w.heap.size+1<q.heap.size:=by omega
     clear P r aj t F Q C K B a5 I M E aq ar;go_wp2;go_roundw;case rel=>
      refine⟨k+1,_,_,by omega,by go_num,by rw[ai.out,aF.out],fZ aH,by simp[aI],x.set (by simp) _,?_,?_,a4,b.setCell (by simp) _,by simp;omega⟩;·show da _=_;rw[ag.out,←H.out];simp[da]
      ·show List.length _=_;have:=V.out;simp;exact this
     case measure=>simp[intOf];omega
   obtain⟨bF,bG⟩:=au;have bs:Hid (dz 0 s c (j+1)=dz 0 s c j++[⟨ah 0 s (c+2*j),ah 0 s (c+2*j+1)⟩]):=rfl;go_wp2_with(first|(go_at_call 111;refine(kZ _ _ _ hs).mono ?_;rintro e w'⟨rfl,rfl⟩)|(at_builtin;refine wpList_append_own _ rfl _ _ 31 rfl (f.heap.size+1) 38 a9 (Aq #[N Z 0,N Z 0]) 2 16 Tryz.underlying31 a_ bb bc bd rfl (by decide) _ _ _ rfl ((M.alloc _).alloc _) ⟨wr.heap.size+1,0,z⟩ 1 1 [N Z (ah 0 s (c+2*j)),N Z (ah 0 s (c+2*j+1))] rfl rfl ?c1 ?c2 ?c3 ?c4 ?c5 ?_));case c1=>simpa using kR (wr.alloc _) _ _ _
   case c2=>intro u O;simp at O;rcases O with rfl|rfl<;>rfl
   case c3=>unfold maxLen;omega
   case c4=>omega
   case c5=>simp;omega
   intro a6 w1 aJ P _;rw[←lD,←bs.out]at aJ;have l:=((((Below.refl (f.heap.size+1) wr).alloc bo _).alloc (by simp;omega) _).grown P (by simp;omega) (fun g m=>(M.lt g m).1));have bt:=(l.cell (p:=⟨f.heap.size,0,z⟩) (by simp)).trans E;have bu:=(l.cell (p:=⟨f.heap.size,1,z⟩) (by simp)).trans aq;have bv:=(l.frozen (p:=⟨f.heap.size,1,z⟩) (by simp)).trans ar;have bH:=l.size;have b:=I.trans (l.mono (by omega));obtain⟨a7,a8,rfl⟩:=af aJ;clear P M E aq ar l I;go_wp2;go_roundw;case rel=>
    refine⟨j+1,_,by omega,by go_num,by go_num,.inr (by simp;omega),?_,?_,?_,ownsRow_setCell_below aJ (by simp) _,b.setCell (by simp) _,by simp;omega⟩;·exact ba (by simp) bt
    ·exact fZ bu
    ·simp[bv]
   case measure=>simp[intOf];omega
theorem jb{n:Int}(a:0≤n)(b:n<256):((cx n).toNat:Int)=n:=by unfold cx;rw[UInt8.toNat_ofNat'];omega
theorem uD(b:UInt8):cx (b.toNat:Int)=b:=by unfold cx;have:=b.toNat_lt;apply UInt8.toNat_inj.1;rw[UInt8.toNat_ofNat'];omega
theorem gZ(l:List UInt8):(ay l).size=l.length:=by simp[ay,ByteArray.size]
theorem ee{d:Int}{l:List UInt8}{i:Nat}{b:UInt8}(h:l[i]?=y b):ah d (ay l) i=b.toNat:=by
 have a:i<l.length:=(List.getElem?_eq_some_iff.1 h).1;have e:l[i]=b:=(List.getElem?_eq_some_iff.1 h).2;unfold ah;rw[if_pos (by rw[gZ];omega)];have:(ay l)[(i:Int).toNat]! =b:=by rw[Int.toNat_natCast,getElem!_pos _ _ (by rw[gZ];exact a),←e];rfl
 rw[this]
theorem y_(s:ByteArray):s=ay s.data.toList:=by simp[ay]
theorem sI(ps:List bM)(i:Nat)(a:i<ps.length):(eI ps)[i*2]?=y (cx (bP ps i))∧(eI ps)[i*2+1]?=y (cx (aG ps i)):=by
 induction ps generalizing i with
  |nil=>simp at a
  |cons p c b=>
   cases i with
    |zero=>exact⟨rfl,rfl⟩
    |succ i=>
     have h:=b i (by simpa using a);have e1:(i+1)*2=i*2+1+1:=by omega
     rw[e1];exact h
theorem nd{l a b c:List UInt8}{o i:Nat}{x:UInt8}(d:l=a++b++c)(ho:a.length=o)(h:b[i]?=y x):l[o+i]?=y x:=by have e:i<b.length:=(List.getElem?_eq_some_iff.1 h).1;subst d;subst ho;rw[List.append_assoc,List.getElem?_append_right (by omega),Nat.add_sub_cancel_left,List.getElem?_append_left e,h]
def zH(ps:List bM):Prop:=∀i,i<ps.length→0≤bP ps i∧bP ps i<256∧0≤aG ps i∧aG ps i<256
theorem ng:∀(ps:List bM)(b:Int),fP b ps=true→zH ps|[],_,_=>fun i a=>by simp at a|p::c,b,h=>by simp only[fP,Bool.and_eq_true,below,decide_eq_true_eq]at h;have d:=ng c _ h.2;intro i a;cases i with|zero=>show 0≤p.cT∧p.cT<256∧0≤p.place∧p.place<256;omega|succ i=>exact d i (by simpa using a)
theorem va{d:Int}{l a c:List UInt8}{ps:List bM}{o:Nat}(f:l=a++eI ps++c)(ho:a.length=o)(h:zH ps)(k:Nat)(j:k≤ps.length):dz d (ay l) o k=ps.take k:=by
 induction k with
  |zero=>rfl
  |succ k i=>
   have e:k<ps.length:=by omega
   have g:=sI ps k e;have b:=h k e;have e1:ah d (ay l) ((o:Int)+2*k)=bP ps k:=by rw[show(o:Int)+2*k=((o+k*2:Nat):Int)by omega,ee (nd f ho g.1),jb b.1 b.2.1]
   have e2:ah d (ay l) ((o:Int)+2*k+1)=aG ps k:=by rw[show(o:Int)+2*k+1=((o+(k*2+1):Nat):Int)by omega,ee (nd f ho g.2),jb b.2.2.1 b.2.2.2]
   rw[dz,i (by omega),e1,e2,dn ps pz k e];rfl
theorem lj(h:List aL){k:Nat}(a:k<h.length):aQ h=([84,72,cx h.length]++(h.take k).flatMap cG)++cG (h.getD k hz)++(h.drop (k+1)).flatMap cG:=by
 unfold aQ;have e:h=h.take k++(h.getD k hz::h.drop (k+1)):=by rw[←je h hz k a,List.take_append_drop]
 conv=>lhs;arg 2;rw[e]
 simp[List.flatMap_append,List.flatMap_cons]
def gT(h:List aL)(k:Nat):Nat:=3+((h.take k).flatMap cG).length
theorem kF{h:List aL}{k:Nat}(a:k<h.length):gT h (k+1)=gT h k+2+2*(aq h k).length:=by unfold gT;rw[dn h hz k a,List.flatMap_append];simp[gi,aq];omega
theorem AA(h:List aL):(aQ h).length=gT h h.length:=by simp[gT,aQ];omega
theorem qX{h:List aL}{k:Nat}(a:k<h.length):gT h (k+1)≤(aQ h).length:=by have:=lj h a;rw[this];rw[kF a];simp[gi,gT,aq];omega
theorem rT{d:Int}{h:List aL}(c:aO h=true){k:Nat}(a:k<h.length):ah d (ay (aQ h)) (gT h k)=aU h k∧ah d (ay (aQ h)) ((gT h k:Int)+1)=(aq h k).length∧dz d (ay (aQ h)) ((gT h k:Int)+2) (aq h k).length=aq h k:=by
 have hs:=lj h a;have b:=iy c (h.getD k hz) (cm a);simp only[cX,Bool.and_eq_true,below,decide_eq_true_eq]at b;obtain⟨⟨⟨f,l⟩,m⟩,g⟩:=b;have ho:([84,72,cx h.length]++(h.take k).flatMap cG).length=gT h k:=by simp[gT];omega
 refine⟨?_,?_,?_⟩
 ·have e:=ee (d:=d) (nd hs ho (i:=0) (x:=cx (aU h k)) rfl);have g1:0≤aU h k:=f;have g2:aU h k<256:=by show(h.getD k hz).src<256;omega
  rw[jb g1 g2]at e;exact e
 ·have e:=ee (d:=d) (nd hs ho (i:=1) (x:=cx (aq h k).length) rfl);rw[jb (by omega) (by show((h.getD k hz).br.length:Int)<256;omega)]at e;rw[show(gT h k:Int)+1=((gT h k+1:Nat):Int)by omega];exact e
 ·have j:aQ h=([84,72,cx h.length]++(h.take k).flatMap cG++[cx (aU h k),cx (aq h k).length])++eI (aq h k)++(h.drop (k+1)).flatMap cG:=by rw[hs];simp[cG,aU,aq]
  rw[show(gT h k:Int)+2=((gT h k+2:Nat):Int)by omega];rw[va j (by rw[List.length_append,ho];rfl) (ng _ _ g) _ (Rq _),List.take_length]
theorem lQ{d:Int}{h:List aL}(a:aO h=true):ah d (ay (aQ h)) 0=84∧ah d (ay (aQ h)) 1=72∧ah d (ay (aQ h)) 2=h.length:=by
 have c:=gM a;refine⟨?_,?_,?_⟩;·exact ee (i:=0) (b:=84) rfl
 ·exact ee (i:=1) (b:=72) rfl
 ·have e:=ee (d:=d) (l:=aQ h) (i:=2) (b:=cx h.length) rfl;rw[jb (by omega) (by omega)]at e;exact e
theorem nQ{h:List aL}(b:aO h=true)(k:Nat)(g:k≤h.length):eC (ay (aQ h)) k=gT h k∧eP (ay (aQ h)) k=h.take k:=by
 induction k with
  |zero=>exact⟨rfl,rfl⟩
  |succ k c=>
   obtain⟨e1,e2⟩:=c (by omega);obtain⟨e,a,f⟩:=rT (d:=-1) b (show k<h.length by omega);constructor;·rw[eC,e1,a,kF (by omega),Int.toNat_natCast];omega
   ·rw[eP,e2,e1,dn h hz k (by omega)];congr 2;simp only[yF,e,a,Int.toNat_natCast,f];rfl
theorem tY{h:List aL}(c:aO h=true)(k:Nat)(j:k≤h.length):lH (ay (aQ h)) k=gT h k∧fV (ay (aQ h)) k=h.take k:=by
 induction k with
  |zero=>exact⟨rfl,rfl⟩
  |succ k e=>
   obtain⟨e1,e2⟩:=e (by omega);obtain⟨f,a,g⟩:=rT (d:=0) c (show k<h.length by omega);have l:=qX (show k<h.length by omega);have i:=kF (show k<h.length by omega);have b:CL (ay (aQ h)).size ((gT h k:Int)+2) (aq h k).length=(aq h k).length:=by unfold CL;rw[gZ];omega
   constructor;·rw[lH,e1,a,Int.toNat_natCast,b,i];omega
   ·rw[fV,e2,e1,a,Int.toNat_natCast,b,f,g,dn h hz k (by omega)];rfl
theorem A3{h:List aL}(a:aO h=true){i:Nat}(b:zq (ay (aQ h)) i):fV (ay (aQ h)) i=h:=by
 obtain⟨_,_,c⟩:=lQ (d:=0) a;have:i=h.length:=by
  rcases Nat.lt_trichotomy i h.length with e|f|g;·exfalso;apply b.stop;rw[c,(tY a i (by omega)).1,gZ];have:=qX e;have:=kF e;omega
  ·exact f
  ·have:=(b.done h.length g).1;rw[c]at this;omega
 subst this;rw[(tY a _ (Rq _)).2,List.take_length]
theorem fN{d:Int}{s:ByteArray}{i:Nat}(a:i<s.size):ah d s i=(s.data.toList[i]'(by simpa using a)).toNat:=by have h:s.data.toList[i]?=y (s.data.toList[i]'(by simpa using a)):=List.getElem?_eq_getElem _;have:=ee (d:=d) h;rwa[←y_]at this
def nF(s:ByteArray)(i n:Nat):List UInt8:=(s.data.toList.drop i).take n
theorem lT{s:ByteArray}{i:Nat}(h:i+1<s.size):nF s i 2=[cx (ah (-1) s i),cx (ah (-1) s ((i:Int)+1))]:=by have a:s.data.toList.length=s.size:=Array.length_toList;rw[show(i:Int)+1=((i+1:Nat):Int)by omega,fN (show i<s.size by omega),fN h,uD,uD];unfold nF;rw[List.drop_eq_getElem_cons (by omega),List.drop_eq_getElem_cons (by omega)];rfl
theorem fS(s:ByteArray)(i n a:Nat):nF s i (n+a)=nF s i n++nF s (i+n) a:=by unfold nF;rw[List.take_add,List.drop_drop]
theorem AI{s:ByteArray}{o:Nat}(k:Nat)(h:o+2*k≤s.size):eI (dz (-1) s o k)=nF s o (2*k):=by induction k with|zero=>simp[dz,eI,nF]|succ k a=>rw[show 2*(k+1)=2*k+2 by omega,fS,←a (by omega),lT (by omega)];simp only[dz,eI,List.flatMap_append,List.flatMap_cons,List.flatMap_nil,List.append_nil];rw[show((o+2*k:Nat):Int)=(o:Int)+2*k by omega]
theorem rk(s:ByteArray)(k:Nat):(eP s k).length=k:=by induction k with|zero=>rfl|succ k a=>simp[eP,a]
theorem zV(s:ByteArray){i j:Nat}(h:i≤j):eC s i≤eC s j:=by
 induction j with
  |zero=>
   obtain rfl:i=0:=by omega
   exact Int.le_refl _
  |succ j a=>
   by_cases e:i=j+1;·subst e;exact Int.le_refl _
   ·have:=a (by omega);simp only[eC];omega
theorem AL{s:ByteArray}(k:Nat)(h:eC s k≤s.size):(eP s k).flatMap cG=nF s 3 (eC s k-3).toNat:=by
 induction k with
  |zero=>simp[eP,eC,nF]
  |succ k e=>
   have j:=uw s k;have l:=zV s (show k≤k+1 by omega);obtain⟨a,b⟩:=Int.eq_ofNat_of_zero_le (show 0≤eC s k by omega);have f:eC s (k+1)=eC s k+(2+2*(ah (-1) s (eC s k+1)).toNat):=rfl;generalize g:(ah (-1) s (eC s k+1)).toNat=c at f;have d:ah (-1) s (eC s k+1)=c:=by rw[b,show(a:Int)+1=((a+1:Nat):Int)by omega,fN (by omega)]at g⊢;omega
   have e3:(eC s (k+1)-3).toNat=(eC s k-3).toNat+(2+2*c):=by omega
   rw[eP,List.flatMap_append,e (by omega),e3,fS,fS];have i:3+(eC s k-3).toNat=a:=by omega
   rw[i];congr 1;simp only[List.flatMap_cons,List.flatMap_nil,List.append_nil,cG,yF,ju];rw[d,Int.toNat_natCast,b,lT (by omega)];congr 1;·rw[←b,d]
   ·rw[show(a:Int)+2=((a+2:Nat):Int)by omega];exact AI c (by omega)
theorem BN{s:ByteArray}(h:dx s=true):ay (aQ (eP s (ah (-1) s 2).toNat))=s:=by
 simp only[dx,Bool.and_eq_true,decide_eq_true_eq]at h;obtain⟨⟨⟨b,c⟩,m⟩,n⟩:=h;have o:=uw s (ah (-1) s 2).toNat;have f:s.data.toList.length=s.size:=Array.length_toList;have hc:((ah (-1) s 2).toNat:Int)=ah (-1) s 2:=by have e:ah (-1) s ((2:Nat):Int)=_:=fN (d:=-1) (show 2<s.size by omega);have e':ah (-1) s 2=_:=e;rw[e'];omega
 have hs:=AL (s:=s) (ah (-1) s 2).toNat (by omega);unfold aQ;rw[hs,rk,hc];have e2:=lT (s:=s) (i:=0) (by omega);have e3:nF s 2 1=[cx (ah (-1) s 2)]:=by have e:ah (-1) s ((2:Nat):Int)=_:=fN (d:=-1) (show 2<s.size by omega);have e':ah (-1) s 2=_:=e;rw[e',uD];unfold nF;rw[List.drop_eq_getElem_cons (by omega)];rfl
 have g:ah (-1) s ((0:Nat):Int)=84:=b;have j:ah (-1) s (((0:Nat):Int)+1)=72:=c;rw[g,j]at e2;have a:nF s 0 s.size=s.data.toList:=by unfold nF;rw[List.drop_zero,←f,List.take_length]
 have k:s.size=2+(1+(eC s (ah (-1) s 2).toNat-3).toNat):=by omega
 rw[k,fS,fS,e2,e3]at a;have l:[84,72,cx (ah (-1) s 2)]++nF s 3 (eC s (ah (-1) s 2).toNat-3).toNat=s.data.toList:=by rw[←a];rfl
 rw[l,←y_]
theorem kT(s:ByteArray)(w:W)(hs:s.size≤maxLen):Calls Tryz.prog 59 #[Tq s] w fun e w'=>((∃v b,e=Xq (Uq #[Aq #[v],N Z 0])∧aP w' w.heap.size v b∧aO (da b)=true∧ay (aQ (da b))=s)∨((∀h,aO h=true→ay (aQ h)≠s)∧e=Xq (Uq #[Aq #[L z 0 0],N Z 2])))∧G w.heap.size w w':=by
 refine pB s w hs _ ?_ ?_
 ·intro v b w' a ho g c;refine⟨.inl ⟨v,b,rfl,ho,?_,?_⟩,c⟩;·rw[g];simp only[dx,Bool.and_eq_true]at a;exact a.2
  ·rw[g];exact BN a
 ·intro w' a c;refine⟨.inr ⟨?_,rfl⟩,c⟩;intro h f i;subst i;obtain⟨j,k,l⟩:=lQ (d:=-1) f;have:=nQ f h.length (Rq _);simp only[dx,j,k,l,Int.toNat_natCast,this.1,this.2,List.take_length,f,gZ,AA]at a;simp at a
theorem iS(s:ByteArray)(w:W)(hs:s.size≤maxLen):Calls Tryz.prog 78 #[Tq s] w fun e w'=>((∃v a,e=Xq (Uq #[Aq #[v],Bq true])∧aP w' w.heap.size v a∧aO (da a)=true∧ay (aQ (da a))=s)∨((∀h,aO h=true→ay (aQ h)≠s)∧e=Xq (Uq #[Aq #[L z 0 0],Bq false])))∧G w.heap.size w w':=by
 refine pH s w hs _ ?_ ?_;·intro v a w' i _ ho k b f c;exact⟨.inl ⟨v,a,rfl,ho,b,f⟩,c⟩
 ·intro w' i g d c;refine⟨.inr ⟨?_,rfl⟩,c⟩;intro h b j;subst j;have:=A3 b g;rw[this]at d;exact d b rfl
theorem nh{h g:List aL}(f:aO h=true)(i:aO g=true)(e:ay (aQ h)=ay (aQ g)):h=g:=by
 have a:=lQ (d:=-1) f;have b:=lQ (d:=-1) i;have c:=nQ f h.length (Rq _);have d:=nQ i g.length (Rq _);have j:h.length=g.length:=by have:=a.2.2;rw[e,b.2.2]at this;omega
 have x:=c.2;rw[e,j,d.2,List.take_length,←j,List.take_length]at x;exact x.symm
theorem sL(v u:Vq)(ps:List bM)(w:W)(d:dH w v ps)(f:dH w u ps):Calls Tryz.prog 93 #[v,u] w fun e w'=>e=Xq (Bq true)∧G w.heap.size w w':=by
 obtain⟨h,cap,rfl,j,hc⟩:=d;obtain⟨l,m,rfl,_,g⟩:=f;go_enter Tryz.func93,Tryz.ntmps93;go_wp2;go_loopw[5](fun i wr=>∃(k:Nat),k≤ps.length∧i=N Z k∧G w.heap.size w wr)(fun i _=>ps.length-(intOf i).toNat);case atStart=>exact⟨0,Nat.zero_le _,rfl,Below.refl _ _⟩
 case round=>
  obtain⟨k,n,rfl,a⟩:=hrel;by_cases c:k<ps.length
  ·obtain⟨b,o,rfl,c1,c2⟩:=hc k c;obtain⟨p,q,rfl,d1,d2⟩:=g k c;have e1:=aa a c1;have e2:=aa a c2;have e3:=aa a d1;have e4:=aa a d2;go_wp2;go_quiet(fail);go_wp2;go_roundw;case rel=>exact⟨k+1,by omega,by go_num,below_drewN a _⟩
   case measure=>simp[intOf];omega
  ·go_wp2;go_ret;exact⟨rfl,a⟩
theorem e_(v u:Vq)(h:List aL)(w:W)(n:cj w v h)(o:cj w u h):Calls Tryz.prog 50 #[Aq #[v],Aq #[u]] w fun e w'=>e=Xq (Bq true)∧G w.heap.size w w':=by
 obtain⟨d,cap,rfl,E,hc⟩:=n;obtain⟨f,g,rfl,_,p⟩:=o;go_enter Tryz.func50,Tryz.ntmps50;go_wp2;go_loopw[5](fun i wr=>∃(k:Nat),k≤h.length∧i=N Z k∧G (w.heap.size+2) ((w.alloc (Y #[L d h.length cap] 30)).alloc (Y #[L f h.length g] 30)) wr)(fun i _=>h.length-(intOf i).toNat);case atStart=>exact⟨0,Nat.zero_le _,rfl,Below.refl _ _⟩
 case round=>
  obtain⟨k,F,rfl,c⟩:=hrel;have a:G w.heap.size w wr:=(((Below.refl w.heap.size w).alloc (Rq _) _).alloc (by simp) _).trans (c.mono (by omega));have j:wr.cell? ⟨w.heap.size,0,z⟩=y (L d h.length cap):=(c.cell (by simp)).trans (by simp);have l:wr.cell? ⟨w.heap.size+1,0,z⟩=y (L f h.length g):=(c.cell (by simp)).trans (by simp);have hz:=c.size;simp at hz;by_cases m:k<h.length
  ·obtain⟨b,H,sv,rfl,c1,c2,c3⟩:=hc k m;obtain⟨I,J,K,rfl,d1,d2,d3⟩:=p k m;have e1:=aa a c1;have e2:=aa a c2;have e3:=aa a d1;have e4:=aa a d2;have q:=c3.ab a;have r:=d3.ab a;have s:=fun x:cJ wr.heap.size wr=>x.cell j;have t:=fun x:cJ wr.heap.size wr=>x.cell l;have A:=fun x:cJ wr.heap.size wr=>x.cell e2;have B:=fun x:cJ wr.heap.size wr=>x.cell e4;have np:=cJ.any wr.heap.size wr;go_wp2;refine eA wr.heap.size (by kernel_rfl) (by kernel_rfl) ?_;repeat(go_big_quiet_step(exact Calls.kJ (Rq _) (sL _ _ _ _ (q.ab (cJ.ok _)) (r.ab (cJ.ok _)))))
   refine wpQuiet_nil ?_;rintro _⟨x,rfl⟩;have M:=x.cell j;have O:=x.cell l;have P:=x.cell e1;have Q:=x.cell e3;have C:=c.trans (x.ok.mono (by omega));generalize x.wd=w1 at*;clear s t A B np;go_wp2;go_quiet(fail);go_wp2;go_roundw;case rel=>exact⟨k+1,by omega,by go_num,below_drewN C _⟩
   case measure=>simp[intOf];omega
  ·go_wp2;go_ret;exact⟨rfl,a⟩
section
variable{P:Program}(w:World)
theorem vC(base:Nat)(t k e:TypeId)(i:TypeInfo)(l:Vq)(size bytes:Nat)(p:P.underlying t=y (.slice e))(q:P.info? e=y i)(hz:i.zero=y l)(E:i.size=size)(F:i.bytes=bytes)(aa:l.cells.size=size)(ab:0<size)(v:Vq)(n:Nat)(xs:List Vq)(f:w.ownsRow base e size v n xs)(a:Addr)(b c:Nat)(news:List Vq)(m:news.length=b*size)(r:∀j u,news[j]?=y u→w.cell? (a.add j)=y u)(H:∀u∈news,u.oneCell'=true)(I:n+b≤maxLen)(A:(n+b)*bytes≤140737488355328)(ac:base≤w.heap.size)(J:0<b){B:Vq}{w':W}(d:(Builtin.append_ #[t,t] k #[v,L (y a) b c]).run P w=.ok B w'):w'.ownsRow base e size v n xs∧(∀g,B.ownBlock=y g→v.ownBlock=y g∨w.heap.size≤g):=by
 subst E;subst F;have ad:n+b≤9223372036854775807:=by simp only[maxLen]at I;omega
 rcases f.2 with⟨rfl,rfl⟩|⟨g,cap,s,rfl,K,o,M,O,Q,R⟩;·have S:xs=[]:=List.eq_nil_of_length_eq_zero (by simpa using f.1);subst S;have h:=run_append_nil (P:=P) w t k e i l p q hz a b c news m r J (by omega) (by have T:=A;simp only[Nat.zero_add]at T;omega);rw[h]at d;simp only[Result.ok.injEq]at d;obtain⟨rfl,rfl⟩:=d;exact⟨World.ownsRow_nil _ _ _ _,fun g o=>.inr (by simp[Value.ownBlock]at o;omega)⟩
 ·by_cases C:n+b≤cap
  ·have U:n*i.size+news.length≤s.size:=by rw[m,Q,←Nat.add_mul];exact Nat.mul_le_mul_right _ C
   have h:=run_append_room (P:=P) w t k e i p q g n cap s o a b c news m r H C U;rw[h]at d;simp only[Result.ok.injEq]at d;obtain⟨rfl,rfl⟩:=d;refine⟨⟨f.1,.inr ⟨g,cap,_,rfl,K,setRow_heap w g s _ e _ o,M,O,?_,?_⟩⟩,fun V x=>.inl x⟩;·simp only[List.size_toArray,List.length_append,List.length_take,List.length_drop,Array.length_toList];omega
   ·rw[R,List.append_assoc,←f.1];exact List.take_left
  ·have X:∀j u,xs[j]?=y u→w.cell? ((⟨g,0,z⟩:Addr).add j)=y u:=f.cells (g:=g) rfl;have h:=run_append_grow (P:=P) w t k e i l p q hz ⟨g,0,z⟩ n cap xs f.1 X a b c news m r (by omega) (by omega) (growslice_fits (by omega) A);rw[h]at d;simp only[Result.ok.injEq]at d;obtain⟨rfl,rfl⟩:=d;refine⟨?_,fun V x=>.inr (by simp[Value.ownBlock]at x;omega)⟩;exact(World.ownsRow.drew f).alloc _
theorem ev{ops:Array Oper}{l:List Oper}{o:Oper}{a:Act}{m:Exit→Act→W→Prop}(R:o.guard=z)(s x:Operand)(t:TypeId)(ho:o.op=.call {callee:=.builtin .append,args:=#[s,x],argTypes:=#[t,t]})(base:Nat)(e:TypeId)(i:TypeInfo)(f:Vq)(size bytes:Nat)(p:P.underlying t=y (.slice e))(q:P.info? e=y i)(hz:i.zero=y f)(r:i.size=size)(A:i.bytes=bytes)(B:f.cells.size=size)(C:0<size)(v:Vq)(n:Nat)(xs:List Vq)(hs:a.eval s=v)(E:w.ownsRow base e size v n xs)(k:Addr)(b c:Nat)(news:List Vq)(S:a.eval x=L (y k) b c)(F:news.length=b*size)(H:∀j u,news[j]?=y u→w.cell? (k.add j)=y u)(I:∀u∈news,u.oneCell'=true)(J:n+b≤maxLen)(M:(n+b)*bytes≤140737488355328)(O:base≤w.heap.size)(T:0<b)(h:∀d w',w'.ownsRow base e size d (n+b) (xs++news)→w.grownBy w' v.ownBlock→w'.ownsRow base e size v n xs→(∀g,d.ownBlock=y g→v.ownBlock=y g∨w.heap.size≤g)→wpList P ops m l (a.put o.dst d) w'):wpList P ops m (o::l) a w:=by refine wpList_plain R fun K U=>?_;obtain⟨d,w',Q,V,X,ac⟩:=run_append_own (P:=P) w base t o.type e i f size bytes p q hz r A B C v n xs E k b c news F H I J M O;obtain⟨aa,ab⟩:=vC (P:=P) w base t o.type e i f size bytes p q hz r A B C v n xs E k b c news F H I J M O T Q;unfold Oper.wp execOp;simp only[ho,resolve,invoke,builtin,Sem.run_bind,Sem.run_pure,Result.andThen_ok,List.map_toArray,List.map_cons,List.map_nil,hs,S,Q];exact U _ _ (h d w' V X aa ab)
end
theorem lC{w w':W}{B m:Nat}{e:TypeId}{a:Nat}{v lv:Vq}{n b:Nat}{xs d t:List Vq}(r:0<a)(h:w.ownsRow B e a v n xs)(o:w.ownsRow m e a lv b d){g:Nat}(f:v.ownBlock=y g)(i:lv.ownBlock=y g)(s:w'.ownsRow m e a lv b d)(p:d=xs++t):w'.ownsRow B e a v n xs:=by
 refine⟨h.1,?_⟩;rcases h.2 with⟨rfl,_⟩|⟨k,cap,u,rfl,x,A,C,E,F,R⟩;·simp[Value.ownBlock]at f
 rcases o.2 with⟨rfl,_⟩|⟨S,q,H,rfl,T,j,g1,g2,I,U⟩;·simp[Value.ownBlock]at i
 simp only[Value.ownBlock,Option.some.injEq]at f i;subst f;subst i;rw[A]at j;simp only[Option.some.injEq,Obj.cells.injEq,and_true]at j;have J:u=H:=j;subst J;have K:cap=q:=by
  have:cap*a=q*a:=by rw[←F,←I]
  exact Nat.eq_of_mul_eq_mul_right r this
 subst K;rcases s.2 with⟨c,_⟩|⟨k2,V,l,c,X,M,aa,ab,O,P⟩;·simp at c
 simp only[Value.slice.injEq,Option.some.injEq,Addr.mk.injEq,and_true,true_and]at c;obtain⟨rfl,rfl⟩:=c;refine .inr ⟨_,_,l,rfl,x,M,C,E,O,?_⟩;have Q:n*a≤b*a:=by rw[←h.1,←o.1,p];simp
 have e1:l.toList.take (n*a)=(l.toList.take (b*a)).take (n*a):=by rw[List.take_take,Nat.min_eq_left Q]
 rw[e1,P,p,←h.1,List.take_left]
def ur(a:List (aL×Vq))(lv:Vq)(b:List Vq):Prop:=∀x∈a,∀g,x.2.ownBlock=y g→lv.ownBlock=y g→∃t,b=bf x.1.br++t
theorem aP.app{w w':W}{base:Nat}{v lv:Vq}{c:List (aL×Vq)}{i:Nat}{d:List Vq}(h:aP w base v c)(j:w.ownsRow base 38 2 lv i d)(k:ur c lv d)(f:w.grownBy w' lv.ownBlock)(l:w'.ownsRow base 38 2 lv i d):aP w' base v c:=by
 refine⟨?_,?_,h.apart⟩;·refine h.row.kept f ?_;cases a:v.ownBlock with|none=>exact .inl rfl|some g=>exact .inr (fun e=>eS h.row j (by decide) g a e.symm)
 ·intro x b;cases a:x.2.ownBlock with
   |none=>exact(h.each x b).kept f (.inl a)
   |some g=>
    by_cases e:lv.ownBlock=y g;·obtain⟨t,m⟩:=k x b g a e;exact lC (by decide) (h.each x b) j a e l m
    ·exact(h.each x b).kept f (.inr (by rw[a];exact fun e'=>e e'.symm))
theorem ur.step{w:W}{base:Nat}{v lv b:Vq}{a:List (aL×Vq)}{c news:List Vq}(h:aP w base v a)(i:ur a lv c)(j:∀g,b.ownBlock=y g→lv.ownBlock=y g∨w.heap.size≤g):ur a b (c++news):=by
 intro x d g f k;rcases j g k with e|e;·obtain⟨t,l⟩:=i x d g f e;exact⟨t++news,by rw[l,List.append_assoc]⟩
 ·have:=((h.each x d).lt g f).2;omega
theorem ur.start{w:W}{base:Nat}{v:Vq}{a:List (aL×Vq)}(h:aP w base v a){i:Nat}(b:i<a.length):ur a a[i].2 (bf a[i].1.br):=by
 intro x k g c d;obtain⟨j,f,rfl⟩:=List.getElem_of_mem k;by_cases e:j=i;·subst e;exact⟨[],by simp⟩
 ·exfalso;rcases Nat.lt_or_gt_of_ne e with l|m;·exact List.pairwise_iff_getElem.1 h.apart j i f b l g c d
  ·exact List.pairwise_iff_getElem.1 h.apart i j b f m g d c
theorem aP.xL{w w':W}{base:Nat}{v lv:Vq}{b:List (aL×Vq)}{f:Nat}{c:List Vq}(h:aP w base v b)(i:w.ownsRow base 33 2 lv f c)(k:∀g,v.ownBlock=y g→lv.ownBlock=y g→∃t,c=bt b++t)(d:w.grownBy w' lv.ownBlock)(l:w'.ownsRow base 33 2 lv f c):aP w' base v b:=by
 refine⟨?_,?_,h.apart⟩
 ·cases a:v.ownBlock with
   |none=>exact h.row.kept d (.inl a)
   |some g=>
    by_cases e:lv.ownBlock=y g;·obtain⟨t,m⟩:=k g a e;exact lC (by decide) h.row i a e l m
    ·exact h.row.kept d (.inr (by rw[a];exact fun e'=>e e'.symm))
 ·intro x j;refine(h.each x j).kept d ?_;cases a:x.2.ownBlock with|none=>exact .inl rfl|some g=>exact .inr (fun e=>eS (h.each x j) i (by decide) g a e.symm)
theorem gC{w:W}{B:Nat}{e:TypeId}{b:Nat}{v:Vq}{n:Nat}{xs:List Vq}(h:w.ownsRow B e b v n xs){g:Nat}(a:v.ownBlock=y g)(o:Nat):w.frozen? ⟨g,o,z⟩=false:=by
 rcases h.2 with⟨rfl,_⟩|⟨k,cap,d,rfl,f,c,_⟩;·simp[Value.ownBlock]at a
 ·simp only[Value.ownBlock,Option.some.injEq]at a;subst a;simp[World.frozen?,c]
theorem kI{w:W}{base:Nat}{c:Option Addr}{n cap:Nat}{a:List (aL×Vq)}(h:aP w base (L c n cap) a){i:Nat}(g:i<a.length):∃b,c=y ⟨b,0,z⟩∧base≤b∧w.cell? ⟨b,i*2,z⟩=y (N Z a[i].1.src)∧w.cell? ⟨b,i*2+1,z⟩=y a[i].2∧∀o,w.frozen? ⟨b,o,z⟩=false:=by
 obtain⟨p,q,d⟩:=af h.row;simp only[Value.slice.injEq]at d;obtain⟨rfl,rfl,rfl⟩:=d;have r:=cr a;obtain⟨b,j,k,e,hc⟩:=cg h.row rfl (i:=i*2) (by omega);obtain⟨l,s,_,f,m⟩:=cg h.row rfl (i:=i*2+1) (by omega);have:b=l:=by rw[e]at f;simpa using f
 subst this;obtain⟨g1,g2⟩:=iE a i g;refine⟨b,j,k,?_,?_,fun o=>gC h.row e o⟩;·rw[hc];rw[List.getElem?_eq_getElem (by omega)]at g1;exact g1
 ·rw[m];rw[List.getElem?_eq_getElem (by omega)]at g2;exact g2
theorem me{w:W}{base:Nat}{a:Option Addr}{n f:Nat}{ps:List bM}(h:w.ownsRow base 38 2 (L a n f) ps.length (bf ps)){j:Nat}(g:j<ps.length):∃b,a=y ⟨b,0,z⟩∧base≤b∧w.cell? ⟨b,j*2,z⟩=y (N Z (bP ps j))∧w.cell? ⟨b,j*2+1,z⟩=y (N Z (aG ps j))∧∀o,w.frozen? ⟨b,o,z⟩=false:=by
 obtain⟨q,r,c⟩:=af h;simp only[Value.slice.injEq]at c;obtain⟨rfl,rfl,rfl⟩:=c;have s:=bZ ps;obtain⟨b,k,l,d,hc⟩:=cg h rfl (i:=j*2) (by omega);obtain⟨m,t,_,e,p⟩:=cg h rfl (i:=j*2+1) (by omega);have:b=m:=by rw[d]at e;simpa using e
 subst this;obtain⟨g1,g2⟩:=iD ps j g;refine⟨b,k,l,?_,?_,fun o=>gC h d o⟩;·rw[hc];rw[List.getElem?_eq_getElem (by omega)]at g1;exact g1
 ·rw[p];rw[List.getElem?_eq_getElem (by omega)]at g2;exact g2
def iC(l:List Vq):Nat→List Vq|0=>[]|k+1=>iC l k++l
structure aH(S:Nat→Prop)(w w':World):Prop where
 os:w'.os=w.os
 tape:w'.tape=w.tape
 output:w'.output=w.output
 size:w.heap.size≤w'.heap.size
 block:∀k,k<w.heap.size→¬S k→w'.heap[k]?=w.heap[k]?
theorem aH.refl(S:Nat→Prop)(w:W):aH S w w:=⟨rfl,rfl,rfl,Rq _,fun _ _ _=>rfl⟩
theorem aH.step{S:Nat→Prop}{w a b:W}(h:aH S w a)(e:b.os=a.os)(f:b.tape=a.tape)(ho:b.output=a.output)(hs:a.heap.size≤b.heap.size)(g:∀k,k<w.heap.size→¬S k→b.heap[k]?=a.heap[k]?):aH S w b:=⟨e.trans h.os,f.trans h.tape,ho.trans h.output,Nat.le_trans h.size hs,fun k c d=>(g k c d).trans (h.block k c d)⟩
theorem aH.alloc{S:Nat→Prop}{w a:W}(h:aH S w a)(o:Obj):aH S w (a.alloc o):=h.step rfl rfl rfl (by simp) fun k b _=>Below.heap_alloc _ _ _ (Nat.lt_of_lt_of_le b h.size)
theorem aH.setCell{S:Nat→Prop}{w a:W}(h:aH S w a){p:Addr}(b:S p.block∨w.heap.size≤p.block)(u:Vq):aH S w (a.setCell p u):=h.step rfl rfl rfl (by simp) fun k d c=>Below.heap_setCell _ _ _ _ (fun e=>by subst e;rcases b with b|b;exact c b;omega)
theorem aH.grown{S:Nat→Prop}{w a b:W}{d:Option Nat}(h:aH S w a)(c:a.grownBy b d)(i:∀g,d=y g→S g∨w.heap.size≤g):aH S w b:=h.step c.os c.tape c.output c.size fun k j l=>c.block k (Nat.lt_of_lt_of_le j h.size) (fun e=>by rcases i k e.symm with f|f;exact l f;omega)
theorem aH.below{S:Nat→Prop}{w a b:W}(h:aH S w a){B:Nat}(c:G B a b)(d:w.heap.size≤B):aH S w b:=h.step c.os c.tape c.output c.size fun k e _=>c.block k (by omega)
theorem aH.toBelow{S:Nat→Prop}{w a:W}(h:aH S w a){B:Nat}(d:B≤w.heap.size)(b:∀k,S k→B≤k):G B w a:=⟨h.os,h.tape,h.output,h.size,fun k e=>h.block k (by omega) (fun c=>by have:=b k c;omega)⟩
theorem aH.cell{S:Nat→Prop}{w a:W}(h:aH S w a){b o:Nat}(c:¬S b){u:Vq}(hc:w.cell? ⟨b,o,z⟩=y u):a.cell? ⟨b,o,z⟩=y u:=(World.cell?_of_block (w:=w) (h.block b (World.block_lt_of_cell? w _ hc) c)).trans hc
theorem fG{w:W}{B:Nat}{e:TypeId}{b:Nat}{v:Vq}{n:Nat}{xs:List Vq}(h:w.ownsRow B e b v n xs){g i:Nat}(a:v.ownBlock=y g)(p:i<xs.length)(u:Vq):(w.setCell ⟨g,i,z⟩ u).ownsRow B e b v n (xs.set i u):=by
 refine⟨by rw[List.length_set];exact h.1,?_⟩;rcases h.2 with⟨rfl,_⟩|⟨k,cap,c,rfl,d,f,j,l,m,o⟩;·simp[Value.ownBlock]at a
 simp only[Value.ownBlock,Option.some.injEq]at a;subst a;refine .inr ⟨k,cap,c.setIfInBounds i u,rfl,d,heap_setCell_same w k i c e u f,j,l,by simpa using m,?_⟩;rw[Array.toList_setIfInBounds,List.take_set,o]
theorem bj{w:W}{B:Nat}{e:TypeId}{a:Nat}{v:Vq}{n:Nat}{xs:List Vq}(h:w.ownsRow B e a v n xs){g i:Nat}(b:v.ownBlock≠y g)(u:Vq):(w.setCell ⟨g,i,z⟩ u).ownsRow B e a v n xs:=d_ h fun k c=>Below.heap_setCell _ _ _ _ (fun e=>b (by rw[c,e]))
theorem nV(a:List (aL×Vq))(i:Nat)(b:i<a.length)(x:Int):bt (a.set i (⟨x,a[i].1.br⟩,a[i].2))=(bt a).set (i*2) (N Z x):=by
 induction a generalizing i with
  |nil=>simp at b
  |cons p c d=>
   cases i with
    |zero=>rfl
    |succ i=>
     have h:=d i (by simpa using b);have e1:(i+1)*2=i*2+1+1:=by omega
     rw[e1];show[_,_]++bt (c.set i _)=[_,_]++(bt c).set (i*2) _;rw[←h];rfl
theorem sG(ps:List bM)(j:Nat)(c:j<ps.length)(a b:Int):bf (ps.set j ⟨a,b⟩)=((bf ps).set (j*2) (N Z a)).set (j*2+1) (N Z b):=by
 induction ps generalizing j with
  |nil=>simp at c
  |cons p d e=>
   cases j with
    |zero=>rfl
    |succ j=>
     have h:=e j (by simpa using c);have e1:(j+1)*2=j*2+1+1:=by omega
     rw[e1];show[_,_]++bf (d.set j _)=[_,_]++((bf d).set (j*2) _).set (j*2+1) _;rw[←h]
theorem mF(a:List (aL×Vq))(i:Nat)(b:i<a.length)(ps:List bM):bt (a.set i (⟨a[i].1.src,ps⟩,a[i].2))=bt a:=by induction a generalizing i with|nil=>simp at b|cons p c d=>cases i with|zero=>rfl|succ i=>have h:=d i (by simpa using b);show[_,_]++bt (c.set i _)=[_,_]++bt c;rw[←h];rfl
theorem sX{c:List (aL×Vq)}{i:Nat}(o:i<c.length)(x:aL)(h:c.Pairwise fun x d=>∀g,x.2.ownBlock=y g→d.2.ownBlock≠y g):(c.set i (x,c[i].2)).Pairwise fun x d=>∀g,x.2.ownBlock=y g→d.2.ownBlock≠y g:=by
 rw[List.pairwise_iff_getElem]at*;have f:∀(j:Nat)(k:j<(c.set i (x,c[i].2)).length),((c.set i (x,c[i].2))[j]).2=(c[j]'(by simpa using k)).2:=by
  intro j k;rw[List.getElem_set];split;·rename_i e;subst e;rfl
  ·rfl
 intro a b l m n;rw[f a l,f b m];exact h a b _ _ n
theorem aP.D0{w:W}{base:Nat}{b n cap:Nat}{a:List (aL×Vq)}(h:aP w base (L (y ⟨b,0,z⟩) n cap) a){i:Nat}(c:i<a.length)(x:Int):aP (w.setCell ⟨b,i*2,z⟩ (N Z x)) base (L (y ⟨b,0,z⟩) n cap) (a.set i (⟨x,a[i].1.br⟩,a[i].2)):=by
 have l:=cr a;refine⟨?_,?_,sX c _ h.apart⟩;·rw[nV a i c,List.length_set];exact fG h.row rfl (by omega) _
 ·intro f d;have g:∀x∈a,(w.setCell ⟨b,i*2,z⟩ (N Z x.1.src)).ownsRow base 38 2 x.2 x.1.br.length (bf x.1.br)∧x.2.ownBlock≠y b:=by intro x j;have k:x.2.ownBlock≠y b:=fun e=>eS h.row (h.each x j) (by decide) b rfl e;exact⟨bj (h.each x j) k _,k⟩
  rcases List.mem_or_eq_of_mem_set d with d|rfl;·exact bj (h.each f d) (g f d).2 _
  ·exact bj (h.each _ (List.getElem_mem c)) (g _ (List.getElem_mem c)).2 _
theorem aP.Dp{w:W}{base:Nat}{v:Vq}{a:List (aL×Vq)}(h:aP w base v a){i j g:Nat}(b:i<a.length)(c:a[i].2.ownBlock=y g)(o:j<a[i].1.br.length)(x d:Int):aP ((w.setCell ⟨g,j*2,z⟩ (N Z x)).setCell ⟨g,j*2+1,z⟩ (N Z d)) base v (a.set i (⟨a[i].1.src,a[i].1.br.set j ⟨x,d⟩⟩,a[i].2)):=by
 have s:=bZ a[i].1.br;have m:=h.each _ (List.getElem_mem b);refine⟨?_,?_,sX b _ h.apart⟩;·rw[mF a i b,List.length_set];have f:v.ownBlock≠y g:=fun e=>eS h.row m (by decide) g e c;exact bj (bj h.row f _) f _
 ·intro t hz;obtain⟨k,p,rfl⟩:=List.getElem_of_mem hz;have l:k<a.length:=by simpa using p
  rw[List.getElem_set];split;·show World.ownsRow _ base 38 2 a[i].2 (a[i].1.br.set j ⟨x,d⟩).length (bf (a[i].1.br.set j ⟨x,d⟩));rw[sG _ _ o,List.length_set];exact fG (fG m c (by omega) _) c (by rw[List.length_set];omega) _
  ·rename_i f;have n:a[k].2.ownBlock≠y g:=by
    intro e;rcases Nat.lt_or_gt_of_ne f with q|r;·exact List.pairwise_iff_getElem.1 h.apart i k b l q g c e
    ·exact List.pairwise_iff_getElem.1 h.apart k i l b r g e c
   exact bj (bj (h.each _ (List.getElem_mem l)) n _) n _
end Go.Proofs.YtblhmeidbjigaabGreatDoor
