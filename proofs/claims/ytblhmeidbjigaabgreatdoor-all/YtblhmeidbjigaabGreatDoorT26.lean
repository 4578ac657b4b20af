import Derived.Test.YtblhmeidbjigaabGreatDoorT21
import Derived.Test.YtblhmeidbjigaabGreatDoorT23
import Derived.Test.YtblhmeidbjigaabGreatDoorT24
set_option linter.unusedSimpArgs false
set_option linter.unusedVariables false
set_option maxRecDepth 100000
set_option maxHeartbeats 8000000
namespace Go.Proofs.YtblhmeidbjigaabGreatDoor
open Go.RowKit
open Go.Value renaming int→N,slice→L,string→Tq,agg→Aq,bool→Bq,tuple→Uq,pointer→Pq
open Go.IntKind renaming i64→Z
open Go.Obj renaming cells→Y
open Go.Ending renaming returned→Xq
open Option renaming none→z,some→y
open Go.Lib renaming hid→D
open Nat renaming le_refl→Rq
open Go renaming World→W,Value→Vq
open Go.RowKit renaming Below→G
theorem zJ{w:W}{g cap:Nat}{l:List Int}(h:Row w g 3 (bL l))(a:l.length≤9223372036854775807):iG w (fun w'=>aM w' (L (y ⟨g,0,z⟩) l.length cap) l):=fun w' hs=>by have b:=lS h (.inr (.inr (.inr (.inr (.inl rfl))))) hs;refine⟨_,_,rfl,a,fun i c=>⟨g,0,rfl,?_⟩⟩;rw[Nat.zero_add];refine Row.cell b (i:=i) ?_;simp[bL,List.getD,c]
theorem Dl{w:W}{g cap:Nat}{l:List (List UInt8)}(h:Row w g 9 (dq l))(a:l.length≤9223372036854775807):iG w (fun w'=>cZ w' (L (y ⟨g,0,z⟩) l.length cap) l):=fun w' hs=>by have b:=lS h (.inr (.inr (.inr (.inr (.inr rfl))))) hs;refine⟨_,_,rfl,a,fun i c=>⟨g,0,rfl,?_⟩⟩;rw[Nat.zero_add];refine Row.cell b (i:=i) ?_;simp[dq,List.getD,c]
theorem BW(l:List Int):bL l++(iC [Value.int Z 0] l.length).drop (bL l).length=bL l:=by rw[List.drop_eq_nil_of_le (by rw[cQ,bH];simp),List.append_nil]
theorem oB(v:Vq)(l:List Int)(w:W)(a:aM w v l)(t:l.length≤17592186044416)(e:Ending→W→Prop)(f:∀w',Row w' w.heap.size 3 (bL l)→G w.heap.size w w'→e (Xq (L (y ⟨w.heap.size,0,z⟩) l.length l.length)) w'):Calls Tryz.prog 45 #[v] w e:=by
 obtain⟨o,u,rfl,x,_⟩:=id a;obtain⟨g,h,p,i,q⟩:=info_parts Tryz.gh;go_enter Tryz.func45,Tryz.ntmps45;go_wp2_with(at_make;refine db _ rfl _ _ 22 rfl 3 g _ [N Z 0] Tryz.underlying22 h p i rfl (by decide) _ _ _ _ l.length rfl rfl (by simp) (by simp) ?e1 ?e2 ?_);case e1=>first|omega|(rw[q];omega)
 case e2=>unfold maxLen;omega
 intro w1 j b r;have c:=a.ab b;clear r;go_wp2_with(refine dR _ rfl (.tmp 7) (.tmp 8) 22 rfl 3 g Tryz.underlying22 h 1 i w.heap.size _ _ o _ _ rfl rfl _ j (bL l) ?g1 (xe c) (tU c) ?g2 (tA _) ?_);case g1=>rw[bH];simp[Nat.min_def]
 case g2=>rw[bH,cQ];simp
 intro s d k;rw[BW]at d;have m:=k.below b (Rq _);have n:=D (f s d m);clear f d k b m j a c;go_wp2;first|exact n.out|(go_ret;exact n.out)
structure PI where
 a0:Int
 a1:Int
 a2:Int
 a3:Int
 v:Value
 v2:Value
 l:List aN
structure HI where
 v:Value
 v2:Value
 l:List aL
structure OI where
 k:Int
 r:Int
 m:Value
 m2:Value
 q:Value
 q2:Value
 lm:List Int
 lq:List Int
structure MI where
 v:Value
 v2:Value
 l:List (List UInt8)
def pC(x:PI)(u:Vq):List Vq:=[N Z x.a0,N Z x.a1,N Z x.a2,N Z x.a3,u]
def oC(x:OI)(u a:Vq):List Vq:=[N Z x.k,N Z x.r,u,a]
def FC(l:List PI):List Vq:=l.flatMap fun x=>pC x x.v
def FD(l:List PI):List Vq:=l.flatMap fun x=>pC x x.v2
def Fw(l:List HI):List Vq:=l.flatMap fun x=>[x.v]
def Fx(l:List HI):List Vq:=l.flatMap fun x=>[x.v2]
def FA(l:List OI):List Vq:=l.flatMap fun x=>oC x x.m x.q
def FB(l:List OI):List Vq:=l.flatMap fun x=>oC x x.m2 x.q2
def Fy(l:List MI):List Vq:=l.flatMap fun x=>[x.v]
def Fz(l:List MI):List Vq:=l.flatMap fun x=>[x.v2]
theorem iJ{c:Type}(f:c→List Vq)(a:Nat)(d:∀x,(f x).length=a):∀(l:List c)(i j:Nat)(b:i<l.length),j<a→(l.flatMap f)[i*a+j]?=(f l[i])[j]?:=by
 intro l;induction l with
  |nil=>intro i j b;simp at b
  |cons x l h=>
   intro i j b g;cases i with
    |zero=>rw[List.flatMap_cons,Nat.zero_mul,Nat.zero_add,List.getElem?_append_left (by rw[d];exact g)];rfl
    |succ i=>
     have e:(i+1)*a+j=(f x).length+(i*a+j):=by rw[d,Nat.succ_mul];omega
     rw[List.flatMap_cons,e,List.getElem?_append_right (by omega),Nat.add_sub_cancel_left];exact h i j (by simpa using b) g
structure E6(w:World)(cnt:Nat→Nat)(cel:Nat→List Value)(ps:List PI)(hs:List HI)(os:List OI)(ms:List MI):Prop where
 n0:cnt 0=ps.length
 n1:cnt 1=ps.length
 n2:cnt 2=hs.length
 n3:cnt 3=hs.length
 n4:cnt 4=os.length
 n5:cnt 5=os.length
 n6:cnt 6=ms.length
 n7:cnt 7=ms.length
 c0:cel 0=FC ps
 c1:cel 1=FD ps
 c2:cel 2=Fw hs
 c3:cel 3=Fx hs
 c4:cel 4=FA os
 c5:cel 5=FB os
 c6:cel 6=Fy ms
 c7:cel 7=Fz ms
 DT:∀x∈ps,iG w (fun w'=>bm w' x.v x.l)∧iG w (fun w'=>bm w' x.v2 x.l)
 DR:∀x∈hs,iG w (fun w'=>cj w' x.v x.l)∧iG w (fun w'=>cj w' x.v2 x.l)
 Db:∀x∈os,(iG w (fun w'=>aM w' x.m x.lm)∧iG w (fun w'=>aM w' x.m2 x.lm))∧(iG w (fun w'=>aM w' x.q x.lq)∧iG w (fun w'=>aM w' x.q2 x.lq))
 DS:∀x∈ms,iG w (fun w'=>cZ w' x.v x.l)∧iG w (fun w'=>cZ w' x.v2 x.l)
theorem E6.next{w w':W}{cnt:Nat→Nat}{cel:Nat→List Vq}{ps:List PI}{hs:List HI}{os:List OI}{ms:List MI}(h:E6 w cnt cel ps hs os ms)(s:cU w w'):E6 w' cnt cel ps hs os ms:=⟨h.n0,h.n1,h.n2,h.n3,h.n4,h.n5,h.n6,h.n7,h.c0,h.c1,h.c2,h.c3,h.c4,h.c5,h.c6,h.c7,fun x a=>⟨(h.DT x a).1.next s,(h.DT x a).2.next s⟩,fun x a=>⟨(h.DR x a).1.next s,(h.DR x a).2.next s⟩,fun x a=>⟨⟨(h.Db x a).1.1.next s,(h.Db x a).1.2.next s⟩,⟨(h.Db x a).2.1.next s,(h.Db x a).2.2.next s⟩⟩,fun x a=>⟨(h.DS x a).1.next s,(h.DS x a).2.next s⟩⟩
structure jj(w0 w:World)(n:Nat)(val:Nat→Value)(cnt:Nat→Nat)(cel:Nat→List Value)(ps:List PI)(hs:List HI)(os:List OI)(ms:List MI):Prop where
 mem:jD w w0.heap.size n val cnt cel
 ok:E6 w cnt cel ps hs os ms
 lp:ps.length≤n
 lh:hs.length≤n
 lo:os.length≤n
 lm:ms.length≤n
 below:Below w0.heap.size w0 w
section
variable{w0 w w':World}{n:Nat}{val:Nat→Value}{cnt:Nat→Nat}{cel:Nat→List Value}{ps:List PI}{hs:List HI}{os:List OI}{ms:List MI}
theorem jj.ab(h:jj w0 w n val cnt cel ps hs os ms)(a:G w.heap.size w w'):jj w0 w' n val cnt cel ps hs os ms:=⟨h.mem.below a,h.ok.next (cU.gS a),h.lp,h.lh,h.lo,h.lm,h.below.trans (a.mono h.below.size)⟩
theorem jj.count(h:jj w0 w n val cnt cel ps hs os ms):jj w0 (w.setCell ⟨w0.heap.size,0,z⟩ (N Z ((n:Int)+1))) (n+1) val cnt cel ps hs os ms:=by obtain⟨a,s⟩:=h.mem.count ((n:Int)+1);exact⟨a,h.ok.next s,by have:=h.lp;omega,by have:=h.lh;omega,by have:=h.lo;omega,by have:=h.lm;omega,h.below.setCell (p:=⟨w0.heap.size,0,z⟩) (Rq _) _⟩
end
theorem Tryz.Ar:(Tryz.prog.info? 25).map (fun i=>(i.zero,i.size,i.bytes))=y (y (Aq #[N Z 0,N Z 0,N Z 0,N Z 0,L z 0 0]),5,56):=by kernel_rfl
theorem Tryz.Ap:(Tryz.prog.info? 30).map (fun i=>(i.zero,i.size,i.bytes))=y (y (Aq #[L z 0 0]),1,24):=by kernel_rfl
theorem Tryz.B0:(Tryz.prog.info? 63).map (fun i=>(i.zero,i.size,i.bytes))=y (y (Aq #[N Z 0,N Z 0,L z 0 0,L z 0 0]),4,64):=by kernel_rfl
theorem Tryz.As:(Tryz.prog.info? 105).map (fun i=>(i.zero,i.size,i.bytes))=y (y (L z 0 0),1,24):=by kernel_rfl
theorem dF{P:Program}{ops:Array Oper}{o:Oper}{a:Act}{w:W}{K:Act→W→Prop}{k:Exit→Act→W→Prop}{l:Prop}(m:o.guard=z)(s x:Operand)(t:TypeId)(ho:o.op=.call {callee:=.builtin .append,args:=#[s,x],argTypes:=#[t,t]})(base:Nat)(e:TypeId)(i:TypeInfo)(f:Vq)(size bytes:Nat)(p:P.underlying t=y (.slice e))(q:P.info? e=y i)(hz:i.zero=y f)(r:i.size=size)(A:i.bytes=bytes)(B:f.cells.size=size)(C:0<size)(v:Vq)(n:Nat)(xs:List Vq)(hs:a.eval s=v)(E:w.ownsRow base e size v n xs)(g:Addr)(b c:Nat)(news:List Vq)(F:a.eval x=L (y g) b c)(H:news.length=b*size)(I:∀j u,news[j]?=y u→w.cell? (g.add j)=y u)(J:∀u∈news,u.oneCell'=true)(M:n+b≤maxLen)(O:(n+b)*bytes≤140737488355328)(Q:base≤w.heap.size)(h:∀d w',w'.ownsRow base e size d (n+b) (xs++news)→w.grownBy w' v.ownBlock→(d.ownBlock=v.ownBlock∨d.ownBlock=y w.heap.size)→K (a.put o.dst d) w'):if Region.wanted o (yielded ops a.tmps)=true then Oper.wp P o a w K k else l:=by
 have R:Region.wanted o (yielded ops a.tmps)=true:=by simp[Region.wanted,m]
 rw[if_pos R];obtain⟨d,w',S,T,U,X,V⟩:=run_append_own_at (P:=P) w base t o.type e i f size bytes p q hz r A B C v n xs E g b c news H I J M O Q;unfold Oper.wp execOp;simp only[ho,resolve,invoke,builtin,Sem.run_bind,Sem.run_pure,Result.andThen_ok,List.map_toArray,List.map_cons,List.map_nil,hs,F,S];exact h d w' T U V
theorem BQ{B Lo:Nat}{w:W}{M P cap n:Nat}{f:Nat→TD}{c:TD}{ms:List (List UInt8)}{regs data:Int}(h:dY B Lo w M P cap n f c ms false regs data)(a:Nat)(b d:Int)(o:a<n)(U:0≤b∧b<256)(V:0≤d∧d<256)(am:n≤1000)(H:∀m,G B w m→TabW m)(I:Ending→W→Prop)(J:∀w',dY B Lo w' M P cap n (ui f a (bk (256*b+d-32768))) c ms false regs data→Mv B Lo w w'→I (Xq (Uq #[])) w'):Calls Tryz.prog 185 #[Pq (y ⟨M,0,z⟩),Aq #[N Z 1,N Z a,N Z b,N Z d]] w I:=by
 obtain⟨ps,pc,mv,t⟩:=h;have v:=t.le;have an:Lo≤w.heap.size:=t.b.pc.lo;have s:G w.heap.size w (w.alloc (Y #[N Z 1,N Z a,N Z b,N Z d] 36)):=(Below.refl _ _).alloc (Rq _) _;have q:Row (w.alloc (Y #[N Z 1,N Z a,N Z b,N Z d] 36)) w.heap.size 36 [N Z 1,N Z a,N Z b,N Z d]:=heap_alloc_new w _;have r:=t.next s;have X:=q.cell (i:=0) rfl;obtain⟨k,x⟩:∃k,k=w.alloc (Y #[N Z 1,N Z a,N Z b,N Z d] 36):=⟨_,rfl⟩;rw[←x]at s q r;have ao:(0:Int)≤(a:Int):=by omega
 have ap:(a:Int)<(n:Int):=by omega
 have u:G k.heap.size k k.drew:=(Below.refl _ _).drew;have aa:M≠P:=Ne.symm r.ne;have A:w.heap.size≠P:=by have:=r.b.kX;omega
 have aq:=fun m(h:aH (fun g=>g=P) k m)=>h.cell aa (r.row.cell (i:=0) rfl);have ar:=fun m(h:aH (fun g=>g=P) k m)=>h.cell A (q.cell (i:=1) rfl);have av:=fun m(h:aH (fun g=>g=P) k m)=>h.cell A (q.cell (i:=2) rfl);have aw:=fun m(h:aH (fun g=>g=P) k m)=>h.cell A (q.cell (i:=3) rfl);have ab:aH (fun g=>g=P) k k.drew:=(aH.refl _ _).below u (Rq _);have ac:=oR b d k.drew U V;have ad:jN (256*b+d-32768):=by constructor<;>omega
 have K:=dI (256*b+d-32768) ad k.drew (H _ ((s.mono v).trans (u.mono (Nat.le_trans v s.size))));have af:Hid (Mv B Lo w k):=Mv.of s v;rw[wK]at K;have O:=D r;have ag:=D J;have Q:=D x;have e1:ai (bk (256*b+d-32768))=1:=rfl;have e2:az (bk (256*b+d-32768))=(256*b+d-32768):=rfl;have e3:(((bk (256*b+d-32768))).size:Int)=1:=rfl;have e4:ae (bk (256*b+d-32768))=Lib.itoa (256*b+d-32768):=by simp[bk,ae]
 clear t r q J x H;go_enter Tryz.func185,Tryz.ntmps185;go_wp2;rw[←Q.out];clear Q X;go_region_held3(fun m=>aH (fun g=>g=P) k m)(first|with_reducible exact ab|with_reducible exact k2|with_reducible exact ah)(first|(go_at_call 167;refine ac.mono ?_;rintro e w1⟨rfl,rfl⟩)|(go_at_call 199;refine K.mono ?_;rintro e C⟨rfl,b2⟩;have E:G k.heap.size k C:=u.trans (b2.mono u.size);have k2:aH (fun g=>g=P) k C:=(aH.refl _ _).below E (Rq _);have l:=O.out.next E;have aj:au Lo C (bk (256*b+d-32768)) (L z 0 0):=⟨rfl,l.b.pc.lo⟩;have R:=l.place o aj;have S:=(af.out.trans (Mv.of E O.out.le)).dV l.b.hP l.b.kX (a*5) (bk (256*b+d-32768)) (L z 0 0);have F:=D (ag.out _ R.at S);unfold dV mG at F;rw[e1,e2,e3,e4]at F;have ah:=((((k2.setCell (p:=⟨P,a*5,z⟩) (.inl rfl) (N Z 1)).setCell (p:=⟨P,a*5+1,z⟩) (.inl rfl) (N Z (256*b+d-32768))).setCell (p:=⟨P,a*5+2,z⟩) (.inl rfl) (L z 0 0)).setCell (p:=⟨P,a*5+3,z⟩) (.inl rfl) (N Z 1)).setCell (p:=⟨P,a*5+4,z⟩) (.inl rfl) (Tq (ay (Lib.itoa (256*b+d-32768))));have ax:=l.b.pl.frozen (a*5);have aA:=l.b.pl.frozen (a*5+1);have aB:=l.b.pl.frozen (a*5+2);have aC:=l.b.pl.frozen (a*5+3);have aD:=l.b.pl.frozen (a*5+4);have ak:=l.b.pl.cell (j:=0) o rfl;have aE:=l.b.pl.cell (j:=1) o rfl;have al:=l.b.pl.cell (j:=2) o rfl;have aF:=l.b.pl.cell (j:=3) o rfl;have aG:=l.b.pl.cell (j:=4) o rfl;rw[Nat.add_zero]at ak;obtain⟨aI,aJ,aK,T⟩:=(l.b.parts a o).slice;rw[T]at al;clear T R S));go_wp2;go_end0;exact F.out
theorem iO{regs slots:Int}{was:Int→TD}{o:dr}{p:Int}(h:aZ regs slots o≠p):stepT regs slots was o p=was p:=by unfold stepT;rw[if_pos h]
theorem zN{regs slots:Int}{was:Int→TD}{o:dr}{p:Int}(h:aZ regs slots o=p):stepT regs slots was o p=fD regs slots was o:=by unfold stepT;rw[if_neg (by simp[h])]
theorem lY{regs slots:Int}{was:Int→TD}{o:dr}{e:Nat}(h:aZ regs slots o=(e:Int)){t:TD}(a:t=fD regs slots was o)(i:Nat):ui (fun i:Nat=>was (i:Int)) e t i=stepT regs slots was o (i:Int):=by
 unfold ui;by_cases q:i=e;·subst q;rw[if_pos rfl,zN h,a]
 ·rw[if_neg q,iO (by rw[h];omega)]
theorem mu{regs slots:Int}{was:Int→TD}{o:dr}{a:Bool}(h:(3≤o.kind∧o.kind≤13∧4095<(fD regs slots was o).size)↔a=true):a=vH regs slots was o:=by unfold vH;cases a with|true=>simpa using h.2 rfl|false=>exact((decide_eq_false_iff_not).2 (fun q=>by have:=h.1 q;cases this)).symm
theorem eH{a b:Int}:below a b=true↔0≤a∧a<b:=by simp[below]
theorem CR{B Lo:Nat}{w:W}{M P cap n:Nat}{was:Int→TD}{ms:List (List UInt8)}{regs slots data:Int}(h:dY B Lo w M P cap n (fun i:Nat=>was (i:Int)) (was (n:Int)) ms false regs data)(u:(n:Int)=regs+slots)(K:1≤regs∧regs≤100)(hs:0≤slots∧slots≤100)(o:dr)(d:aw regs slots o=true)(f:∀i:Int,0≤i→i≤n→(was i).aJ∧(was i).size≤10000000)(v:ms.length≤1000)(E:∀F,G B w F→TabW F)(l:Ending→W→Prop)(p:∀w',dY B Lo w' M P cap n (fun i:Nat=>stepT regs slots was o (i:Int)) (stepT regs slots was o (n:Int)) (dA ms (fq data was o)) (vH regs slots was o) regs data→Mv B Lo w w'→l (Xq (Uq #[])) w'):Calls Tryz.prog 185 #[Pq (y ⟨M,0,z⟩),Aq #[N Z o.kind,N Z o.a,N Z o.b,N Z o.c]] w l:=by
 obtain⟨k,a,b,c⟩:=o;have J:=lA d;have q:n≤1000:=by omega
 simp only at J⊢;unfold aw at d;simp only at d;by_cases x:k=1
 ·subst x;rw[if_pos rfl,Bool.and_eq_true,Bool.and_eq_true,eH,eH,eH]at d;obtain⟨⟨ga,m⟩,r⟩:=d;obtain⟨a,rfl⟩:=Int.eq_ofNat_of_zero_le ga.1;refine BQ h a b c (by omega) m r q E l (fun w' g j=>p w' (g.congr (fun i _=>lY (by simp[aZ]) (by simp[fD]) i) ?_ ?_ ?_) j);·exact(iO (by simp[aZ];omega)).symm
  ·simp[fq,gP]
  ·exact mu (by simp)
 rw[if_neg x]at d;by_cases A:3≤k∧k≤11
 ·rw[if_pos A,Bool.and_eq_true,Bool.and_eq_true,eH,eH,eH]at d;obtain⟨⟨ga,m⟩,r⟩:=d;obtain⟨a,rfl⟩:=Int.eq_ofNat_of_zero_le ga.1;obtain⟨b,rfl⟩:=Int.eq_ofNat_of_zero_le m.1;obtain⟨c,rfl⟩:=Int.eq_ofNat_of_zero_le r.1;have e:fD regs slots was ⟨k,a,b,c⟩=aX k (was b) (was c):=by simp only[fD];rw[if_neg x,if_neg (by omega),if_neg (by omega),if_neg (by omega),if_neg (by omega)]
  have H:aZ regs slots ⟨k,a,b,c⟩=a:=by simp only[aZ];rw[if_neg (by omega),if_neg (by omega)]
  refine xZ h k a b c A (by omega) (by omega) (by omega) q (f b (by omega) (by omega)).1 (f b (by omega) (by omega)).2 (f c (by omega) (by omega)).1 (f c (by omega) (by omega)).2 v E l (fun w' g j=>p w' (g.congr (fun i _=>lY H e.symm i) ?_ ?_ ?_) j);·exact(iO (by rw[H];omega)).symm
  ·simp only[fq];by_cases t:k=11;·rw[if_pos t,if_pos t]
   ·rw[if_neg t,if_neg t,if_neg (by omega),if_neg (by omega),gP]
  ·refine mu ?_;rw[e];simp only[decide_eq_true_eq];omega
 rw[if_neg A]at d;by_cases C:k=2∨k=12∨k=13
 ·rw[if_pos C,Bool.and_eq_true,Bool.and_eq_true,eH,eH]at d;obtain⟨⟨ga,m⟩,r⟩:=d;obtain⟨a,rfl⟩:=Int.eq_ofNat_of_zero_le ga.1;obtain⟨b,rfl⟩:=Int.eq_ofNat_of_zero_le m.1;rcases C with rfl|rfl|rfl
  ·refine CT h c a b (by omega) (by omega) q l (fun w' g j=>p w' (g.congr (fun i _=>lY (by simp[aZ]) (by simp[fD]) i) ?_ ?_ ?_) j);·exact(iO (by simp[aZ];omega)).symm
   ·simp[fq,gP]
   ·exact mu (by simp)
  ·have e:fD regs slots was ⟨12,a,b,c⟩=aS (was n) (was b):=by simp[fD,u]
   refine CS h c a b (by omega) (by omega) q (f b (by omega) (by omega)).1 (f b (by omega) (by omega)).2 (f n (by omega) (by omega)).1 (f n (by omega) (by omega)).2 v l (fun w' g j=>p w' (g.congr (fun i _=>lY (by simp[aZ]) e.symm i) ?_ ?_ ?_) j);·exact(iO (by simp[aZ];omega)).symm
   ·simp[fq]
   ·refine mu ?_;rw[e];simp only[decide_eq_true_eq];omega
  ·have e:fD regs slots was ⟨13,a,b,c⟩=bS (was n) (was a) (was b):=by simp[fD,u]
   refine BR h c a b (by omega) (by omega) q (f a (by omega) (by omega)).1 (f a (by omega) (by omega)).2 (f b (by omega) (by omega)).1 (f b (by omega) (by omega)).2 (f n (by omega) (by omega)).1 (f n (by omega) (by omega)).2 v l (fun w' g j=>p w' (g.congr (fun i O=>?_) ?_ ?_ ?_) j);·exact(iO (by simp[aZ];omega)).symm
   ·rw[zN (by simp[aZ,u]),e]
   ·simp[fq]
   ·refine mu ?_;rw[e];simp only[decide_eq_true_eq];omega
 rw[if_neg C]at d;by_cases I:k=14
 ·subst I;rw[if_pos rfl,Bool.and_eq_true,Bool.and_eq_true,eH,eH]at d;obtain⟨⟨ga,m⟩,r⟩:=d;obtain⟨a,rfl⟩:=Int.eq_ofNat_of_zero_le ga.1;obtain⟨b,rfl⟩:=Int.eq_ofNat_of_zero_le m.1;obtain⟨e,s⟩:=Int.eq_ofNat_of_zero_le (show 0≤regs+(a:Int)by omega);refine DG h c a b e s (by omega) (by omega) q l (fun w' g j=>p w' (g.congr (fun i _=>lY (by simp[aZ];exact s) (by simp[fD]) i) ?_ ?_ ?_) j);·exact(iO (by simp[aZ];omega)).symm
  ·simp[fq,gP]
  ·exact mu (by simp)
 rw[if_neg I]at d;obtain rfl:k=15:=by omega
 rw[if_pos rfl,Bool.and_eq_true,Bool.and_eq_true,eH,eH]at d;obtain⟨⟨ga,m⟩,r⟩:=d;obtain⟨a,rfl⟩:=Int.eq_ofNat_of_zero_le ga.1;obtain⟨b,rfl⟩:=Int.eq_ofNat_of_zero_le m.1;obtain⟨e,s⟩:=Int.eq_ofNat_of_zero_le (show 0≤regs+(b:Int)by omega);refine DF h c a b e s (by omega) (by omega) q l (fun w' g j=>p w' (g.congr (fun i _=>lY (by simp[aZ]) (by simp[fD,s]) i) ?_ ?_ ?_) j);·exact(iO (by simp[aZ];omega)).symm
 ·simp[fq,gP]
 ·exact mu (by simp)
theorem zX{regs slots:Int}{ops:List dr}{was:Int→TD}{k:Nat}(h:kj regs slots (ops.take k) was=true):kj regs slots ops was=true:=by
 conv=>lhs;rw[←List.take_append_drop k ops]
 rw[k8,h];rfl
theorem qi{B Lo:Nat}{w:W}{M P cap n:Nat}{names:List Int}{regs slots data:Int}(h:dY B Lo w M P cap n (fun i:Nat=>cW names (i:Int)) (cW names (n:Int)) [] false regs data)(Q:(n:Int)=regs+slots)(C:1≤regs∧regs≤100)(hs:0≤slots∧slots≤100)(R:∀x∈names,x≤1000)(l:List dr)(ad:l.length≤12)(E:fQ regs slots l=true)(v:Vq)(m:∀g,G B w g→iH g v l)(r:∀g,G B w g→TabW g)(o:Ending→W→Prop)(j:dK regs slots names l=true→∀w' f c ms,dY B Lo w' M P cap n f c ms true regs data→Mv B Lo w w'→o (Xq (Uq #[])) w')(p:dK regs slots names l=false→∀w',dY B Lo w' M P cap n (fun i:Nat=>aD regs slots names l l.length (i:Int)) (aD regs slots names l l.length (n:Int)) (bG regs slots data names l l.length) false regs data→Mv B Lo w w'→o (Xq (Uq #[])) w'):Calls Tryz.prog 163 #[Pq (y ⟨M,0,z⟩),v] w o:=by
 obtain⟨ae,af,rfl,ag,_⟩:=m w (Below.refl _ _);rw[CP]at j p;have ah:B≤w.heap.size:=let⟨_,_,_,s⟩:=h;s.le;have F:dY B Lo w M P cap n (fun i:Nat=>aD regs slots names l 0 (i:Int)) (aD regs slots names l 0 (n:Int)) (bG regs slots data names l 0) (kj regs slots (l.take 0) (cW names)) regs data:=h;clear h;go_enter Tryz.func163,Tryz.ntmps163;go_wp2;go_loopw[4](fun i wr=>∃(k:Nat),k≤l.length∧i=N Z k∧dY B Lo wr M P cap n (fun i:Nat=>aD regs slots names l k (i:Int)) (aD regs slots names l k (n:Int)) (bG regs slots data names l k) (kj regs slots (l.take k) (cW names)) regs data∧Mv B Lo w wr)(fun i _=>l.length-(intOf i).toNat);case atStart=>exact⟨0,Nat.zero_le _,rfl,F,Mv.refl _ _ _⟩
 case round=>
  clear F;obtain⟨k,ai,rfl,a,e⟩:=hrel;by_cases t:k<l.length
  ·have u:wr.cell? ⟨M,7,z⟩=y (Bq (kj regs slots (l.take k) (cW names))):=let⟨_,_,_,s⟩:=a;s.row.cell (i:=7) rfl;cases d:kj regs slots (l.take k) (cW names)with
    |false=>
     rw[d]at u a;obtain⟨aj,ak,H,_,hc⟩:=m wr e.low;simp only[Value.slice.injEq,true_and]at H;obtain⟨rfl,rfl⟩:=H;obtain⟨b,al,rfl,S,c1,c2,c3⟩:=hc k t;clear hc;have am:(0:Int)≤(k:Int):=by omega
     have an:(k:Int)<(l.length:Int):=by omega
     have I:∀i:Int,0≤i→i≤n→(aD regs slots names l k i).aJ∧(aD regs slots names l k i).size≤10000000:=fun i T ao=>⟨c_ ⟨by omega,C.2⟩ hs R E k (by omega) i T (by omega),Nat.le_trans (gH _ _ _ _ _ _) (Nat.le_trans (ns (show k≤12 by omega)) (by omega))⟩;have q:=fun U=>CR a Q C hs ⟨cD l k,oa l k,ob l k,oc l k⟩ (mD E t) I (by have:=jR regs slots data names l k;omega) (fun g V=>r g (e.low.trans V)) U;simp only at q;have J:=D e;have K:Hid (∀w',dY B Lo w' M P cap n (fun i:Nat=>stepT regs slots (aD regs slots names l k) ⟨cD l k,oa l k,ob l k,oc l k⟩ (i:Int)) (stepT regs slots (aD regs slots names l k) ⟨cD l k,oa l k,ob l k,oc l k⟩ (n:Int)) (dA (bG regs slots data names l k) (fq data (aD regs slots names l k) ⟨cD l k,oa l k,ob l k,oc l k⟩)) (vH regs slots (aD regs slots names l k) ⟨cD l k,oa l k,ob l k,oc l k⟩) regs data→dY B Lo w' M P cap n (fun i:Nat=>aD regs slots names l (k+1) (i:Int)) (aD regs slots names l (k+1) (n:Int)) (bG regs slots data names l (k+1)) (kj regs slots (l.take (k+1)) (cW names)) regs data):=by
      intro w' X;refine X.congr (fun i _=>?_) ?_ ?_ ?_;·rw[jG];rfl
      ·rw[jG];rfl
      ·rw[qW];rfl
      ·rw[mM t,k8,d,←oD _ _ _ _ _ (by omega)];simp only[Bool.false_or,kj,Bool.or_false];rfl
     clear a e d I;go_wp2_with fail;refine q _ ?_;intro aa O m2;have ab:=K.out aa O;have ac:=J.out.trans m2;clear q O m2 K J S c1 c2 c3 u;go_wp2;go_roundw;case rel=>exact⟨k+1,by omega,by go_num,ab,ac⟩
     case measure=>simp[intOf];omega
    |true=>rw[d]at u a;have A:=D (j (zX d) _ _ _ _ a e);clear j p a e m r d;go_wp2;go_end0;exact A.out
  ·obtain rfl:k=l.length:=by omega
   have A:Hid (o (Xq (Uq #[])) wr):=by rw[List.take_length]at a;cases d:kj regs slots l (cW names)with|false=>rw[d]at a;exact p d _ a e|true=>rw[d]at a;exact j d _ _ _ _ a e
   clear j p a e m r;go_wp2;go_end0;exact A.out
theorem Tryz.B5:(Tryz.prog.info? 179).map (fun i=>(i.zero,i.size,i.bytes))=y (y (Aq #[N Z 0,N Z 0,L z 0 0,N Z 0,Tq ⟨#[]⟩]),5,64):=by kernel_rfl
def gz:Nat→List Vq|0=>[]|k+1=>gz k++aT (.leaf 102 k) (L z 0 0)
theorem iq(k:Nat):(gz k).length=k*5:=by induction k with|zero=>rfl|succ k a=>simp[gz,a,aT];omega
theorem sE(k:Nat):∀i,i<k→∀j u,(aT (.leaf 102 i) (L z 0 0))[j]?=y u→(gz k)[i*5+j]?=y u:=by
 induction k with
  |zero=>intro i b;omega
  |succ k c=>
   intro i b j u a;have d:j<5:=by have:=(List.getElem?_eq_some_iff.1 a).1;simpa[aT]using this
   unfold gz;by_cases e:i=k;·subst e;rw[List.getElem?_append_right (by rw[iq];omega),iq,show i*5+j-i*5=j by omega];exact a
   ·rw[List.getElem?_append_left (by rw[iq];omega)];exact c i (by omega) j u a
theorem CC(t:TD):∀u∈aT t (L z 0 0),u.oneCell'=true:=by intro u a;simp only[aT,List.mem_cons,List.not_mem_nil,or_false]at a;rcases a with rfl|rfl|rfl|rfl|rfl<;>rfl
theorem Dg{w:W}{base n cap:Nat}{a:Option Addr}(h:w.ownsRow base 179 5 (L a n cap) n (gz n))(p:0<n):∃P,a=y ⟨P,0,z⟩∧base≤P∧P<w.heap.size∧jV w P n (fun i=>.leaf 102 i) (fun _=>L z 0 0):=by
 rcases h.2 with⟨e,e'⟩|⟨g,q,d,e,f,b,k,r,l,m⟩;·omega
 ·simp only[Value.slice.injEq]at e;obtain⟨rfl,_,rfl⟩:=e;refine⟨g,rfl,f,(Array.getElem?_eq_some_iff.1 b).1,d.toList,by simpa[Row]using b,by simp[l];exact Nat.mul_le_mul_right _ k,fun i o j u c=>?_⟩;have s:j<5:=by have:=(List.getElem?_eq_some_iff.1 c).1;simpa[aT]using this
  have:=sE n i o j u c;rw[←m,List.getElem?_take_of_lt (by omega)]at this;exact this
def En:List Vq:=[L z 0 0,N Z 0,N Z 0,L z 0 0,N Z 0,Tq ⟨#[]⟩,L z 0 0,Bq false,N Z 0,N Z 0]
def dW(w:W)(g:Nat)(a b c d e f h i j k:Vq):W:=((((((((((w.setCell ⟨g,0,z⟩ a).setCell ⟨g,1,z⟩ b).setCell ⟨g,2,z⟩ c).setCell ⟨g,3,z⟩ d).setCell ⟨g,4,z⟩ e).setCell ⟨g,5,z⟩ f).setCell ⟨g,6,z⟩ h).setCell ⟨g,7,z⟩ i).setCell ⟨g,8,z⟩ j).setCell ⟨g,9,z⟩ k)
theorem aH.dW{S:Nat→Prop}{w a:W}(h:aH S w a){g:Nat}(b:S g)(c d e f i j k l m n:Vq):aH S w (Go.Proofs.YtblhmeidbjigaabGreatDoor.dW a g c d e f i j k l m n):=(((((((((h.setCell (p:=⟨g,0,z⟩) (.inl b) _).setCell (p:=⟨g,1,z⟩) (.inl b) _).setCell (p:=⟨g,2,z⟩) (.inl b) _).setCell (p:=⟨g,3,z⟩) (.inl b) _).setCell (p:=⟨g,4,z⟩) (.inl b) _).setCell (p:=⟨g,5,z⟩) (.inl b) _).setCell (p:=⟨g,6,z⟩) (.inl b) _).setCell (p:=⟨g,7,z⟩) (.inl b) _).setCell (p:=⟨g,8,z⟩) (.inl b) _).setCell (p:=⟨g,9,z⟩) (.inl b) _
theorem p_(args regs data slots:Int)(M:Vq)(aj:∃ak n c,M=L ak n c)(n:Nat)(A:(n:Int)=regs+slots)(aR:1≤regs∧regs≤100)(hs:0≤slots∧slots≤100)(w:W)(O:TabW w)(Q:Ending→W→Prop)(R:∀P cap w',w.heap.size≤P→P<w'.heap.size→jV w' P n (fun i=>.leaf 102 i) (fun _=>L z 0 0)→G w.heap.size w w'→w.heap.size+2≤w'.heap.size→Q (Xq (Aq #[L (y ⟨P,0,z⟩) n cap,N Z 0,N Z 0,L z 0 0,N Z 1,Tq ⟨#[109]⟩,L z 0 0,Bq false,N Z regs,N Z data])) w'):Calls Tryz.prog 161 #[Aq #[N Z args,N Z regs,N Z data,N Z slots,M]] w Q:=by
 obtain⟨j,l,m,rfl⟩:=aj;obtain⟨al,am,an,ao,ap⟩:=info_parts Tryz.B5;have B:G w.heap.size w ((w.alloc (Y #[N Z args,N Z regs,N Z data,N Z slots,L j l m] 25)).alloc (Y En.toArray 181)):=((Below.refl _ _).alloc (Rq _) _).alloc (by simp) _;have b:Row ((w.alloc (Y #[N Z args,N Z regs,N Z data,N Z slots,L j l m] 25)).alloc (Y En.toArray 181)) w.heap.size 25 [N Z args,N Z regs,N Z data,N Z slots,L j l m]:=Row.alloc (heap_alloc_new w _) _;have rg:Row ((w.alloc (Y #[N Z args,N Z regs,N Z data,N Z slots,L j l m] 25)).alloc (Y En.toArray 181)) (w.heap.size+1) 181 En:=heap_alloc2_new w _ _;have C:w.heap.size+2≤((w.alloc (Y #[N Z args,N Z regs,N Z data,N Z slots,L j l m] 25)).alloc (Y En.toArray 181)).heap.size:=by simp
 have aS:IntKind.i64.wrap (regs+slots)=(n:Int):=by rw[←A,IntKind.wrap_i64];omega
 have S:=D R;have aq:=D O;unfold En at B b rg C;have aU:=D A;have aW:n≤200:=by omega
 have au:0<n:=by omega
 clear R O A;go_enter Tryz.func161,Tryz.ntmps161;go_wp2;go_loopw[3,4](fun v i wr=>∃(k:Nat),k≤n∧i=N Z k∧wr.ownsRow (w.heap.size+2) 179 5 v k (gz k)∧Row wr w.heap.size 25 [N Z args,N Z regs,N Z data,N Z slots,L j l m]∧Row wr (w.heap.size+1) 181 En∧G w.heap.size w wr∧w.heap.size+2≤wr.heap.size)(fun v i _=>n-(intOf i).toNat);case atStart=>exact⟨0,Nat.zero_le _,rfl,World.ownsRow_nil _ _ _ _,b,rg,B,C⟩
 case round=>
  clear b rg B C;obtain⟨k,aX,rfl,o,b,rg,d,hz⟩:=hrel;have av:=b.cell (i:=1) rfl;have aw:=b.cell (i:=3) rfl;obtain⟨aY,p,rfl⟩:=af o;by_cases aZ:k<n
  ·have E:=uJ (k:Int) (by constructor<;>omega) wr (aq.out.ab d);unfold ar at E;go_wp2_with fail;refine E.mono ?_;rintro e f⟨rfl,b2⟩;have F:=aV o b2 (Rq _);have T:=b.ab b2;have a:=rg.ab b2;have U:=d.trans (b2.mono d.size);have u:w.heap.size+2≤f.heap.size:=Nat.le_trans hz b2.size;clear E o b rg d hz b2 av aw;go_wp2_with(at_builtin;refine wpList_append_own _ rfl _ _ 177 rfl (w.heap.size+2) 179 al (Aq #[N Z 0,N Z 0,L z 0 0,N Z 0,Tq ⟨#[]⟩]) 5 64 Tryz.underlying177 am an ao ap rfl (by decide) _ _ _ rfl (F.alloc _) ⟨f.heap.size,0,z⟩ 1 1 (aT (.leaf 102 k) (L z 0 0)) rfl rfl ?c1 (CC _) ?c3 ?c4 ?c5 ?_);case c1=>exact ld f _ _ _ _ _ _
   case c3=>unfold maxLen;omega
   case c4=>omega
   case c5=>simp;omega
   intro a0 ax V X _;have q:=((Below.refl (w.heap.size+2) f).alloc u (Y #[N Z (ai (.leaf 102 k)),N Z (az (.leaf 102 k)),L z 0 0,N Z (TD.leaf 102 k).size,Tq (ay (ae (.leaf 102 k)))] 179)).grown X (by simp;omega) (fun g aA=>(F.lt g aA).1);have aB:=T.below q (by omega);have aC:=a.below q (by omega);have aD:=U.trans (q.mono (by omega));have H:w.heap.size+2≤ax.heap.size:=Nat.le_trans u q.size;obtain⟨a1,a2,rfl⟩:=af V;clear X F T a U q;go_wp2;go_roundw;case rel=>exact⟨k+1,by omega,by go_num,by simpa[gz]using V,aB,aC,aD,H⟩
   case measure=>simp[intOf];omega
  ·obtain rfl:k=n:=by omega
   obtain⟨P,rfl,a3,aE,r⟩:=Dg o au;have a4:=fun s(h:aH (fun g=>g=w.heap.size+1) wr s)=>h.cell (show w.heap.size≠w.heap.size+1 by omega) (b.cell (i:=2) rfl);have a5:=fun s(h:aH (fun g=>g=w.heap.size+1) wr s)=>h.cell (show w.heap.size≠w.heap.size+1 by omega) (b.cell (i:=1) rfl);have I:G wr.heap.size wr wr.drew:=(Below.refl _ _).drew;have aF:aH (fun g=>g=w.heap.size+1) wr wr.drew:=(aH.refl _ _).below I (Rq _);have aa:=uI wr.drew;have ab:=D rg;have ac:=D r;have J:=D d;have ad:ar (.leaf 103 0) (L z 0 0)=Aq #[N Z 0,N Z 0,L z 0 0,N Z 1,Tq ⟨#[109]⟩]:=by simp[ar,ai,az,TD.size,ae,ay]
   rw[ad]at aa;clear o b rg r d ad;go_wp2;go_region_held3(fun s=>aH (fun g=>g=w.heap.size+1) wr s)(first|with_reducible exact aF|with_reducible exact k2|with_reducible exact x)(first|(go_at_call 184;refine aa.mono ?_;rintro e f⟨rfl,b2⟩;have K:G wr.heap.size wr f:=I.trans (b2.mono I.size);have k2:aH (fun g=>g=w.heap.size+1) wr f:=(aH.refl _ _).below K (Rq _);have a:=ab.out.ab K;have x:=k2.dW rfl (L (y ⟨P,0,z⟩) k p) (N Z 0) (N Z 0) (L z 0 0) (N Z 1) (Tq ⟨#[109]⟩) (L z 0 0) (Bq false) (N Z regs) (N Z data);have t:=x;unfold dW at x;have aG:=a.cell (i:=0) rfl;have aI:=a.cell (i:=1) rfl;have u:=a.cell (i:=2) rfl;have aJ:=a.cell (i:=3) rfl;have H:=a.cell (i:=4) rfl;have aK:=a.cell (i:=5) rfl;have aL:=a.cell (i:=6) rfl;have aM:=a.cell (i:=7) rfl;have aN:=a.cell (i:=8) rfl;have aO:=a.cell (i:=9) rfl;have a6:=a.frozen 0;have a7:=a.frozen 1;have a8:=a.frozen 2;have a9:=a.frozen 3;have a_:=a.frozen 4;have ba:=a.frozen 5;have bb:=a.frozen 6;have bc:=a.frozen 7;have bd:=a.frozen 8;have be:=a.frozen 9));have d:G w.heap.size w (dW f (w.heap.size+1) (L (y ⟨P,0,z⟩) k p) (N Z 0) (N Z 0) (L z 0 0) (N Z 1) (Tq ⟨#[109]⟩) (L z 0 0) (Bq false) (N Z regs) (N Z data)):=J.out.trans (t.toBelow J.out.size (fun g e=>by omega));have r:=ac.out;have ag:jV (dW f (w.heap.size+1) (L (y ⟨P,0,z⟩) k p) (N Z 0) (N Z 0) (L z 0 0) (N Z 1) (Tq ⟨#[109]⟩) (L z 0 0) (Bq false) (N Z regs) (N Z data)) P k (fun i=>.leaf 102 i) (fun _=>L z 0 0):=by obtain⟨xs,aP,aQ,hc⟩:=r;exact⟨xs,aP.kept t (by omega),aQ,hc⟩
   have ah:=D (S.out P p _ (by omega) (Nat.lt_of_lt_of_le aE t.size) ag d (Nat.le_trans hz t.size));unfold dW at ah;clear d r ag t S ac J ab a k2 x b2 K;go_wp2;(try simp only[Exit.inBlock,Exit.then]);refine bodyPost_ret (v:=Aq #[L (y ⟨P,0,z⟩) k p,N Z 0,N Z 0,L z 0 0,N Z 1,Tq ⟨#[109]⟩,L z 0 0,Bq false,N Z regs,N Z data]) ?_ rfl ?_;·simp[results,Tryz.results161,go_sem,aG,aI,u,aJ,H,aK,aL,aM,aN,aO]
   ·exact ah.out
def yY(P n cap:Nat)(c:TD)(pc mv:Vq)(big:Bool)(regs data:Int):Vq:=Aq #[L (y ⟨P,0,z⟩) n cap,N Z (ai c),N Z (az c),pc,N Z c.size,Tq (ay (ae c)),mv,Bq big,N Z regs,N Z data]
def CK(w0 w:W)(v:Vq)(n:Nat)(f:Nat→TD)(c:TD)(ms:List (List UInt8))(big:Bool)(regs data:Int):Prop:=∃B Lo P cap ps pc mv,w0.heap.size≤B∧v=yY P n cap c pc mv big regs data∧uv B Lo w P n f ps c pc ms mv
theorem uv.dW{B Lo:Nat}{w:W}{P n:Nat}{f:Nat→TD}{ps:Nat→Vq}{c:TD}{pc:Vq}{ms:List (List UInt8)}{mv:Vq}(h:uv B Lo w P n f ps c pc ms mv){g:Nat}(v:g<B)(d e j l m o p q r s:Vq):uv B Lo (Go.Proofs.YtblhmeidbjigaabGreatDoor.dW w g d e j l m o p q r s) P n f ps c pc ms mv:=by
 have one:∀{b:W}(i:Nat)(u:Vq),uv B Lo b P n f ps c pc ms mv→uv B Lo (b.setCell ⟨g,i,z⟩ u) P n f ps c pc ms mv:=fun i u h=>by
  have a:g<Lo:=by have:=h.hP;have:=h.kX;omega
  exact⟨h.pl.off (by have:=h.hP;omega) i u,fun k t=>(h.parts k t).under a i u,h.pc.under a i u,bj h.pS (h.wI a) u,h.hP,h.kX⟩
 exact one _ _ (one _ _ (one _ _ (one _ _ (one _ _ (one _ _ (one _ _ (one _ _ (one _ _ (one _ _ h)))))))))
theorem AM{regs slots:Int}{n:Nat}(b:(n:Int)=regs+slots)(i:Nat)(c:i<n):cW (ax regs slots) (i:Int)=if(i:Int)<regs then .leaf 101 i else .leaf 102 i:=by
 have d:(ax regs slots).length=n:=by unfold ax;simp;omega
 have a:(ax regs slots).getD (i:Int).toNat 0=if(i:Int)<regs then(i:Int)else-1:=by
  unfold ax;have:i<(regs+slots).toNat:=by omega
  simp[List.getD,this]
 unfold cW;rw[if_neg (by omega),a];by_cases h:(i:Int)<regs;·rw[if_pos h,if_neg (by omega),if_pos h]
 ·rw[if_neg h,if_pos (by omega),if_neg h]
theorem Cl(k i:Nat):ui (fun i:Nat=>if i<k then TD.leaf 101 (i:Int)else TD.leaf 102 (i:Int)) k (.leaf 101 (k:Int)) i=if i<k+1 then TD.leaf 101 (i:Int)else TD.leaf 102 (i:Int):=by
 unfold ui;by_cases q:i=k;·subst q;simp
 ·by_cases a:i<k;·simp[q,a,show i<k+1 by omega]
  ·simp[q,a,show¬i<k+1 by omega]
theorem ts{names:List Int}{n:Nat}(h:names.length=n):cW names (n:Int)=.leaf 103 0:=by unfold cW;rw[if_pos (by omega)]
theorem vb{regs slots:Int}{n:Nat}(a:(n:Int)=regs+slots):(ax regs slots).length=n:=by unfold ax;simp;omega
theorem jK{regs slots:Int}(b:regs≤100):∀x∈ax regs slots,x≤1000:=by intro x a;unfold ax at a;obtain⟨i,_,rfl⟩:=List.mem_map.1 a;split<;>omega
theorem kE(ps:List bM)(n:Nat):(aY ps n).length=n:=by unfold aY;simp
theorem iK{ps:List bM}(h:∀x∈ps,x.cT≤1000)(n:Nat):∀x∈aY ps n,x≤1000:=by
 intro x a;unfold aY at a;obtain⟨i,_,rfl⟩:=List.mem_map.1 a;split;·rename_i b c;exact h b (List.mem_of_find?_eq_some c)
 ·omega
def mf(ps:List bM)(i:Nat):TD:=match ps.find? (fun x=>decide (x.place=(i:Int)))with|y x=>.leaf 101 x.cT|z=>.leaf 102 i
theorem yE{ps:List bM}(h:∀x∈ps,0≤x.cT){n i:Nat}(b:i<n):mf ps i=cW (aY ps n) (i:Int):=by unfold cW mf;rw[kE,if_neg (by omega),wJ ps (by omega) (by omega)];cases a:ps.find? (fun x=>decide (x.place=(i:Int)))with|none=>simp|some x=>have:=h x (List.mem_of_find?_eq_some a);simp only;rw[if_neg (by omega)]
theorem AH{ps:List bM}{k e:Nat}(c:k<ps.length)(a:aG ps k=(e:Int))(d:∀j,j<k→aG ps j≠aG ps k)(i:Nat):ui (mf (ps.take k)) e (.leaf 101 (bP ps k)) i=mf (ps.take (k+1)) i:=by
 have b:ps.take (k+1)=ps.take k++[ps.getD k pz]:=by rw[List.take_add_one,List.getElem?_eq_getElem c];simp[List.getD,c]
 unfold ui mf;rw[b,List.find?_append];by_cases q:i=e
 ·subst q;rw[if_pos rfl];have f:(ps.take k).find? (fun x=>decide (x.place=(i:Int)))=z:=by
   rw[List.find?_eq_none];intro x b g;obtain⟨j,h,rfl⟩:=List.getElem_of_mem b;have l:j<k:=by simp at h;omega
   refine d j l ?_;have e1:aG ps j=(ps.take k)[j].place:=by simp[aG,List.getD,show j<ps.length by omega]
   rw[e1,a];simpa using g
  rw[f];have e2:(ps.getD k pz).place=(i:Int):=a;simp only[List.find?_cons,e2,decide_true,Option.none_or];rfl
 ·rw[if_neg q];have e2:¬(ps.getD k pz).place=(i:Int):=by show¬aG ps k=(i:Int);rw[a];omega
  simp only[List.find?_cons,e2,decide_false,List.find?_nil,Option.or_none]
theorem mw(p:a8)(a_:Vq)(b:Nat)(n:Nat)(aw:(n:Int)=p.regs+p.slots)(ba:aB p=true)(bb:b<p.blocks.length)(w:W)(aA:bm w a_ p.blocks)(aC:TabW w)(aE:Ending→W→Prop)(bc:dK p.regs p.slots (ax p.regs p.slots) (aj p.blocks b)=true→∀v w' f c ms,CK w w' v n f c ms true p.regs p.data→G w.heap.size w w'→aE (Xq v) w')(bd:dK p.regs p.slots (ax p.regs p.slots) (aj p.blocks b)=false→∀v w',CK w w' v n (fun i:Nat=>aD p.regs p.slots (ax p.regs p.slots) (aj p.blocks b) (aj p.blocks b).length (i:Int)) (aD p.regs p.slots (ax p.regs p.slots) (aj p.blocks b) (aj p.blocks b).length (n:Int)) (bG p.regs p.slots p.data (ax p.regs p.slots) (aj p.blocks b) (aj p.blocks b).length) false p.regs p.data→G w.heap.size w w'→aE (Xq v) w'):Calls Tryz.prog 131 #[dy p a_,N Z b] w aE:=by
 obtain⟨cc,cd,ce,hs⟩:=bF ba;obtain⟨bB,bC⟩:=de ba bb;obtain⟨cf,C,be,cg,bf⟩:=id aA;obtain⟨x,aF⟩:∃x,x=p.blocks.length:=⟨_,rfl⟩;rw[←aF]at be;subst be;have bD:=D aF;clear aF;obtain⟨E,F,sv,rfl,bE,ch,ci,cj,ck,bg⟩:=bf b bb;clear bf;have aG:G w.heap.size w ((w.alloc (Y #[N Z p.args,N Z p.regs,N Z p.data,N Z p.slots,L (y ⟨E,F,z⟩) x C] 25)).alloc (Y #[L z 0 0,N Z 0,N Z 0,L z 0 0,N Z 0,Tq ⟨#[]⟩,L z 0 0,Bq false,N Z 0,N Z 0] 181)):=((Below.refl _ _).alloc (Rq _) _).alloc (by simp) _;have J:Row ((w.alloc (Y #[N Z p.args,N Z p.regs,N Z p.data,N Z p.slots,L (y ⟨E,F,z⟩) x C] 25)).alloc (Y #[L z 0 0,N Z 0,N Z 0,L z 0 0,N Z 0,Tq ⟨#[]⟩,L z 0 0,Bq false,N Z 0,N Z 0] 181)) w.heap.size 25 [N Z p.args,N Z p.regs,N Z p.data,N Z p.slots,L (y ⟨E,F,z⟩) x C]:=Row.alloc (heap_alloc_new w _) _;have rg:Row ((w.alloc (Y #[N Z p.args,N Z p.regs,N Z p.data,N Z p.slots,L (y ⟨E,F,z⟩) x C] 25)).alloc (Y #[L z 0 0,N Z 0,N Z 0,L z 0 0,N Z 0,Tq ⟨#[]⟩,L z 0 0,Bq false,N Z 0,N Z 0] 181)) (w.heap.size+1) 181 [L z 0 0,N Z 0,N Z 0,L z 0 0,N Z 0,Tq ⟨#[]⟩,L z 0 0,Bq false,N Z 0,N Z 0]:=heap_alloc2_new w _ _;have ag:Hid (((w.alloc (Y #[N Z p.args,N Z p.regs,N Z p.data,N Z p.slots,L (y ⟨E,F,z⟩) x C] 25)).alloc (Y #[L z 0 0,N Z 0,N Z 0,L z 0 0,N Z 0,Tq ⟨#[]⟩,L z 0 0,Bq false,N Z 0,N Z 0] 181)).heap.size=w.heap.size+2):=by show _=_;simp
 have bh:=fun aI=>p_ p.args p.regs p.data p.slots (L (y ⟨E,F,z⟩) x C) ⟨_,_,_,rfl⟩ n aw (by omega) (by omega) ((w.alloc (Y #[N Z p.args,N Z p.regs,N Z p.data,N Z p.slots,L (y ⟨E,F,z⟩) x C] 25)).alloc (Y #[L z 0 0,N Z 0,N Z 0,L z 0 0,N Z 0,Tq ⟨#[]⟩,L z 0 0,Bq false,N Z 0,N Z 0] 181)) (aC.ab aG) aI;have aJ:=D J;have ah:=D rg;have V:=D aG;have bi:=D aC;have aK:=D bc;have aL:=D bd;have cl:=D aA;have bj:=D bg;have aM:=D aw;have cm:n≤200:=by omega
 have cn:p.regs≤n:=by omega
 unfold dy;clear bc bd J rg aG aC aA aw bg;go_enter Tryz.func131,Tryz.ntmps131;go_wp2_with fail;refine bh _ ?_;intro P cap w1 aN bH bk aO aP;have S:=ag.out;have aQ:G w1.heap.size w1 (w1.alloc (Y #[L (y ⟨P,0,z⟩) n cap,N Z 0,N Z 0,L z 0 0,N Z 1,Tq ⟨#[109]⟩,L z 0 0,Bq false,N Z p.regs,N Z p.data] 181)):=(Below.refl _ _).alloc (Rq _) _;have aR:w1.heap.size+1≤(w1.alloc (Y #[L (y ⟨P,0,z⟩) n cap,N Z 0,N Z 0,L z 0 0,N Z 1,Tq ⟨#[109]⟩,L z 0 0,Bq false,N Z p.regs,N Z p.data] 181)).heap.size:=by simp
 have bl:pL (w.heap.size+2) (w1.heap.size+1) (w1.alloc (Y #[L (y ⟨P,0,z⟩) n cap,N Z 0,N Z 0,L z 0 0,N Z 1,Tq ⟨#[109]⟩,L z 0 0,Bq false,N Z p.regs,N Z p.data] 181)) w1.heap.size P cap n (fun i=>.leaf 102 i) (fun _=>L z 0 0) (.leaf 103 0) (L z 0 0) [] (L z 0 0) false p.regs p.data:=by refine⟨?_,⟨bk.ab aQ,fun i bn=>⟨rfl,aR⟩,⟨rfl,aR⟩,World.ownsRow_nil _ _ _ _,by rw[S]at aN;exact aN,by omega⟩,by rw[S]at aP;omega,by omega,by omega⟩;have:=heap_alloc_new w1 (Y #[L (y ⟨P,0,z⟩) n cap,N Z 0,N Z 0,L z 0 0,N Z 1,Tq ⟨#[109]⟩,L z 0 0,Bq false,N Z p.regs,N Z p.data] 181);exact this
 have bo:G (w.heap.size+2) ((w.alloc (Y #[N Z p.args,N Z p.regs,N Z p.data,N Z p.slots,L (y ⟨E,F,z⟩) x C] 25)).alloc (Y #[L z 0 0,N Z 0,N Z 0,L z 0 0,N Z 0,Tq ⟨#[]⟩,L z 0 0,Bq false,N Z 0,N Z 0] 181)) (w1.alloc (Y #[L (y ⟨P,0,z⟩) n cap,N Z 0,N Z 0,L z 0 0,N Z 1,Tq ⟨#[109]⟩,L z 0 0,Bq false,N Z p.regs,N Z p.data] 181)):=by rw[S]at aO;exact aO.trans (aQ.mono (by rw[S]at aP;omega))
 have bp:dY (w.heap.size+2) (w1.heap.size+1) (w1.alloc (Y #[L (y ⟨P,0,z⟩) n cap,N Z 0,N Z 0,L z 0 0,N Z 1,Tq ⟨#[109]⟩,L z 0 0,Bq false,N Z p.regs,N Z p.data] 181)) w1.heap.size P cap n (fun i:Nat=>if i<0 then .leaf 101 (i:Int)else .leaf 102 (i:Int)) (.leaf 103 0) [] false p.regs p.data:=bl.at.congr (fun i _=>by simp[mf]) rfl rfl rfl;have bq:=D bp;have br:=D bo;clear bh bk aO aQ aR bl bp bo aP S aN bH;go_wp2;generalize w1.heap.size+1=Lo at*;generalize w1.heap.size=M at*;go_loopw[6](fun i wr=>∃(k:Nat),k≤p.regs.toNat∧i=N Z k∧dY (w.heap.size+2) Lo wr M P cap n (fun i:Nat=>if i<k then .leaf 101 (i:Int)else .leaf 102 (i:Int)) (.leaf 103 0) [] false p.regs p.data∧G (w.heap.size+2) ((w.alloc (Y #[N Z p.args,N Z p.regs,N Z p.data,N Z p.slots,L (y ⟨E,F,z⟩) x C] 25)).alloc (Y #[L z 0 0,N Z 0,N Z 0,L z 0 0,N Z 0,Tq ⟨#[]⟩,L z 0 0,Bq false,N Z 0,N Z 0] 181)) wr)(fun i _=>p.regs.toNat-(intOf i).toNat);case atStart=>exact⟨0,Nat.zero_le _,rfl,bq.out,br.out⟩
 case round=>
  clear bq br;obtain⟨k,co,rfl,aS,T⟩:=hrel;have S:=ag.out;have J:=aJ.out.below T (by omega);have cp:=J.cell (i:=1) rfl;have K:G w.heap.size w wr:=V.out.trans (T.mono (by omega));by_cases cq:k<p.regs.toNat
  ·obtain⟨ps,pc,mv,ak⟩:=aS;have al:G wr.heap.size wr wr.drew:=(Below.refl _ _).drew;have bI:M≠P:=Ne.symm ak.ne;have cr:=fun X(h:aH (fun g=>g=P) wr X)=>h.cell bI (ak.row.cell (i:=0) rfl);have bs:aH (fun g=>g=P) wr wr.drew:=(aH.refl _ _).below al (Rq _);have O:k<n:=by omega
   have bJ:jN (k:Int):=by constructor<;>omega
   have cs:(0:Int)≤(k:Int):=by omega
   have ct:(k:Int)<(n:Int):=by omega
   have aT:=kU (k:Int) bJ wr.drew (bi.out.ab (K.trans (al.mono K.size)));unfold ar at aT;have aU:=D ak;have bt:=D T;have bK:(k:Int)<p.regs∨True:=.inr trivial;clear ak J T K bK;have cu:(k:Int)<p.regs:=by omega
   go_wp2;go_region_held3(fun X=>aH (fun g=>g=P) wr X)(first|with_reducible exact bs|with_reducible exact k2|with_reducible exact U)(first|(go_at_call 162;refine aT.mono ?_;rintro cv am⟨rfl,b2⟩;have A:G wr.heap.size wr am:=al.trans (b2.mono al.size);have k2:aH (fun g=>g=P) wr am:=(aH.refl _ _).below A (Rq _);have m:=aU.out.next A;have bL:au Lo am (.leaf 101 (k:Int)) (L z 0 0):=⟨rfl,m.b.pc.lo⟩;have bu:=m.place O bL;have bv:=((Mv.of A aU.out.le:Mv (w.heap.size+2) Lo wr am)).dV m.b.hP m.b.kX (k*5) (.leaf 101 (k:Int)) (L z 0 0);have an:=D (And.intro bu.at bv.low);unfold dV mG at an;have U:=((((k2.setCell (p:=⟨P,k*5,z⟩) (.inl rfl) (N Z (ai (.leaf 101 (k:Int))))).setCell (p:=⟨P,k*5+1,z⟩) (.inl rfl) (N Z (az (.leaf 101 (k:Int))))).setCell (p:=⟨P,k*5+2,z⟩) (.inl rfl) (L z 0 0)).setCell (p:=⟨P,k*5+3,z⟩) (.inl rfl) (N Z (TD.size (.leaf 101 (k:Int))))).setCell (p:=⟨P,k*5+4,z⟩) (.inl rfl) (Tq (ay (ae (.leaf 101 (k:Int)))));have cw:=m.b.pl.frozen (k*5);have cx:=m.b.pl.frozen (k*5+1);have cy:=m.b.pl.frozen (k*5+2);have ao:=m.b.pl.frozen (k*5+3);have cz:=m.b.pl.frozen (k*5+4);have bM:=m.b.pl.cell (j:=0) O rfl;have cA:=m.b.pl.cell (j:=1) O rfl;have bN:=m.b.pl.cell (j:=2) O rfl;have cB:=m.b.pl.cell (j:=3) O rfl;have cC:=m.b.pl.cell (j:=4) O rfl;rw[Nat.add_zero]at bM;obtain⟨cD,cE,cF,bw⟩:=(m.b.parts k O).slice;rw[bw]at bN;clear bw bu bv));go_wp2;have bO:=an.out.1.congr (g:=(fun i:Nat=>if i<(k+1)then .leaf 101 (i:Int)else .leaf 102 (i:Int))) (fun i _=>Cl k i) rfl rfl rfl;have bP:=bt.out.trans an.out.2;clear an aU bt m bs k2 U b2 A aT;go_roundw;case rel=>exact⟨k+1,by omega,by go_num,bO,bP⟩
   case measure=>simp[intOf];omega
  ·obtain rfl:k=p.regs.toNat:=by omega
   have cG:¬(((p.regs.toNat:Nat):Int)<p.regs):=by omega
   have cH:=J.cell (i:=4) rfl;have cI:=aa K bE;have cJ:(0:Int)≤(b:Int):=by omega
   have cK:(b:Int)<(x:Int):=by have:=bD.out;omega
   have bx:dY (w.heap.size+2) Lo wr M P cap n (fun i:Nat=>cW (ax p.regs p.slots) (i:Int)) (cW (ax p.regs p.slots) (n:Int)) [] false p.regs p.data:=aS.congr (fun i bn=>by rw[AM aM.out i bn];by_cases q:(i:Int)<p.regs;(rw[if_pos (show i<p.regs.toNat by omega),if_pos q]);(rw[if_neg (show¬i<p.regs.toNat by omega),if_neg q])) (by rw[ts (vb aM.out)]) rfl rfl;have bQ:=fun aI=>qi bx aM.out (by omega) (by omega) (jK (by omega)) (aj p.blocks b) bB bC sv (fun X H=>bj.out.ab (K.trans (H.mono (by omega)))) (fun X H=>bi.out.ab (K.trans (H.mono (by omega)))) aI;obtain⟨ap,bz,aq,rfl⟩:∃ap bz aq,sv=L ap bz aq:=let⟨ap,aq,e,_⟩:=bj.out;⟨ap,_,aq,e⟩;clear aS bx J K;go_wp2_with fail;refine bQ _ ?_ ?_
   ·intro aV B av bA aW ao ab;obtain⟨aX,bR,bS,d⟩:=ao;obtain⟨c3,I⟩:∃c3,c3=bA:=⟨_,rfl⟩;rw[←I]at d;obtain⟨o,r,s,rfl⟩:=d.b.pc.slice;obtain⟨t,u,aY⟩:=af d.b.pS;subst aY;obtain⟨l,ac⟩:∃l,l=(aW).length:=⟨_,rfl⟩;rw[←ac]at d;have A:G (w.heap.size+2) ((w.alloc (Y #[N Z p.args,N Z p.regs,N Z p.data,N Z p.slots,L (y ⟨E,F,z⟩) x C] 25)).alloc (Y #[L z 0 0,N Z 0,N Z 0,L z 0 0,N Z 0,Tq ⟨#[]⟩,L z 0 0,Bq false,N Z 0,N Z 0] 181)) B:=T.trans ab.low;have a:=ah.out.below A (by omega);have ad:=d.b.dW (g:=w.heap.size+1) (by omega) (L (y ⟨P,0,z⟩) n cap) (N Z (ai c3)) (N Z (az c3)) (L o r s) (N Z c3.size) (Tq (ay (ae c3))) (L t l u) (Bq true) (N Z p.regs) (N Z p.data);have Q:G w.heap.size w (dW B (w.heap.size+1) (L (y ⟨P,0,z⟩) n cap) (N Z (ai c3)) (N Z (az c3)) (L o r s) (N Z c3.size) (Tq (ay (ae c3))) (L t l u) (Bq true) (N Z p.regs) (N Z p.data)):=by have U:aH (fun g=>g=w.heap.size+1) B (dW B (w.heap.size+1) (L (y ⟨P,0,z⟩) n cap) (N Z (ai c3)) (N Z (az c3)) (L o r s) (N Z c3.size) (Tq (ay (ae c3))) (L t l u) (Bq true) (N Z p.regs) (N Z p.data)):=(aH.refl (fun g=>g=w.heap.size+1) B).dW (g:=w.heap.size+1) rfl _ _ _ _ _ _ _ _ _ _;exact(V.out.trans (A.mono (by omega))).trans (U.toBelow (by have:=A.size;have:=ag.out;omega) (fun g e=>by omega))
    have H:CK w (dW B (w.heap.size+1) (L (y ⟨P,0,z⟩) n cap) (N Z (ai c3)) (N Z (az c3)) (L o r s) (N Z c3.size) (Tq (ay (ae c3))) (L t l u) (Bq true) (N Z p.regs) (N Z p.data)) (yY P n cap c3 (L o r s) (L t l u) true p.regs p.data) n av c3 (aW) true p.regs p.data:=⟨w.heap.size+2,Lo,P,cap,aX,L o r s,L t l u,by omega,rfl,ad⟩;rw[I]at H;have R:=D (aK.out aV _ _ av bA aW H (by rw[I]at Q;exact Q));rw[←I]at R;clear H;unfold yY dW at R;have bT:=d.row.cell (i:=0) rfl;have aZ:=a.cell (i:=0) rfl;have bU:=a.frozen 0;have bV:=d.row.cell (i:=1) rfl;have a0:=a.cell (i:=1) rfl;have bW:=a.frozen 1;have bX:=d.row.cell (i:=2) rfl;have a1:=a.cell (i:=2) rfl;have bY:=a.frozen 2;have bZ:=d.row.cell (i:=3) rfl;have a2:=a.cell (i:=3) rfl;have av:=a.frozen 3;have b0:=d.row.cell (i:=4) rfl;have a3:=a.cell (i:=4) rfl;have b1:=a.frozen 4;have b3:=d.row.cell (i:=5) rfl;have a4:=a.cell (i:=5) rfl;have b4:=a.frozen 5;have b5:=d.row.cell (i:=6) rfl;have a5:=a.cell (i:=6) rfl;have b6:=a.frozen 6;have b7:=d.row.cell (i:=7) rfl;have a6:=a.cell (i:=7) rfl;have b8:=a.frozen 7;have b9:=d.row.cell (i:=8) rfl;have a7:=a.cell (i:=8) rfl;have b_:=a.frozen 8;have ca:=d.row.cell (i:=9) rfl;have a9:=a.cell (i:=9) rfl;have cb:=a.frozen 9;clear ad Q d a A ab I ac aJ ah V aK aL;go_wp2;(try simp only[Exit.inBlock,Exit.then]);refine bodyPost_ret (v:=Aq #[L (y ⟨P,0,z⟩) n cap,N Z (ai c3),N Z (az c3),L o r s,N Z c3.size,Tq (ay (ae c3)),L t l u,Bq true,N Z p.regs,N Z p.data]) ?_ rfl ?_;·simp[results,Tryz.results131,go_sem,aZ,a0,a1,a2,a3,a4,a5,a6,a7,a9]
    ·exact R.out
   ·intro aV B ao ab;obtain⟨aX,bR,bS,d⟩:=ao;obtain⟨c3,I⟩:∃c3,c3=aD p.regs p.slots (ax p.regs p.slots) (aj p.blocks b) (aj p.blocks b).length (n:Int):=⟨_,rfl⟩;rw[←I]at d;obtain⟨o,r,s,rfl⟩:=d.b.pc.slice;obtain⟨t,u,aY⟩:=af d.b.pS;subst aY;obtain⟨l,ac⟩:∃l,l=(bG p.regs p.slots p.data (ax p.regs p.slots) (aj p.blocks b) (aj p.blocks b).length).length:=⟨_,rfl⟩;rw[←ac]at d;have A:G (w.heap.size+2) ((w.alloc (Y #[N Z p.args,N Z p.regs,N Z p.data,N Z p.slots,L (y ⟨E,F,z⟩) x C] 25)).alloc (Y #[L z 0 0,N Z 0,N Z 0,L z 0 0,N Z 0,Tq ⟨#[]⟩,L z 0 0,Bq false,N Z 0,N Z 0] 181)) B:=T.trans ab.low;have a:=ah.out.below A (by omega);have ad:=d.b.dW (g:=w.heap.size+1) (by omega) (L (y ⟨P,0,z⟩) n cap) (N Z (ai c3)) (N Z (az c3)) (L o r s) (N Z c3.size) (Tq (ay (ae c3))) (L t l u) (Bq false) (N Z p.regs) (N Z p.data);have Q:G w.heap.size w (dW B (w.heap.size+1) (L (y ⟨P,0,z⟩) n cap) (N Z (ai c3)) (N Z (az c3)) (L o r s) (N Z c3.size) (Tq (ay (ae c3))) (L t l u) (Bq false) (N Z p.regs) (N Z p.data)):=by have U:aH (fun g=>g=w.heap.size+1) B (dW B (w.heap.size+1) (L (y ⟨P,0,z⟩) n cap) (N Z (ai c3)) (N Z (az c3)) (L o r s) (N Z c3.size) (Tq (ay (ae c3))) (L t l u) (Bq false) (N Z p.regs) (N Z p.data)):=(aH.refl (fun g=>g=w.heap.size+1) B).dW (g:=w.heap.size+1) rfl _ _ _ _ _ _ _ _ _ _;exact(V.out.trans (A.mono (by omega))).trans (U.toBelow (by have:=A.size;have:=ag.out;omega) (fun g e=>by omega))
    have H:CK w (dW B (w.heap.size+1) (L (y ⟨P,0,z⟩) n cap) (N Z (ai c3)) (N Z (az c3)) (L o r s) (N Z c3.size) (Tq (ay (ae c3))) (L t l u) (Bq false) (N Z p.regs) (N Z p.data)) (yY P n cap c3 (L o r s) (L t l u) false p.regs p.data) n (fun i:Nat=>aD p.regs p.slots (ax p.regs p.slots) (aj p.blocks b) (aj p.blocks b).length (i:Int)) c3 (bG p.regs p.slots p.data (ax p.regs p.slots) (aj p.blocks b) (aj p.blocks b).length) false p.regs p.data:=⟨w.heap.size+2,Lo,P,cap,aX,L o r s,L t l u,by omega,rfl,ad⟩;rw[I]at H;have R:=D (aL.out aV _ _ H (by rw[I]at Q;exact Q));rw[←I]at R;clear H;unfold yY dW at R;have bT:=d.row.cell (i:=0) rfl;have aZ:=a.cell (i:=0) rfl;have bU:=a.frozen 0;have bV:=d.row.cell (i:=1) rfl;have a0:=a.cell (i:=1) rfl;have bW:=a.frozen 1;have bX:=d.row.cell (i:=2) rfl;have a1:=a.cell (i:=2) rfl;have bY:=a.frozen 2;have bZ:=d.row.cell (i:=3) rfl;have a2:=a.cell (i:=3) rfl;have av:=a.frozen 3;have b0:=d.row.cell (i:=4) rfl;have a3:=a.cell (i:=4) rfl;have b1:=a.frozen 4;have b3:=d.row.cell (i:=5) rfl;have a4:=a.cell (i:=5) rfl;have b4:=a.frozen 5;have b5:=d.row.cell (i:=6) rfl;have a5:=a.cell (i:=6) rfl;have b6:=a.frozen 6;have b7:=d.row.cell (i:=7) rfl;have a6:=a.cell (i:=7) rfl;have b8:=a.frozen 7;have b9:=d.row.cell (i:=8) rfl;have a7:=a.cell (i:=8) rfl;have b_:=a.frozen 8;have ca:=d.row.cell (i:=9) rfl;have a9:=a.cell (i:=9) rfl;have cb:=a.frozen 9;clear ad Q d a A ab I ac aJ ah V aK aL;go_wp2;(try simp only[Exit.inBlock,Exit.then]);refine bodyPost_ret (v:=Aq #[L (y ⟨P,0,z⟩) n cap,N Z (ai c3),N Z (az c3),L o r s,N Z c3.size,Tq (ay (ae c3)),L t l u,Bq false,N Z p.regs,N Z p.data]) ?_ rfl ?_;·simp[results,Tryz.results131,go_sem,aZ,a0,a1,a2,a3,a4,a5,a6,a7,a9]
    ·exact R.out
end Go.Proofs.YtblhmeidbjigaabGreatDoor
