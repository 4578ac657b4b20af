import Derived.Test.YtblhmeidbjigaabGreatDoorT06
import Derived.Test.YtblhmeidbjigaabGreatDoorT09
set_option linter.unusedSimpArgs false
set_option linter.unusedVariables false
set_option maxRecDepth 100000
set_option maxHeartbeats 8000000
namespace Go.Proofs.YtblhmeidbjigaabGreatDoor
open Go.RowKit
open Go.Value renaming int→N,slice→L,agg→Aq,bool→Bq,pointer→Pq
open Go.IntKind renaming i64→Z
open Go.Obj renaming cells→Y
open Go.Ending renaming returned→Xq
open Option renaming none→z,some→y
open Go.Lib renaming hid→D
open Nat renaming le_refl→Rq
open Go renaming World→W,Value→Vq
open Go.RowKit renaming Below→G
theorem nY(b u v:TD)(g h j:Nat)(w:W)(d:aA w b g)(e:aA w u h)(o:aA w v j)(J:b.aJ)(T:u.aJ)(f:¬∃c a x n k,b=.three 13 c a x∧u.isNum=y n∧a.isNum=y k∧k>n)(K:Ending→W→Prop)(B:∀M w',aA w' (cO b u v) M→G w.heap.size w w'→K (Xq (Pq (y ⟨M,0,z⟩))) w'):Calls Tryz.prog 191 #[Pq (y ⟨g,0,z⟩),Pq (y ⟨h,0,z⟩),Pq (y ⟨j,0,z⟩)] w K:=by
 rw[nT f]at B;have U:∀n,G w.heap.size w (w.drewN n):=fun n=>below_drewN (Below.refl _ _) n;have s:=D (fun n=>let O:=mN (k:=13) (d.drewN n) (e.drewN n) (o.drewN n) (U n);B _ _ O.1 O.2);have V:=d.cM;have X:=e.cM;have d1:=e.iu;clear B;by_cases l:b.kind=13
 ·obtain⟨c,a,x,rfl⟩:=yZ J l;obtain⟨ab,ga,ac,t,C,p,E⟩:=id d;obtain⟨_,F,A,H⟩:=J;have c3:=t.cell (i:=3) rfl;have aa:=p.cM;have e1:=p.iu;simp only[TD.kind]at V;by_cases m:u.kind=100
  ·have I:=(bI T).1 m;rw[m]at X;by_cases r:a.kind=100
   ·have P:=(bI A).1 r;rw[r]at aa;have ad:¬(a.num>u.num):=fun q=>f ⟨c,a,x,u.num,a.num,rfl,I,P,q⟩;have Q:a.num≤u.num:=by omega
    have ae:decide (a.num>u.num)=false:=by simp[Q]
    have af:decide (u.num<a.num)=false:=by simp[Q]
    clear f d e o t C p E F A H I P m r l;generalize u.num=ag at*;generalize a.num=ah at*;go_enter Tryz.func191,Tryz.ntmps191;go_wp2;go_quiet(fail);go_wp2;exact s.out nq
   ·have R:(a.kind==100)=false:=by simp[r]
    have S:decide (a.kind=100)=false:=by simp[r]
    clear f d e o t C p E F A H I m l;generalize a.kind=ai at*;go_enter Tryz.func191,Tryz.ntmps191;go_wp2;go_quiet(fail);go_wp2;exact s.out nq
  ·have R:(u.kind==100)=false:=by simp[m]
   have S:decide (u.kind=100)=false:=by simp[m]
   clear f d e o t C p E F A H l;generalize u.kind=aj at*;go_enter Tryz.func191,Tryz.ntmps191;go_wp2;go_quiet(fail);go_wp2;exact s.out nq
 ·have R:(b.kind==13)=false:=by simp[l]
  have S:decide (b.kind=13)=false:=by simp[l]
  clear f d e o;generalize b.kind=ak at*;go_enter Tryz.func191,Tryz.ntmps191;go_wp2;go_quiet(fail);go_wp2;exact s.out nq
theorem AP(d:TD):∀(u v:TD)(g h j:Nat)(w:W)(l:Ending→W→Prop),aA w d g→aA w u h→aA w v j→d.aJ→u.aJ→v.aJ→(∀O w',aA w' (cO d u v) O→G w.heap.size w w'→l (Xq (Pq (y ⟨O,0,z⟩))) w')→Calls Tryz.prog 191 #[Pq (y ⟨g,0,z⟩),Pq (y ⟨h,0,z⟩),Pq (y ⟨j,0,z⟩)] w l:=by
 induction d with
  |leaf k n=>intro u v g h j w l o f p r q C m;exact nY _ u v g h j w o f p r q (by rintro⟨c,a,x,n,k,e,_⟩;cases e) l m
  |two k a b Q au=>intro u v g h j w l o f p r q C m;exact nY _ u v g h j w o f p r q (by rintro⟨c,a,x,n,k,e,_⟩;cases e) l m
  |three k c a x R Q al=>
   intro u v g h j w l o f p r q C m;by_cases S:∃T F U n s,TD.three k c a x=.three 13 T F U∧u.isNum=y n∧F.isNum=y s∧s>n
   ·obtain⟨T,F,U,n,s,e,H,I,V⟩:=S;cases e;obtain⟨_,X,am,an⟩:=r;rw[tC H I V]at m;obtain rfl:=e9 H;obtain rfl:=e9 I;have J:∀n,G w.heap.size w (w.drewN n):=fun n=>below_drewN (Below.refl _ _) n;obtain⟨ao,ga,av,t,aa,E,ab⟩:=id o;have ap:=t.cell (i:=0) rfl;have c3:=t.cell (i:=3) rfl;have ac:=f.cM;have d1:=f.iu;have ad:=E.cM;have e1:=E.iu;simp only[bk,TD.kind,TD.num]at ac d1 ad e1;have aw:decide (s>n)=true:=by simp[V]
    have ax:decide (n<s)=true:=by simp;omega
    have ae:=fun n=>(t.ab (J n)).cell (i:=2) rfl;have aq:=fun d P=>R (bk n) v ao h j (w.drewN d) P (aa.drewN d) (f.drewN d) (p.drewN d) X q C;have af:=D t;have ag:=D E;have ah:=D ab;clear R Q al o f p t aa E ab X am an q C H I;go_enter Tryz.func191,Tryz.ntmps191;go_wp2;go_quiet(fail);have d2:=ae nq;clear ap c3 ac d1 ad e1 ae;go_wp2_with fail;refine aq nq _ ?_;intro g2 A ai b2;have aj:G w.heap.size w A:=(J nq).trans (b2.mono (J nq).size);have B:G w.heap.size w A.drew:=aj.drew;have ak:G A.heap.size A A.drew:=(Below.refl _ _).drew;have K:=af.out.ab B;have e3:=K.cell (i:=3) rfl;have e4:=K.cell (i:=4) rfl;have M:=mN (k:=13) (ai.ab ak) (ag.out.ab B) (ah.out.ab B) B;have ar:=D (m _ _ M.1 M.2);clear m ai b2 aj B ak d2 M K af ag ah;go_wp2;refine nK 10 (by kernel_rfl) (by kernel_rfl) ?_;simp only[List.take_succ_cons,List.take_zero,List.drop_succ_cons,List.drop_zero];repeat still_step
    refine wpStill_nil ?_;go_wp2;exact ar.out
   ·exact nY _ u v g h j w o f p r q S l m
theorem vm(a u v:TD)(g h j:Nat)(w:W)(m:aA w a g)(o:aA w u h)(r:aA w v j)(f:a.aJ)(i:u.aJ)(s:v.aJ)(p:Ending→W→Prop)(b:∀t w',aA w' (bS a u v) t→G w.heap.size w w'→p (Xq (Pq (y ⟨t,0,z⟩))) w'):Calls Tryz.prog 176 #[Pq (y ⟨g,0,z⟩),Pq (y ⟨h,0,z⟩),Pq (y ⟨j,0,z⟩)] w p:=by
 have S:aS a u=v→bS a u v=a:=fun e=>by unfold bS;rw[if_pos e]
 have T:aS a u≠v→bS a u v=cO (bY a u) u v:=fun e=>by unfold bS;rw[if_neg e]
 have U:=mI a u f i;have V:=kz a u f;have x:=D m;have A:=D o;have B:=D r;have k:=D b;have C:=fun P=>tR a u g h w P m o f i;clear m o r b;go_enter Tryz.func176,Tryz.ntmps176;go_wp2_with fail;refine C _ ?_;intro g1 w1 E c;have d:=eJ (aS a u) v g1 j w1 E (B.out.ab c) U s;clear E;by_cases e1:aS a u=v;·rw[(dE _ _).2 e1]at d;have b:=k.out;rw[S e1]at b;have q:=D (fun n=>b g (w1.drewN n) ((x.out.ab c).drewN n) (below_drewN c n));clear b k;go_wp2_with fail;refine d.mono ?_;rintro e X⟨rfl,n,rfl⟩;go_wp2;exact q.out n
 ·rw[ch e1]at d;have b:=k.out;rw[T e1]at b;have F:=fun n P=>AR a u g h (w1.drewN n) P ((x.out.ab c).drewN n) ((A.out.ab c).drewN n) f i;clear k;go_wp2_with fail;refine d.mono ?_;rintro e X⟨rfl,n,rfl⟩;have b2:G w.heap.size w (w1.drewN n):=below_drewN c n;go_wp2_with fail;refine F n _ ?_;intro aa H I J;have l:G w.heap.size w H:=b2.trans (J.mono b2.size);have K:=fun P=>AP (bY a u) u v aa h j H P I (A.out.ab l) (B.out.ab l) V i s;clear F d C J I b2;go_wp2_with fail;refine K _ ?_;intro M O Q R;have q:Hid (p (Xq (Pq (y ⟨M,0,z⟩))) O):=b M O Q (l.trans (R.mono l.size));clear b Q R K;go_wp2;exact q.out
def ca(p:a8)(a:Vq)(b:Int)(c:Vq):Vq:=Aq #[N Z p.args,N Z p.regs,N Z p.data,N Z p.slots,a,N Z b,c]
def nJ(p:a8)(a:Vq)(b:Int)(c:Vq):List Vq:=[N Z p.args,N Z p.regs,N Z p.data,N Z p.slots,a,N Z b,c]
structure gj(w:World)(p:a8)(pv nv:Value)(names:List Int):Prop where
 blocks:bm w pv p.blocks
 names:aM w nv names
 E9:TabW w
theorem gj.ab{w w':W}{p:a8}{b c:Vq}{names:List Int}(h:gj w p b c names)(a:G w.heap.size w w'):gj w' p b c names:=⟨h.blocks.ab a,h.names.ab a,h.E9.ab a⟩
theorem ou{w w0:W}(k n:Int)(a:G w0.heap.size w0 w):aA (w.alloc (Y #[N Z k,N Z n,Pq z,Pq z,Pq z] 200)) (.leaf k n) w.heap.size∧G w0.heap.size w0 (w.alloc (Y #[N Z k,N Z n,Pq z,Pq z,Pq z] 200)):=have b:G w.heap.size w (w.alloc (Y #[N Z k,N Z n,Pq z,Pq z,Pq z] 200)):=(Below.refl _ _).alloc (Rq _) _;⟨heap_alloc_new w _,a.trans (b.mono a.size)⟩
theorem vq{names:List Int}{place:Nat}(h:names.length≤place):cW names place=.leaf 103 0:=by unfold cW;rw[if_pos (by omega)]
theorem CZ{names:List Int}{place:Nat}(h:place<names.length)(a:names.getD place 0<0):cW names place=.leaf 102 place:=by unfold cW;rw[if_neg (by omega),if_pos (by simpa using a)]
theorem CY{names:List Int}{place:Nat}(h:place<names.length)(a:¬names.getD place 0<0):cW names place=.leaf 101 (names.getD place 0):=by unfold cW;rw[if_neg (by omega),if_neg (by simpa using a)];simp
theorem yK(p:a8)(h k:Vq)(b:Int)(names:List Int)(place:Nat)(w:W)(i:gj w p h k names)(r:place≤1000)(l:Ending→W→Prop)(d:∀m w',aA w' (cW names place) m→G w.heap.size w w'→l (Xq (Pq (y ⟨m,0,z⟩))) w'):Calls Tryz.prog 173 #[ca p h b k,N Z place] w l:=by
 obtain⟨o,cap,rfl,s,hc⟩:=i.names;have e:G w.heap.size w (w.alloc (Y #[N Z p.args,N Z p.regs,N Z p.data,N Z p.slots,h,N Z b,L o names.length cap] 164)):=(Below.refl _ _).alloc (Rq _) _;have f:(w.alloc (Y #[N Z p.args,N Z p.regs,N Z p.data,N Z p.slots,h,N Z b,L o names.length cap] 164)).heap.size=w.heap.size+1:=by simp
 unfold ca;by_cases q:names.length≤place
 ·rw[vq q]at d;have a:=ou 103 0 e;rw[f]at a;have g:=D (d _ _ a.1 a.2);have t:((names.length:Int)≤(place:Int)):=by omega
  have u:decide ((names.length:Int)≤(place:Int))=true:=by simp;omega
  clear d a e f hc i;go_enter Tryz.func173,Tryz.ntmps173;go_wp2;exact g.out
 ·obtain⟨v,x,rfl,c⟩:=hc place (by omega);have A:=aa e c;have B:(0:Int)≤(place:Int):=by omega
  have C:(place:Int)<(names.length:Int):=by omega
  by_cases j:names.getD place 0<0;·rw[CZ (by omega) j]at d;have a:=ou 102 place e;rw[f]at a;have g:=D (d _ _ a.1 a.2);clear d a e f hc i;generalize names.getD place 0=n at*;go_enter Tryz.func173,Tryz.ntmps173;go_wp2;exact g.out
  ·rw[CY (by omega) j]at d;have a:=ou 101 (names.getD place 0) e;rw[f]at a;have g:=D (d _ _ a.1 a.2);have E:¬(names.getD place 0<0):=j;have F:(0:Int)≤names.getD place 0:=by omega
   clear d a e f hc i j;generalize names.getD place 0=n at*;go_enter Tryz.func173,Tryz.ntmps173;go_wp2;exact g.out
theorem o5(p:a8)(i:Vq)(k a b c:Int)(w:W)(j:0≤p.regs∧p.regs≤8)(l:0≤p.slots∧p.slots≤8)(m:0≤a∧a≤8):Calls Tryz.prog 149 #[dy p i,Aq #[N Z k,N Z a,N Z b,N Z c]] w fun e w'=>e=Xq (N Z (aZ p.regs p.slots ⟨k,a,b,c⟩))∧G w.heap.size w w':=by
 have f:G w.heap.size w ((w.alloc (Y #[N Z p.args,N Z p.regs,N Z p.data,N Z p.slots,i] 25)).alloc (Y #[N Z k,N Z a,N Z b,N Z c] 36)):=((Below.refl _ _).alloc (Rq _) _).alloc (by simp) _;unfold dy;generalize p.args=n at*;generalize p.regs=d at*;generalize p.data=o at*;generalize p.slots=ps at*;by_cases g:k=13
 ·subst g;have e:aZ d ps ⟨13,a,b,c⟩=d+ps:=by simp[aZ]
  rw[e];clear e;go_enter Tryz.func149,Tryz.ntmps149;go_wp2;go_ret;exact⟨by go_num,f⟩
 ·by_cases h:k=14
  ·subst h;have e:aZ d ps ⟨14,a,b,c⟩=d+a:=by simp[aZ]
   rw[e];clear e;go_enter Tryz.func149,Tryz.ntmps149;go_wp2;go_ret;exact⟨by go_num,f⟩
  ·have e:aZ d ps ⟨k,a,b,c⟩=a:=by simp[aZ,g,h]
   rw[e];clear e;have q:(k==13)=false:=by simp[g]
   have r:(k==14)=false:=by simp[h]
   go_enter Tryz.func149,Tryz.ntmps149;go_wp2;go_ret;exact⟨rfl,f⟩
section
variable{regs slots:Int}{names:List Int}{ops:List dr}{k:Nat}{place:Int}{o:dr}
theorem uy(ho:ops.getD k oz=o)(h:aZ regs slots o≠place):aD regs slots names ops (k+1) place=aD regs slots names ops k place:=by subst ho;simp only[aD];rw[if_pos h]
theorem ux(ho:ops.getD k oz=o)(h:aZ regs slots o=place)(a:o.kind=1):aD regs slots names ops (k+1) place=bk (256*o.b+o.c-32768):=by subst ho;simp only[aD];rw[if_neg (fun q=>q h),if_pos a]
theorem oE(ho:ops.getD k oz=o)(h:aZ regs slots o=place)(a:o.kind=2∨o.kind=14):aD regs slots names ops (k+1) place=aD regs slots names ops k o.b:=by subst ho;simp only[aD];rw[if_neg (fun q=>q h),if_neg (by omega),if_pos a]
theorem xM(ho:ops.getD k oz=o)(h:aZ regs slots o=place)(a:o.kind=15):aD regs slots names ops (k+1) place=aD regs slots names ops k (regs+o.b):=by subst ho;simp only[aD];rw[if_neg (fun q=>q h),if_neg (by omega),if_neg (by omega),if_pos a]
theorem vF(ho:ops.getD k oz=o)(h:aZ regs slots o=place)(a:o.kind=12):aD regs slots names ops (k+1) place=aS (aD regs slots names ops k (regs+slots)) (aD regs slots names ops k o.b):=by subst ho;simp only[aD];rw[if_neg (fun q=>q h),if_neg (by omega),if_neg (by omega),if_neg (by omega),if_pos a]
theorem uz(ho:ops.getD k oz=o)(h:aZ regs slots o=place)(a:o.kind=13):aD regs slots names ops (k+1) place=bS (aD regs slots names ops k (regs+slots)) (aD regs slots names ops k o.a) (aD regs slots names ops k o.b):=by subst ho;simp only[aD];rw[if_neg (fun q=>q h),if_neg (by omega),if_neg (by omega),if_neg (by omega),if_neg (by omega),if_pos a]
theorem vE(ho:ops.getD k oz=o)(h:aZ regs slots o=place)(a:3≤o.kind∧o.kind≤11):aD regs slots names ops (k+1) place=aX o.kind (aD regs slots names ops k o.b) (aD regs slots names ops k o.c):=by subst ho;simp only[aD];rw[if_neg (fun q=>q h),if_neg (by omega),if_neg (by omega),if_neg (by omega),if_neg (by omega),if_neg (by omega)]
theorem qZ(h:aw regs slots o=true):(o.kind=1∧(0≤o.a∧o.a<regs)∧(0≤o.b∧o.b<256)∧(0≤o.c∧o.c<256))∨((3≤o.kind∧o.kind≤11)∧(0≤o.a∧o.a<regs)∧(0≤o.b∧o.b<regs)∧(0≤o.c∧o.c<regs))∨((o.kind=2∨o.kind=12∨o.kind=13)∧(0≤o.a∧o.a<regs)∧(0≤o.b∧o.b<regs))∨(o.kind=14∧(0≤o.a∧o.a<slots)∧(0≤o.b∧o.b<regs))∨(o.kind=15∧(0≤o.a∧o.a<regs)∧(0≤o.b∧o.b<slots)):=by
 unfold aw at h;by_cases a:o.kind=1;·rw[if_pos a]at h;simp[below]at h;exact .inl ⟨a,h.1.1,h.1.2,h.2⟩
 rw[if_neg a]at h;by_cases b:3≤o.kind∧o.kind≤11;·rw[if_pos b]at h;simp[below]at h;exact .inr (.inl ⟨b,h.1.1,h.1.2,h.2⟩)
 rw[if_neg b]at h;by_cases c:o.kind=2∨o.kind=12∨o.kind=13;·rw[if_pos c]at h;simp[below]at h;exact .inr (.inr (.inl ⟨c,h.1.1,h.1.2⟩))
 rw[if_neg c]at h;by_cases d:o.kind=14;·rw[if_pos d]at h;simp[below]at h;exact .inr (.inr (.inr (.inl ⟨d,h.1.1,h.1.2⟩)))
 rw[if_neg d]at h;by_cases e:o.kind=15;·rw[if_pos e]at h;simp[below]at h;exact .inr (.inr (.inr (.inr ⟨e,h.1.1,h.1.2⟩)))
 rw[if_neg e]at h;cases h
end
theorem bF{p:a8}(a:aB p=true):(1≤p.regs∧p.regs≤8)∧(0≤p.args∧p.args≤p.regs)∧(0≤p.data∧p.data≤8)∧(0≤p.slots∧p.slots≤8):=by simp[aB]at a;omega
theorem de{p:a8}(a:aB p=true){b:Nat}(c:b<p.blocks.length):(aj p.blocks b).length≤12∧fQ p.regs p.slots (aj p.blocks b)=true:=by have:=eX a (p.blocks.getD b bz) (cm c);simp[cI]at this;exact⟨this.1.1,this.1.2⟩
theorem pN{regs slots:Int}{l:List dr}(h:fQ regs slots l=true){k:Nat}(a:k<l.length):aw regs slots (l.getD k oz)=true:=by unfold fQ at h;exact List.all_eq_true.1 h _ (cm a)
theorem ns{k:Nat}(h:k≤12):sF k≤800000:=Nat.le_trans (Ax h) (by decide)
def pK(p:a8)(a c:Vq)(b:Nat)(names:List Int)(k:Nat):Prop:=∀(place:Nat)(w:W)(d:Ending→W→Prop),gj w p a c names→(place:Int)≤p.regs+p.slots→(∀e w',aA w' (aD p.regs p.slots names (aj p.blocks b) k place) e→G w.heap.size w w'→d (Xq (Pq (y ⟨e,0,z⟩))) w')→Calls Tryz.prog 150 #[ca p a b c,N Z k,N Z place] w d
structure Et(w0 w:World)(G O:Nat)(p:a8)(pv nv:Value)(b:Nat)(names:List Int)(o:dr):Prop where
 view:Row w G 164 (nJ p pv b nv)
 op:Row w O 36 [.int .i64 o.kind,.int .i64 o.a,.int .i64 o.b,.int .i64 o.c]
 rd:gj w p pv nv names
 ab:Below w0.heap.size w0 w
theorem Et.next{w0 w w':W}{c O:Nat}{p:a8}{d e:Vq}{b:Nat}{names:List Int}{o:dr}(h:Et w0 w c O p d e b names o)(a:G w.heap.size w w'):Et w0 w' c O p d e b names o:=⟨h.view.ab a,h.op.ab a,h.rd.ab a,h.ab.trans (a.mono h.ab.size)⟩
theorem vi(p:a8)(c d:Vq)(b:Nat)(names:List Int)(k:p.regs+p.slots≤100):pK p c d b names 0:=by intro place w i f l e;simp only[aD]at e;have a:G w.heap.size w (w.alloc (Y #[N Z p.args,N Z p.regs,N Z p.data,N Z p.slots,c,N Z b,d] 164)):=(Below.refl _ _).alloc (Rq _) _;have q:=fun P=>yK p c d b names place _ (f.ab a) (by omega) P;unfold ca at q⊢;clear f;go_enter Tryz.func150,Tryz.ntmps150;go_wp2_with fail;refine q _ ?_;intro g2 g h b2;have j:Hid (i (Xq (Pq (y ⟨g2,0,z⟩))) g):=e g2 g h (a.trans (b2.mono a.size));clear e h b2 q a;go_wp2;exact j.out
theorem vh(p:a8)(T R:Vq)(b:Nat)(names:List Int)(ar:aB p=true)(au:b<p.blocks.length)(a4:∀x∈names,x≤1000)(k:Nat)(av:k<(aj p.blocks b).length)(ax:pK p T R b names k):pK p T R b names (k+1):=by
 intro place w M an a5 ay;obtain⟨a6,bf,bg,hs⟩:=bF ar;obtain⟨bh,az⟩:=de ar au;have aC:=c_ (names:=names) (show 0≤p.regs∧p.regs≤100 by omega) (show 0≤p.slots∧p.slots≤100 by omega) a4 az k (by omega);have aE:∀q:Int,(aD p.regs p.slots names (aj p.blocks b) k q).size≤4000000000000:=fun q=>by have aF:=gH p.regs p.slots names (aj p.blocks b) k q;have aG:=ns (show k≤12 by omega);omega
 obtain⟨o,ho⟩:∃o,(aj p.blocks b).getD k oz=o:=⟨_,rfl⟩;have bi:=qZ (show aw p.regs p.slots o=true by rw[←ho];exact pN az av);have U:G w.heap.size w (w.alloc (Y #[N Z p.args,N Z p.regs,N Z p.data,N Z p.slots,T,N Z b,R] 164)):=(Below.refl _ _).alloc (Rq _) _;have ao:G w.heap.size w ((w.alloc (Y #[N Z p.args,N Z p.regs,N Z p.data,N Z p.slots,T,N Z b,R] 164)).alloc (Y #[N Z o.kind,N Z o.a,N Z o.b,N Z o.c] 36)):=U.alloc U.size _;have aH:(w.alloc (Y #[N Z p.args,N Z p.regs,N Z p.data,N Z p.slots,T,N Z b,R] 164)).heap.size=w.heap.size+1:=by simp
 have aI:Et w ((w.alloc (Y #[N Z p.args,N Z p.regs,N Z p.data,N Z p.slots,T,N Z b,R] 164)).alloc (Y #[N Z o.kind,N Z o.a,N Z o.b,N Z o.c] 36)) w.heap.size (w.heap.size+1) p T R b names o:=⟨Row.alloc (heap_alloc_new w _) _,by have:=heap_alloc_new (w.alloc (Y #[N Z p.args,N Z p.regs,N Z p.data,N Z p.slots,T,N Z b,R] 164)) (Y #[N Z o.kind,N Z o.a,N Z o.b,N Z o.c] 36);rw[aH]at this;exact this,an.ab ao,ao⟩;obtain⟨bj,cap,rfl,a7,hc⟩:=an.blocks;obtain⟨ap,aq,sv,rfl,aJ,_,_,_,_,a9⟩:=hc b au;obtain⟨bk,bl,rfl,a_,aK⟩:=a9;obtain⟨b2,bm,rfl,aL,e1,e2,e3⟩:=aK k av;have ba:=aa U aJ;have aM:=aa U aL;have aN:=aa U e1;have aO:=aa U e2;have aP:=aa U e3;have aQ:cD (aj p.blocks b) k=o.kind:=by unfold cD;rw[ho]
 have aR:oa (aj p.blocks b) k=o.a:=by unfold oa;rw[ho]
 have aS:ob (aj p.blocks b) k=o.b:=by unfold ob;rw[ho]
 have aT:oc (aj p.blocks b) k=o.c:=by unfold oc;rw[ho]
 rw[aQ]at aM;rw[aR]at aN;rw[aS]at aO;rw[aT]at aP;clear aH aL e1 e2 e3 aJ hc aK aQ aR aS aT U ao an;have bn:(0:Int)≤(b:Int):=by omega
 have bo:(b:Int)<(p.blocks.length:Int):=by omega
 have bp:(0:Int)≤(k:Int):=by omega
 have bq:(k:Int)<((aj p.blocks b).length:Int):=by omega
 have br:¬((k:Int)+1=0):=by omega
 have aU:=fun bb=>o5 p (L (y ⟨ap,aq,z⟩) p.blocks.length cap) o.kind o.a o.b o.c bb ⟨by omega,a6.2⟩ hs (by omega);have aV:∀t,aD p.regs p.slots names (aj p.blocks b) (k+1) place=t→∀ai w',aA w' t ai→G w.heap.size w w'→M (Xq (Pq (y ⟨ai,0,z⟩))) w':=fun t e=>by subst e;exact ay
 have J:=D aV;have aW:=D aI;have X:=D aC;have Q:∀(q:Int)(w:W)(M:Ending→W→Prop),gj w p (L (y ⟨ap,aq,z⟩) p.blocks.length cap) R names→0≤q→q≤p.regs+p.slots→(∀ai w',aA w' (aD p.regs p.slots names (aj p.blocks b) k q) ai→G w.heap.size w w'→M (Xq (Pq (y ⟨ai,0,z⟩))) w')→Calls Tryz.prog 150 #[ca p (L (y ⟨ap,aq,z⟩) p.blocks.length cap) b R,N Z k,N Z q] w M:=by intro q w M aF aG bc bd;obtain⟨n,rfl⟩:=Int.eq_ofNat_of_zero_le aG;exact ax n w M aF bc bd
 have g:o.kind=1∨(3≤o.kind∧o.kind≤11)∨o.kind=2∨o.kind=12∨o.kind=13∨o.kind=14∨o.kind=15:=by omega
 unfold ca at Q⊢;clear aI ay aV aC ax a_ a7;go_enter Tryz.func150,Tryz.ntmps150;go_wp2_with fail;refine(aU _).mono ?_;rintro e ab⟨rfl,aX⟩;have f:=aW.out.next aX;have aY:aZ p.regs p.slots ⟨o.kind,o.a,o.b,o.c⟩=aZ p.regs p.slots o:=rfl;rw[aY];clear aW aU ba aM aN aO aP aY aX;have j:=f.view.cell (i:=0) rfl;have l:=f.view.cell (i:=1) rfl;have m:=f.view.cell (i:=2) rfl;have r:=f.view.cell (i:=3) rfl;have s:=f.view.cell (i:=4) rfl;have u:=f.view.cell (i:=5) rfl;have v:=f.view.cell (i:=6) rfl;have d:=f.op.cell (i:=0) rfl;have A:=f.op.cell (i:=1) rfl;have B:=f.op.cell (i:=2) rfl;have C:=f.op.cell (i:=3) rfl;by_cases ac:aZ p.regs p.slots o≠place
 ·have h:=D (J.out _ (uy ho ac));have be:(aZ p.regs p.slots o==(place:Int))=false:=by simp[ac]
  clear J;generalize aZ p.regs p.slots o=ad at*;go_wp2_with fail;refine Q place ab _ f.rd (by omega) a5 ?_;intro E F H I;have K:Hid (M (Xq (Pq (y ⟨E,0,z⟩))) F):=h.out E F H (f.ab.trans (I.mono f.ab.size));clear h H I j l m r s u v d A B C;go_wp2;exact K.out
 have ac:aZ p.regs p.slots o=place:=Classical.not_not.1 ac;have be:(aZ p.regs p.slots o==(place:Int))=true:=by simp[ac]
 have O:Hid (aZ p.regs p.slots o=place):=ac;clear ac;rcases g with g|g|g|g|g|g|g
 ·have h:=D (J.out _ (ux ho O.out g));generalize aZ p.regs p.slots o=ad at*;clear J O;rw[g]at d;have ah:(0≤o.b∧o.b<256)∧(0≤o.c∧o.c<256):=by omega
  go_wp2_with fail;refine eo _ _ _ ?_;intro E F H I;have K:Hid (M (Xq (Pq (y ⟨E,0,z⟩))) F):=h.out E F H (f.ab.trans (I.mono f.ab.size));clear h H I j l m r s u v d A B C;go_wp2;exact K.out
 ·have h:=D (J.out _ (vE ho O.out g));generalize aZ p.regs p.slots o=ad at*;clear J O;have ah:(0≤o.b∧o.b<p.regs)∧(0≤o.c∧o.c<p.regs):=by omega
  have bs:(o.kind==1)=false:=by simp;omega
  have bt:(o.kind==2)=false:=by simp;omega
  have bu:(o.kind==14)=false:=by simp;omega
  have bv:(o.kind==15)=false:=by simp;omega
  have bw:(o.kind==12)=false:=by simp;omega
  have bx:(o.kind==13)=false:=by simp;omega
  go_wp2_with fail;refine Q (o.b) ab _ f.rd (by omega) (by omega) ?_;intro E F H I;have c:=f.next I;clear j l m r s u v d A B C;have j:=c.view.cell (i:=0) rfl;have l:=c.view.cell (i:=1) rfl;have m:=c.view.cell (i:=2) rfl;have r:=c.view.cell (i:=3) rfl;have s:=c.view.cell (i:=4) rfl;have u:=c.view.cell (i:=5) rfl;have v:=c.view.cell (i:=6) rfl;have d:=c.op.cell (i:=0) rfl;have A:=c.op.cell (i:=1) rfl;have B:=c.op.cell (i:=2) rfl;have C:=c.op.cell (i:=3) rfl;go_wp2_with fail;refine Q (o.c) F _ c.rd (by omega) (by omega) ?_;intro ak al am V;have a:=c.next V;clear j l m r s u v d A B C;have j:=a.view.cell (i:=0) rfl;have l:=a.view.cell (i:=1) rfl;have m:=a.view.cell (i:=2) rfl;have r:=a.view.cell (i:=3) rfl;have s:=a.view.cell (i:=4) rfl;have u:=a.view.cell (i:=5) rfl;have v:=a.view.cell (i:=6) rfl;have d:=a.op.cell (i:=0) rfl;have A:=a.op.cell (i:=1) rfl;have B:=a.op.cell (i:=2) rfl;have C:=a.op.cell (i:=3) rfl;go_wp2_with fail;refine AS o.kind g _ _ E ak al (H.ab V) am a.rd.E9 (X.out _ (by omega) (by omega)) (X.out _ (by omega) (by omega)) (aE _) (aE _) _ ?_;intro ae af ag S;have K:Hid (M (Xq (Pq (y ⟨ae,0,z⟩))) af):=h.out ae af ag (a.ab.trans (S.mono a.ab.size));clear h ag S j l m r s u v d A B C;go_wp2;exact K.out
 ·have h:=D (J.out _ (oE ho O.out (.inl g)));generalize aZ p.regs p.slots o=ad at*;clear J O;rw[g]at d;have ah:0≤o.b∧o.b<p.regs:=by omega
  go_wp2_with fail;refine Q o.b ab _ f.rd (by omega) (by omega) ?_;intro E F H I;have K:Hid (M (Xq (Pq (y ⟨E,0,z⟩))) F):=h.out E F H (f.ab.trans (I.mono f.ab.size));clear h H I j l m r s u v d A B C;go_wp2;exact K.out
 ·have h:=D (J.out _ (vF ho O.out g));generalize aZ p.regs p.slots o=ad at*;clear J O;rw[g]at d;have ah:0≤o.b∧o.b<p.regs:=by omega
  go_wp2_with fail;refine Q (p.regs+p.slots) ab _ f.rd (by omega) (by omega) ?_;intro E F H I;have c:=f.next I;clear j l m r s u v d A B C;have j:=c.view.cell (i:=0) rfl;have l:=c.view.cell (i:=1) rfl;have m:=c.view.cell (i:=2) rfl;have r:=c.view.cell (i:=3) rfl;have s:=c.view.cell (i:=4) rfl;have u:=c.view.cell (i:=5) rfl;have v:=c.view.cell (i:=6) rfl;have d:=c.op.cell (i:=0) rfl;have A:=c.op.cell (i:=1) rfl;have B:=c.op.cell (i:=2) rfl;have C:=c.op.cell (i:=3) rfl;rw[g]at d;go_wp2_with fail;refine Q (o.b) F _ c.rd (by omega) (by omega) ?_;intro ak al am V;have a:=c.next V;clear j l m r s u v d A B C;have j:=a.view.cell (i:=0) rfl;have l:=a.view.cell (i:=1) rfl;have m:=a.view.cell (i:=2) rfl;have r:=a.view.cell (i:=3) rfl;have s:=a.view.cell (i:=4) rfl;have u:=a.view.cell (i:=5) rfl;have v:=a.view.cell (i:=6) rfl;have d:=a.op.cell (i:=0) rfl;have A:=a.op.cell (i:=1) rfl;have B:=a.op.cell (i:=2) rfl;have C:=a.op.cell (i:=3) rfl;rw[g]at d;go_wp2_with fail;refine tR _ _ E ak al _ (H.ab V) am (X.out _ (by omega) (by omega)) (X.out _ (by omega) (by omega)) ?_;intro ae af ag S;have K:Hid (M (Xq (Pq (y ⟨ae,0,z⟩))) af):=h.out ae af ag (a.ab.trans (S.mono a.ab.size));clear h ag S j l m r s u v d A B C;go_wp2;exact K.out
 ·have h:=D (J.out _ (uz ho O.out g));generalize aZ p.regs p.slots o=ad at*;clear J O;rw[g]at d;have ah:(0≤o.a∧o.a<p.regs)∧(0≤o.b∧o.b<p.regs):=by omega
  go_wp2_with fail;refine Q (p.regs+p.slots) ab _ f.rd (by omega) (by omega) ?_;intro E F H I;have c:=f.next I;clear j l m r s u v d A B C;have j:=c.view.cell (i:=0) rfl;have l:=c.view.cell (i:=1) rfl;have m:=c.view.cell (i:=2) rfl;have r:=c.view.cell (i:=3) rfl;have s:=c.view.cell (i:=4) rfl;have u:=c.view.cell (i:=5) rfl;have v:=c.view.cell (i:=6) rfl;have d:=c.op.cell (i:=0) rfl;have A:=c.op.cell (i:=1) rfl;have B:=c.op.cell (i:=2) rfl;have C:=c.op.cell (i:=3) rfl;rw[g]at d;go_wp2_with fail;refine Q (o.a) F _ c.rd (by omega) (by omega) ?_;intro ak al am V;have a:=c.next V;clear j l m r s u v d A B C;have j:=a.view.cell (i:=0) rfl;have l:=a.view.cell (i:=1) rfl;have m:=a.view.cell (i:=2) rfl;have r:=a.view.cell (i:=3) rfl;have s:=a.view.cell (i:=4) rfl;have u:=a.view.cell (i:=5) rfl;have v:=a.view.cell (i:=6) rfl;have d:=a.op.cell (i:=0) rfl;have A:=a.op.cell (i:=1) rfl;have B:=a.op.cell (i:=2) rfl;have C:=a.op.cell (i:=3) rfl;rw[g]at d;go_wp2_with fail;refine Q (o.b) al _ a.rd (by omega) (by omega) ?_;intro ae af ag S;have P:=a.next S;clear j l m r s u v d A B C;have j:=P.view.cell (i:=0) rfl;have l:=P.view.cell (i:=1) rfl;have m:=P.view.cell (i:=2) rfl;have r:=P.view.cell (i:=3) rfl;have s:=P.view.cell (i:=4) rfl;have u:=P.view.cell (i:=5) rfl;have v:=P.view.cell (i:=6) rfl;have d:=P.op.cell (i:=0) rfl;have A:=P.op.cell (i:=1) rfl;have B:=P.op.cell (i:=2) rfl;have C:=P.op.cell (i:=3) rfl;rw[g]at d;go_wp2_with fail;refine vm _ _ _ E ak ae af ((H.ab V).ab S) (am.ab S) ag (X.out _ (by omega) (by omega)) (X.out _ (by omega) (by omega)) (X.out _ (by omega) (by omega)) _ ?_;intro a0 a1 a2 a3;have K:Hid (M (Xq (Pq (y ⟨a0,0,z⟩))) a1):=h.out a0 a1 a2 (P.ab.trans (a3.mono P.ab.size));clear h a2 a3 j l m r s u v d A B C;go_wp2;exact K.out
 ·have h:=D (J.out _ (oE ho O.out (.inr g)));generalize aZ p.regs p.slots o=ad at*;clear J O;rw[g]at d;have ah:0≤o.b∧o.b<p.regs:=by omega
  go_wp2_with fail;refine Q o.b ab _ f.rd (by omega) (by omega) ?_;intro E F H I;have K:Hid (M (Xq (Pq (y ⟨E,0,z⟩))) F):=h.out E F H (f.ab.trans (I.mono f.ab.size));clear h H I j l m r s u v d A B C;go_wp2;exact K.out
 ·have h:=D (J.out _ (xM ho O.out g));generalize aZ p.regs p.slots o=ad at*;clear J O;rw[g]at d;have ah:0≤o.b∧o.b<p.slots:=by omega
  go_wp2_with fail;refine Q (p.regs+o.b) ab _ f.rd (by omega) (by omega) ?_;intro E F H I;have K:Hid (M (Xq (Pq (y ⟨E,0,z⟩))) F):=h.out E F H (f.ab.trans (I.mono f.ab.size));clear h H I j l m r s u v d A B C;go_wp2;exact K.out
theorem zP{w:W}{B:Nat}{v:Vq}{l:List Int}(h:w.ownsRow B 3 1 v l.length (bL l)):aM w v l:=by obtain⟨c,cap,rfl⟩:=af h;refine⟨c,cap,rfl,iZ h,fun i a=>?_⟩;obtain⟨b,rfl,_,d,hc⟩:=cg h rfl (i:=i) (by rw[bH];exact a);refine⟨b,0,rfl,?_⟩;rw[Nat.zero_add,hc];simp[bL,List.getD,a]
theorem zm(w:W)(x:Vq)(t:TypeId):∀j u,[x][j]?=y u→(w.alloc (Y #[x] t)).cell? ((⟨w.heap.size,0,z⟩:Addr).add j)=y u:=by intro j u a;match j,a with|0,a=>simp at a;subst a;simp[Addr.add]
theorem zn(x:Int):∀u∈[Value.int Z x],u.oneCell'=true:=by intro u a;simp at a;subst a;rfl
def rC(regs:Int)(k:Nat):List Int:=(List.range k).map fun(i:Nat)=>if(i:Int)<regs then(i:Int)else-1
theorem wT(regs:Int)(k:Nat):(rC regs k).length=k:=by simp[rC]
theorem AO(regs:Int)(k:Nat):bL (rC regs (k+1))=bL (rC regs k)++[N Z (if(k:Int)<regs then(k:Int)else-1)]:=by rw[←jf];simp[rC,List.range_succ]
def Dn(w:W)(g:Nat)(a b c d e f h:Vq):W:=((((((w.setCell ⟨g,0,z⟩ a).setCell ⟨g,1,z⟩ b).setCell ⟨g,2,z⟩ c).setCell ⟨g,3,z⟩ d).setCell ⟨g,4,z⟩ e).setCell ⟨g,5,z⟩ f).setCell ⟨g,6,z⟩ h
theorem dZ{w0 w:W}(h:G w0.heap.size w0 w){g i:Nat}(b:w0.heap.size≤g)(u:Vq):G w0.heap.size w0 (w.setCell ⟨g,i,z⟩ u):=⟨h.os,h.tape,h.output,by simpa using h.size,fun k a=>(Below.heap_setCell _ _ _ _ (by show k≠g;omega)).trans (h.block k a)⟩
theorem rZ{w0 w:W}(h:G w0.heap.size w0 w){g:Nat}(i:w0.heap.size≤g)(a b c d e f u:Vq):G w0.heap.size w0 (Dn w g a b c d e f u):=dZ (dZ (dZ (dZ (dZ (dZ (dZ h i _) i _) i _) i _) i _) i _) i _
theorem ud{w:W}{base:Nat}{e:TypeId}{j:Nat}{v:Vq}{n:Nat}{xs:List Vq}(h:w.ownsRow base e j v n xs){g:Nat}(i:g<base)(a b c d q f u:Vq):(Dn w g a b c d q f u).ownsRow base e j v n xs:=ownsRow_setCell_below (ownsRow_setCell_below (ownsRow_setCell_below (ownsRow_setCell_below (ownsRow_setCell_below (ownsRow_setCell_below (ownsRow_setCell_below h i _) i _) i _) i _) i _) i _) i _
def xE:List Vq:=[N Z 0,N Z 0,N Z 0,N Z 0,L z 0 0,N Z 0,L z 0 0]
theorem mH(p:a8)(c:Option Addr)(d pc b:Nat)(w:W)(aA:0≤p.regs∧p.regs≤8)(aB:0≤p.slots∧p.slots≤8)(K:Ending→W→Prop)(u:∀R w',w'.ownsRow w.heap.size 3 1 R (ax p.regs p.slots).length (bL (ax p.regs p.slots))→G w.heap.size w w'→K (Xq (ca p (L c d pc) b R)) w'):Calls Tryz.prog 115 #[dy p (L c d pc),N Z b] w K:=by
 obtain⟨S,T,U,V,X⟩:=info_parts Tryz.gh;have aa:ax p.regs p.slots=rC p.regs (p.regs+p.slots).toNat:=rfl;rw[aa,wT]at u;unfold ca at u;unfold dy;obtain⟨n,ab⟩:∃n:Nat,(p.regs+p.slots).toNat=n:=⟨_,rfl⟩;have aC:p.regs+p.slots=n:=by omega
 rw[ab]at u;have ac:=D u;clear u aa ab;generalize p.args=e at*;generalize p.regs=a at*;generalize p.data=f at*;generalize p.slots=ps at*;have o:Row (((w.alloc (Y #[N Z e,N Z a,N Z f,N Z ps,L c d pc] 25)).alloc (Y #[N Z 0,N Z 0,N Z 0,N Z 0,L z 0 0,N Z 0,L z 0 0] 164)).alloc (Y #[N Z e,N Z a,N Z f,N Z ps,L c d pc,N Z b,L z 0 0] 164)) w.heap.size 25 [N Z e,N Z a,N Z f,N Z ps,L c d pc]:=Row.alloc (Row.alloc (heap_alloc_new w _) _) _;have h:Row (((w.alloc (Y #[N Z e,N Z a,N Z f,N Z ps,L c d pc] 25)).alloc (Y #[N Z 0,N Z 0,N Z 0,N Z 0,L z 0 0,N Z 0,L z 0 0] 164)).alloc (Y #[N Z e,N Z a,N Z f,N Z ps,L c d pc,N Z b,L z 0 0] 164)) (w.heap.size+1) 164 xE:=Row.alloc (heap_alloc2_new w _ _) _;have m:Row (((w.alloc (Y #[N Z e,N Z a,N Z f,N Z ps,L c d pc] 25)).alloc (Y #[N Z 0,N Z 0,N Z 0,N Z 0,L z 0 0,N Z 0,L z 0 0] 164)).alloc (Y #[N Z e,N Z a,N Z f,N Z ps,L c d pc,N Z b,L z 0 0] 164)) (w.heap.size+2) 164 [N Z e,N Z a,N Z f,N Z ps,L c d pc,N Z b,L z 0 0]:=by have:=heap_alloc_new ((w.alloc (Y #[N Z e,N Z a,N Z f,N Z ps,L c d pc] 25)).alloc (Y #[N Z 0,N Z 0,N Z 0,N Z 0,L z 0 0,N Z 0,L z 0 0] 164)) (Y #[N Z e,N Z a,N Z f,N Z ps,L c d pc,N Z b,L z 0 0] 164);simp only[World.size_alloc]at this;exact this
 have ad:G w.heap.size w (((w.alloc (Y #[N Z e,N Z a,N Z f,N Z ps,L c d pc] 25)).alloc (Y #[N Z 0,N Z 0,N Z 0,N Z 0,L z 0 0,N Z 0,L z 0 0] 164)).alloc (Y #[N Z e,N Z a,N Z f,N Z ps,L c d pc,N Z b,L z 0 0] 164)):=(((Below.refl _ _).alloc (Rq _) _).alloc (by simp) _).alloc (by simp;omega) _;have ae:w.heap.size+3≤(((w.alloc (Y #[N Z e,N Z a,N Z f,N Z ps,L c d pc] 25)).alloc (Y #[N Z 0,N Z 0,N Z 0,N Z 0,L z 0 0,N Z 0,L z 0 0] 164)).alloc (Y #[N Z e,N Z a,N Z f,N Z ps,L c d pc,N Z b,L z 0 0] 164)).heap.size:=by simp
 go_enter Tryz.func115,Tryz.ntmps115;go_wp2;go_loopw[6](fun i wr=>∃(k:Nat)(sv:Vq),k≤n∧i=N Z k∧Row wr w.heap.size 25 [N Z e,N Z a,N Z f,N Z ps,L c d pc]∧Row wr (w.heap.size+1) 164 xE∧Row wr (w.heap.size+2) 164 [N Z e,N Z a,N Z f,N Z ps,L c d pc,N Z b,sv]∧wr.ownsRow (w.heap.size+3) 3 1 sv k (bL (rC a k))∧G w.heap.size w wr∧w.heap.size+3≤wr.heap.size)(fun i _=>n-(intOf i).toNat);case atStart=>exact⟨0,L z 0 0,Nat.zero_le _,rfl,o,h,m,World.ownsRow_nil _ _ _ _,ad,ae⟩
 case round=>
  clear o h m ad ae;obtain⟨k,sv,aD,rfl,o,h,m,r,M,hz⟩:=hrel;obtain⟨A,B,rfl⟩:=af r;have ag:=o.cell (i:=1) rfl;have ah:=o.cell (i:=3) rfl;have ai:=m.cell (i:=6) rfl;by_cases aE:k<n
  ·have aj:Hid (bL (rC a (k+1))=bL (rC a k)++[N Z (if(k:Int)<a then(k:Int)else-1)]):=AO a k;have ak:∀(x:Int)(j:Vq)(l:W),x=(if(k:Int)<a then(k:Int)else-1)→l.ownsRow (w.heap.size+3) 3 1 j (k+1) (bL (rC a k)++[N Z x])→(wr.alloc (Y #[N Z x] 3)).grownBy l (Value.slice A k B).ownBlock→∃C E,j=L C (k+1) E∧l.cell? ⟨w.heap.size+2,6,z⟩=y (L A k B)∧l.frozen? ⟨w.heap.size+2,6,z⟩=false∧Row (l.setCell ⟨w.heap.size+2,6,z⟩ j) w.heap.size 25 [N Z e,N Z a,N Z f,N Z ps,L c d pc]∧Row (l.setCell ⟨w.heap.size+2,6,z⟩ j) (w.heap.size+1) 164 xE∧Row (l.setCell ⟨w.heap.size+2,6,z⟩ j) (w.heap.size+2) 164 [N Z e,N Z a,N Z f,N Z ps,L c d pc,N Z b,j]∧(l.setCell ⟨w.heap.size+2,6,z⟩ j).ownsRow (w.heap.size+3) 3 1 j (k+1) (bL (rC a (k+1)))∧G w.heap.size w (l.setCell ⟨w.heap.size+2,6,z⟩ j)∧w.heap.size+3≤(l.setCell ⟨w.heap.size+2,6,z⟩ j).heap.size:=by intro x j l am q s;rw[am,←aj.out]at q;have F:=((Below.refl (w.heap.size+3) wr).alloc hz (Y #[N Z x] 3)).grown s (by simp;omega) (fun g an=>(r.lt g an).1);have H:=o.below F (by omega);have I:=h.below F (by omega);have t:=m.below F (by omega);obtain⟨C,E,rfl⟩:=af q;refine⟨C,E,rfl,t.cell (i:=6) rfl,t.frozen 6,H.a7 (by show w.heap.size≠w.heap.size+2;omega) _,I.a7 (by show w.heap.size+1≠w.heap.size+2;omega) _,t.set 6 _,ownsRow_setCell_below q (by show w.heap.size+2<w.heap.size+3;omega) _,dZ (M.trans (F.mono (by omega))) (by omega) _,?_⟩;have:=F.size;simp;omega
   have J:=D ak;clear ak aj;by_cases aF:(k:Int)<a
   ·go_wp2_with(at_builtin;refine wpList_append_own _ rfl _ _ 22 rfl (w.heap.size+3) 3 S (N Z 0) 1 8 Tryz.underlying22 T U V X rfl (by decide) _ _ _ rfl (r.alloc _) ⟨wr.heap.size,0,z⟩ 1 1 [N Z k] rfl rfl ?c1 (zn _) ?c3 ?c4 ?c5 ?_);case c1=>exact zm wr _ _
    case c3=>unfold maxLen;omega
    case c4=>omega
    case c5=>simp;omega
    intro j l q s _;obtain⟨C,E,rfl,ao,al,H,I,t,O,P,Q⟩:=J.out k j l (by rw[if_pos (by omega)]) q s;clear J r q s o h m ag ah ai;go_wp2;go_roundw;case rel=>exact⟨k+1,_,by omega,by go_num,H,I,t,O,P,Q⟩
    case measure=>simp[intOf];omega
   ·go_wp2_with(at_builtin;refine wpList_append_own _ rfl _ _ 22 rfl (w.heap.size+3) 3 S (N Z 0) 1 8 Tryz.underlying22 T U V X rfl (by decide) _ _ _ rfl (r.alloc _) ⟨wr.heap.size,0,z⟩ 1 1 [N Z (-1)] rfl rfl ?d1 (zn _) ?d3 ?d4 ?d5 ?_);try(case d1=>exact zm wr _ _)
    case d3=>unfold maxLen;omega
    case d4=>omega
    case d5=>first|omega|(simp;omega)
    intro j l q s _;obtain⟨C,E,rfl,ao,al,H,I,t,O,P,Q⟩:=J.out (-1) j l (by rw[if_neg (by omega)]) q s;clear J r q s o h m ag ah ai;go_wp2;go_roundw;case rel=>exact⟨k+1,_,by omega,by go_num,H,I,t,O,P,Q⟩
    case measure=>simp[intOf];omega
  ·obtain rfl:k=n:=by omega
   have ap:Hid (K (Xq (Aq #[N Z e,N Z a,N Z f,N Z ps,L c d pc,N Z b,L A k B])) (Dn wr (w.heap.size+1) (N Z e) (N Z a) (N Z f) (N Z ps) (L c d pc) (N Z b) (L A k B))):=ac.out _ _ (a_ (ud r (by omega) _ _ _ _ _ _ _) (by omega)) (rZ M (by omega) _ _ _ _ _ _ _);have aG:=m.cell (i:=0) rfl;have aH:=m.cell (i:=1) rfl;have aI:=m.cell (i:=2) rfl;have aJ:=m.cell (i:=3) rfl;have aK:=m.cell (i:=4) rfl;have aL:=m.cell (i:=5) rfl;have aq:=h.cell (i:=0) rfl;have ar:=h.cell (i:=1) rfl;have au:=h.cell (i:=2) rfl;have av:=h.cell (i:=3) rfl;have aw:=h.cell (i:=4) rfl;have ay:=h.cell (i:=5) rfl;have az:=h.cell (i:=6) rfl;have aM:=h.frozen 0;have aN:=h.frozen 1;have aO:=h.frozen 2;have aP:=h.frozen 3;have aQ:=h.frozen 4;have aR:=h.frozen 5;have al:=h.frozen 6;clear ac o h m r M;go_wp2;exact bodyPost_ret (v:=Aq #[N Z e,N Z a,N Z f,N Z ps,L c d pc,N Z b,L A k B]) (by simp[results,Tryz.results115,go_sem,aq,ar,au,av,aw,ay,az]) rfl ap.out
theorem ry(regs slots:Int)(h:regs≤1000):∀x∈ax regs slots,x≤1000:=by intro x a;simp only[ax,List.mem_map,List.mem_range]at a;obtain⟨i,b,rfl⟩:=a;split<;>omega
theorem wX(p:a8)(a c:Vq)(b:Nat)(names:List Int)(d:aB p=true)(e:b<p.blocks.length)(f:∀x∈names,x≤1000):∀k,k≤(aj p.blocks b).length→pK p a c b names k:=by intro k;induction k with|zero=>intro _;exact vi p a c b names (by obtain⟨i,_,_,j⟩:=bF d;omega)|succ k g=>intro h;exact vh p a c b names d e f k h (g (by omega))
theorem lI(p:a8)(a c:Vq)(b:Nat)(names:List Int)(f:aB p=true)(g:b<p.blocks.length)(h:∀x∈names,x≤1000)(k:Nat)(i:k≤(aj p.blocks b).length)(place:Int)(w:W)(d:Ending→W→Prop)(j:gj w p a c names)(l:0≤place)(m:place≤p.regs+p.slots)(o:∀e w',aA w' (aD p.regs p.slots names (aj p.blocks b) k place) e→G w.heap.size w w'→d (Xq (Pq (y ⟨e,0,z⟩))) w'):Calls Tryz.prog 150 #[ca p a b c,N Z k,N Z place] w d:=by obtain⟨n,rfl⟩:=Int.eq_ofNat_of_zero_le l;exact wX p a c b names f g h k i n w d j m o
theorem rK(p:a8)(c d:Vq)(b:Nat)(names:List Int)(j:aB p=true)(f:b<p.blocks.length)(r:∀x∈names,x≤1000)(place:Int)(w:W)(g:Ending→W→Prop)(h:gj w p c d names)(s:0≤place)(t:place≤p.regs+p.slots)(k:∀l w',aA w' (aD p.regs p.slots names (aj p.blocks b) (aj p.blocks b).length place) l→G w.heap.size w w'→g (Xq (Pq (y ⟨l,0,z⟩))) w'):Calls Tryz.prog 117 #[ca p c b d,N Z place] w g:=by
 have e:G w.heap.size w (w.alloc (Y #[N Z p.args,N Z p.regs,N Z p.data,N Z p.slots,c,N Z b,d] 164)).drew:=((Below.refl _ _).alloc (Rq _) _).drew;have a:Row (w.alloc (Y #[N Z p.args,N Z p.regs,N Z p.data,N Z p.slots,c,N Z b,d] 164)).drew w.heap.size 164 (nJ p c b d):=heap_alloc_new w _;have q:=fun P=>lI p c d b names j f r _ (Rq _) place _ P (h.ab e) s t;have Q:=(de j f).1;have u:=a.cell (i:=0) rfl;have v:=a.cell (i:=1) rfl;have A:=a.cell (i:=2) rfl;have B:=a.cell (i:=3) rfl;have C:=a.cell (i:=4) rfl;have E:=a.cell (i:=5) rfl;have F:=a.cell (i:=6) rfl;obtain⟨R,cap,rfl,H,hc⟩:=h.blocks;obtain⟨S,T,sv,rfl,m,_,_,_,_,I⟩:=hc b f;obtain⟨U,V,rfl,J,K⟩:=I;have M:=aa e m;have X:(0:Int)≤(b:Int):=by omega
 have ab:(b:Int)<(p.blocks.length:Int):=by omega
 unfold ca at q⊢;clear a m hc K h H J;go_enter Tryz.func117,Tryz.ntmps117;go_wp2;refine nK 11 (by kernel_rfl) (by kernel_rfl) ?_;simp only[List.take_succ_cons,List.take_zero,List.drop_succ_cons,List.drop_zero];repeat still_step
 refine wpStill_nil ?_;go_wp2_with fail;refine q _ ?_;intro g2 n o b2;have O:Hid (g (Xq (Pq (y ⟨g2,0,z⟩))) n):=k g2 n o (e.trans (b2.mono e.size));clear k o b2 q u v A B C E F M;go_wp2;exact O.out
def p8(regs slots:Int)(names:List Int)(ops:List dr)(k:Nat):Prop:=3≤cD ops k∧cD ops k≤13∧4095<(aD regs slots names ops (k+1) (aZ regs slots (ops.getD k oz))).size
theorem zY{regs slots:Int}{names:List Int}{ops:List dr}{k:Nat}(a:k<ops.length)(h:p8 regs slots names ops k):dK regs slots names ops=true:=by unfold dK;rw[List.any_eq_true];exact⟨k,by simpa using a,by simp only[decide_eq_true_eq];exact h⟩
theorem xO{regs slots:Int}{names:List Int}{ops:List dr}(h:∀k,k<ops.length→¬p8 regs slots names ops k):dK regs slots names ops=false:=by unfold dK;rw[List.any_eq_false];intro k a;simp only[decide_eq_true_eq];exact h k (by simpa using a)
theorem nC(p:a8)(g d:Vq)(b:Nat)(names:List Int)(B:aB p=true)(C:b<p.blocks.length)(ad:∀x∈names,x≤1000)(w:W)(E:gj w p g d names):Calls Tryz.prog 116 #[ca p g b d] w fun e w'=>e=Xq (Bq (dK p.regs p.slots names (aj p.blocks b)))∧G w.heap.size w w':=by
 obtain⟨aG,aT,aU,hs⟩:=bF B;obtain⟨aV,ae⟩:=de B C;have F:G w.heap.size w (w.alloc (Y #[N Z p.args,N Z p.regs,N Z p.data,N Z p.slots,g,N Z b,d] 164)):=(Below.refl _ _).alloc (Rq _) _;have a:Row (w.alloc (Y #[N Z p.args,N Z p.regs,N Z p.data,N Z p.slots,g,N Z b,d] 164)) w.heap.size 164 (nJ p g b d):=heap_alloc_new w _;have af:=fun k ag=>lI p g d b names B C ad k ag;obtain⟨aW,cap,rfl,aX,hc⟩:=id E.blocks;obtain⟨H,I,sv,rfl,ah,_,_,_,_,aH⟩:=hc b C;obtain⟨aY,a0,rfl,a1,aI⟩:=aH;have aJ:=aa F ah;have J:=a.cell (i:=4) rfl;have aK:=a.cell (i:=5) rfl;have a2:(0:Int)≤(b:Int):=by omega
 have a3:(b:Int)<(p.blocks.length:Int):=by omega
 have aL:=D E;have ai:=D a;have ak:=D F;unfold ca at af⊢;clear a E ah hc F;go_enter Tryz.func116,Tryz.ntmps116;go_wp2;go_loopw[4](fun i wr=>∃(k:Nat),k≤(aj p.blocks b).length∧i=N Z k∧Hid (∀j,j<k→¬p8 p.regs p.slots names (aj p.blocks b) j)∧Row wr w.heap.size 164 (nJ p (L (y ⟨H,I,z⟩) p.blocks.length cap) b d)∧G w.heap.size w wr)(fun i _=>(aj p.blocks b).length-(intOf i).toNat);case atStart=>exact⟨0,Nat.zero_le _,rfl,fun j n=>by omega,ai.out,ak.out⟩
 case round=>
  clear ai ak aJ J aK;obtain⟨k,ag,rfl,f,a,m⟩:=hrel;by_cases r:k<(aj p.blocks b).length
  ·obtain⟨b2,a4,rfl,K,e1,e2,e3⟩:=aI k r;obtain⟨o,ho⟩:∃o,(aj p.blocks b).getD k oz=o:=⟨_,rfl⟩;have a5:=qZ (show aw p.regs p.slots o=true by rw[←ho];exact pN ae r);have M:cD (aj p.blocks b) k=o.kind:=by unfold cD;rw[ho]
   have al:oa (aj p.blocks b) k=o.a:=by unfold oa;rw[ho]
   have am:ob (aj p.blocks b) k=o.b:=by unfold ob;rw[ho]
   have an:oc (aj p.blocks b) k=o.c:=by unfold oc;rw[ho]
   have h:G w.heap.size w wr.drew:=m.drew;have ao:=aa m K;have O:=aa h K;have Q:=aa h e1;have R:=aa h e2;have T:=aa h e3;rw[M]at ao O;rw[al]at Q;rw[am]at R;rw[an]at T;have l:Hid (p8 p.regs p.slots names (aj p.blocks b) k↔(3≤o.kind∧o.kind≤13∧4095<(aD p.regs p.slots names (aj p.blocks b) (k+1) (aZ p.regs p.slots o)).size)):=by show _↔_;unfold p8;rw[M,ho]
   have a6:(0:Int)≤(k:Int):=by omega
   have a7:(k:Int)<((aj p.blocks b).length:Int):=by omega
   clear K e1 e2 e3 M al am an;by_cases U:3≤o.kind∧o.kind≤13
   ·obtain⟨V,ap⟩:=U;have rd:Row wr.drew w.heap.size 164 (nJ p (L (y ⟨H,I,z⟩) p.blocks.length cap) b d):=a;have aM:=rd.cell (i:=0) rfl;have aN:=rd.cell (i:=1) rfl;have aO:=rd.cell (i:=2) rfl;have aP:=rd.cell (i:=3) rfl;have J:=rd.cell (i:=4) rfl;have s:=o5 p (L (y ⟨H,I,z⟩) p.blocks.length cap) o.kind o.a o.b o.c wr.drew ⟨by omega,aG.2⟩ hs (by omega);have t:0≤aZ p.regs p.slots o∧aZ p.regs p.slots o≤p.regs+p.slots:=by unfold aZ;split<;>(try split)<;>omega
    have aq:aZ p.regs p.slots ⟨o.kind,o.a,o.b,o.c⟩=aZ p.regs p.slots o:=rfl;rw[aq]at s;have ar:=c_ (names:=names) (show 0≤p.regs∧p.regs≤100 by omega) (show 0≤p.slots∧p.slots≤100 by omega) ad ae (k+1) (by omega) _ t.1 t.2;have a9:(aD p.regs p.slots names (aj p.blocks b) (k+1) (aZ p.regs p.slots o)).size≤800000:=Nat.le_trans (gH p.regs p.slots names (aj p.blocks b) (k+1) _) (ns (by omega));have au:=D ar;have av:=D rd;clear aq ar a rd;unfold dy at s;go_wp2;refine nK 6 (by kernel_rfl) (by kernel_rfl) ?_;simp only[List.take_succ_cons,List.take_zero,List.drop_succ_cons,List.drop_zero];repeat still_step
    refine wpStill_nil ?_;go_wp2_with fail;refine s.mono ?_;rintro e ax⟨rfl,X⟩;have u:G w.heap.size w ax:=h.trans (X.mono h.size);have c:=av.out.ab X;have ay:=fun P=>af (k+1) r (aZ p.regs p.slots o) ax P (aL.out.ab u) t.1 t.2;have u0:=c.cell (i:=0) rfl;have u1:=c.cell (i:=1) rfl;have u2:=c.cell (i:=2) rfl;have u3:=c.cell (i:=3) rfl;have u4:=c.cell (i:=4) rfl;have u5:=c.cell (i:=5) rfl;have u6:=c.cell (i:=6) rfl;clear ao O Q R T aM aN aO aP J s X av;go_wp2_with fail;refine ay _ ?_;intro aQ az aA ab;have aC:G w.heap.size w az:=u.trans (ab.mono u.size);have aE:=c.ab ab;have ac:=AZ _ aQ az aA au.out (by omega);generalize(aD p.regs p.slots names (aj p.blocks b) (k+1) (aZ p.regs p.slots o)).size=S at*;clear ay u0 u1 u2 u3 u4 u5 u6 aA ab c au u;go_wp2_with fail;refine ac.mono ?_;rintro e a_⟨rfl,rfl⟩;by_cases aF:4095<S
    ·have aR:=D (zY r (l.out.2 ⟨V,ap,aF⟩));have aS:(4095:Int)<(S:Int):=by omega
     clear l f ac aE;go_wp2;(try simp only[Exit.inBlock,Exit.then]);refine bodyPost_ret (v:=Bq true) ?_ rfl ?_;·simp[results,Tryz.results116,go_sem]
     ·exact⟨by rw[aR.out],aC⟩
    ·have aS:¬((4095:Int)<(S:Int)):=by omega
     have A:Hid (∀j,j<k+1→¬p8 p.regs p.slots names (aj p.blocks b) j):=fun j n=>by
      by_cases e:j=k;·subst e;intro q;exact aF (l.out.1 q).2.2
      ·exact f.out j (by omega)
     clear l f ac;go_wp2;go_roundw;case rel=>exact⟨k+1,by omega,by go_num,A,aE,aC⟩
     case measure=>simp[intOf];omega
   ·have A:Hid (∀j,j<k+1→¬p8 p.regs p.slots names (aj p.blocks b) j):=fun j n=>by
     by_cases e:j=k;·subst e;intro q;have:=l.out.1 q;exact U ⟨this.1,this.2.1⟩
     ·exact f.out j (by omega)
    clear l f O Q R T;by_cases V:3≤o.kind
    ·have ap:¬(o.kind≤13):=fun q=>U ⟨V,q⟩;go_wp2;go_roundw;case rel=>exact⟨k+1,by omega,by go_num,A,a,m⟩
     case measure=>simp[intOf];omega
    ·go_wp2;go_roundw;case rel=>exact⟨k+1,by omega,by go_num,A,a,m⟩
     case measure=>simp[intOf];omega
  ·obtain rfl:k=(aj p.blocks b).length:=by omega
   have hF:=D (xO (fun j n=>f.out j n));clear f a;go_wp2;go_ret;exact⟨by rw[hF.out];rfl,m⟩
end Go.Proofs.YtblhmeidbjigaabGreatDoor
