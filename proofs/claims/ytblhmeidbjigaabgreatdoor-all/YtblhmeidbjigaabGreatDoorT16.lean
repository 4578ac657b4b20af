import Derived.Test.YtblhmeidbjigaabGreatDoorT11
import Derived.Test.YtblhmeidbjigaabGreatDoorT13
set_option linter.unusedSimpArgs false
set_option linter.unusedVariables false
set_option maxRecDepth 100000
set_option maxHeartbeats 8000000
namespace Go.Proofs.YtblhmeidbjigaabGreatDoor
open Go.RowKit
open Go.Value renaming int→N,slice→L,string→Tq
open Go.IntKind renaming i64→Z
open Go.Obj renaming cells→Y
open Go.Ending renaming returned→Xq
open Option renaming none→z,some→y
open Go.Lib renaming hid→D
open Nat renaming le_refl→Rq
open Go renaming World→W,Value→Vq
open Go.RowKit renaming Below→G
section
open Go.ChangeShapes Go.WideShapes Go.ChangeAt Go.WideMaps Go.WideElems
theorem Tryz.own:ownKnob Tryz.prog.godebug=z:=by kernel_rfl
theorem Tryz.laidOut:laidOutB Tryz.prog=true:=by kernel_rfl
theorem tab_at0{a:W}{b:List (String×DataW Unit)}(h:laidMet Tryz.prog (("internal/strconv.uint64pow10",Lib.tabData .u64 Lib.pow10Tab)::b) a):TabW a:=Lib.tabIs_of_head (g:=0) (t:=233) (e:=223) (n:=20) (by kernel_rfl) (by kernel_rfl) Tryz.underlying233 Tryz.underlying223 (by kernel_rfl) (by kernel_rfl) h
theorem tab_at1{a:W}{x:String×DataW Unit}{b:List (String×DataW Unit)}(h:laidMet Tryz.prog (x::("internal/strconv.uint64pow10",Lib.tabData .u64 Lib.pow10Tab)::b) a):TabW a:=tab_at0 (laidMet.tail h)
theorem tab_at2{a:W}{x b:String×DataW Unit}{c:List (String×DataW Unit)}(h:laidMet Tryz.prog (x::b::("internal/strconv.uint64pow10",Lib.tabData .u64 Lib.pow10Tab)::c) a):TabW a:=tab_at1 (laidMet.tail h)
end
section
variable{regs slots data:Int}{names:List Int}{ops:List dr}{k:Nat}{o:dr}
def jk(data:Int)(u:TD):List UInt8:=match u.isNum with|y n=>if 0≤n∧n<data then[]else 64::32::ae u|z=>64::32::ae u
def mY(u v:TD):List UInt8:=match u.isNum,v.isNum with|y _,y a=>if a≠0 then[]else 47::32::(ae u++32::ae v)|_,_=>47::32::(ae u++32::ae v)
theorem A6(ho:ops.getD k oz=o)(h:o.kind=11):hO regs slots data names ops k=mY (aD regs slots names ops k o.b) (aD regs slots names ops k o.c):=by subst ho;simp only[hO];rw[if_pos h];rfl
theorem xk(ho:ops.getD k oz=o){at_:Int}(h:(o.kind=12∧at_=o.b)∨(o.kind=13∧at_=o.a)):hO regs slots data names ops k=jk data (aD regs slots names ops k at_):=by
 subst ho;simp only[hO];rcases h with⟨h,rfl⟩|⟨h,rfl⟩;·rw[if_neg (by omega),if_pos (.inl h),if_pos h];rfl
 ·rw[if_neg (by omega),if_pos (.inr h),if_neg (by omega)];rfl
theorem jB(ho:ops.getD k oz=o)(h:o.kind≠11∧o.kind≠12∧o.kind≠13):hO regs slots data names ops k=[]:=by subst ho;simp only[hO];rw[if_neg h.1,if_neg (by omega)]
end
theorem oJ{data:Int}{u:TD}{n:Int}(h:u.isNum=y n)(a:0≤n∧n<data):jk data u=[]:=by unfold jk;rw[h];simp only;rw[if_pos a]
theorem mX{data:Int}{u:TD}{n:Int}(h:u.isNum=y n)(a:¬(0≤n∧n<data)):jk data u=64::32::ae u:=by unfold jk;rw[h];simp only;rw[if_neg a]
theorem l9{data:Int}{u:TD}(h:u.isNum=z):jk data u=64::32::ae u:=by unfold jk;rw[h]
theorem vZ{u v:TD}{x a:Int}(h:u.isNum=y x)(b:v.isNum=y a)(c:a≠0):mY u v=[]:=by unfold mY;rw[h,b];simp only;rw[if_pos c]
theorem my{u v:TD}(h:u.isNum=z∨v.isNum=z∨v.isNum=y 0):mY u v=47::32::(ae u++32::ae v):=by
 unfold mY;cases b:u.isNum with
  |none=>rfl
  |some x=>
   cases a:v.isNum with
    |none=>rfl
    |some c=>
     rcases h with h|h|h;·rw[b]at h;cases h
     ·rw[a]at h;cases h
     ·rw[a]at h;cases h;rfl
theorem j5(u:TD):(⟨#[64,32]⟩:ByteArray)++ay (ae u)=ay (64::32::ae u):=by show ay [64,32]++_=_;rw[cE];rfl
theorem pM(u v:TD):(⟨#[47,32]⟩:ByteArray)++ay (ae u)++⟨#[32]⟩++ay (ae v)=ay (47::32::(ae u++32::ae v)):=by show ay [47,32]++_++ay [32]++_=_;simp only[cE];congr 1;simp
theorem AU(p:a8)(ac H:Vq)(b:Nat)(names:List Int)(aJ:aB p=true)(R:b<p.blocks.length)(aX:∀x∈names,x≤1000)(k:Nat)(aK:k<(aj p.blocks b).length)(w:W)(aL:gj w p ac H names):Calls Tryz.prog 153 #[ca p ac b H,N Z k] w fun e w'=>e=Xq (Tq (ay (hO p.regs p.slots p.data names (aj p.blocks b) k)))∧G w.heap.size w w':=by
 obtain⟨bs,bt,bu,hs⟩:=bF aJ;obtain⟨bv,aY⟩:=de aJ R;have aZ:=c_ (names:=names) (show 0≤p.regs∧p.regs≤100 by omega) (show 0≤p.slots∧p.slots≤100 by omega) aX aY k (by omega);have aC:∀q:Int,(aD p.regs p.slots names (aj p.blocks b) k q).size≤4000000000000:=fun q=>by have bw:=gH p.regs p.slots names (aj p.blocks b) k q;have bx:=ns (show k≤12 by omega);omega
 obtain⟨o,ho⟩:∃o,(aj p.blocks b).getD k oz=o:=⟨_,rfl⟩;have bz:=qZ (show aw p.regs p.slots o=true by rw[←ho];exact pN aY aK);have ad:G w.heap.size w (w.alloc (Y #[N Z p.args,N Z p.regs,N Z p.data,N Z p.slots,ac,N Z b,H] 164)):=(Below.refl _ _).alloc (Rq _) _;have aM:G w.heap.size w ((w.alloc (Y #[N Z p.args,N Z p.regs,N Z p.data,N Z p.slots,ac,N Z b,H] 164)).alloc (Y #[N Z o.kind,N Z o.a,N Z o.b,N Z o.c] 36)):=ad.alloc ad.size _;have a0:(w.alloc (Y #[N Z p.args,N Z p.regs,N Z p.data,N Z p.slots,ac,N Z b,H] 164)).heap.size=w.heap.size+1:=by simp
 have aN:Et w ((w.alloc (Y #[N Z p.args,N Z p.regs,N Z p.data,N Z p.slots,ac,N Z b,H] 164)).alloc (Y #[N Z o.kind,N Z o.a,N Z o.b,N Z o.c] 36)) w.heap.size (w.heap.size+1) p ac H b names o:=⟨Row.alloc (heap_alloc_new w _) _,by have:=heap_alloc_new (w.alloc (Y #[N Z p.args,N Z p.regs,N Z p.data,N Z p.slots,ac,N Z b,H] 164)) (Y #[N Z o.kind,N Z o.a,N Z o.b,N Z o.c] 36);rw[a0]at this;exact this,aL.ab aM,aM⟩;obtain⟨bA,cap,rfl,bg,hc⟩:=aL.blocks;obtain⟨ap,aq,sv,rfl,ae,_,_,_,_,bh⟩:=hc b R;obtain⟨bB,bC,rfl,bi,a1⟩:=bh;obtain⟨b2,bD,rfl,a2,e1,e2,e3⟩:=a1 k aK;have aO:=aa ad ae;have S:=aa ad a2;have aE:=aa ad e1;have aF:=aa ad e2;have aG:=aa ad e3;have a3:cD (aj p.blocks b) k=o.kind:=by unfold cD;rw[ho]
 have a4:oa (aj p.blocks b) k=o.a:=by unfold oa;rw[ho]
 have a5:ob (aj p.blocks b) k=o.b:=by unfold ob;rw[ho]
 have a6:oc (aj p.blocks b) k=o.c:=by unfold oc;rw[ho]
 rw[a3]at S;rw[a4]at aE;rw[a5]at aF;rw[a6]at aG;clear a0 a2 e1 e2 e3 ae hc a1 a3 a4 a5 a6 ad aM aL;have bE:(0:Int)≤(b:Int):=by omega
 have bG:(b:Int)<(p.blocks.length:Int):=by omega
 have bH:(0:Int)≤(k:Int):=by omega
 have bJ:(k:Int)<((aj p.blocks b).length:Int):=by omega
 have a7:=lI p (L (y ⟨ap,aq,z⟩) p.blocks.length cap) H b names aJ R aX k (Nat.le_of_lt aK);have M:=fun place w P=>a7 place w P;have B:=D aN.rd.E9;have j:=D aN;have ab:=D aZ;have s:o.kind=1∨(3≤o.kind∧o.kind≤11)∨o.kind=2∨o.kind=12∨o.kind=13∨o.kind=14∨o.kind=15:=by omega
 unfold ca at M⊢;clear aN aZ bi bg a7;rcases s with s|s|s|s|s|s|s;·have g:=D (jB (data:=p.data) (names:=names) (regs:=p.regs) (slots:=p.slots) ho (by omega));have a:=D j.out.ab;clear M j B ab;rw[s]at S a;go_enter Tryz.func153,Tryz.ntmps153;go_wp2;go_ret;exact⟨by rw[g.out];rfl,a.out⟩
 ·by_cases aP:o.kind=11
  ·have a9:(0≤o.b∧o.b<p.regs)∧(0≤o.c∧o.c<p.regs):=by omega
   have g:=D (A6 (data:=p.data) (names:=names) (regs:=p.regs) (slots:=p.slots) ho aP);have t:=ab.out o.b (by omega) (by omega);have ax:=ab.out o.c (by omega) (by omega);have I:=aC o.b;have aH:=aC o.c;have a_:=dm t I;have bK:=dm ax aH;have T:=D t;have aQ:=D ax;have m:=D (And.intro (bI t) (dO t));have ar:=D (And.intro (bI ax) (dO ax));have U:=fun P=>M o.b ((w.alloc (Y #[N Z p.args,N Z p.regs,N Z p.data,N Z p.slots,L (y ⟨ap,aq,z⟩) p.blocks.length cap,N Z b,H] 164)).alloc (Y #[N Z o.kind,N Z o.a,N Z o.b,N Z o.c] 36)) P j.out.rd (by omega) (by omega);have ba:0≤o.c∧o.c≤p.regs+p.slots:=by omega
   rw[aP]at S U j B;clear t ax s;go_enter Tryz.func153,Tryz.ntmps153;go_wp2_with fail;refine U _ ?_;intro V r O C;have A:=j.out;have af:=A.view.ab C;have bb:=A.op.ab C;have aR:=A.rd.ab C;have al:=A.ab.trans (C.mono A.ab.size);have bc:=fun P=>M o.c r P aR ba.1 ba.2;have bj:=af.cell (i:=0) rfl;have bk:=af.cell (i:=1) rfl;have bl:=af.cell (i:=2) rfl;have bm:=af.cell (i:=3) rfl;have bn:=af.cell (i:=4) rfl;have bo:=af.cell (i:=5) rfl;have bp:=af.cell (i:=6) rfl;have bq:=bb.cell (i:=3) rfl;have bd:=D aR.E9;clear U C aO S aE aF aG j A af bb aR M B;go_wp2_with fail;refine bc _ ?_;intro aS E aI h;have X:=D (O.ab h);have aT:=D aI;have ae:=(O.ab h).cM;have br:=aI.cM;have d1:=aI.iu;have am:=D (al.trans (h.mono al.size));have au:=D (bd.out.ab h);clear bc O aI h al bd bj bk bl bm bn bo bp bq;generalize aD p.regs p.slots names (aj p.blocks b) k o.b=u at*;generalize aD p.regs p.slots names (aj p.blocks b) k o.c=v at*;by_cases d:u.kind=100
   ·have f:=m.out.1.1 d;rw[d]at ae;by_cases av:v.kind=100
    ·have ag:=ar.out.1.1 av;rw[av]at br;by_cases hz:v.num=0;·rw[hz]at ag d1;have l:=D (my (u:=u) (v:=v) (.inr (.inr ag)));clear m ar f ag d av hz;have c:=dD u V E X.out (au.out) T.out I;have ah:=fun J(R:G E.heap.size E J)=>dD v aS J (aT.out.ab R) (au.out.ab R) aQ.out aH;go_wp2_with fail;refine c.mono ?_;rintro e J⟨rfl,K⟩;go_wp2_with fail;refine(ah J K).mono ?_;rintro e be⟨rfl,ai⟩;have ak:=K.trans (ai.mono K.size);have a:=D (am.out.trans (ak.mono am.out.size));clear c ah K ai ak;go_wp2;go_ret;exact⟨by rw[g.out,l.out,←pM];rfl,a.out⟩
     ·have l:=D (vZ f ag hz);have bL:(v.num==0)=false:=by simp[hz]
      clear m ar f ag d av;generalize v.num=n at*;go_wp2;go_ret;exact⟨by rw[g.out,l.out];rfl,am.out⟩
    ·have ag:=ar.out.2.1 av;have l:=D (my (u:=u) (v:=v) (.inr (.inl ag)));have aU:(v.kind==100)=false:=by simp[av]
     clear m ar f ag d;generalize v.kind=bM at*;have c:=dD u V E X.out (au.out) T.out I;have ah:=fun J(R:G E.heap.size E J)=>dD v aS J (aT.out.ab R) (au.out.ab R) aQ.out aH;go_wp2_with fail;refine c.mono ?_;rintro e J⟨rfl,K⟩;go_wp2_with fail;refine(ah J K).mono ?_;rintro e be⟨rfl,ai⟩;have ak:=K.trans (ai.mono K.size);have a:=D (am.out.trans (ak.mono am.out.size));clear c ah K ai ak;go_wp2;go_ret;exact⟨by rw[g.out,l.out,←pM];rfl,a.out⟩
   ·have f:=m.out.2.1 d;have l:=D (my (u:=u) (v:=v) (.inl f));have aU:(u.kind==100)=false:=by simp[d]
    clear m ar f;generalize u.kind=bf at*;have c:=dD u V E X.out (au.out) T.out I;have ah:=fun J(R:G E.heap.size E J)=>dD v aS J (aT.out.ab R) (au.out.ab R) aQ.out aH;go_wp2_with fail;refine c.mono ?_;rintro e J⟨rfl,K⟩;go_wp2_with fail;refine(ah J K).mono ?_;rintro e be⟨rfl,ai⟩;have ak:=K.trans (ai.mono K.size);have a:=D (am.out.trans (ak.mono am.out.size));clear c ah K ai ak;go_wp2;go_ret;exact⟨by rw[g.out,l.out,←pM];rfl,a.out⟩
  ·have bN:(o.kind==11)=false:=by simp[aP]
   have bO:(o.kind==12)=false:=by simp;omega
   have bP:(o.kind==13)=false:=by simp;omega
   have g:=D (jB (data:=p.data) (names:=names) (regs:=p.regs) (slots:=p.slots) ho (by omega));have a:=D j.out.ab;clear M j B ab;go_enter Tryz.func153,Tryz.ntmps153;go_wp2;go_ret;exact⟨by rw[g.out];rfl,a.out⟩
 ·have g:=D (jB (data:=p.data) (names:=names) (regs:=p.regs) (slots:=p.slots) ho (by omega));have a:=D j.out.ab;clear M j B ab;rw[s]at S a;go_enter Tryz.func153,Tryz.ntmps153;go_wp2;go_ret;exact⟨by rw[g.out];rfl,a.out⟩
 ·have a9:0≤o.b∧o.b<p.regs:=by omega
  have g:=D (xk (data:=p.data) (names:=names) (regs:=p.regs) (slots:=p.slots) ho (at_:=o.b) (.inl ⟨s,rfl⟩));have t:=ab.out o.b (by omega) (by omega);have I:=aC o.b;have a_:=dm t I;have T:=D t;have m:=D (And.intro (bI t) (dO t));have U:=fun P=>M o.b ((w.alloc (Y #[N Z p.args,N Z p.regs,N Z p.data,N Z p.slots,L (y ⟨ap,aq,z⟩) p.blocks.length cap,N Z b,H] 164)).alloc (Y #[N Z o.kind,N Z o.a,N Z o.b,N Z o.c] 36)) P j.out.rd (by omega) (by omega);rw[s]at S U j B;clear t M;go_enter Tryz.func153,Tryz.ntmps153;go_wp2_with fail;refine U _ ?_;intro V r O C;have A:=j.out;have d2:=(A.view.ab C).cell (i:=2) rfl;have al:=A.ab.trans (C.mono A.ab.size);have X:=D O;have ae:=O.cM;have c1:=O.iu;have an:∀n,G r.heap.size r (r.drewN n):=fun n=>below_drewN (Below.refl _ _) n;have F:∀n,G w.heap.size w (r.drewN n):=fun n=>below_drewN al n;have ao:∀n,G ((w.alloc (Y #[N Z p.args,N Z p.regs,N Z p.data,N Z p.slots,L (y ⟨ap,aq,z⟩) p.blocks.length cap,N Z b,H] 164)).alloc (Y #[N Z 12,N Z o.a,N Z o.b,N Z o.c] 36)).heap.size _ (r.drewN n):=fun n=>below_drewN C n;generalize aD p.regs p.slots names (aj p.blocks b) k o.b=u at*;clear U C O aO S aE aF aG j A;by_cases d:u.kind=100
  ·have f:=m.out.1.1 d;rw[d]at ae;by_cases Q:0≤u.num∧u.num<p.data;·have l:=D (oJ f Q);obtain⟨az,aV⟩:=Q;clear m f d;generalize u.num=n at*;go_wp2;go_quiet(fail);go_wp2;go_ret;exact⟨by rw[g.out,l.out];rfl,F nq⟩
   ·have l:=D (mX f Q);by_cases az:0≤u.num
    ·have aV:¬(u.num<p.data):=fun q=>Q ⟨az,q⟩;have aW:p.data≤u.num:=by omega
     have aA:decide (u.num<p.data)=false:=by simp;omega
     clear m f d Q;generalize u.num=n at*;go_wp2;go_quiet(fail);have c:=dD u V (r.drewN nq) (X.out.ab (an nq)) (B.out.ab (ao nq)) T.out I;go_wp2_with fail;refine c.mono ?_;rintro e E⟨rfl,h⟩;have a:=D ((F nq).trans (h.mono (F nq).size));clear c h;go_wp2;go_ret;exact⟨by rw[g.out,l.out,←j5];rfl,a.out⟩
    ·have aW:u.num<0:=by omega
     have aA:decide (0≤u.num)=false:=by simp;omega
     clear m f d Q;generalize u.num=n at*;go_wp2;go_quiet(fail);have c:=dD u V (r.drewN nq) (X.out.ab (an nq)) (B.out.ab (ao nq)) T.out I;go_wp2_with fail;refine c.mono ?_;rintro e E⟨rfl,h⟩;have a:=D ((F nq).trans (h.mono (F nq).size));clear c h;go_wp2;go_ret;exact⟨by rw[g.out,l.out,←j5];rfl,a.out⟩
  ·have f:=m.out.2.1 d;have l:=D (l9 (data:=p.data) f);have aU:(u.kind==100)=false:=by simp[d]
   have aA:decide (u.kind=100)=false:=by simp[d]
   clear m f;generalize u.kind=bf at*;go_wp2;go_quiet(fail);have c:=dD u V (r.drewN nq) (X.out.ab (an nq)) (B.out.ab (ao nq)) T.out I;go_wp2_with fail;refine c.mono ?_;rintro e E⟨rfl,h⟩;have a:=D ((F nq).trans (h.mono (F nq).size));clear c h;go_wp2;go_ret;exact⟨by rw[g.out,l.out,←j5];rfl,a.out⟩
 ·have a9:0≤o.a∧o.a<p.regs:=by omega
  have g:=D (xk (data:=p.data) (names:=names) (regs:=p.regs) (slots:=p.slots) ho (at_:=o.a) (.inr ⟨s,rfl⟩));have t:=ab.out o.a (by omega) (by omega);have I:=aC o.a;have a_:=dm t I;have T:=D t;have m:=D (And.intro (bI t) (dO t));have U:=fun P=>M o.a ((w.alloc (Y #[N Z p.args,N Z p.regs,N Z p.data,N Z p.slots,L (y ⟨ap,aq,z⟩) p.blocks.length cap,N Z b,H] 164)).alloc (Y #[N Z o.kind,N Z o.a,N Z o.b,N Z o.c] 36)) P j.out.rd (by omega) (by omega);rw[s]at S U j B;clear t M;go_enter Tryz.func153,Tryz.ntmps153;go_wp2_with fail;refine U _ ?_;intro V r O C;have A:=j.out;have d2:=(A.view.ab C).cell (i:=2) rfl;have al:=A.ab.trans (C.mono A.ab.size);have X:=D O;have ae:=O.cM;have c1:=O.iu;have an:∀n,G r.heap.size r (r.drewN n):=fun n=>below_drewN (Below.refl _ _) n;have F:∀n,G w.heap.size w (r.drewN n):=fun n=>below_drewN al n;have ao:∀n,G ((w.alloc (Y #[N Z p.args,N Z p.regs,N Z p.data,N Z p.slots,L (y ⟨ap,aq,z⟩) p.blocks.length cap,N Z b,H] 164)).alloc (Y #[N Z 13,N Z o.a,N Z o.b,N Z o.c] 36)).heap.size _ (r.drewN n):=fun n=>below_drewN C n;generalize aD p.regs p.slots names (aj p.blocks b) k o.a=u at*;clear U C O aO S aE aF aG j A;by_cases d:u.kind=100
  ·have f:=m.out.1.1 d;rw[d]at ae;by_cases Q:0≤u.num∧u.num<p.data;·have l:=D (oJ f Q);obtain⟨az,aV⟩:=Q;clear m f d;generalize u.num=n at*;go_wp2;go_quiet(fail);go_wp2;go_ret;exact⟨by rw[g.out,l.out];rfl,F nq⟩
   ·have l:=D (mX f Q);by_cases az:0≤u.num
    ·have aV:¬(u.num<p.data):=fun q=>Q ⟨az,q⟩;have aW:p.data≤u.num:=by omega
     have aA:decide (u.num<p.data)=false:=by simp;omega
     clear m f d Q;generalize u.num=n at*;go_wp2;go_quiet(fail);have c:=dD u V (r.drewN nq) (X.out.ab (an nq)) (B.out.ab (ao nq)) T.out I;go_wp2_with fail;refine c.mono ?_;rintro e E⟨rfl,h⟩;have a:=D ((F nq).trans (h.mono (F nq).size));clear c h;go_wp2;go_ret;exact⟨by rw[g.out,l.out,←j5];rfl,a.out⟩
    ·have aW:u.num<0:=by omega
     have aA:decide (0≤u.num)=false:=by simp;omega
     clear m f d Q;generalize u.num=n at*;go_wp2;go_quiet(fail);have c:=dD u V (r.drewN nq) (X.out.ab (an nq)) (B.out.ab (ao nq)) T.out I;go_wp2_with fail;refine c.mono ?_;rintro e E⟨rfl,h⟩;have a:=D ((F nq).trans (h.mono (F nq).size));clear c h;go_wp2;go_ret;exact⟨by rw[g.out,l.out,←j5];rfl,a.out⟩
  ·have f:=m.out.2.1 d;have l:=D (l9 (data:=p.data) f);have aU:(u.kind==100)=false:=by simp[d]
   have aA:decide (u.kind=100)=false:=by simp[d]
   clear m f;generalize u.kind=bf at*;go_wp2;go_quiet(fail);have c:=dD u V (r.drewN nq) (X.out.ab (an nq)) (B.out.ab (ao nq)) T.out I;go_wp2_with fail;refine c.mono ?_;rintro e E⟨rfl,h⟩;have a:=D ((F nq).trans (h.mono (F nq).size));clear c h;go_wp2;go_ret;exact⟨by rw[g.out,l.out,←j5];rfl,a.out⟩
 ·have g:=D (jB (data:=p.data) (names:=names) (regs:=p.regs) (slots:=p.slots) ho (by omega));have a:=D j.out.ab;clear M j B ab;rw[s]at S a;go_enter Tryz.func153,Tryz.ntmps153;go_wp2;go_ret;exact⟨by rw[g.out];rfl,a.out⟩
 ·have g:=D (jB (data:=p.data) (names:=names) (regs:=p.regs) (slots:=p.slots) ho (by omega));have a:=D j.out.ab;clear M j B ab;rw[s]at S a;go_enter Tryz.func153,Tryz.ntmps153;go_wp2;go_ret;exact⟨by rw[g.out];rfl,a.out⟩
theorem lO{S:Nat→Prop}{w w':W}{base:Nat}{e:TypeId}{a:Nat}{v:Vq}{n:Nat}{xs:List Vq}(h:w.ownsRow base e a v n xs)(c:aH S w w')(d:∀g,S g→g<base):w'.ownsRow base e a v n xs:=d_ h fun g b=>c.block g (h.lt g b).2 (fun hs=>by have:=d g hs;have:=(h.lt g b).1;omega)
end Go.Proofs.YtblhmeidbjigaabGreatDoor
