import Derived.Lib.Hide
import Derived.StillTailTactics
import Derived.Test.YtblhmeidbjigaabGreatDoorT04
set_option linter.unusedSimpArgs false
set_option linter.unusedVariables false
set_option maxRecDepth 100000
set_option maxHeartbeats 8000000
namespace Go.Proofs.YtblhmeidbjigaabGreatDoor
open Go.RowKit
open Go.Value renaming int→N,string→Tq,bool→Bq,tuple→Uq,pointer→Pq
open Go.IntKind renaming i64→Z
open Go.Obj renaming cells→Y
open Go.Ending renaming returned→Xq
open Option renaming none→z,some→y
open Go.Lib renaming hid→D
open Nat renaming le_refl→Rq
open Go renaming World→W,Value→Vq
open Go.RowKit renaming Below→G
theorem dm{t:TD}(h:t.aJ)(hs:t.size≤4000000000000):(ay (ae t)).size≤96000000000000:=by have:=xq h;simp only[ay,ByteArray.size,List.size_toArray];omega
theorem xt(k:Int)(a b:TD):(⟨#[40]⟩:ByteArray)++ay [ia k]++⟨#[32]⟩++ay (ae a)++⟨#[32]⟩++ay (ae b)++⟨#[41]⟩=ay (ae (.two k a b)):=by show ay [40]++ay [ia k]++ay [32]++ay (ae a)++ay [32]++ay (ae b)++ay [41]=_;simp only[cE,ae];congr 1;simp
theorem r7(k:Int)(a b c:TD):(⟨#[40]⟩:ByteArray)++ay [ia k]++⟨#[32]⟩++ay (ae a)++⟨#[32]⟩++ay (ae b)++⟨#[32]⟩++ay (ae c)++⟨#[41]⟩=ay (ae (.three k a b c)):=by show ay [40]++ay [ia k]++ay [32]++ay (ae a)++ay [32]++ay (ae b)++ay [32]++ay (ae c)++ay [41]=_;simp only[cE,ae];congr 1;simp
theorem nS{n:Int}(h:jN n):(ay (Lib.itoa n)).size≤21:=by have:=Lib.itoa_length_le n h.1 h.2;simp only[ay,ByteArray.size,List.size_toArray];omega
theorem dD(t:TD):∀(g:Nat)(w:W),aA w t g→TabW w→t.aJ→t.size≤4000000000000→Calls Tryz.prog 118 #[Pq (y ⟨g,0,z⟩)] w fun e w'=>e=Xq (Tq (ay (ae t)))∧G w.heap.size w w':=by
 induction t with
  |leaf k n=>
   intro g w h l s hs;have J:=Row.cell (i:=0) h rfl;have c1:=Row.cell (i:=1) h rfl;obtain⟨aj,V⟩:=s;have K:=lr n V w l;have hz:=nS V;have u:Hid (∀x:ByteArray,x=ay (Lib.itoa n)→(⟨#[114]⟩:ByteArray)++x=ay (ae (.leaf 101 n))∧(⟨#[120]⟩:ByteArray)++x=ay (ae (.leaf 102 n))):=by
    intro x ak;subst ak;constructor;·show ay [114]++_=_;rw[cE];simp[ae]
    ·show ay [120]++_=_;rw[cE];simp[ae]
   have X:Hid (ay (Lib.itoa n)=ay (ae (.leaf 100 n))):=by show _=_;simp[ae]
   have al:Hid ((⟨#[109]⟩:ByteArray)=ay (ae (.leaf 103 n))):=by show ay [109]=_;simp[ae]
   have aa:Hid (∃S,S=ay (Lib.itoa n)):=⟨_,rfl⟩;obtain⟨S,M⟩:=aa.out;rw[←M]at K hz X;have ab:=u.out S M;clear u aa M;have u:Hid (((⟨#[114]⟩:ByteArray)++S=ay (ae (.leaf 101 n))∧(⟨#[120]⟩:ByteArray)++S=ay (ae (.leaf 102 n)))):=ab;clear ab;rcases aj with rfl|rfl|rfl|⟨rfl,_⟩;·generalize ay (ae (.leaf 100 n))=R at*;go_enter Tryz.func118,Tryz.ntmps118;go_wp2_with fail;refine K.mono ?_;rintro e w1⟨rfl,d⟩;go_wp2;go_ret;exact⟨by rw[←X.out];rfl,d⟩
   ·generalize ay (ae (.leaf 101 n))=R at*;go_enter Tryz.func118,Tryz.ntmps118;go_wp2_with fail;refine K.mono ?_;rintro e w1⟨rfl,d⟩;go_wp2;go_ret;exact⟨by rw[←u.out.1];rfl,d⟩
   ·generalize ay (ae (.leaf 102 n))=R at*;go_enter Tryz.func118,Tryz.ntmps118;go_wp2_with fail;refine K.mono ?_;rintro e w1⟨rfl,d⟩;go_wp2;go_ret;exact⟨by rw[←u.out.2];rfl,d⟩
   ·generalize ay (ae (.leaf 103 n))=R at*;go_enter Tryz.func118,Tryz.ntmps118;go_wp2;go_ret;exact⟨by rw[←al.out];rfl,Below.refl _ _⟩
  |two k a b v A=>
   intro g w h l s hs;obtain⟨ga,O,j,E,F⟩:=h;obtain⟨am,av,m,o⟩:=s;have aw:k≠100:=by omega
   have ax:k≠101:=by omega
   have az:k≠102:=by omega
   have aB:k≠103:=by omega
   have aC:k≠13:=by omega
   simp only[TD.size]at hs;have an:=dm m (by omega);have ao:=dm o (by omega);have P:Hid (_=_):=xt k a b;have H:=v ga w E l m (by omega);have I:=fun w'(d:G w.heap.size w w')=>A O w' (F.ab d) (l.ab d) o (by omega);have Q:=fun w'=>tS k ⟨am,by omega⟩ w';have ap:(ay [ia k]).size=1:=rfl;generalize ay [ia k]=S at*;generalize ay (ae a)=aq at*;generalize ay (ae b)=B at*;generalize ay (ae (.two k a b))=R at*;have J:=j.cell (i:=0) rfl;have c2:=j.cell (i:=2) rfl;clear v A E F m o;go_enter Tryz.func118,Tryz.ntmps118;go_wp2_with fail;refine H.mono ?_;rintro e w1⟨rfl,f⟩;have p:=j.ab f;have d3:=p.cell (i:=3) rfl;clear J c2 H;go_wp2_with fail;refine(I w1 f).mono ?_;rintro e r⟨rfl,q⟩;have ac:=(p.ab q).cell (i:=0) rfl;have d:G w.heap.size w r:=f.trans (q.mono f.size);clear d3 I f q p j;go_wp2_with fail;refine(Q r).mono ?_;rintro e T⟨rfl,rfl⟩;go_wp2;go_ret;refine⟨?_,d⟩;rw[←P.out];rfl
  |three k a b c v A ad=>intro g w h l s hs;obtain⟨ga,O,ar,j,E,F,af⟩:=h;obtain⟨rfl,m,o,U⟩:=s;simp only[TD.size]at hs;have an:=dm m (by omega);have ao:=dm o (by omega);have aD:=dm U (by omega);have P:Hid (_=_):=r7 13 a b c;have H:=v ga w E l m (by omega);have I:=fun w'(d:G w.heap.size w w')=>A O w' (F.ab d) (l.ab d) o (by omega);have ag:=fun w'(d:G w.heap.size w w')=>ad ar w' (af.ab d) (l.ab d) U (by omega);have Q:=fun w'=>tS 13 (by omega) w';have ap:(ay [ia 13]).size=1:=rfl;generalize ay [ia 13]=S at*;generalize ay (ae a)=aq at*;generalize ay (ae b)=B at*;generalize ay (ae c)=C at*;generalize ay (ae (.three 13 a b c))=R at*;have J:=j.cell (i:=0) rfl;have c2:=j.cell (i:=2) rfl;clear v A ad E F af m o U;go_enter Tryz.func118,Tryz.ntmps118;go_wp2_with fail;refine H.mono ?_;rintro e w1⟨rfl,f⟩;have p:=j.ab f;have d3:=p.cell (i:=3) rfl;clear J c2 H;go_wp2_with fail;refine(I w1 f).mono ?_;rintro e r⟨rfl,q⟩;have ah:=p.ab q;have ac:=ah.cell (i:=0) rfl;have e4:=ah.cell (i:=4) rfl;have d:G w.heap.size w r:=f.trans (q.mono f.size);clear d3 I f q p j;go_wp2_with fail;refine(Q r).mono ?_;rintro e T⟨rfl,rfl⟩;go_wp2_with fail;refine(ag r d).mono ?_;rintro e T⟨rfl,ai⟩;have au:G w.heap.size w T:=d.trans (ai.mono d.size);clear ac e4 ag d ai;go_wp2;go_ret;refine⟨?_,au⟩;rw[←P.out];rfl
noncomputable def h_(t u:TD):Bool:=@decide (t=u) (Classical.propDecidable _)
theorem fg(t:TD):h_ t t=true:=by unfold h_;simp
theorem ch{t u:TD}(h:t≠u):h_ t u=false:=by unfold h_;simp[h]
theorem dE(t u:TD):h_ t u=true↔t=u:=by unfold h_;simp
theorem jx{P:Program}{f:FuncId}{args:Array Vq}{w:W}{a n:Nat}{v:Vq}(h:Calls P f args (w.drewN (a+n)) fun e w'=>e=Xq v∧∃b,w'=(w.drewN (a+n)).drewN b):Calls P f args (w.drewN (a+n)) fun e c=>e=Xq v∧∃b,c=w.drewN (a+b):=h.mono fun _ _⟨d,b,g⟩=>⟨d,n+b,by rw[g,World.drewN_drewN,Nat.add_assoc]⟩
theorem jy{P:Program}{f:FuncId}{args:Array Vq}{w:W}{a b n:Nat}{v:Vq}(h:Calls P f args (w.drewN (a+(b+n))) fun e w'=>e=Xq v∧∃c,w'=(w.drewN (a+(b+n))).drewN c):Calls P f args (w.drewN (a+(b+n))) fun e d=>e=Xq v∧∃c,d=w.drewN (a+(b+c)):=h.mono fun _ _⟨g,c,i⟩=>⟨g,n+c,by rw[i,World.drewN_drewN];congr 1;omega⟩
theorem jz{P:Program}{f:FuncId}{args:Array Vq}{w:W}{a b c n:Nat}{v:Vq}(h:Calls P f args (w.drewN (a+(b+(c+n)))) fun e w'=>e=Xq v∧∃d,w'=(w.drewN (a+(b+(c+n)))).drewN d):Calls P f args (w.drewN (a+(b+(c+n)))) fun e g=>e=Xq v∧∃d,g=w.drewN (a+(b+(c+d))):=h.mono fun _ _⟨i,d,j⟩=>⟨i,n+d,by rw[j,World.drewN_drewN];congr 1;omega⟩
theorem og(t u:TD)(g h:Nat)(w:W)(a:aA w t g)(b:aA w u h)(j:t.kind≠u.kind∨t.num≠u.num):Calls Tryz.prog 157 #[Pq (y ⟨g,0,z⟩),Pq (y ⟨h,0,z⟩)] w fun e w'=>e=Xq (Bq false)∧∃l,w'=w.drewN l:=by
 have p:=a.cM;have c1:=a.iu;have q:=b.cM;have d1:=b.iu;clear a b;generalize t.kind=k at*;generalize t.num=n at*;generalize u.kind=c at*;generalize u.num=d at*;by_cases f:k=c
 ·subst f;have i:n≠d:=by simpa using j
  have m:decide (n=d)=false:=by simp[i]
  have o:(n==d)=false:=by simp[i]
  go_enter Tryz.func157,Tryz.ntmps157;go_wp2;go_quiet(fail);go_wp2;go_ret;first|exact⟨rfl,⟨_,rfl⟩⟩|exact⟨rfl,⟨_,by rw[World.drewN_drewN]⟩⟩
 ·have m:decide (k=c)=false:=by simp[f]
  have o:(k==c)=false:=by simp[f]
  go_enter Tryz.func157,Tryz.ntmps157;go_wp2;go_quiet(fail);go_wp2;go_ret;first|exact⟨rfl,⟨_,rfl⟩⟩|exact⟨rfl,⟨_,by rw[World.drewN_drewN]⟩⟩
theorem eJ(t:TD):∀(u:TD)(g h:Nat)(w:W),aA w t g→aA w u h→t.aJ→u.aJ→Calls Tryz.prog 157 #[Pq (y ⟨g,0,z⟩),Pq (y ⟨h,0,z⟩)] w fun e w'=>e=Xq (Bq (h_ t u))∧∃ak,w'=w.drewN ak:=by
 induction t with
  |leaf k n=>
   intro u g h w x A F s;by_cases j:k≠u.kind∨n≠u.num
   ·have H:TD.leaf k n≠u:=by intro e;subst e;simp[TD.kind,TD.num]at j
    rw[ch H];exact og _ _ _ _ _ x A j
   ·have al:100≤k:=by obtain⟨ar,_⟩:=F;omega
    have e:TD.leaf k n=u:=by cases u with|leaf B ae=>simp[TD.kind,TD.num]at j;rw[j.1,j.2]|two B a b=>simp[TD.kind]at j;obtain⟨_,q,_⟩:=s;omega|three B a b c=>simp[TD.kind]at j;obtain⟨q,_⟩:=s;omega
    subst e;rw[fg];have af:=Row.cell (i:=0) x rfl;have c1:=Row.cell (i:=1) x rfl;have ag:=Row.cell (i:=0) A rfl;have d1:=Row.cell (i:=1) A rfl;go_enter Tryz.func157,Tryz.ntmps157;go_wp2;go_quiet(fail);go_wp2;go_ret;first|exact⟨rfl,⟨_,rfl⟩⟩|exact⟨rfl,⟨_,by rw[World.drewN_drewN]⟩⟩
  |two k a b I J=>
   intro u g h w x A F s;by_cases j:k≠u.kind∨(0:Int)≠u.num
   ·have H:TD.two k a b≠u:=by intro e;subst e;simp[TD.kind,TD.num]at j
    rw[ch H];exact og _ _ _ _ _ x A j
   ·obtain⟨au,av,S,T⟩:=F;obtain⟨m,o,e⟩:∃m o,u=TD.two k m o:=by cases u with|leaf B ae=>simp[TD.kind]at j;obtain⟨q,_⟩:=s;omega|two B m o=>simp[TD.kind]at j;exact⟨m,o,by rw[j.1]⟩|three B m o v=>simp[TD.kind]at j;obtain⟨q,_⟩:=s;omega
    subst e;clear j;obtain⟨ga,U,p,K,M⟩:=x;obtain⟨V,X,r,O,P⟩:=A;obtain⟨_,_,aa,ab⟩:=s;have al:¬(100≤k):=by omega
    have aw:k≠13:=by omega
    have f:=fun w'(e:G w.heap.size w w')=>I m ga V w' (K.ab e) (O.ab e) S aa;have l:=fun w'(e:G w.heap.size w w')=>J o U X w' (M.ab e) (P.ab e) T ab;clear I J K M O P;have af:=p.cell (i:=0) rfl;have c1:=p.cell (i:=1) rfl;have c2:=p.cell (i:=2) rfl;have c3:=p.cell (i:=3) rfl;have ag:=r.cell (i:=0) rfl;have d1:=r.cell (i:=1) rfl;have d2:=r.cell (i:=2) rfl;have d3:=r.cell (i:=3) rfl;clear p r;have d:∀n,G w.heap.size w (w.drewN n):=fun n=>below_drewN (Below.refl _ _) n;by_cases C:a=m
    ·subst C;rw[fg]at f;by_cases E:b=o;·subst E;rw[fg]at l;rw[fg];go_enter Tryz.func157,Tryz.ntmps157;go_wp2;go_quiet(fail);revert nq;intro Q;go_wp2;go_quiet(first|exact Calls.quiet_of (f _ (d _))|exact jx (f _ (d _))|exact jy (f _ (d _))|exact jz (f _ (d _)));revert nq;intro ac;go_wp2;go_quiet(first|exact Calls.quiet_of (l _ (d _))|exact jx (l _ (d _))|exact jy (l _ (d _))|exact jz (l _ (d _)));go_wp2;go_ret;first|exact⟨rfl,⟨_,rfl⟩⟩|exact⟨rfl,⟨_,by rw[World.drewN_drewN]⟩⟩
     ·rw[ch E]at l;rw[ch (by intro e;cases e;exact E rfl)];go_enter Tryz.func157,Tryz.ntmps157;go_wp2;go_quiet(fail);revert nq;intro Q;go_wp2;go_quiet(first|exact Calls.quiet_of (f _ (d _))|exact jx (f _ (d _))|exact jy (f _ (d _))|exact jz (f _ (d _)));revert nq;intro ac;go_wp2;go_quiet(first|exact Calls.quiet_of (l _ (d _))|exact jx (l _ (d _))|exact jy (l _ (d _))|exact jz (l _ (d _)));go_wp2;go_ret;first|exact⟨rfl,⟨_,rfl⟩⟩|exact⟨rfl,⟨_,by rw[World.drewN_drewN]⟩⟩
    ·rw[ch C]at f;rw[ch (by intro e;cases e;exact C rfl)];go_enter Tryz.func157,Tryz.ntmps157;go_wp2;go_quiet(fail);revert nq;intro Q;go_wp2;go_quiet(first|exact Calls.quiet_of (f _ (d _))|exact jx (f _ (d _))|exact jy (f _ (d _))|exact jz (f _ (d _)));go_wp2;go_ret;first|exact⟨rfl,⟨_,rfl⟩⟩|exact⟨rfl,⟨_,by rw[World.drewN_drewN]⟩⟩
  |three k a b c I J ah=>
   intro u g h w x A F s;by_cases j:k≠u.kind∨(0:Int)≠u.num
   ·have H:TD.three k a b c≠u:=by intro e;subst e;simp[TD.kind,TD.num]at j
    rw[ch H];exact og _ _ _ _ _ x A j
   ·obtain⟨rfl,S,T,am⟩:=F;obtain⟨m,o,v,e⟩:∃m o v,u=TD.three 13 m o v:=by cases u with|leaf B ae=>simp[TD.kind]at j;obtain⟨q,_⟩:=s;omega|two B m o=>simp[TD.kind]at j;obtain⟨q,ax,_⟩:=s;omega|three B m o v=>simp[TD.kind]at j;exact⟨m,o,v,by rw[j.1]⟩
    subst e;clear j;obtain⟨ga,U,an,p,K,M,ai⟩:=x;obtain⟨V,X,ao,r,O,P,aj⟩:=A;obtain⟨_,aa,ab,ap⟩:=s;have f:=fun w'(e:G w.heap.size w w')=>I m ga V w' (K.ab e) (O.ab e) S aa;have l:=fun w'(e:G w.heap.size w w')=>J o U X w' (M.ab e) (P.ab e) T ab;have R:=fun w'(e:G w.heap.size w w')=>ah v an ao w' (ai.ab e) (aj.ab e) am ap;clear I J ah K M ai O P aj;have af:=p.cell (i:=0) rfl;have c1:=p.cell (i:=1) rfl;have c2:=p.cell (i:=2) rfl;have c3:=p.cell (i:=3) rfl;have c4:=p.cell (i:=4) rfl;have ag:=r.cell (i:=0) rfl;have d1:=r.cell (i:=1) rfl;have d2:=r.cell (i:=2) rfl;have d3:=r.cell (i:=3) rfl;have d4:=r.cell (i:=4) rfl;clear p r;have d:∀n,G w.heap.size w (w.drewN n):=fun n=>below_drewN (Below.refl _ _) n;by_cases C:a=m
    ·subst C;rw[fg]at f;by_cases E:b=o
     ·subst E;rw[fg]at l;have aq:h_ (.three 13 a b c) (.three 13 a b v)=h_ c v:=by
       by_cases ad:c=v;·subst ad;rw[fg,fg]
       ·rw[ch ad,ch (by intro e;cases e;exact ad rfl)]
      rw[aq];generalize h_ c v=ay at*;go_enter Tryz.func157,Tryz.ntmps157;go_wp2;go_quiet(fail);revert nq;intro Q;go_wp2;go_quiet(first|exact Calls.quiet_of (f _ (d _))|exact jx (f _ (d _))|exact jy (f _ (d _))|exact jz (f _ (d _)));revert nq;intro ac;go_wp2;go_quiet(first|exact Calls.quiet_of (l _ (d _))|exact jx (l _ (d _))|exact jy (l _ (d _))|exact jz (l _ (d _)));revert nq;intro az;go_wp2;go_quiet(first|exact Calls.quiet_of (R _ (d _))|exact jx (R _ (d _))|exact jy (R _ (d _))|exact jz (R _ (d _)));go_wp2;go_ret;first|exact⟨rfl,⟨_,rfl⟩⟩|exact⟨rfl,⟨_,by rw[World.drewN_drewN]⟩⟩
     ·rw[ch E]at l;rw[ch (by intro e;cases e;exact E rfl)];go_enter Tryz.func157,Tryz.ntmps157;go_wp2;go_quiet(fail);revert nq;intro Q;go_wp2;go_quiet(first|exact Calls.quiet_of (f _ (d _))|exact jx (f _ (d _))|exact jy (f _ (d _))|exact jz (f _ (d _)));revert nq;intro ac;go_wp2;go_quiet(first|exact Calls.quiet_of (l _ (d _))|exact jx (l _ (d _))|exact jy (l _ (d _))|exact jz (l _ (d _)));go_wp2;go_ret;first|exact⟨rfl,⟨_,rfl⟩⟩|exact⟨rfl,⟨_,by rw[World.drewN_drewN]⟩⟩
    ·rw[ch C]at f;rw[ch (by intro e;cases e;exact C rfl)];go_enter Tryz.func157,Tryz.ntmps157;go_wp2;go_quiet(fail);revert nq;intro Q;go_wp2;go_quiet(first|exact Calls.quiet_of (f _ (d _))|exact jx (f _ (d _))|exact jy (f _ (d _))|exact jz (f _ (d _)));go_wp2;go_ret;first|exact⟨rfl,⟨_,rfl⟩⟩|exact⟨rfl,⟨_,by rw[World.drewN_drewN]⟩⟩
theorem lX(k:Int):eY k=true↔(k=3∨k=5∨k=6∨k=7∨k=8∨k=10):=by unfold eY;simp
theorem ov{k:Int}(h:¬(k=3∨k=5∨k=6∨k=7∨k=8∨k=10)):eY k=false:=by unfold eY;simpa using h
theorem jA(k:Int)(b:3≤k∧k≤11)(w:W):Calls Tryz.prog 192 #[N Z k] w fun e w'=>e=Xq (Bq (eY k))∧w=w':=by
 have h:k=3∨k=4∨k=5∨k=6∨k=7∨k=8∨k=9∨k=10∨k=11:=by omega
 have a:∀j:Int,(j=3∨j=5∨j=6∨j=7∨j=8∨j=10)→eY j=true:=fun j h=>(lX j).2 h;rcases h with rfl|rfl|rfl|rfl|rfl|rfl|rfl|rfl|rfl;all_goals
  first|rw[a _ (by omega)]|rw[ov (by omega)]
  go_enter Tryz.func192,Tryz.ntmps192;go_wp2;go_ret;exact⟨rfl,rfl⟩
theorem AN{u:TD}(d:u.aJ)(h:u.kind=3):∃a b,u=.two 3 a b:=by cases u with|leaf k n=>obtain⟨q,_⟩:=d;simp only[TD.kind]at h;omega|two k a b=>simp only[TD.kind]at h;exact⟨a,b,by rw[h]⟩|three k a b c=>obtain⟨q,_⟩:=d;simp only[TD.kind]at h;omega
theorem od(u:TD)(g:Nat)(w:W)(h:aA w u g)(j:u.aJ):Calls Tryz.prog 215 #[Pq (y ⟨g,0,z⟩)] w fun e w'=>e=Xq (Bq u.dv.isSome)∧w=w':=by
 have o:=h.cM;by_cases f:u.kind=3
 ·obtain⟨a,b,rfl⟩:=AN j f;obtain⟨ga,v,l,p,m⟩:=h;have c3:=l.cell (i:=3) rfl;have r:=m.cM;simp only[TD.kind]at o;clear l p m;by_cases d:b.kind=100
  ·have e:b.isNum=y b.num:=(bI j.2.2.2).1 d;have e2:((TD.two 3 a b).dv).isSome=true:=by simp[TD.dv,e]
   rw[e2];rw[d]at r;go_enter Tryz.func215,Tryz.ntmps215;go_wp2;go_ret;exact⟨rfl,rfl⟩
  ·have e:b.isNum=z:=(dO j.2.2.2).1 d;have e2:((TD.two 3 a b).dv).isSome=false:=by simp[TD.dv,e]
   rw[e2];have s:decide (b.kind=100)=false:=by simp[d]
   have t:(b.kind==100)=false:=by simp[d]
   clear e e2;generalize b.kind=q at*;go_enter Tryz.func215,Tryz.ntmps215;go_wp2;go_ret;exact⟨by simp[d],rfl⟩
 ·have e2:u.dv.isSome=false:=by cases u with|leaf k n=>rfl|two k a b=>simp only[TD.kind]at f;simp[TD.dv,f]|three k a b c=>rfl
  rw[e2];have s:decide (u.kind=3)=false:=by simp[f]
  have t:(u.kind==3)=false:=by simp[f]
  clear e2;generalize u.kind=q at*;go_enter Tryz.func215,Tryz.ntmps215;go_wp2;go_ret;exact⟨rfl,rfl⟩
def mR(w:W)(u:TD)(x:Vq):Prop:=match(bE u).1 with|z=>x=Pq z|y a=>∃ga,x=Pq (y ⟨ga,0,z⟩)∧aA w a ga∧a.aJ
theorem rQ(u:TD)(g:Nat)(w:W)(h:aA w u g)(f:u.aJ):∃x,mR w u x∧∀w',G w.heap.size w w'→Calls Tryz.prog 205 #[Pq (y ⟨g,0,z⟩)] w' fun e s=>e=Xq (Uq #[x,N Z (bE u).2])∧∃t,s=w'.drewN t:=by
 by_cases c:u.kind=100
 ·have e:=(bI f).1 c;have e1:bE u=(z,u.num):=by simp[bE,e]
  refine⟨Pq z,by simp[mR,e1],fun w' b=>?_⟩;have k:=(h.ab b).cM;have c1:=(h.ab b).iu;rw[e1];rw[c]at k;clear c e e1 h b;generalize u.num=n at*;go_enter Tryz.func205,Tryz.ntmps205;go_wp2;go_quiet(fail);go_wp2;go_ret2;exact⟨rfl,⟨_,rfl⟩⟩
 ·have e:=(dO f).1 c;have v:decide (u.kind=100)=false:=by simp[c]
  have A:(u.kind==100)=false:=by simp[c]
  cases d:u.dv with
   |none=>
    have e1:bE u=(y u,0):=by simp[bE,e,d]
    refine⟨Pq (y ⟨g,0,z⟩),by simp only[mR,e1];exact⟨g,rfl,h,f⟩,fun w' b=>?_⟩;have k:=(h.ab b).cM;have q:=od u g w' (h.ab b) f;rw[e1];rw[d]at q;simp only[Option.isSome_none]at q;clear e e1 h b d;generalize u.kind=n at*;go_enter Tryz.func205,Tryz.ntmps205;go_wp2_with fail;refine q.mono ?_;rintro e w1⟨rfl,rfl⟩;go_wp2;go_ret2;exact⟨rfl,⟨0,rfl⟩⟩
   |some p=>
    obtain⟨a,n⟩:=p;have B:=gy d;subst B;have e1:bE (.two 3 a (bk n))=(y a,n):=by simp[bE,e,d]
    obtain⟨ga,C,l,m,o⟩:=id h;refine⟨Pq (y ⟨ga,0,z⟩),by simp only[mR,e1];exact⟨ga,rfl,m,f.2.2.1⟩,fun w' b=>?_⟩;have q:=od _ g w' (h.ab b) f;rw[e1];rw[d]at q;simp only[Option.isSome_some]at q;have j:=l.ab b;have r:=o.ab b;have k:=j.cell (i:=0) rfl;have c2:=j.cell (i:=2) rfl;have c3:=j.cell (i:=3) rfl;have d1:=r.iu;simp only[bk,TD.num]at d1;clear e e1 h b d l m o j r v A c;go_enter Tryz.func205,Tryz.ntmps205;go_wp2_with fail;refine q.mono ?_;rintro e w1⟨rfl,rfl⟩;go_wp2;go_quiet(fail);go_wp2;go_ret2;exact⟨rfl,⟨_,rfl⟩⟩
theorem mr(u v:TD):cV u v=true↔(bE u).1=(bE v).1∧(bE u).2≠(bE v).2:=by unfold cV;simp
theorem sW{u v:TD}(h:¬((bE u).1=(bE v).1∧(bE u).2≠(bE v).2)):cV u v=false:=by cases e:cV u v with|false=>rfl|true=>exact absurd ((mr u v).1 e) h
theorem kK(u v:TD)(g h:Nat)(w:W)(H:aA w u g)(I:aA w v h)(J:u.aJ)(K:v.aJ):Calls Tryz.prog 189 #[Pq (y ⟨g,0,z⟩),Pq (y ⟨h,0,z⟩)] w fun e w'=>e=Xq (Bq (cV u v))∧∃m,w'=w.drewN m:=by
 obtain⟨x,r,f⟩:=rQ u g w H J;obtain⟨T,o,l⟩:=rQ v h w I K;have F:∀n,G w.heap.size w (w.drewN n):=fun n=>below_drewN (Below.refl _ _) n;have f:=f w (Below.refl _ _);have l:=fun n=>l (w.drewN n) (F n);have d:Hid (∀B,((bE u).1=(bE v).1∧(bE u).2≠(bE v).2↔B=true)→cV u v=B):=by intro B hz;cases B with|true=>exact(mr u v).2 (hz.2 rfl)|false=>exact sW (fun q=>by have:=hz.1 q;cases this)
 unfold mR at r o;obtain⟨a,M⟩:∃a,(bE u).1=a:=⟨_,rfl⟩;obtain⟨b,O⟩:∃b,(bE v).1=b:=⟨_,rfl⟩;rw[M]at r d;rw[O]at o d;generalize(bE u).2=m at*;generalize(bE v).2=n at*;generalize cV u v=R at*;clear M O H I J K;cases a with
  |none=>
   simp only at r;subst r;cases b with
    |none=>
     simp only at o;subst o;by_cases c:m=n;·subst c;obtain rfl:=d.out false (by simp);go_enter Tryz.func189,Tryz.ntmps189;go_wp2_with fail;refine f.mono ?_;rintro e w1⟨rfl,k,rfl⟩;go_wp2_with fail;refine(l k).mono ?_;rintro e w1⟨rfl,j,rfl⟩;go_wp2;go_ret;first|exact⟨rfl,⟨_,rfl⟩⟩|exact⟨rfl,⟨_,by rw[World.drewN_drewN]⟩⟩
     ·obtain rfl:=d.out true (by simp[c]);have Q:decide (m=n)=false:=by simp[c]
      have S:(m==n)=false:=by simp[c]
      go_enter Tryz.func189,Tryz.ntmps189;go_wp2_with fail;refine f.mono ?_;rintro e w1⟨rfl,k,rfl⟩;go_wp2_with fail;refine(l k).mono ?_;rintro e w1⟨rfl,j,rfl⟩;go_wp2;go_ret;first|exact⟨by simp[c],⟨_,rfl⟩⟩|exact⟨by simp[c],⟨_,by rw[World.drewN_drewN]⟩⟩
    |some b=>obtain⟨P,rfl,s,t⟩:=o;obtain rfl:=d.out false (by simp);go_enter Tryz.func189,Tryz.ntmps189;go_wp2_with fail;refine f.mono ?_;rintro e w1⟨rfl,k,rfl⟩;go_wp2_with fail;refine(l k).mono ?_;rintro e w1⟨rfl,j,rfl⟩;go_wp2;go_ret;first|exact⟨rfl,⟨_,rfl⟩⟩|exact⟨rfl,⟨_,by rw[World.drewN_drewN]⟩⟩
  |some a=>
   obtain⟨ga,rfl,C,E⟩:=r;cases b with
    |none=>simp only at o;subst o;obtain rfl:=d.out false (by simp);go_enter Tryz.func189,Tryz.ntmps189;go_wp2_with fail;refine f.mono ?_;rintro e w1⟨rfl,k,rfl⟩;go_wp2_with fail;refine(l k).mono ?_;rintro e w1⟨rfl,j,rfl⟩;go_wp2;go_ret;first|exact⟨rfl,⟨_,rfl⟩⟩|exact⟨rfl,⟨_,by rw[World.drewN_drewN]⟩⟩
    |some b=>
     obtain⟨P,rfl,s,t⟩:=o;have A:=fun n=>eJ a b ga P (w.drewN n) (C.ab (F n)) (s.ab (F n)) E t;by_cases p:a=b
     ·rw[(dE a b).2 p]at A;by_cases c:m=n;·subst c;obtain rfl:=d.out false (by simp);clear d C s E t p;go_enter Tryz.func189,Tryz.ntmps189;go_wp2_with fail;refine f.mono ?_;rintro e w1⟨rfl,k,rfl⟩;go_wp2_with fail;refine(l k).mono ?_;rintro e w1⟨rfl,j,rfl⟩;(try rw[World.drewN_drewN]);go_wp2_with fail;refine(A _).mono ?_;rintro e w1⟨rfl,i,rfl⟩;go_wp2;go_ret;first|exact⟨rfl,⟨_,rfl⟩⟩|exact⟨rfl,⟨_,by rw[World.drewN_drewN]⟩⟩
      ·obtain rfl:=d.out true (by simp[c,p]);have Q:decide (m=n)=false:=by simp[c]
       have S:(m==n)=false:=by simp[c]
       clear d C s E t p;go_enter Tryz.func189,Tryz.ntmps189;go_wp2_with fail;refine f.mono ?_;rintro e w1⟨rfl,k,rfl⟩;go_wp2_with fail;refine(l k).mono ?_;rintro e w1⟨rfl,j,rfl⟩;(try rw[World.drewN_drewN]);go_wp2_with fail;refine(A _).mono ?_;rintro e w1⟨rfl,i,rfl⟩;go_wp2;go_ret;first|exact⟨by simp[c],⟨_,rfl⟩⟩|exact⟨by simp[c],⟨_,by rw[World.drewN_drewN]⟩⟩
     ·rw[ch p]at A;obtain rfl:=d.out false (by simp[p]);clear d C s E t p;go_enter Tryz.func189,Tryz.ntmps189;go_wp2_with fail;refine f.mono ?_;rintro e w1⟨rfl,k,rfl⟩;go_wp2_with fail;refine(l k).mono ?_;rintro e w1⟨rfl,j,rfl⟩;(try rw[World.drewN_drewN]);go_wp2_with fail;refine(A _).mono ?_;rintro e w1⟨rfl,i,rfl⟩;go_wp2;go_ret;first|exact⟨rfl,⟨_,rfl⟩⟩|exact⟨rfl,⟨_,by rw[World.drewN_drewN]⟩⟩
def eZ(kind:Int)(u:TD):Prop:=∀(g:Nat)(n:Int)(w:W)(a:Ending→W→Prop),aA w u g→jN n→(∀t b w',aW kind u n=y t→aA w' t b→G w.heap.size w w'→a (Xq (Pq (y ⟨b,0,z⟩))) w')→(∀w',aW kind u n=z→G w.heap.size w w'→a (Xq (Pq z)) w')→Calls Tryz.prog 206 #[N Z kind,Pq (y ⟨g,0,z⟩),N Z n] w a
theorem iP{w w0:W}{k:Int}{a b:TD}{ga c:Nat}(f:aA w a ga)(g:aA w b c)(e:G w0.heap.size w0 w):aA (w.alloc (Y #[N Z k,N Z 0,Pq (y ⟨ga,0,z⟩),Pq (y ⟨c,0,z⟩),Pq z] 200)) (.two k a b) w.heap.size∧G w0.heap.size w0 (w.alloc (Y #[N Z k,N Z 0,Pq (y ⟨ga,0,z⟩),Pq (y ⟨c,0,z⟩),Pq z] 200)):=have d:G w.heap.size w (w.alloc (Y #[N Z k,N Z 0,Pq (y ⟨ga,0,z⟩),Pq (y ⟨c,0,z⟩),Pq z] 200)):=(Below.refl _ _).alloc (Rq _) _;⟨⟨ga,c,heap_alloc_new w _,f.ab d,g.ab d⟩,e.trans (d.mono e.size)⟩
theorem mN{w w0:W}{k:Int}{a b c:TD}{ga d e:Nat}(h:aA w a ga)(i:aA w b d)(hc:aA w c e)(g:G w0.heap.size w0 w):aA (w.alloc (Y #[N Z k,N Z 0,Pq (y ⟨ga,0,z⟩),Pq (y ⟨d,0,z⟩),Pq (y ⟨e,0,z⟩)] 200)) (.three k a b c) w.heap.size∧G w0.heap.size w0 (w.alloc (Y #[N Z k,N Z 0,Pq (y ⟨ga,0,z⟩),Pq (y ⟨d,0,z⟩),Pq (y ⟨e,0,z⟩)] 200)):=have f:G w.heap.size w (w.alloc (Y #[N Z k,N Z 0,Pq (y ⟨ga,0,z⟩),Pq (y ⟨d,0,z⟩),Pq (y ⟨e,0,z⟩)] 200)):=(Below.refl _ _).alloc (Rq _) _;⟨⟨ga,d,e,heap_alloc_new w _,h.ab f,i.ab f,hc.ab f⟩,g.trans (f.mono g.size)⟩
theorem AY(kind:Int)(X:3≤kind∧kind≤11)(O:kind=4∨kind=8∨kind=9)(u v:TD)(g h:Nat)(w:W)(C:aA w u g)(j:aA w v h)(P:u.aJ)(s:v.aJ)(Q:eZ kind u)(R:u=v)(f:Ending→W→Prop)(i:∀t k w',v.isNum.bind (aW kind u)=y t→aA w' t k→G w.heap.size w w'→f (Xq (Pq (y ⟨k,0,z⟩))) w')(l:∀k w',aA w' (bk 0) k→G w.heap.size w w'→f (Xq (Pq (y ⟨k,0,z⟩))) w'):Calls Tryz.prog 193 #[N Z kind,Pq (y ⟨g,0,z⟩),Pq (y ⟨h,0,z⟩)] w f:=by
 have E:=fun c(a:aA c u g)(b:aA c v h)=>eJ u v g h c a b P s;rw[(dE u v).2 R]at E;rcases O with rfl|rfl|rfl;all_goals
  by_cases x:v.kind=100
  ·obtain⟨n,F⟩:∃n,v.isNum=y n:=⟨v.num,(bI s).1 x⟩;have S:v.num=n:=by have:=(bI s).1 x;rw[F]at this;exact(Option.some.inj this).symm
   have A:=j.cM;have c1:=j.iu;rw[x]at A;rw[S]at c1;rw[F]at i;simp only[Option.bind_some]at i;have T:jN n:=dC F s;go_enter Tryz.func193,Tryz.ntmps193;go_wp2_with fail;refine Q g n w _ C T ?_ ?_;·intro t g1 w1 J K M;have m:Hid (f (Xq (Pq (y ⟨g1,0,z⟩))) w1):=i t g1 w1 J K M;clear i l K M J;go_wp2;exact m.out
   ·intro c _ d;have H:=C.ab d;have I:=j.ab d;clear i A c1;go_wp2_with fail;refine(E c H I).mono ?_;rintro e U⟨rfl,V,rfl⟩;go_wp2_with fail;refine eo 0 _ _ ?_;intro o p q r;have m:Hid (f (Xq (Pq (y ⟨o,0,z⟩))) p):=l o p q ((below_drewN d _).trans (r.mono (below_drewN d _).size));clear l q r;go_wp2;exact m.out
  ·have aa:(v.kind==100)=false:=by simp[x]
   have A:=j.cM;obtain⟨c,B⟩:∃c,c=w:=⟨_,rfl⟩;have d:G w.heap.size w c:=by rw[B];exact Below.refl _ _
   have H:=C.ab d;have I:=j.ab d;have ab:Hid (c=w):=B;rw[←B]at A⊢;clear i B;generalize v.kind=ac at*;go_enter Tryz.func193,Tryz.ntmps193;go_wp2_with fail;refine(E c H I).mono ?_;rintro e U⟨rfl,V,rfl⟩;go_wp2_with fail;refine eo 0 _ _ ?_;intro o p q r;have m:Hid (f (Xq (Pq (y ⟨o,0,z⟩))) p):=l o p q ((below_drewN d _).trans (r.mono (below_drewN d _).size));clear l q r;go_wp2;exact m.out
theorem AW(kind:Int)(S:3≤kind∧kind≤11)(J:kind=6∨kind=7)(u v:TD)(g h:Nat)(w:W)(A:aA w u g)(j:aA w v h)(K:u.aJ)(q:v.aJ)(M:eZ kind u)(O:u=v)(f:Ending→W→Prop)(i:∀t k w',v.isNum.bind (aW kind u)=y t→aA w' t k→G w.heap.size w w'→f (Xq (Pq (y ⟨k,0,z⟩))) w')(l:∀k w',aA w' (u) k→G w.heap.size w w'→f (Xq (Pq (y ⟨k,0,z⟩))) w'):Calls Tryz.prog 193 #[N Z kind,Pq (y ⟨g,0,z⟩),Pq (y ⟨h,0,z⟩)] w f:=by
 have B:=fun c(a:aA c u g)(b:aA c v h)=>eJ u v g h c a b K q;rw[(dE u v).2 O]at B;rcases J with rfl|rfl;all_goals
  by_cases r:v.kind=100
  ·obtain⟨n,C⟩:∃n,v.isNum=y n:=⟨v.num,(bI q).1 r⟩;have P:v.num=n:=by have:=(bI q).1 r;rw[C]at this;exact(Option.some.inj this).symm
   have s:=j.cM;have c1:=j.iu;rw[r]at s;rw[P]at c1;rw[C]at i;simp only[Option.bind_some]at i;have Q:jN n:=dC C q;go_enter Tryz.func193,Tryz.ntmps193;go_wp2_with fail;refine M g n w _ A Q ?_ ?_;·intro t g1 w1 F H I;have m:Hid (f (Xq (Pq (y ⟨g1,0,z⟩))) w1):=i t g1 w1 F H I;clear i l H I F;go_wp2;exact m.out
   ·intro c _ d;have o:=A.ab d;have E:=j.ab d;clear i s c1;go_wp2_with fail;refine(B c o E).mono ?_;rintro e R⟨rfl,p,rfl⟩;have m:Hid (f (Xq (Pq (y ⟨g,0,z⟩))) (c.drewN p)):=l g _ (o.drewN p) (below_drewN d _);clear l;go_wp2;exact m.out
  ·have T:(v.kind==100)=false:=by simp[r]
   have s:=j.cM;obtain⟨c,x⟩:∃c,c=w:=⟨_,rfl⟩;have d:G w.heap.size w c:=by rw[x];exact Below.refl _ _
   have o:=A.ab d;have E:=j.ab d;have U:Hid (c=w):=x;rw[←x]at s⊢;clear i x;generalize v.kind=V at*;go_enter Tryz.func193,Tryz.ntmps193;go_wp2_with fail;refine(B c o E).mono ?_;rintro e R⟨rfl,p,rfl⟩;have m:Hid (f (Xq (Pq (y ⟨g,0,z⟩))) (c.drewN p)):=l g _ (o.drewN p) (below_drewN d _);clear l;go_wp2;exact m.out
theorem Cn(kind:Int)(X:3≤kind∧kind≤11)(O:kind=10)(u v:TD)(g h:Nat)(w:W)(C:aA w u g)(j:aA w v h)(P:u.aJ)(s:v.aJ)(Q:eZ kind u)(R:u=v)(f:Ending→W→Prop)(i:∀t k w',v.isNum.bind (aW kind u)=y t→aA w' t k→G w.heap.size w w'→f (Xq (Pq (y ⟨k,0,z⟩))) w')(l:∀k w',aA w' (bk 1) k→G w.heap.size w w'→f (Xq (Pq (y ⟨k,0,z⟩))) w'):Calls Tryz.prog 193 #[N Z kind,Pq (y ⟨g,0,z⟩),Pq (y ⟨h,0,z⟩)] w f:=by
 have E:=fun c(a:aA c u g)(b:aA c v h)=>eJ u v g h c a b P s;rw[(dE u v).2 R]at E;subst O;by_cases x:v.kind=100
 ·obtain⟨n,F⟩:∃n,v.isNum=y n:=⟨v.num,(bI s).1 x⟩;have S:v.num=n:=by have:=(bI s).1 x;rw[F]at this;exact(Option.some.inj this).symm
  have A:=j.cM;have c1:=j.iu;rw[x]at A;rw[S]at c1;rw[F]at i;simp only[Option.bind_some]at i;have T:jN n:=dC F s;go_enter Tryz.func193,Tryz.ntmps193;go_wp2_with fail;refine Q g n w _ C T ?_ ?_;·intro t g1 w1 J K M;have m:Hid (f (Xq (Pq (y ⟨g1,0,z⟩))) w1):=i t g1 w1 J K M;clear i l K M J;go_wp2;exact m.out
  ·intro c _ d;have H:=C.ab d;have I:=j.ab d;clear i A c1;go_wp2_with fail;refine(E c H I).mono ?_;rintro e U⟨rfl,V,rfl⟩;go_wp2_with fail;refine eo 1 _ _ ?_;intro o p q r;have m:Hid (f (Xq (Pq (y ⟨o,0,z⟩))) p):=l o p q ((below_drewN d _).trans (r.mono (below_drewN d _).size));clear l q r;go_wp2;exact m.out
 ·have aa:(v.kind==100)=false:=by simp[x]
  have A:=j.cM;obtain⟨c,B⟩:∃c,c=w:=⟨_,rfl⟩;have d:G w.heap.size w c:=by rw[B];exact Below.refl _ _
  have H:=C.ab d;have I:=j.ab d;have ab:Hid (c=w):=B;rw[←B]at A⊢;clear i B;generalize v.kind=ac at*;go_enter Tryz.func193,Tryz.ntmps193;go_wp2_with fail;refine(E c H I).mono ?_;rintro e U⟨rfl,V,rfl⟩;go_wp2_with fail;refine eo 1 _ _ ?_;intro o p q r;have m:Hid (f (Xq (Pq (y ⟨o,0,z⟩))) p):=l o p q ((below_drewN d _).trans (r.mono (below_drewN d _).size));clear l q r;go_wp2;exact m.out
theorem yR(kind:Int)(U:3≤kind∧kind≤11)(V:kind=3∨kind=5∨kind=11)(u v:TD)(g h:Nat)(w:W)(F:aA w u g)(j:aA w v h)(O:u.aJ)(x:v.aJ)(P:eZ kind u)(A:Ending→W→Prop)(i:∀t l w',v.isNum.bind (aW kind u)=y t→aA w' t l→G w.heap.size w w'→A (Xq (Pq (y ⟨l,0,z⟩))) w')(m:∀l w',aA w' (.two kind u v) l→G w.heap.size w w'→A (Xq (Pq (y ⟨l,0,z⟩))) w'):Calls Tryz.prog 193 #[N Z kind,Pq (y ⟨g,0,z⟩),Pq (y ⟨h,0,z⟩)] w A:=by
 have I:=fun c(a:aA c u g)(b:aA c v h)=>eJ u v g h c a b O x;have X:kind≠4:=by omega
 have aa:kind≠8:=by omega
 have ab:kind≠9:=by omega
 have ac:kind≠6:=by omega
 have ad:kind≠7:=by omega
 have ae:kind≠10:=by omega
 by_cases B:v.kind=100
 ·obtain⟨n,H⟩:∃n,v.isNum=y n:=⟨v.num,(bI x).1 B⟩;have Q:v.num=n:=by have:=(bI x).1 B;rw[H]at this;exact(Option.some.inj this).symm
  have C:=j.cM;have c1:=j.iu;rw[B]at C;rw[Q]at c1;rw[H]at i;simp only[Option.bind_some]at i;have R:jN n:=dC H x;go_enter Tryz.func193,Tryz.ntmps193;go_wp2_with fail;refine P g n w _ F R ?_ ?_;·intro t g1 w1 J K M;have o:Hid (A (Xq (Pq (y ⟨g1,0,z⟩))) w1):=i t g1 w1 J K M;clear i m K M J;go_wp2;exact o.out
  ·intro c _ d;have p:=F.ab d;have q:=j.ab d;clear i C c1;go_wp2_with fail;refine(I c p q).mono ?_;rintro e S⟨rfl,f,rfl⟩;generalize h_ u v=T at*;obtain⟨r,s⟩:=iP (k:=kind) (p.drewN f) (q.drewN f) (below_drewN d f);have o:=D (m _ _ r s);clear m r s;go_wp2;all_goals exact o.out
 ·have af:(v.kind==100)=false:=by simp[B]
  have C:=j.cM;obtain⟨c,E⟩:∃c,c=w:=⟨_,rfl⟩;have d:G w.heap.size w c:=by rw[E];exact Below.refl _ _
  have p:=F.ab d;have q:=j.ab d;have ag:Hid (c=w):=E;rw[←E]at C⊢;clear i E;generalize v.kind=ah at*;go_enter Tryz.func193,Tryz.ntmps193;go_wp2_with fail;refine(I c p q).mono ?_;rintro e S⟨rfl,f,rfl⟩;generalize h_ u v=T at*;obtain⟨r,s⟩:=iP (k:=kind) (p.drewN f) (q.drewN f) (below_drewN d f);have o:=D (m _ _ r s);clear m r s;go_wp2;all_goals exact o.out
theorem yQ(kind:Int)(ac:3≤kind∧kind≤11)(S:kind=10)(u v:TD)(g h:Nat)(w:W)(H:aA w u g)(l:aA w v h)(O:u.aJ)(m:v.aJ)(T:eZ kind u)(U:u≠v)(V:cV u v=true)(j:Ending→W→Prop)(k:∀t o w',v.isNum.bind (aW kind u)=y t→aA w' t o→G w.heap.size w w'→j (Xq (Pq (y ⟨o,0,z⟩))) w')(p:∀o w',aA w' (bk 0) o→G w.heap.size w w'→j (Xq (Pq (y ⟨o,0,z⟩))) w'):Calls Tryz.prog 193 #[N Z kind,Pq (y ⟨g,0,z⟩),Pq (y ⟨h,0,z⟩)] w j:=by
 have I:=fun c(a:aA c u g)(b:aA c v h)=>eJ u v g h c a b O m;rw[ch U]at I;have J:=fun c(a:aA c u g)(b:aA c v h)=>kK u v g h c a b O m;rw[V]at J;subst S;by_cases C:v.kind=100
 ·obtain⟨n,K⟩:∃n,v.isNum=y n:=⟨v.num,(bI m).1 C⟩;have X:v.num=n:=by have:=(bI m).1 C;rw[K]at this;exact(Option.some.inj this).symm
  have E:=l.cM;have c1:=l.iu;rw[C]at E;rw[X]at c1;rw[K]at k;simp only[Option.bind_some]at k;have aa:jN n:=dC K m;go_enter Tryz.func193,Tryz.ntmps193;go_wp2_with fail;refine T g n w _ H aa ?_ ?_;·intro t g1 w1 P Q R;have q:Hid (j (Xq (Pq (y ⟨g1,0,z⟩))) w1):=k t g1 w1 P Q R;clear k p Q R P;go_wp2;exact q.out
  ·intro c _ d;have r:=H.ab d;have s:=l.ab d;clear k E c1;go_wp2_with fail;refine(I c r s).mono ?_;rintro e ab⟨rfl,f,rfl⟩;go_wp2_with fail;refine(J _ (r.drewN f) (s.drewN f)).mono ?_;rintro e i⟨rfl,M,rfl⟩;rw[World.drewN_drewN];generalize f+M=f;go_wp2_with fail;refine eo 0 _ _ ?_;intro x i A B;have q:Hid (j (Xq (Pq (y ⟨x,0,z⟩))) i):=p x i A ((below_drewN d _).trans (B.mono (below_drewN d _).size));clear p A B;go_wp2;exact q.out
 ·have ad:(v.kind==100)=false:=by simp[C]
  have E:=l.cM;obtain⟨c,F⟩:∃c,c=w:=⟨_,rfl⟩;have d:G w.heap.size w c:=by rw[F];exact Below.refl _ _
  have r:=H.ab d;have s:=l.ab d;have ae:Hid (c=w):=F;rw[←F]at E⊢;clear k F;generalize v.kind=af at*;go_enter Tryz.func193,Tryz.ntmps193;go_wp2_with fail;refine(I c r s).mono ?_;rintro e ab⟨rfl,f,rfl⟩;go_wp2_with fail;refine(J _ (r.drewN f) (s.drewN f)).mono ?_;rintro e i⟨rfl,M,rfl⟩;rw[World.drewN_drewN];generalize f+M=f;go_wp2_with fail;refine eo 0 _ _ ?_;intro x i A B;have q:Hid (j (Xq (Pq (y ⟨x,0,z⟩))) i):=p x i A ((below_drewN d _).trans (B.mono (below_drewN d _).size));clear p A B;go_wp2;exact q.out
theorem AV(kind:Int)(ac:3≤kind∧kind≤11)(R:kind=10)(u v:TD)(g h:Nat)(w:W)(F:aA w u g)(m:aA w v h)(M:u.aJ)(o:v.aJ)(S:eZ kind u)(T:u≠v)(U:cV u v=false)(A:Ending→W→Prop)(l:∀t p w',v.isNum.bind (aW kind u)=y t→aA w' t p→G w.heap.size w w'→A (Xq (Pq (y ⟨p,0,z⟩))) w')(q:∀p w',aA w' (.two kind u v) p→G w.heap.size w w'→A (Xq (Pq (y ⟨p,0,z⟩))) w'):Calls Tryz.prog 193 #[N Z kind,Pq (y ⟨g,0,z⟩),Pq (y ⟨h,0,z⟩)] w A:=by
 have H:=fun c(a:aA c u g)(b:aA c v h)=>eJ u v g h c a b M o;rw[ch T]at H;have I:=fun c(a:aA c u g)(b:aA c v h)=>kK u v g h c a b M o;rw[U]at I;subst R;by_cases B:v.kind=100
 ·obtain⟨n,J⟩:∃n,v.isNum=y n:=⟨v.num,(bI o).1 B⟩;have V:v.num=n:=by have:=(bI o).1 B;rw[J]at this;exact(Option.some.inj this).symm
  have C:=m.cM;have c1:=m.iu;rw[B]at C;rw[V]at c1;rw[J]at l;simp only[Option.bind_some]at l;have X:jN n:=dC J o;go_enter Tryz.func193,Tryz.ntmps193;go_wp2_with fail;refine S g n w _ F X ?_ ?_;·intro t g1 w1 O P Q;have r:Hid (A (Xq (Pq (y ⟨g1,0,z⟩))) w1):=l t g1 w1 O P Q;clear l q P Q O;go_wp2;exact r.out
  ·intro c _ f;have i:=F.ab f;have j:=m.ab f;clear l C c1;go_wp2_with fail;refine(H c i j).mono ?_;rintro e aa⟨rfl,d,rfl⟩;go_wp2_with fail;refine(I _ (i.drewN d) (j.drewN d)).mono ?_;rintro e ab⟨rfl,K,rfl⟩;rw[World.drewN_drewN];generalize d+K=d;obtain⟨s,x⟩:=iP (k:=10) (i.drewN d) (j.drewN d) (below_drewN f d);have r:=D (q _ _ s x);clear q s x;go_wp2;exact r.out
 ·have ad:(v.kind==100)=false:=by simp[B]
  have C:=m.cM;obtain⟨c,E⟩:∃c,c=w:=⟨_,rfl⟩;have f:G w.heap.size w c:=by rw[E];exact Below.refl _ _
  have i:=F.ab f;have j:=m.ab f;have ae:Hid (c=w):=E;rw[←E]at C⊢;clear l E;generalize v.kind=af at*;go_enter Tryz.func193,Tryz.ntmps193;go_wp2_with fail;refine(H c i j).mono ?_;rintro e aa⟨rfl,d,rfl⟩;go_wp2_with fail;refine(I _ (i.drewN d) (j.drewN d)).mono ?_;rintro e ab⟨rfl,K,rfl⟩;rw[World.drewN_drewN];generalize d+K=d;obtain⟨s,x⟩:=iP (k:=10) (i.drewN d) (j.drewN d) (below_drewN f d);have r:=D (q _ _ s x);clear q s x;go_wp2;exact r.out
theorem yS(kind:Int)(V:3≤kind∧kind≤11)(O:kind≠10)(u v:TD)(g h:Nat)(w:W)(F:aA w u g)(j:aA w v h)(P:u.aJ)(x:v.aJ)(Q:eZ kind u)(R:u≠v)(A:Ending→W→Prop)(i:∀t l w',v.isNum.bind (aW kind u)=y t→aA w' t l→G w.heap.size w w'→A (Xq (Pq (y ⟨l,0,z⟩))) w')(m:∀l w',aA w' (.two kind u v) l→G w.heap.size w w'→A (Xq (Pq (y ⟨l,0,z⟩))) w'):Calls Tryz.prog 193 #[N Z kind,Pq (y ⟨g,0,z⟩),Pq (y ⟨h,0,z⟩)] w A:=by
 have H:=fun c(a:aA c u g)(b:aA c v h)=>eJ u v g h c a b P x;rw[ch R]at H;have X:kind≠10:=O;by_cases B:v.kind=100
 ·obtain⟨n,I⟩:∃n,v.isNum=y n:=⟨v.num,(bI x).1 B⟩;have S:v.num=n:=by have:=(bI x).1 B;rw[I]at this;exact(Option.some.inj this).symm
  have C:=j.cM;have c1:=j.iu;rw[B]at C;rw[S]at c1;rw[I]at i;simp only[Option.bind_some]at i;have T:jN n:=dC I x;go_enter Tryz.func193,Tryz.ntmps193;go_wp2_with fail;refine Q g n w _ F T ?_ ?_;·intro t g1 w1 J K M;have o:Hid (A (Xq (Pq (y ⟨g1,0,z⟩))) w1):=i t g1 w1 J K M;clear i m K M J;go_wp2;exact o.out
  ·intro c _ d;have p:=F.ab d;have q:=j.ab d;clear i C c1;go_wp2_with fail;refine(H c p q).mono ?_;rintro e U⟨rfl,f,rfl⟩;obtain⟨r,s⟩:=iP (k:=kind) (p.drewN f) (q.drewN f) (below_drewN d f);have o:=D (m _ _ r s);clear m r s;go_wp2;exact o.out
 ·have aa:(v.kind==100)=false:=by simp[B]
  have C:=j.cM;obtain⟨c,E⟩:∃c,c=w:=⟨_,rfl⟩;have d:G w.heap.size w c:=by rw[E];exact Below.refl _ _
  have p:=F.ab d;have q:=j.ab d;have ab:Hid (c=w):=E;rw[←E]at C⊢;clear i E;generalize v.kind=ac at*;go_enter Tryz.func193,Tryz.ntmps193;go_wp2_with fail;refine(H c p q).mono ?_;rintro e U⟨rfl,f,rfl⟩;obtain⟨r,s⟩:=iP (k:=kind) (p.drewN f) (q.drewN f) (below_drewN d f);have o:=D (m _ _ r s);clear m r s;go_wp2;exact o.out
theorem AX(kind:Int)(E:3≤kind∧kind≤11)(u v:TD)(g h:Nat)(w:W)(j:aA w u g)(c:aA w v h)(F:u.aJ)(p:v.aJ)(k:eZ kind u)(t:TD)(q:∃n,v.isNum=y n∧aW kind u n=y t)(d:Ending→W→Prop)(l:∀b w',aA w' t b→G w.heap.size w w'→d (Xq (Pq (y ⟨b,0,z⟩))) w'):Calls Tryz.prog 193 #[N Z kind,Pq (y ⟨g,0,z⟩),Pq (y ⟨h,0,z⟩)] w d:=by obtain⟨n,f,i⟩:=q;obtain rfl:=e9 f;have r:=c.cM;have c1:=c.iu;simp only[bk,TD.kind,TD.num]at r c1;have s:jN n:=dC f p;have A:=fun P(a:∀b w',aA w' t b→G w.heap.size w w'→P (Xq (Pq (y ⟨b,0,z⟩))) w')=>k g n w P j s (fun H b w' e x B=>by rw[i]at e;cases e;exact a b w' x B) (fun w' e=>by rw[i]at e;cases e);clear k i f j c;go_enter Tryz.func193,Tryz.ntmps193;go_wp2_with fail;refine A _ ?_;intro g1 w1 m o;have C:Hid (d (Xq (Pq (y ⟨g1,0,z⟩))) w1):=l g1 w1 m o;clear l m o;go_wp2;exact C.out
theorem iM(kind:Int)(j:3≤kind∧kind≤11)(u v:TD)(g h:Nat)(w:W)(k:aA w u g)(l:aA w v h)(m:u.aJ)(o:v.aJ)(p:eZ kind u)(d:Ending→W→Prop)(c:∀i w',aA w' (dk kind u v) i→G w.heap.size w w'→d (Xq (Pq (y ⟨i,0,z⟩))) w'):Calls Tryz.prog 193 #[N Z kind,Pq (y ⟨g,0,z⟩),Pq (y ⟨h,0,z⟩)] w d:=by
 cases r:v.isNum.bind (aW kind u)with
  |some t=>
   rw[xl r]at c;have s:∀A i w',v.isNum.bind (aW kind u)=y A→aA w' A i→G w.heap.size w w'→d (Xq (Pq (y ⟨i,0,z⟩))) w':=fun A i w' e a b=>by rw[r]at e;cases e;exact c i w' a b
   have I:∃n,v.isNum=y n∧aW kind u n=y t:=by cases C:v.isNum with|none=>rw[C]at r;cases r|some n=>rw[C]at r;exact⟨n,rfl,r⟩
   exact AX kind j u v g h w k l m o p t I d c
  |none=>
   rw[rW r]at c;have s:∀A i w',v.isNum.bind (aW kind u)=y A→aA w' A i→G w.heap.size w w'→d (Xq (Pq (y ⟨i,0,z⟩))) w':=fun A i w' e a b=>by rw[r]at e;cases e
   by_cases E:kind=3∨kind=5∨kind=11;·rw[A5 E]at c;exact yR kind j E u v g h w k l m o p d s c
   ·by_cases f:u=v
    ·by_cases F:kind=4∨kind=8∨kind=9;·rw[t_ f F]at c;exact AY kind j F u v g h w k l m o p f d s c
     ·by_cases H:kind=6∨kind=7;·rw[tZ f H]at c;exact AW kind j H u v g h w k l m o p f d s c
      ·have x:kind=10:=by omega
       rw[xj f x]at c;exact Cn kind j x u v g h w k l m o p f d s c
    ·by_cases x:kind=10;·cases B:cV u v with|true=>rw[mJ f x B]at c;exact yQ kind j x u v g h w k l m o p f B d s c|false=>rw[jg f (fun q=>by rw[B]at q;cases q.2)]at c;exact AV kind j x u v g h w k l m o p f B d s c
     ·rw[jg f (fun q=>x q.1)]at c;exact yS kind j x u v g h w k l m o p f d s c
def Bv(u:TD):Prop:=∀(g gk:Nat)(k:Int)(w:W)(a:Ending→W→Prop),aA w u g→aA w (bk k) gk→jN k→(∀b w',aA w' (eL u k) b→G w.heap.size w w'→a (Xq (Pq (y ⟨b,0,z⟩))) w')→Calls Tryz.prog 177 #[N Z 3,Pq (y ⟨g,0,z⟩),Pq (y ⟨gk,0,z⟩)] w a
theorem jL(u:TD)(o:u.aJ)(H:∀a b,u=.two 3 a (bk b)→Bv a):eZ 3 u:=by
 intro g n w j k F hs f;by_cases l:n=0;·subst l;have d:Hid (j (Xq (Pq (y ⟨g,0,z⟩))) w):=hs u g w (by simp[aW]) k (Below.refl _ _);clear hs f H;go_enter Tryz.func206,Tryz.ntmps206;go_wp2;exact d.out
 ·have q:=od u g w k o;cases c:u.dv with
   |none=>rw[c]at q;simp only[Option.isSome_none]at q;have d:Hid (j (Xq (Pq z)) w):=f w (by simp[aW,l,c]) (Below.refl _ _);clear hs f H;go_enter Tryz.func206,Tryz.ntmps206;go_wp2_with fail;refine q.mono ?_;rintro e w1⟨rfl,rfl⟩;go_wp2;exact d.out
   |some p=>
    obtain⟨a,b⟩:=p;rw[c]at q;simp only[Option.isSome_some]at q;obtain rfl:=gy c;have v:=H a b rfl;have x:aW 3 (.two 3 a (bk b)) n=y (eL a (wrap64 (b+n))):=by simp[aW,l,c]
    obtain⟨ga,I,m,A,r⟩:=k;have c2:=m.cell (i:=2) rfl;have c3:=m.cell (i:=3) rfl;have d1:=r.iu;simp only[bk,TD.num]at d1;have B:jN (wrap64 (b+n)):=g_ _;clear f H r o c;go_enter Tryz.func206,Tryz.ntmps206;go_wp2_with fail;refine q.mono ?_;rintro e w1⟨rfl,rfl⟩;go_wp2_with fail;refine eo _ _ _ ?_;intro gk w1 C h;have E:=(m.ab h).cell (i:=2) rfl;clear c2 c3 d1;go_wp2_with fail;refine v ga gk _ w1 _ (A.ab h) C B ?_;intro g2 s t b2;have d:Hid (j (Xq (Pq (y ⟨g2,0,z⟩))) s):=hs _ g2 s x t (h.trans (b2.mono h.size));clear hs E t b2;go_wp2;exact d.out
theorem n_(u:TD)(j:u.aJ)(p:eZ 3 u):Bv u:=by
 intro g gk k w r b c v a;rw[←wE]at a;have x:(bk k).aJ:=dp v;have l:=b.cM;have m:=c.cM;have d1:=c.iu;simp only[bk,TD.num,TD.kind]at m d1;by_cases d:u.kind=100
 ·have e:=(bI j).1 d;have c1:=b.iu;have A:=fun w'=>lM 3 u.num k w' (by omega) (by omega);have em:aX 3 u (bk k)=bk (dc 3 u.num k):=by simp[aX,e,fo]
  rw[em]at a;rw[d]at l;clear em e d b c j p;generalize u.num=n at*;generalize dc 3 n k=R at*;have s:∀n,G w.heap.size w (w.drewN n):=fun n=>below_drewN (Below.refl _ _) n;go_enter Tryz.func177,Tryz.ntmps177;go_wp2;go_quiet(exact Calls.quiet_of_same ((A _).mono (fun _ _ h=>⟨h.1,h.2.symm⟩)));go_wp2_with fail;refine eo _ _ _ ?_;intro g2 f i b2;have o:Hid (r (Xq (Pq (y ⟨g2,0,z⟩))) f):=a g2 f i ((s nq).trans (b2.mono (s nq).size));clear a i b2 l c1 m d1;go_wp2;exact o.out
 ·have e:=(dO j).1 d;have em:aX 3 u (bk k)=dk 3 u (bk k):=by simp only[aX,e,fo]
  rw[em]at a;have t:=fun w'=>jA 3 (by omega) w';rw[(lX 3).2 (by omega)]at t;have B:=iM 3 (by omega) u (bk k) g gk w b c j x p;clear em e b c;have C:(u.kind==100)=false:=by simp[d]
  generalize u.kind=q at*;go_enter Tryz.func177,Tryz.ntmps177;go_wp2_with fail;refine(t _).mono ?_;rintro e w1⟨rfl,rfl⟩;go_wp2_with fail;refine B _ ?_;intro g2 f i b2;have o:Hid (r (Xq (Pq (y ⟨g2,0,z⟩))) f):=a g2 f i b2;clear a i b2 l m d1;go_wp2;exact o.out
theorem wW(u:TD):u.aJ→Bv u:=by induction u with|leaf k n=>exact fun f=>n_ _ f (jL _ f (fun a d e=>by cases e))|two k a b g i=>exact fun f=>n_ _ f (jL _ f (fun h d e=>by cases e;exact g f.2.2.1))|three k a b c=>exact fun f=>n_ _ f (jL _ f (fun h d e=>by cases e))
theorem wY(u:TD)(e:u.aJ):eZ 4 u:=by
 intro g n w f h o hs i;have j:=wW u e;have k:aW 4 u n=y (eL u (wrap64 (0-n))):=by simp[aW]
 have c:jN (wrap64 (0-n)):=g_ _;clear i;go_enter Tryz.func206,Tryz.ntmps206;go_wp2_with fail;refine eo _ _ _ ?_;intro gk w1 l a;go_wp2_with fail;refine j g gk _ w1 _ (h.ab a) l (by first|exact c|simpa using c) ?_;intro g2 d b b2;have m:Hid (f (Xq (Pq (y ⟨g2,0,z⟩))) d):=hs _ g2 d k (by first|exact b|simpa using b) (a.trans (b2.mono a.size));clear hs b b2;go_wp2;exact m.out
theorem sK(kind:Int)(r:kind=5∨kind=6∨kind=7∨kind=8∨kind=11)(u:TD):eZ kind u:=by
 intro g n w k o s hs p;have b:Hid (aW kind u n=y u→k (Xq (Pq (y ⟨g,0,z⟩))) w):=fun e=>hs u g w e o (Below.refl _ _);have c:Hid (aW kind u n=z→k (Xq (Pq z)) w):=fun e=>p w e (Below.refl _ _);have d:Hid (∀m q w',aW kind u n=y (bk m)→aA w' (bk m) q→G w.heap.size w w'→k (Xq (Pq (y ⟨q,0,z⟩))) w'):=fun m=>hs (bk m);clear hs p o;rcases r with rfl|rfl|rfl|rfl|rfl
 ·by_cases f:n=0;·subst f;have a:=D (d.out 0 · · (by simp[aW]));clear b c d;go_enter Tryz.func206,Tryz.ntmps206;go_wp2_with fail;refine eo _ _ _ ?_;intro g2 h i b2;have l:Hid (k (Xq (Pq (y ⟨g2,0,z⟩))) h):=a.out g2 h i b2;clear a i b2;go_wp2;exact l.out
  ·by_cases j:n=1;·subst j;have a:=D (b.out (by simp[aW]));clear b c d;go_enter Tryz.func206,Tryz.ntmps206;go_wp2;exact a.out
   ·have a:=D (c.out (by simp[aW,f,j]));clear b c d;go_enter Tryz.func206,Tryz.ntmps206;go_wp2;exact a.out
 ·by_cases f:n=0;·subst f;have a:=D (d.out 0 · · (by simp[aW]));clear b c d;go_enter Tryz.func206,Tryz.ntmps206;go_wp2_with fail;refine eo _ _ _ ?_;intro g2 h i b2;have l:Hid (k (Xq (Pq (y ⟨g2,0,z⟩))) h):=a.out g2 h i b2;clear a i b2;go_wp2;exact l.out
  ·by_cases j:n=-1;·subst j;have a:=D (b.out (by simp[aW]));clear b c d;go_enter Tryz.func206,Tryz.ntmps206;go_wp2;exact a.out
   ·have a:=D (c.out (by simp[aW,f,j]));clear b c d;go_enter Tryz.func206,Tryz.ntmps206;go_wp2;exact a.out
 ·by_cases f:n=0;·subst f;have a:=D (b.out (by simp[aW]));clear b c d;go_enter Tryz.func206,Tryz.ntmps206;go_wp2;exact a.out
  ·by_cases j:n=-1;·subst j;have a:=D (d.out (-1) · · (by simp[aW]));clear b c d;go_enter Tryz.func206,Tryz.ntmps206;go_wp2_with fail;refine eo _ _ _ ?_;intro g2 h i b2;have l:Hid (k (Xq (Pq (y ⟨g2,0,z⟩))) h):=a.out g2 h i b2;clear a i b2;go_wp2;exact l.out
   ·have a:=D (c.out (by simp[aW,f,j]));clear b c d;go_enter Tryz.func206,Tryz.ntmps206;go_wp2;exact a.out
 ·by_cases f:n=0;·subst f;have a:=D (b.out (by simp[aW]));clear b c d;go_enter Tryz.func206,Tryz.ntmps206;go_wp2;exact a.out
  ·have a:=D (c.out (by simp[aW,f]));clear b c d;go_enter Tryz.func206,Tryz.ntmps206;go_wp2;exact a.out
 ·by_cases f:n=1;·subst f;have a:=D (b.out (by simp[aW]));clear b c d;go_enter Tryz.func206,Tryz.ntmps206;go_wp2;exact a.out
  ·have a:=D (c.out (by simp[aW,f]));clear b c d;go_enter Tryz.func206,Tryz.ntmps206;go_wp2;exact a.out
theorem vj(kind:Int)(a:kind=9∨kind=10)(u:TD):eZ kind u:=by intro g n w c d f hs b;have e:Hid (c (Xq (Pq z)) w):=b w (by rcases a with rfl|rfl<;>simp[aW]) (Below.refl _ _);clear hs b d;rcases a with rfl|rfl;all_goals go_enter Tryz.func206,Tryz.ntmps206;go_wp2;exact e.out
theorem fI(kind:Int)(g:3≤kind∧kind≤11)(u:TD)(b:u.aJ):eZ kind u:=by
 by_cases c:kind=3;·subst c;exact jL u b (fun a h e=>by subst e;exact wW a b.2.2.1)
 by_cases d:kind=4;·subst d;exact wY u b
 by_cases f:kind=9∨kind=10;·exact vj kind f u
 exact sK kind (by omega) u
end Go.Proofs.YtblhmeidbjigaabGreatDoor
