import Derived.Test.YtblhmeidbjigaabGreatDoorT28
import Derived.Test.YtblhmeidbjigaabGreatDoorT32
set_option linter.unusedSimpArgs false
set_option linter.unusedVariables false
set_option maxRecDepth 100000
set_option maxHeartbeats 8000000
namespace Go.Proofs.YtblhmeidbjigaabGreatDoor
open Go.RowKit
open Go.Value renaming int→N,slice→L,string→Tq,agg→Aq,bool→Bq,tuple→Uq,pointer→Pq
open Go.IntKind renaming i64→Z
open Go.Obj renaming cells→Y
open Go.Ending renaming returned→Xq
open Option renaming none→z,some→y
open Go.Lib renaming hid→D
open Nat renaming le_refl→Rq
open Go renaming World→W,Value→Vq
open Go.RowKit renaming Below→G
theorem yk(regs slots data:Int)(names:List Int)(ops:List dr):∀k,(bG regs slots data names ops k).length≤k:=by
 intro k;induction k with
  |zero=>simp[bG]
  |succ k a=>
   simp only[bG];split;·rw[List.length_append];simp only[List.length_singleton];omega
   ·omega
theorem eV.len{s:ByteArray}{a:Int}{l:List (List UInt8)}{e:Int}(h:eV s a l e):l.length≤1000:=by
 rcases h with⟨_,rfl,_⟩|⟨p,b,_,h⟩;·simp
 ·rcases h with⟨_,rfl,_⟩|⟨c,h⟩;·simp
  ·rcases h with⟨_,rfl,_⟩|⟨_,_,rfl⟩;·simp
   ·have d:=yk p.regs p.slots p.data (ax p.regs p.slots) (aj p.blocks a.toNat) (aj p.blocks a.toNat).length;have f:(aj p.blocks a.toNat).length≤12:=by simp only[aB,Bool.and_eq_true,decide_eq_true_eq]at b;exact(fY b.2 (show a.toNat<p.blocks.length by omega)).1
    omega
theorem wH(s:ByteArray)(m a:Int)(av:jN a)(w:W)(hs:s.size≤maxLen)(f:TabW w)(K:Ending→W→Prop)(M:∀n v w',n≤1000→w'.ownsRow w.heap.size 9 1 v n (dq (List.replicate n (Lib.itoa a)))→G w.heap.size w w'→K (Xq (Uq #[v,Bq true])) w'):Calls Tryz.prog 47 #[Tq s,N Z m,N Z a] w K:=by
 have O:=fun o=>zd s m w hs f o;go_enter Tryz.func47,Tryz.ntmps47;go_wp2_with fail;refine O _ ?_;intro l P v w1 p ho h;obtain⟨q,r,rfl⟩:=af ho;have Q:=fun o=>yO s m w1 hs (f.ab h) o;clear O;go_wp2_with fail;refine Q _ ?_;intro bc bd bg a0 R t x;obtain⟨rfl,rfl⟩:=p.one R;have a1:=D p.len;obtain⟨a2,a3,rfl⟩:=af t;have A:=aV ho x (Rq _);have S:=yg (L q l.length r) (L a2 l.length a3) l a0 (gg A) (gg t);have B:=h.trans (x.mono h.size);clear Q p R ho t h x;go_wp2_with fail;refine S.mono ?_;rintro e a4⟨rfl,C⟩;have E:=aV A C (Rq _);have T:=B.trans (C.mono B.size);have a5:=iZ E;have bi:(P==P)=true:=by simp
 have F:=D E;have U:=D T;have V:=D M;have ac:=D f;have ad:kV l (Lib.itoa a) 0=l:=by simp[kV]
 obtain⟨n,H⟩:∃n,n=l.length:=⟨_,rfl⟩;have c:=D H;rw[←H]at F a5⊢;have ag:Hid (a4.ownsRow w.heap.size 9 1 (L q n r) n (dq (kV l (Lib.itoa a) 0))):=by rw[ad];exact F.out
 clear S A E B T C M f ad F H;go_wp2;go_loopw[13](fun i wr=>∃(k:Nat),k≤n∧i=N Z k∧wr.ownsRow w.heap.size 9 1 (L q n r) n (dq (kV l (Lib.itoa a) k))∧G w.heap.size w wr)(fun i _=>n-(intOf i).toNat);case atStart=>exact⟨0,Nat.zero_le _,rfl,ag.out,U.out⟩
 case round=>
  clear ag U;obtain⟨k,bl,rfl,d,b⟩:=hrel;by_cases ak:k<n
  ·have al:=lr a av wr (ac.out.ab b);have bn:(0:Int)≤(k:Int):=by omega
   have bo:(k:Int)<(n:Int):=by omega
   go_wp2_with fail;refine al.mono ?_;rintro e bp⟨rfl,I⟩;have J:=aV d I (Rq _);have am:=b.trans (I.mono b.size);have j:k<(kV l (Lib.itoa a) k).length:=by rw[uZ _ _ (by rw[←c.out];omega),←c.out];exact ak
   obtain⟨g,rfl,a6,bs,⟨u,c5⟩,an⟩:=Bh J j;have ao:=fG J (g:=g) rfl (i:=k) (by rw[fh];exact j) (Tq (ay (Lib.itoa a)));rw[Bi j,yA _ (by rw[←c.out];exact ak)]at ao;have a9:=dB am a6 (i:=k) (Tq (ay (Lib.itoa a)));have bv:=an k;clear al J am I d b an j;generalize ay (Lib.itoa a)=X at*;go_wp2;go_roundw;case rel=>exact⟨k+1,by omega,by go_num,ao,a9⟩
   case measure=>simp[intOf];omega
  ·obtain rfl:k=n:=by omega
   have ap:kV l (Lib.itoa a) k=List.replicate k (Lib.itoa a):=by unfold kV;rw[c.out,List.drop_length,List.append_nil]
   rw[ap]at d;have bb:=D (V.out k _ wr (by have:=a1.out;have:=c.out;omega) d b);clear d b V ac ap;go_wp2;exact bb.out
theorem wL(w:W)(a:Vq)(t:TypeId):∀j u,[a][j]?=y u→(w.alloc (Y #[a] t)).cell? ((⟨w.heap.size,0,z⟩:Addr).add j)=y u:=by intro j u b;have c:Row (w.alloc (Y #[a] t)) w.heap.size t [a]:=heap_alloc_new w _;rw[Addr.add_lit,Nat.zero_add];exact c.cell b
theorem Ct{w:W}{n c:Nat}{l:List (List UInt8)}{a:Option Addr}(h:cZ w (L a n c) l):a=z→dq l=[]:=by rintro rfl;obtain⟨d,cap,e,_,hc⟩:=h;simp only[Value.slice.injEq]at e;obtain⟨e1,_,_⟩:=e;cases l with|nil=>rfl|cons x f=>obtain⟨b,g,e2,_⟩:=hc 0 (by simp);rw[←e1]at e2;cases e2
theorem A2{w:W}{n g:Nat}{l:List (List UInt8)}{c:Option Addr}(h:cZ w (L c n g) l):∀a,c=y a→∀j u,(dq l)[j]?=y u→w.cell? (a.add j)=y u:=by
 rintro a rfl j u d;obtain⟨k,cap,e,_,hc⟩:=h;simp only[Value.slice.injEq]at e;obtain⟨e1,_,_⟩:=e;have f:j<l.length:=by have:=(List.getElem?_eq_some_iff.1 d).1;rw[fh]at this;exact this
 obtain⟨b,m,e2,i⟩:=hc j f;rw[←e1]at e2;simp only[Option.some.injEq]at e2;subst e2;rw[Addr.add_lit,i,←d];simp[dq,List.getD,f]
theorem Bg(l:List (List UInt8)):∀u∈dq l,u.oneCell'=true:=by intro u a;simp only[dq,List.mem_map]at a;obtain⟨x,_,rfl⟩:=a;rfl
theorem An(l:List (List UInt8)):dq l++(iC [Value.string ⟨#[]⟩] l.length).drop (dq l).length=dq l:=by rw[List.drop_eq_nil_of_le (by rw[cQ,fh];simp),List.append_nil]
section
open Go.Deep
theorem D_(w0 w:W)(n:Nat)(o:hJ)(val:Nat→Vq)(cnt:Nat→Nat)(cel:Nat→List Vq)(ps:List PI)(hs:List HI)(os:List OI)(ms:List MI)(h:jj w0 w n val cnt cel ps hs os ms)(f3:ib w0 o)(g9:n≤628292358710)(ct:TabW w0)(bA:Ending→W→Prop)(cv:o.kind=7)(cA:∀w' cB c0 c6 f4 f5 f6 ms',jj w0 w' (n+1) cB c0 c6 f4 f5 f6 ms'→bA (Xq (Bq true)) w'):Calls Tryz.prog 28 #[Pq (y ⟨w0.heap.size,0,z⟩),Aq (iU o).toArray] w bA:=by
 obtain⟨c7,c8,c9,df,dg⟩:=info_parts Tryz.As;obtain⟨dl,ds,f7,dt,f8⟩:=info_parts Tryz.uV;obtain⟨ha,s,t,ag,ak,al,am,an,hb,d0,hd,d6,he,mv,sv,d7,d8,d9,a,b⟩:=o;dsimp only at cv;subst cv;obtain⟨ea,f9,ga,ao,eb,ec,ap,ef,eg,av,a0,a1,ei,ej,ek⟩:=f3;dsimp only at ea f9 ga ao eb ec ap ef eg av a0 a1 ei ej ek;obtain⟨a2,pc,rfl,_,_⟩:=id ao;obtain⟨ho,hc,rfl,_,_⟩:=id ap;obtain⟨a3,a4,rfl,_,_⟩:=id av;obtain⟨a5,a6,rfl,_,_⟩:=id a0;obtain⟨a9,bb,rfl,_,_⟩:=id a1;obtain⟨bC,el⟩:∃x,x=d0.length:=⟨_,rfl⟩;obtain⟨bN,en⟩:∃x,x=d6.length:=⟨_,rfl⟩;obtain⟨bT,ep⟩:∃x,x=d7.length:=⟨_,rfl⟩;obtain⟨bW,eq⟩:∃x,x=d8.length:=⟨_,rfl⟩;obtain⟨bX,er⟩:∃x,x=d9.length:=⟨_,rfl⟩;show Calls Tryz.prog 28 #[Pq (y ⟨w0.heap.size,0,z⟩),Aq #[N Z 7,Tq s,Tq t,Tq ag,N Z ak,N Z al,N Z am,N Z an,L a2 d0.length pc,L ho d6.length hc,L a3 d7.length a4,L a5 d8.length a6,L a9 d9.length bb,N Z a,N Z b]] w bA;rw[←el]at ao⊢;rw[←en]at ap⊢;rw[←ep]at av⊢;rw[←eq]at a0⊢;rw[←er]at a1⊢;have hf:w0.heap.size<w.heap.size:=h.mem.row.lt;obtain⟨J,K⟩:∃x,x=w.setCell ⟨w0.heap.size,0,z⟩ (N Z ((n:Int)+1)):=⟨_,rfl⟩;have gb:∀o,(w.alloc o).cell? ⟨w0.heap.size,0,z⟩=y (N Z (n:Int)):=fun o=>(h.mem.row.alloc o).cell (i:=0) rfl;have gc:∀o,(w.alloc o).frozen? ⟨w0.heap.size,0,z⟩=false:=fun o=>(h.mem.row.alloc o).frozen 0;have gd:w.cell? ⟨w0.heap.size,0,z⟩=y (N Z (n:Int)):=h.mem.row.cell (i:=0) rfl;have ge:w.frozen? ⟨w0.heap.size,0,z⟩=false:=h.mem.row.frozen 0;have b0:=h.count;rw[←K]at b0;obtain⟨d,M⟩:∃x,x=J.alloc (Y #[N Z 7,Tq s,Tq t,Tq ag,N Z ak,N Z al,N Z am,N Z an,L a2 bC pc,L ho bN hc,L a3 bT a4,L a5 bW a6,L a9 bX bb,N Z a,N Z b] 83):=⟨_,rfl⟩;have es:G J.heap.size J d:=by rw[M];exact(Below.refl _ _).alloc (Rq _) _
 have E:=b0.ab es;have et:J.heap.size=w.heap.size:=by rw[K];simp
 have bc:Row d w.heap.size 83 [N Z 7,Tq s,Tq t,Tq ag,N Z ak,N Z al,N Z am,N Z an,L a2 bC pc,L ho bN hc,L a3 bT a4,L a5 bW a6,L a9 bX bb,N Z a,N Z b]:=by rw[←et,M];exact heap_alloc_new J _
 have b1:G w0.heap.size w0 d:=E.below;have hg:=h.lp;have hh:=h.lh;have hi:=h.lo;have ew:=h.lm;have hj:IntKind.i64.wrap ((n:Int)+1)=(n:Int)+1:=by rw[IntKind.wrap_i64];omega
 have ex:=D cA;have b2:=D E;clear cA h b0 es E el en ep eq er et;have ey:=bc.cell (i:=0) rfl;have gl:∀l,G d.heap.size d l→l.cell? ⟨w0.heap.size,0,z⟩=y (N Z ((n:Int)+1)):=fun l O=>aa O (b2.out.mem.row.cell (i:=0) rfl);have gm:∀l,G d.heap.size d l→l.cell? ⟨w.heap.size,1,z⟩=y (Tq s):=fun l O=>aa O (bc.cell (i:=1) rfl);have go:∀l,G d.heap.size d l→l.cell? ⟨w.heap.size,13,z⟩=y (N Z a):=fun l O=>aa O (bc.cell (i:=13) rfl);have P:G d.heap.size d d.drew:=(Below.refl _ _).drew;have ez:=fun gr=>wH s a ((n:Int)+1) ⟨by omega,by omega⟩ d.drew ea (ct.ab (b1.trans (P.mono b1.size))) gr;rw[M,K]at ey;have eD:Hid (d=(w.setCell ⟨w0.heap.size,0,z⟩ (N Z ((n:Int)+1))).alloc (Y #[N Z 7,Tq s,Tq t,Tq ag,N Z ak,N Z al,N Z am,N Z an,L a2 bC pc,L ho bN hc,L a3 bT a4,L a5 bW a6,L a9 bX bb,N Z a,N Z b] 83)):=by show _=_;rw[M,K]
 clear bc K M b1 ao eb ec ap ef eg av a0 a1 ei ej ek ct;go_enter Tryz.func28,Tryz.ntmps28;go_wp2;rw[←eD.out];clear eD ey gb gc gd ge;go_region_held3(fun l=>G d.heap.size d l)(first|with_reducible exact P|with_reducible exact b3)(first|(go_at_call 47;refine ez _ ?_;intro c v Q hk bd eK;obtain⟨m,q,gs⟩:=af bd;subst gs;have b3:G d.heap.size d Q:=P.trans (eK.mono P.size)));obtain⟨f,b4⟩:∃x,x=List.replicate c (Lib.itoa ((n:Int)+1)):=⟨_,rfl⟩;have b5:f.length=c:=by rw[b4];simp
 rw[←b4]at bd;have R:=D b5;have eO:Q.ownsRow d.drew.heap.size 9 1 (L m c q) f.length (dq f):=by rw[b5];exact bd
 have eT:=D eO;have gt:=D b3;clear ez P gl gm go b3 eK bd eO b4 b5;go_wp2_with(at_make;refine db _ rfl _ _ 105 rfl 9 dl _ [Tq ⟨#[]⟩] Tryz.underlying105 ds f7 dt rfl (by decide) _ _ _ _ c rfl rfl (by simp) (by simp) ?e1 ?e2 ?_);case e1=>first|omega|(rw[f8];omega)
 case e2=>unfold maxLen;omega
 intro hl b6 F gv;clear gv;have b7:=gg (aV eT.out F (Rq _));obtain⟨A,b8⟩:∃x,x=Q.heap.size:=⟨_,rfl⟩;rw[←b8]at b6⊢;have gx:=D b8;clear b8;go_wp2_with(refine dR _ rfl (.tmp 187) (.tmp 188) 105 rfl 9 dl Tryz.underlying105 ds 1 dt A _ _ m _ _ rfl rfl _ b6 (dq f) ?g1 (Ct b7) (A2 b7) ?g2 (Bg _) ?_);case g1=>rw[fh,R.out];simp[Nat.min_def]
 case g2=>rw[fh,cQ,R.out];simp
 intro p b9 e0;have e6:Row p A 9 (dq f):=by
  have e:dq f++(iC [Value.string ⟨#[]⟩] c).drop (dq f).length=dq f:=by rw[←R.out];exact An f
  rw[e]at b9;exact b9
 have cc:G Q.heap.size Q p:=e0.below F (by rw[gx.out];exact Rq _);have T:jj w0 p (n+1) val cnt cel ps hs os ms:=(b2.out.ab gt.out).ab cc;have e7:iG p (fun w'=>cZ w' (L m c q) f):=(CD eT.out).next (cU.gS cc);have e8:iG p (fun w'=>cZ w' (L (y ⟨A,0,z⟩) c c) f):=by have:=Dl (cap:=c) e6 (by rw[R.out];omega);rw[R.out]at this;exact this
 have B:=D T.mem;have bg:=D T;have fa:Hid (iG p (fun w'=>cZ w' (L m c q) f)∧iG p (fun w'=>cZ w' (L (y ⟨A,0,z⟩) c c) f)):=⟨e7,e8⟩;have gA:cnt 6≤n:=by rw[T.ok.n6];exact ew
 have gB:cnt 7≤n:=by rw[T.ok.n7];exact ew
 clear b7 b6 F b9 e6 e0 cc T e7 e8;obtain⟨g0,g3,U⟩:=af (B.out.own 6 (by omega));have V:=B.out.own 6 (by omega);rw[U]at V;obtain⟨H,bi⟩:∃x,cnt 6=x:=⟨_,rfl⟩;obtain⟨hm,fb⟩:∃x,cel 6=x:=⟨_,rfl⟩;rw[bi,fb]at V;rw[bi]at U;have g4:=B.out.row.cell (i:=7) rfl;rw[U]at g4;have hn:w0.heap.size<p.heap.size:=B.out.row.lt;have hp:H≤n:=by rw[←bi];exact gA
 go_wp2_with(at_builtin;refine wpList_append_own_at _ rfl _ _ 78 rfl (w0.heap.size+1) 105 c7 (L z 0 0) 1 24 Tryz.underlying78 c8 c9 df dg rfl (by decide) _ _ _ rfl (V.alloc _) ⟨p.heap.size,0,z⟩ 1 1 [L m c q] rfl rfl ?c1A (kP _ _ _) ?c3A ?c4A ?c5A ?_);try(case c1A=>intro j u cd;simpa using wL p (L m c q) 105 j u cd)
 case c3A=>unfold maxLen;omega
 case c4A=>omega
 case c5A=>first|omega|(simp;omega)
 intro hq ce cf ci _ fc;have fd:=B.out.grow (w1:=p.alloc (Y #[L m c q] 105)) ((Below.refl _ _).alloc (Rq _) _) (k:=6) (by omega) (by rw[U];exact ci) (by rw[bi,fb];exact cf) (by rw[U];simpa using fc);have bl:=((B.out.row.alloc (Y #[L m c q] 105)).kept (S:=fun g=>(Value.slice g0 H g3).ownBlock=y g) ((aH.refl _ _).grown ci (fun g e=>.inl e)) (fun e=>by have:=(V.lt w0.heap.size e).1;omega));have hr:=bl.cell (i:=7) rfl;have ht:=bl.frozen 7;obtain⟨bn,bo,g5⟩:=af cf;subst g5;have ff:=D fd;have g6:=D bl;clear fd bl cf ci fc V;obtain⟨r,ck⟩:∃x,x=ce.setCell ⟨w0.heap.size,7,z⟩ (L bn (H+1) bo):=⟨_,rfl⟩;have bp:jD r w0.heap.size ((n+1:Nat):Int) (bU val 6 (L bn (H+1) bo)) (bU cnt 6 (cnt 6+1)) (bU cel 6 (cel 6++[L m c q]))∧cU p r∧aH (fun g=>(val 6).ownBlock=y g∨g=w0.heap.size) p r:=by rw[ck];exact ff.out
 have C:=D bp.1;have fk:=D bp.2.1;have fl:=D bp.2.2;have fm:=D ck;clear bp ff;obtain⟨fn,fr,I⟩:=af (C.out.own 7 (by omega));have X:=C.out.own 7 (by omega);rw[I]at X;obtain⟨ac,bs⟩:∃x,bU cnt 6 (cnt 6+1) 7=x:=⟨_,rfl⟩;obtain⟨hu,fu⟩:∃x,bU cel 6 (cel 6++[L m c q]) 7=x:=⟨_,rfl⟩;rw[bs,fu]at X;rw[bs]at I;have fv:=C.out.row.cell (i:=8) rfl;rw[I]at fv;have hv:w0.heap.size<r.heap.size:=C.out.row.lt;have hw:ac≤n:=by rw[←bs];exact(by simpa[bU]using gB)
 have hx:ce.cell? ⟨w0.heap.size,8,z⟩=y (L fn ac fr):=by have E:=g6.out.cell (i:=8) rfl;have cl:=I;simp only[bU]at cl;rw[if_neg (by decide)]at cl;rw[cl]at E;exact E
 clear fv ck;go_wp2_with(at_builtin;rw[←fm.out];refine wpList_append_own_at _ rfl _ _ 78 rfl (w0.heap.size+1) 105 c7 (L z 0 0) 1 24 Tryz.underlying78 c8 c9 df dg rfl (by decide) _ _ _ rfl (X.alloc _) ⟨r.heap.size,0,z⟩ 1 1 [L (y ⟨A,0,z⟩) c c] ?c0B rfl ?c1B (kP _ _ _) ?c3B ?c4B ?c5B ?_);try(case c1B=>intro j u cd;simpa using wL r (L (y ⟨A,0,z⟩) c c) 105 j u cd)
 case c0B=>
  have e:r.heap.size=ce.heap.size:=by rw[fm.out];simp
  rw[e];first|rfl|simp[Act.eval]
 case c3B=>unfold maxLen;omega
 case c4B=>omega
 case c5B=>first|omega|(simp;omega)
 intro hy g7 cn co _ fx;have fy:=C.out.grow (w1:=r.alloc (Y #[L (y ⟨A,0,z⟩) c c] 105)) ((Below.refl _ _).alloc (Rq _) _) (k:=7) (by omega) (by rw[I];exact co) (by rw[bs,fu];exact cn) (by rw[I];simpa using fx);have bv:=((C.out.row.alloc (Y #[L (y ⟨A,0,z⟩) c c] 105)).kept (S:=fun g=>(Value.slice fn ac fr).ownBlock=y g) ((aH.refl _ _).grown co (fun g e=>.inl e)) (fun e=>by have:=(X.lt w0.heap.size e).1;omega));have hz:=bv.cell (i:=8) rfl;have hA:=bv.frozen 8;obtain⟨fz,f0,g8⟩:=af cn;subst g8;have f1:=D fy;have hB:=D bv;clear fy bv cn co fx X;obtain⟨ad,cp⟩:∃x,x=g7.setCell ⟨w0.heap.size,8,z⟩ (L fz (ac+1) f0):=⟨_,rfl⟩;have bz:jD ad w0.heap.size ((n+1:Nat):Int) (bU (bU val 6 (L bn (H+1) bo)) 7 (L fz (ac+1) f0)) (bU (bU cnt 6 (cnt 6+1)) 7 (bU cnt 6 (cnt 6+1) 7+1)) (bU (bU cel 6 (cel 6++[L m c q])) 7 (bU cel 6 (cel 6++[L m c q]) 7++[L (y ⟨A,0,z⟩) c c]))∧cU r ad∧aH (fun g=>(bU val 6 (L bn (H+1) bo) 7).ownBlock=y g∨g=w0.heap.size) r ad:=by rw[cp];exact f1.out
 have cq:G w0.heap.size w0 r:=bg.out.below.trans (fl.out.toBelow bg.out.below.size (fun g e=>by
  rcases e with e|e;·have:=((B.out.own 6 (by omega)).lt g e).1;omega
  ·omega));have F:G w0.heap.size w0 ad:=cq.trans (bz.2.2.toBelow cq.size (fun g e=>by
  rcases e with e|e;·have:=((C.out.own 7 (by omega)).lt g e).1;omega
  ·omega));obtain⟨cB,c0,c6,f2⟩:=bg.out.Ev ⟨L m c q,L (y ⟨A,0,z⟩) c c,f⟩ (by omega) bz.1 (by simp[bU]) (by simp[bU]) (fk.out.trans bz.2.1) fa.out F;have cs:=D (ex.out ad _ _ _ _ _ _ _ f2);rw[cp]at cs;clear f2 bz cq F cp f1 ex bg B C fk fl fa b2;go_wp2;first|exact cs.out|(go_ret;exact cs.out)
theorem Cz(w0 w:W)(n:Nat)(o:hJ)(val:Nat→Vq)(cnt:Nat→Nat)(cel:Nat→List Vq)(ps:List PI)(hs:List HI)(os:List OI)(ms:List MI)(h:jj w0 w n val cnt cel ps hs os ms)(c:ib w0 o)(d:n≤628292358710)(e:TabW w0)(b:Ending→W→Prop)(f:∀w' g i j k l m ms',jj w0 w' (n+1) g i j k l m ms'→b (Xq (Bq true)) w'):Calls Tryz.prog 28 #[Pq (y ⟨w0.heap.size,0,z⟩),Aq (iU o).toArray] w b:=by
 by_cases p:1≤o.kind∧o.kind≤8
 ·have hc:o.kind=1∨o.kind=2∨o.kind=3∨o.kind=4∨o.kind=5∨o.kind=6∨o.kind=7∨o.kind=8:=by omega
  rcases hc with a|a|a|a|a|a|a|a;·exact D2 w0 w n o val cnt cel ps hs os ms h c d e b a f
  ·exact D5 w0 w n o val cnt cel ps hs os ms h c d e b a f
  ·exact D6 w0 w n o val cnt cel ps hs os ms h c d e b a f
  ·exact D7 w0 w n o val cnt cel ps hs os ms h c d e b a f
  ·exact D8 w0 w n o val cnt cel ps hs os ms h c d e b a f
  ·exact D9 w0 w n o val cnt cel ps hs os ms h c d e b a f
  ·exact D_ w0 w n o val cnt cel ps hs os ms h c d e b a f
  ·exact Ea w0 w n o val cnt cel ps hs os ms h c d e b a f
 ·exact D1 w0 w n o val cnt cel ps hs os ms h c d e b p f
theorem zU(w0:W):∃val cnt cel,jj w0 (w0.alloc (Y #[N Z 0,L z 0 0,L z 0 0,L z 0 0,L z 0 0,L z 0 0,L z 0 0,L z 0 0,L z 0 0] 80)) 0 val cnt cel [] [] [] []:=by refine⟨fun _=>L z 0 0,fun _=>0,fun _=>[],⟨heap_alloc_new w0 _,fun k c=>World.ownsRow_nil _ _ _ _,fun j k _ _ _ g b=>by simp[Value.ownBlock]at b⟩,⟨rfl,rfl,rfl,rfl,rfl,rfl,rfl,rfl,rfl,rfl,rfl,rfl,rfl,rfl,rfl,rfl,fun x a=>(by cases a),fun x a=>(by cases a),fun x a=>(by cases a),fun x a=>(by cases a)⟩,by simp,by simp,by simp,by simp,(Below.refl _ _).alloc (Rq _) _⟩
theorem all_cps(v:Vq)(l:List hJ)(w:W)(ap:uu w v l)(A:TabW w)(B:Ending→W→Prop)(C:∀w',G w.heap.size w w'→B (Xq (Bq true)) w'):Calls Tryz.prog 9 #[v] w B:=by
 obtain⟨bo,bp,rfl,av,hc⟩:=ap;obtain⟨d,E⟩:∃d,d=l.length:=⟨_,rfl⟩;rw[←E]at hc av⊢;obtain⟨f,g⟩:∃f,f=w.alloc (Y #[N Z 0,L z 0 0,L z 0 0,L z 0 0,L z 0 0,L z 0 0,L z 0 0,L z 0 0,L z 0 0] 80):=⟨_,rfl⟩;have F:Hid (∃val cnt cel ps hs os ms,jj w f 0 val cnt cel ps hs os ms):=by obtain⟨val,cnt,cel,h⟩:=zU w;rw[←g]at h;exact⟨val,cnt,cel,[],[],[],[],h⟩
 have H:=D C;have I:=D g;have a0:=D A;have J:=D hc;clear C g A E hc;go_enter Tryz.func9,Tryz.ntmps9;go_wp2;rw[←I.out];clear I;go_loopw[4](fun k a1=>∃(i:Nat),i≤d∧k=N Z i∧Hid (∃val cnt cel ps hs os ms,jj w a1 i val cnt cel ps hs os ms))(fun k _=>d-(intOf k).toNat);case atStart=>exact⟨0,Nat.zero_le _,rfl,F⟩
 case round=>
  clear F;obtain⟨i,bs,rfl,e⟩:=hrel;by_cases a2:i<d
  ·obtain⟨val,cnt,cel,ps,hs,os,ms,S⟩:=e.out;obtain⟨b,a3,rfl,m,n⟩:=J.out i a2;obtain⟨o,ho⟩:∃o,o=l.getD i xu:=⟨_,rfl⟩;rw[←ho]at m n;have p:=fun q=>Cz w wr i o val cnt cel ps hs os ms S n (by omega) a0.out q;have c:∀j u,(iU o)[j]?=y u→wr.cell? ⟨b,a3+i*15+j,z⟩=y u:=fun j u a4=>aa S.below (m j u a4);obtain⟨bv,s,t,bz,bA,bC,bN,bT,bW,bX,b0,b1,b2,mv,sv,b3,b4,b5,a,b6⟩:=o;have r:=c 0 _ rfl;have K:=c 1 _ rfl;have M:=c 2 _ rfl;have O:=c 3 _ rfl;have P:=c 4 _ rfl;have Q:=c 5 _ rfl;have R:=c 6 _ rfl;have T:=c 7 _ rfl;have U:=c 8 _ rfl;have V:=c 9 _ rfl;have X:=c 10 _ rfl;have ac:=c 11 _ rfl;have ad:=c 12 _ rfl;have ag:=c 13 _ rfl;have ak:=c 14 _ rfl;dsimp only at r K M O P Q R T U V X ac ad ag ak;rw[Nat.add_zero]at r;have b7:(0:Int)≤(i:Int):=by omega
   have b8:(i:Int)<(d:Int):=by omega
   simp only[iU]at p;clear m n c S ho e;go_wp2_with fail;refine p _ ?_;intro a5 a6 a9 bb bc bd bg bi x;have al:=fun q=>Av w a5 (i+1) a6 a9 bb bc bd bg bi x (by omega) q;have am:=D x;clear p x r K M O P Q R T U V X ac ad ag ak;go_wp2_with fail;refine al _ ?_;intro bl an;have bn:Hid (∃val cnt cel ps hs os ms,jj w bl (i+1) val cnt cel ps hs os ms):=⟨_,_,_,_,_,_,_,am.out.ab an⟩;clear al am an;go_wp2;go_roundw;case rel=>exact⟨i+1,by omega,by go_num,bn⟩
   case measure=>simp[intOf];omega
  ·obtain⟨val,cnt,cel,ps,hs,os,ms,S⟩:=e.out;have ao:=D (H.out wr S.below);have b9:¬((i:Int)<(d:Int)):=by omega
   clear S e H J;go_wp2;first|exact ao.out|(go_ret;exact ao.out)
end
end Go.Proofs.YtblhmeidbjigaabGreatDoor
