import Derived.Test.YtblhmeidbjigaabGreatDoorT14
set_option linter.unusedSimpArgs false
set_option linter.unusedVariables false
set_option maxRecDepth 100000
set_option maxHeartbeats 8000000
namespace Go.Proofs.YtblhmeidbjigaabGreatDoor
open Go.RowKit
open Go.Value renaming int→N,slice→L,agg→Aq,bool→Bq,tuple→Uq,pointer→Pq
open Go.IntKind renaming i64→Z
open Go.Obj renaming cells→Y
open Go.Ending renaming returned→Xq
open Option renaming none→z,some→y
open Nat renaming le_refl→Rq
open Go renaming World→W,Value→Vq
open Go.RowKit renaming Below→G
theorem zW(f P Q:Int)(an ao mv sv:Vq)(args mem spill:List Int)(w:W)(ap:aM w ao args)(aq:aM w mv mem)(hs:aM w sv spill)(bk:(args.length:Int)≤f)(bl:f≤8)(bm:mem.length≤8)(bn:spill.length≤8)(aY:∃u x pc,an=L u x pc)(ar:Ending→W→Prop)(ad:∀rv cv sv w',cN (fun g=>g<w.heap.size) w' rv cv sv (L z 0 0) ⟨fU args (f-args.length).toNat,mem,spill,[],0⟩→G w.heap.size w w'→ar (Xq (Aq #[rv,cv,sv,L z 0 0,N Z 0])) w'):Calls Tryz.prog 67 #[Aq #[N Z args.length,N Z f,N Z P,N Z Q,an],Aq #[ao,mv,sv]] w ar:=by
 obtain⟨aZ,a0,a1,a2,a3⟩:=info_parts Tryz.gh;obtain⟨u,x,pc,rfl⟩:=aY;obtain⟨U,V,rfl,_,_⟩:=id ap;obtain⟨k,l,rfl,_,_⟩:=id aq;obtain⟨m,n,rfl,_,_⟩:=id hs;obtain⟨d,R⟩:∃d,d=((w.alloc (Y #[N Z args.length,N Z f,N Z P,N Z Q,L u x pc] 25)).alloc (Y #[L U args.length V,L k mem.length l,L m spill.length n] 67)).alloc (Y #[L z 0 0,L z 0 0,L z 0 0,L z 0 0,N Z 0] 126):=⟨_,rfl⟩;have bo:w.heap.size+3≤d.heap.size:=by rw[R];simp
 have ae:Row d w.heap.size 25 [N Z args.length,N Z f,N Z P,N Z Q,L u x pc]:=by rw[R];have q:Row (w.alloc (Y #[N Z args.length,N Z f,N Z P,N Z Q,L u x pc] 25)) w.heap.size 25 [N Z args.length,N Z f,N Z P,N Z Q,L u x pc]:=heap_alloc_new w _;exact(q.alloc _).alloc _
 have ag:Row d (w.heap.size+1) 67 [L U args.length V,L k mem.length l,L m spill.length n]:=by rw[R];have q:Row ((w.alloc (Y #[N Z args.length,N Z f,N Z P,N Z Q,L u x pc] 25)).alloc (Y #[L U args.length V,L k mem.length l,L m spill.length n] 67)) (w.heap.size+1) 67 [L U args.length V,L k mem.length l,L m spill.length n]:=heap_alloc2_new w _ _;exact q.alloc _
 have au:Row d (w.heap.size+2) 126 DB:=by rw[R];have q:=heap_alloc2_new (w.alloc (Y #[N Z args.length,N Z f,N Z P,N Z Q,L u x pc] 25)) (Y #[L U args.length V,L k mem.length l,L m spill.length n] 67) (Y #[L z 0 0,L z 0 0,L z 0 0,L z 0 0,N Z 0] 126);simp only[World.size_alloc]at q;exact q
 have X:G w.heap.size w d:=by rw[R];exact(((Below.refl w.heap.size w).alloc (Rq _) _).alloc (by simp) _).alloc (by simp;omega) _
 have a4:=ag.cell (i:=0) rfl;go_enter Tryz.func67,Tryz.ntmps67;go_wp2_with fail;rw[←R];clear R;refine jm _ args d (ap.ab X) (by omega) _ ?_;intro bp w1 ah ai;obtain⟨bq,br,rfl⟩:=af ah;have a5:=(ae.ab ai).cell (i:=0) rfl;clear a4;go_wp2;go_loopw[5,6](fun o i wr=>∃(j:Nat),(args.length:Int)+j≤f∧i=N Z ((args.length+j:Nat):Int)∧wr.ownsRow d.heap.size 3 1 o (args.length+j) (bL (fU args j))∧G d.heap.size d wr)(fun _ i _=>f.toNat-(intOf i).toNat);case atStart=>exact⟨0,by omega,by simp,by simpa[fU]using ah,ai⟩
 case round=>
  clear ah ai a5 w1;obtain⟨j,bs,rfl,r,h⟩:=hrel;obtain⟨A,C,rfl⟩:=af r;have hz:=h.size;have a6:=(ae.ab h).cell (i:=1) rfl;by_cases bt:(args.length:Int)+j<f
  ·have av:Hid (bL (fU args (j+1))=bL (fU args j)++[N Z 0]):=yW args j;go_wp2_with(at_builtin;refine wpList_append_own _ rfl _ _ 22 rfl d.heap.size 3 aZ (N Z 0) 1 8 Tryz.underlying22 a0 a1 a2 a3 rfl (by decide) _ _ _ rfl (r.alloc _) ⟨wr.heap.size,0,z⟩ 1 1 [N Z 0] rfl rfl ?c1 (pQ _) ?c3 ?c4 ?c5 ?_);case c1=>exact gU wr _ _
   case c3=>unfold maxLen;omega
   case c4=>omega
   case c5=>simp;omega
   intro bu bv aj aw _;rw[←av.out]at aj;have a7:=(h.alloc hz (Y #[N Z 0] 3)).grown aw (by simp;omega) (fun g ab=>(r.lt g ab).1);obtain⟨bw,bx,rfl⟩:=af aj;clear aw r h av a6;go_wp2;go_roundw;case rel=>exact⟨j+1,by omega,by go_num,aj,a7⟩
   case measure=>simp[intOf];omega
  ·have ax:j=(f-args.length).toNat:=by omega
   rw[←ax]at ad;have bz:args.length+j≤8:=by omega
   clear ax;have ak:=ag.ab h;have ay:=au.ab h;have az:∀w',aH (fun g=>g=w.heap.size+2) wr w'→aM w' (L k mem.length l) mem:=fun w' S=>aq.ab (X.trans ((h.mono (by omega)).trans (S.toBelow (by omega) (fun g ab=>by omega))));have aA:∀w',aH (fun g=>g=w.heap.size+2) wr w'→aM w' (L m spill.length n) spill:=fun w' S=>hs.ab (X.trans ((h.mono (by omega)).trans (S.toBelow (by omega) (fun g ab=>by omega))));have al:∀w',aH (fun g=>g=w.heap.size+2) wr w'→w'.cell? ⟨w.heap.size+1,1,z⟩=y (L k mem.length l):=fun w' S=>S.cell (by show¬(w.heap.size+1=w.heap.size+2);omega) (ak.cell (i:=1) rfl);have aa:∀w',aH (fun g=>g=w.heap.size+2) wr w'→w'.cell? ⟨w.heap.size+1,2,z⟩=y (L m spill.length n):=fun w' S=>S.cell (by show¬(w.heap.size+1=w.heap.size+2);omega) (ak.cell (i:=2) rfl);have am:Row wr.drew (w.heap.size+2) 126 DB:=ay.ab ((Below.refl _ _).drew);have E:aH (fun g=>g=w.heap.size+2) wr wr.drew:=(aH.refl _ _).below ((Below.refl wr.heap.size wr).drew) (Rq _);clear ak;go_wp2;go_region_held3(fun w'=>aH (fun g=>g=w.heap.size+2) wr w')(first|with_reducible exact T|with_reducible exact s|with_reducible exact E|with_reducible exact((((s.setCell (p:=⟨w.heap.size+2,0,z⟩) (.inl rfl) _).setCell (p:=⟨w.heap.size+2,1,z⟩) (.inl rfl) _).setCell (p:=⟨w.heap.size+2,2,z⟩) (.inl rfl) _).setCell (p:=⟨w.heap.size+2,3,z⟩) (.inl rfl) _).setCell (p:=⟨w.heap.size+2,4,z⟩) (.inl rfl) _|with_reducible exact((((T.setCell (p:=⟨w.heap.size+2,0,z⟩) (.inl rfl) _).setCell (p:=⟨w.heap.size+2,1,z⟩) (.inl rfl) _).setCell (p:=⟨w.heap.size+2,2,z⟩) (.inl rfl) _).setCell (p:=⟨w.heap.size+2,3,z⟩) (.inl rfl) _).setCell (p:=⟨w.heap.size+2,4,z⟩) (.inl rfl) _)(first|(go_at_call 105;with_reducible refine jm (L k mem.length l) mem wr.drew (az _ E) (by omega) _ ?_;intro cv aB F H;obtain⟨I,J,rfl⟩:=af F;have T:=E.below H E.size;have b:=am.ab H;have a8:=b.cell (i:=0) rfl;have a9:=b.frozen 0;have ba:=b.cell (i:=1) rfl;have bb:=b.frozen 1;have bc:=b.cell (i:=2) rfl;have bd:=b.frozen 2;have be:=b.cell (i:=3) rfl;have bf:=b.frozen 3;have bg:=b.cell (i:=4) rfl;have bh:=b.frozen 4)|(go_at_call 105;with_reducible refine jm (L m spill.length n) spill aB (aA _ T) (by omega) _ ?_;intro sv ac K t;obtain⟨M,O,rfl⟩:=af K;have s:=T.below t T.size;have a:=b.ab t;have aC:=a.cell (i:=0) rfl;have bi:=a.frozen 0;have aD:=a.cell (i:=1) rfl;have e1:=a.frozen 1;have aE:=a.cell (i:=2) rfl;have e2:=a.frozen 2;have aF:=a.cell (i:=3) rfl;have e3:=a.frozen 3;have aG:=a.cell (i:=4) rfl;have e4:=a.frozen 4)|(go_at_call 105;with_reducible refine jm (L m spill.length n) spill wr.drew (aA _ E) (by omega) _ ?_;intro sv ac K t;obtain⟨M,O,rfl⟩:=af K;have s:=E.below t E.size;have a:=am.ab t;have aC:=a.cell (i:=0) rfl;have bi:=a.frozen 0;have aD:=a.cell (i:=1) rfl;have e1:=a.frozen 1;have aE:=a.cell (i:=2) rfl;have e2:=a.frozen 2;have aF:=a.cell (i:=3) rfl;have e3:=a.frozen 3;have aG:=a.cell (i:=4) rfl;have e4:=a.frozen 4)|(go_at_call 105;with_reducible refine jm (L k mem.length l) mem ac (az _ s) (by omega) _ ?_;intro cv aB F H;obtain⟨I,J,rfl⟩:=af F;have T:=s.below H s.size;have b:=a.ab H;have a8:=b.cell (i:=0) rfl;have a9:=b.frozen 0;have ba:=b.cell (i:=1) rfl;have bb:=b.frozen 1;have bc:=b.cell (i:=2) rfl;have bd:=b.frozen 2;have be:=b.cell (i:=3) rfl;have bf:=b.frozen 3;have bg:=b.cell (i:=4) rfl;have bh:=b.frozen 4))
   ·have bA:=H.size;have bB:=t.size;have bC:wr.drew.heap.size=wr.heap.size:=rfl;have aI:ac.ownsRow d.heap.size 3 1 (L A (args.length+j) C) (args.length+j) (bL (fU args j)):=aV (aV (w:=wr.drew) r H (Rq _)) t (Rq _);have aJ:=aV F t (Rq _);have aK:=K;have aL:∀g,(Value.slice A (args.length+j) C).ownBlock=y g→(Value.slice I mem.length J).ownBlock≠y g:=fun g e e2=>by have al:=(r.lt g e).2;have aa:=(F.lt g e2).1;omega
    have aN:∀g,(Value.slice A (args.length+j) C).ownBlock=y g→(Value.slice M spill.length O).ownBlock≠y g:=fun g e e2=>by have al:=(r.lt g e).2;have aa:=(K.lt g e2).1;omega
    have aO:∀g,(Value.slice I mem.length J).ownBlock=y g→(Value.slice M spill.length O).ownBlock≠y g:=fun g e e2=>by have al:=(F.lt g e).2;have aa:=(K.lt g e2).1;omega
    have aP:∀g,(Value.slice I mem.length J).ownBlock=y g→d.heap.size≤g:=fun g e=>by have aa:=(F.lt g e).1;omega
    have aQ:∀g,(Value.slice M spill.length O).ownBlock=y g→d.heap.size≤g:=fun g e=>by have aa:=(K.lt g e).1;omega
    have aR:∀g,(Value.slice A (args.length+j) C).ownBlock=y g→d.heap.size≤g:=fun g e=>(r.lt g e).1;have bD:=s.size;have aS:cN (fun g=>g<w.heap.size) ac (L A (args.length+j) C) (L I mem.length J) (L M spill.length O) (L z 0 0) ⟨fU args j,mem,spill,[],0⟩:=⟨by show World.ownsRow _ _ _ _ _ _ _;simp only[kM];exact a_ aI (Nat.zero_le _),a_ aJ (Nat.zero_le _),a_ aK (Nat.zero_le _),World.ownsRow_nil _ _ _ _,aL,aN,(fun g _ e2=>by simp[Value.ownBlock]at e2),aO,(fun g _ e2=>by simp[Value.ownBlock]at e2),(fun g _ e2=>by simp[Value.ownBlock]at e2),(fun g e c=>by have:=aR g e;omega),(fun g e c=>by have:=aP g e;omega),(fun g e c=>by have:=aQ g e;omega),(fun g e c=>by simp[Value.ownBlock]at e),(fun g c=>by omega)⟩;have aT:=((((aS.sC a (by decide) 0 (L A (args.length+j) C)).sC (a.set 0 _) (by decide) 1 (L I mem.length J)).sC ((a.set 0 _).set 1 _) (by decide) 2 (L M spill.length O)).sC (((a.set 0 _).set 1 _).set 2 _) (by decide) 3 (L z 0 0)).sC ((((a.set 0 _).set 1 _).set 2 _).set 3 _) (by decide) 4 (N Z 0);have aU:=((((s.setCell (p:=⟨w.heap.size+2,0,z⟩) (.inl rfl) (L A (args.length+j) C)).setCell (p:=⟨w.heap.size+2,1,z⟩) (.inl rfl) (L I mem.length J)).setCell (p:=⟨w.heap.size+2,2,z⟩) (.inl rfl) (L M spill.length O)).setCell (p:=⟨w.heap.size+2,3,z⟩) (.inl rfl) (L z 0 0)).setCell (p:=⟨w.heap.size+2,4,z⟩) (.inl rfl) (N Z 0);have aW:=(X.trans (h.mono (by omega))).trans (aU.toBelow (B:=w.heap.size) (by omega) (fun g ab=>by omega));have aX:=ad _ _ _ _ aT aW;clear ad aS aT aU aW r F K aI aJ aK aL aN aO aP aQ aR ae ag au ay am b a H t T s E h X;have bj:Hid _:=aX;clear aX;go_wp2;(try simp only[Exit.inBlock,Exit.then]);refine bodyPost_ret (v:=Aq #[L A (args.length+j) C,L I mem.length J,L M spill.length O,L z 0 0,N Z 0]) ?_ rfl ?_;·simp[results,Tryz.results67,go_sem,aC,aD,aE,aF,aG]
    ·simp only[show w.heap.size+1+1=w.heap.size+2 from rfl];with_reducible exact bj.out
def kH:kf:=⟨0,0,[],[]⟩
def C0(p:a8)(args mem spill:List Int):Prop:=(args.length:Int)=p.args∧(mem.length:Int)=p.data∧(spill.length:Int)=p.slots
def gG(p:a8)(args mem spill:List Int):bq:=⟨fU args (p.regs-args.length).toNat,mem,spill,[],0⟩
def jM(s:ByteArray)(args mem spill:List Int)(fuel:Int)(o:kf)(e:Int):Prop:=(e=1∧o=kH∧∀p,aB p=true→ay (aK p)≠s)∨∃p,aB p=true∧ay (aK p)=s∧((e=3∧o=kH∧¬C0 p args mem spill)∨(e=4∧o=kH∧C0 p args mem spill∧¬(0≤fuel∧fuel≤300))∨(e=0∧C0 p args mem spill∧(0≤fuel∧fuel≤300)∧o=runN p.blocks fuel.toNat 0 (gG p args mem spill)))
theorem jM.one{s:ByteArray}{args mem spill:List Int}{fuel:Int}{o j:kf}{e e':Int}(h:jM s args mem spill fuel o e)(k:jM s args mem spill fuel j e'):o=j∧e=e':=by
 rcases h with⟨rfl,rfl,i⟩|⟨p,f,g,i⟩
 ·rcases k with⟨rfl,rfl,_⟩|⟨q,f,g,_⟩;·exact⟨rfl,rfl⟩
  ·exact absurd g (i q f)
 ·rcases k with⟨rfl,rfl,d⟩|⟨q,l,m,d⟩;·exact absurd g (d p f)
  ·obtain rfl:p=q:=iL f l (g.trans m.symm);rcases i with⟨rfl,rfl,a⟩|⟨rfl,rfl,a,b⟩|⟨rfl,a,b,rfl⟩
   ·rcases d with⟨rfl,rfl,_⟩|⟨_,_,c,_⟩|⟨_,c,_,_⟩;·exact⟨rfl,rfl⟩
    ·exact absurd c a
    ·exact absurd c a
   ·rcases d with⟨_,_,c⟩|⟨rfl,rfl,_,_⟩|⟨_,_,c,_⟩;·exact absurd a c
    ·exact⟨rfl,rfl⟩
    ·exact absurd c b
   ·rcases d with⟨_,_,c⟩|⟨_,_,_,c⟩|⟨rfl,_,_,rfl⟩;·exact absurd a c
    ·exact absurd b c
    ·exact⟨rfl,rfl⟩
theorem cR{w:W}{B:Nat}{e:TypeId}{a:Nat}{v:Vq}{n:Nat}{xs:List Vq}(h:w.ownsRow 0 e a v n xs)(b:∀g,v.ownBlock=y g→B≤g):w.ownsRow B e a v n xs:=by
 refine⟨h.1,?_⟩;rcases h.2 with c|⟨g,cap,d,rfl,i,f⟩;·exact .inl c
 ·exact .inr ⟨g,cap,d,rfl,b g rfl,f⟩
structure mq(w w':World)(o:kf)(mv lv:Value):Prop where
 mem:w'.ownsRow w.heap.size 3 1 mv o.mem.length (bL o.mem)
 aI:w'.ownsRow w.heap.size 3 1 lv o.aI.length (bL o.aI)
 apart:∀g,mv.ownBlock=some g→lv.ownBlock≠some g
 below:Below w.heap.size w w'
theorem cb{B:Nat}{w w':W}(h:G B w w'){R:Nat}(a:B≤R)(k b:Int)(c l:Vq):G B w (bJ w' R k b c l):=(((h.setCell a _).setCell a _).setCell a _).setCell a _
theorem dQ{w w':W}(h:G w.heap.size w w'):mq w w' kH (L z 0 0) (L z 0 0):=⟨World.ownsRow_nil _ _ _ _,World.ownsRow_nil _ _ _ _,fun g e=>by simp[Value.ownBlock]at e,h⟩
theorem kh{p:a8}{args mem spill:List Int}(a:aB p=true)(h:C0 p args mem spill):cC (gG p args mem spill) p.regs p.data p.slots:=by simp only[aB,Bool.and_eq_true,decide_eq_true_eq]at a;obtain⟨d,b,c⟩:=h;refine⟨?_,b,c⟩;show((fU args (p.regs-args.length).toNat).length:Int)=p.regs;rw[kM];omega
theorem Bd{s:bq}(o:dr)(h:s.bK=0):(bQ s o).bK=0∨(bQ s o).bK=2∨(bQ s o).bK=3:=by
 unfold bQ;repeat' split
 all_goals simp[bq.cT,bq.out,bq.die,bq.cell,bq.slot,h]
theorem v7(l:List dr){s:bq}(h:s.bK=0):(bh l s).bK=0∨(bh l s).bK=2∨(bh l s).bK=3:=by
 induction l generalizing s with
  |nil=>exact .inl h
  |cons o a b=>
   simp only[bh,h,if_true];rcases Bd o h with q|q|q;·exact b q
   ·rw[ky a (by omega)];exact .inr (.inl q)
   ·rw[ky a (by omega)];exact .inr (.inr q)
def dS(K:Nat→Prop)(t a:Int)(w:W)(M:Nat)(s:bq):Prop:=∃rv cv sv lv,Row w M 161 [N Z t,rv,cv,sv,lv,N Z s.bK,N Z a]∧cN K w rv cv sv lv s∧¬K M
theorem dS.ab{K:Nat→Prop}{w w':W}{M:Nat}{t a:Int}{s:bq}(h:dS K t a w M s)(b:G w.heap.size w w'):dS K t a w' M s:=by obtain⟨rv,cv,sv,lv,c,d,e⟩:=h;exact⟨rv,cv,sv,lv,c.ab b,d.ab b,e⟩
theorem dS.kept{K K':Nat→Prop}{w w':W}{M:Nat}{t a:Int}{s:bq}(h:dS K t a w M s)(b:∀g,K' g→K g∨w.heap.size≤g)(f:∀g,K' g→g<w'.heap.size)(c:G w.heap.size w w'):dS K' t a w' M s:=by
 obtain⟨rv,cv,sv,lv,d,i,j⟩:=h;refine⟨rv,cv,sv,lv,d.ab c,i.kept b f c,fun e=>?_⟩;rcases b M e with q|q;·exact j q
 ·have:=d.lt;omega
theorem dS.lt{K:Nat→Prop}{w:W}{M:Nat}{t a:Int}{s:bq}(h:dS K t a w M s):∀g,K g→g<w.heap.size:=by obtain⟨rv,cv,sv,lv,c,b,d⟩:=h;exact b.lt
structure cH(K:Nat→Prop)(t r:Int)(w0 w:World)(M O:Nat)(ty:TypeId)(xs:List Value)(s:bq):Prop where
 cz:dS (fun g=>K g∨g=O) t r w M s
 row:Row w O ty xs
 ab:aH (fun g=>¬K g) w0 w
 lt:∀g,K g→g<w0.heap.size
 ge:w0.heap.size≤O
theorem cH.start{K:Nat→Prop}{w:W}{M:Nat}{s:bq}{t b:Int}(h:dS K t b w M s)(c:TypeId)(xs:List Vq):cH K t b w (w.alloc (Y xs.toArray c)) M w.heap.size c xs s:=⟨h.kept (fun g a=>by rcases a with a|a;exact .inl a;exact .inr (by omega)) (fun g a=>by rcases a with a|a;have:=h.lt g a;simp;omega;simp;omega) ((Below.refl _ _).alloc (Rq _) _),heap_alloc_new w _,(aH.refl _ _).alloc _,h.lt,Rq _⟩
theorem cH.below{K:Nat→Prop}{w0 w w':W}{M O:Nat}{t b:Int}{c:TypeId}{xs:List Vq}{s:bq}(h:cH K t b w0 w M O c xs s)(a:G w.heap.size w w'):cH K t b w0 w' M O c xs s:=⟨h.cz.ab a,h.row.ab a,h.ab.below a h.ab.size,h.lt,h.ge⟩
theorem cH.next{K:Nat→Prop}{w0 w w':W}{M O:Nat}{t a:Int}{c:TypeId}{xs:List Vq}{s s':bq}(h:cH K t a w0 w M O c xs s)(f:dS (fun g=>K g∨g=O) t a w' M s')(d:aH (fun g=>¬(K g∨g=O)) w w'):cH K t a w0 w' M O c xs s':=⟨f,h.row.same (d.block O h.row.lt (fun b=>b (.inr rfl))),h.ab.trans (d.mono (fun g b e=>b (.inl e))),h.lt,h.ge⟩
theorem cH.done{K:Nat→Prop}{w0 w:W}{M O:Nat}{t b:Int}{c:TypeId}{xs:List Vq}{s:bq}(h:cH K t b w0 w M O c xs s):dS K t b w M s:=h.cz.kept (fun g a=>.inl (.inl a)) (fun g a=>Nat.lt_of_lt_of_le (h.lt g a) h.ab.size) (Below.refl _ _)
theorem cH.fW{K:Nat→Prop}{w0 w:W}{M O:Nat}{t c:Int}{j:TypeId}{xs:List Vq}{s:bq}(h:cH K t c w0 w M O j xs s){rv cv sv lv:Vq}(f:Row w M 161 [N Z t,rv,cv,sv,lv,N Z s.bK,N Z c])(d:cN (fun g=>K g∨g=O) w rv cv sv lv s){g i:Nat}(b:rv.ownBlock=y g)(k:i<s.regs.length)(u:Int):dS K t c (w.setCell ⟨g,i,z⟩ (N Z u)) M (s.cT i u)∧aH (fun g=>¬K g) w0 (w.setCell ⟨g,i,z⟩ (N Z u)):=by
 have l:¬(rv.ownBlock=y M):=bO f d.regs (by decide);have m:¬(K g∨g=O):=d.kr g b;have n:¬K M:=by obtain⟨_,_,_,_,_,_,o⟩:=h.cz;exact fun e=>o (.inl e)
 have b2:=d.fW b k u;have p:=f.a7 (a:=⟨g,i,z⟩) (fun e=>l (by rw[b];exact congrArg y e.symm)) (N Z u);have q:=b2.kept (K':=K) (fun g b=>.inl (.inl b)) (fun g b=>by have:=h.lt g b;have:=h.ab.size;simp;omega) (Below.refl _ _);exact⟨⟨rv,cv,sv,lv,p,q,n⟩,h.ab.setCell (.inl (fun e=>m (.inl e))) _⟩
theorem cH.oq{K:Nat→Prop}{w0 w:W}{M O:Nat}{t c:Int}{j:TypeId}{xs:List Vq}{s:bq}(h:cH K t c w0 w M O j xs s){rv cv sv lv:Vq}(f:Row w M 161 [N Z t,rv,cv,sv,lv,N Z s.bK,N Z c])(d:cN (fun g=>K g∨g=O) w rv cv sv lv s){g i:Nat}(b:cv.ownBlock=y g)(k:i<s.cells.length)(u:Int):dS K t c (w.setCell ⟨g,i,z⟩ (N Z u)) M (s.cell i u)∧aH (fun g=>¬K g) w0 (w.setCell ⟨g,i,z⟩ (N Z u)):=by
 have l:¬(cv.ownBlock=y M):=bO f d.cells (by decide);have m:¬(K g∨g=O):=d.kc g b;have n:¬K M:=by obtain⟨_,_,_,_,_,_,o⟩:=h.cz;exact fun e=>o (.inl e)
 have b2:=d.oq b k u;have p:=f.a7 (a:=⟨g,i,z⟩) (fun e=>l (by rw[b];exact congrArg y e.symm)) (N Z u);have q:=b2.kept (K':=K) (fun g b=>.inl (.inl b)) (fun g b=>by have:=h.lt g b;have:=h.ab.size;simp;omega) (Below.refl _ _);exact⟨⟨rv,cv,sv,lv,p,q,n⟩,h.ab.setCell (.inl (fun e=>m (.inl e))) _⟩
theorem cH.lU{K:Nat→Prop}{w0 w:W}{M O:Nat}{t c:Int}{j:TypeId}{xs:List Vq}{s:bq}(h:cH K t c w0 w M O j xs s){rv cv sv lv:Vq}(f:Row w M 161 [N Z t,rv,cv,sv,lv,N Z s.bK,N Z c])(d:cN (fun g=>K g∨g=O) w rv cv sv lv s){g i:Nat}(b:sv.ownBlock=y g)(k:i<s.slots.length)(u:Int):dS K t c (w.setCell ⟨g,i,z⟩ (N Z u)) M (s.slot i u)∧aH (fun g=>¬K g) w0 (w.setCell ⟨g,i,z⟩ (N Z u)):=by
 have l:¬(sv.ownBlock=y M):=bO f d.slots (by decide);have m:¬(K g∨g=O):=d.ks g b;have n:¬K M:=by obtain⟨_,_,_,_,_,_,o⟩:=h.cz;exact fun e=>o (.inl e)
 have b2:=d.lU b k u;have p:=f.a7 (a:=⟨g,i,z⟩) (fun e=>l (by rw[b];exact congrArg y e.symm)) (N Z u);have q:=b2.kept (K':=K) (fun g b=>.inl (.inl b)) (fun g b=>by have:=h.lt g b;have:=h.ab.size;simp;omega) (Below.refl _ _);exact⟨⟨rv,cv,sv,lv,p,q,n⟩,h.ab.setCell (.inl (fun e=>m (.inl e))) _⟩
theorem cH.bK{K:Nat→Prop}{w0 w:W}{M O:Nat}{t a:Int}{f:TypeId}{xs:List Vq}{s:bq}(h:cH K t a w0 w M O f xs s){rv cv sv lv:Vq}(c:Row w M 161 [N Z t,rv,cv,sv,lv,N Z s.bK,N Z a])(i:cN (fun g=>K g∨g=O) w rv cv sv lv s)(u:Int):dS K t a (w.setCell ⟨M,5,z⟩ (N Z u)) M (s.die u)∧aH (fun g=>¬K g) w0 (w.setCell ⟨M,5,z⟩ (N Z u)):=by
 have d:¬K M:=by obtain⟨_,_,_,_,_,_,j⟩:=h.cz;exact fun e=>j (.inl e)
 have b2:=(i.sC c (by decide) 5 (N Z u)).nH u;have k:=b2.kept (K':=K) (fun g b=>.inl (.inl b)) (fun g b=>by have:=h.lt g b;have:=h.ab.size;simp;omega) (Below.refl _ _);exact⟨⟨rv,cv,sv,lv,c.set 5 (N Z u),k,d⟩,h.ab.setCell (.inl d) _⟩
theorem cH.next'{K:Nat→Prop}{t i b c:Int}{w0 w w':W}{M O:Nat}{d:TypeId}{xs:List Vq}{s s':bq}(h:cH K t i w0 w M O d xs s)(j:dS (fun g=>K g∨g=O) b c w' M s')(f:aH (fun g=>¬(K g∨g=O)) w w'):cH K b c w0 w' M O d xs s':=⟨j,h.row.same (f.block O h.row.lt (fun a=>a (.inr rfl))),h.ab.trans (f.mono (fun g a e=>a (.inl e))),h.lt,h.ge⟩
theorem j7(x:Int):∀u∈[Value.int Z x],u.oneCell'=true:=by intro u a;simp at a;subst a;rfl
theorem lJ{K:Nat→Prop}{t f:Int}{w w1:W}{M:Nat}{s:bq}{rv cv sv lv a:Vq}{x:Int}(h:Row w M 161 [N Z t,rv,cv,sv,lv,N Z s.bK,N Z f])(c:cN K w rv cv sv lv s)(j:¬K M)(l:w1.ownsRow 0 3 1 a (s.aI.length+1) (bL s.aI++[N Z x]))(d:(w.alloc (Y #[N Z x] 3)).grownBy w1 lv.ownBlock)(m:a.ownBlock=lv.ownBlock∨a.ownBlock=y (w.heap.size+1)):(dS K t f (w1.setCell ⟨M,4,z⟩ a) M (s.out x)∧aH (fun g=>¬K g) w (w1.setCell ⟨M,4,z⟩ a))∧w1.cell? ⟨M,4,z⟩=y lv∧w1.frozen? ⟨M,4,z⟩=false:=by have n:=bO h c.aI (by decide);have k:=(Below.refl w.heap.size w).alloc (Rq _) (Y #[N Z x] 3);have o:=c.ab k;have q:=h.ab k;have r:aH (fun g=>¬K g) w (w.alloc (Y #[N Z x] 3)):=(aH.refl _ _).alloc _;have u:=o.app l d (by simpa using m);have b:=q.grown d n;have v:=r.grown d (fun g e=>.inl (c.kl g e));have A:=u.sC b (by decide) 4 a;have B:=b.set 4 a;have C:=v.setCell (p:=⟨M,4,z⟩) (.inl j) a;exact⟨⟨⟨rv,cv,sv,a,B,A,j⟩,C⟩,b.cell (i:=4) rfl,b.frozen 4⟩
theorem xi{K:Nat→Prop}{t a:Int}{w:W}{M:Nat}{s:bq}{rv cv sv lv:Vq}(b:Row w M 161 [N Z t,rv,cv,sv,lv,N Z s.bK,N Z a])(d:cN K w rv cv sv lv s)(c:¬K M)(u:Int):dS K t a (w.setCell ⟨M,5,z⟩ (N Z u)) M (s.die u)∧aH (fun g=>¬K g) w (w.setCell ⟨M,5,z⟩ (N Z u)):=⟨⟨rv,cv,sv,lv,b.set 5 (N Z u),(d.sC b (by decide) 5 _).nH u,c⟩,(aH.refl _ _).setCell (.inl c) _⟩
theorem tP(K:Nat→Prop)(t k:Int)(M:Nat)(s:bq)(n:Int)(w:W)(h:dS K t k w M s)(X:s.aI.length≤100000)(c:Ending→W→Prop)(q:0≤n∧n<s.cells.length→∀w',dS K t k w' M (s.out n)→aH (fun g=>¬K g) w w'→c (Xq (Bq true)) w')(r:¬(0≤n∧n<s.cells.length)→∀w',dS K t k w' M ((s.out n).die 2)→aH (fun g=>¬K g) w w'→c (Xq (Bq false)) w'):Calls Tryz.prog 171 #[Pq (y ⟨M,0,z⟩),N Z n] w c:=by
 obtain⟨C,E,F,H,I⟩:=info_parts Tryz.gh;obtain⟨rv,cv,sv,lv,a,b,l⟩:=h;obtain⟨aa,ab,rfl⟩:=af b.aI;have J:=a.cell (i:=4) rfl;have u:=(b.ab ((Below.refl w.heap.size w).alloc (Rq _) (Y #[N Z n] 3))).aI;go_enter Tryz.func171,Tryz.ntmps171;go_wp2_with(at_builtin;refine wpList_append_own_at _ rfl _ _ 22 rfl 0 3 C (N Z 0) 1 8 Tryz.underlying22 E F H I rfl (by decide) _ _ _ rfl u ⟨w.heap.size,0,z⟩ 1 1 [N Z n] rfl rfl ?c1 (j7 n) ?c3 ?c4 (by omega) ?_);case c1=>exact gU w _ _
 case c3=>unfold maxLen;omega
 case c4=>omega
 intro ac w1 m v _ x;obtain⟨⟨o,p⟩,ad,ae⟩:=lJ a b l m v (by simpa using x);obtain⟨O,P,rfl⟩:=af m;clear a b m v x u J;generalize j:w1.setCell ⟨M,4,z⟩ (L O (s.aI.length+1) P)=A at*;obtain⟨rv,cv,sv,lv,a,b,l⟩:=id o;obtain⟨ag,ah,rfl⟩:=af b.cells;have B:=a.cell (i:=2) rfl;have Q:(s.out n).cells.length=s.cells.length:=rfl;rw[Q]at B a b;have R:=a.cell (i:=5) rfl;have S:=a.frozen 5;have d:Hid (¬(0≤n∧n<s.cells.length)→c (Xq (Bq false)) (A.setCell ⟨M,5,z⟩ (N Z 2))):=fun hc=>by obtain⟨T,U⟩:=xi a b l 2;exact r hc _ T (p.trans U)
 have e:Hid (0≤n∧n<s.cells.length→c (Xq (Bq true)) A):=fun hc=>q hc _ o p;clear q r o p a b;rw[←j]at B R S d e;by_cases ai:n<0;·have f:Hid (c (Xq (Bq false)) _):=d.out (by omega);clear d e j;go_wp2;exact f.out
 by_cases V:n<s.cells.length;·have f:Hid (c (Xq (Bq true)) _):=e.out ⟨by omega,V⟩;clear d e j;go_wp2;exact f.out
 ·have f:Hid (c (Xq (Bq false)) _):=d.out (by omega);clear d e j;go_wp2;exact f.out
theorem DH(K:Nat→Prop)(t m:Int)(M:Nat)(s:bq)(a b c:Int)(regs data slots:Int)(w:W)(h:dS K t m w M s)(A:s.aI.length≤99999)(hz:cC s regs data slots)(n:aw regs slots ⟨1,a,b,c⟩=true)(f:Ending→W→Prop)(j:∀w',dS K t m w' M (bQ s ⟨1,a,b,c⟩)→aH (fun g=>¬K g) w w'→f (Xq (Uq #[])) w'):Calls Tryz.prog 145 #[Pq (y ⟨M,0,z⟩),Aq #[N Z 1,N Z a,N Z b,N Z c]] w f:=by
 obtain⟨B,C,E⟩:=hz;simp only[aw,below,if_true,Bool.and_eq_true,decide_eq_true_eq]at n;obtain⟨⟨ga,F⟩,H⟩:=n;obtain⟨a,rfl⟩:=Int.eq_ofNat_of_zero_le ga.1;have o:a<s.regs.length:=by omega
 simp only[bQ,if_true]at j;have d:=cH.start h 36 [N Z 1,N Z a,N Z b,N Z c];have I:=d.row.cell (i:=0) rfl;clear h;have J:=d.row.cell (i:=2) rfl;have O:=d.row.cell (i:=3) rfl;have e:=d.below ((Below.refl _ _).drew);obtain⟨rv,cv,sv,lv,k,l,P⟩:=id e.cz;obtain⟨g2,Q,r,u,R,v⟩:=l.regs.at (i:=a) o;subst r;have m1:=k.cell (i:=1) rfl;have S:=e.row.cell (i:=1) rfl;have T:=v a;have U:(0:Int)≤(a:Int):=by omega
 have V:(a:Int)<(s.regs.length:Int):=by omega
 obtain⟨p,q⟩:=e.fW k l u (i:=a) o (256*b+c-32768);have x:Hid (f (Xq (Uq #[])) ((w.alloc (Y #[N Z 1,N Z a,N Z b,N Z c] 36)).drew.setCell ⟨g2,a,z⟩ (N Z (256*b+c-32768)))):=j _ (p) q;clear j p q e k l d;go_enter Tryz.func145,Tryz.ntmps145;go_wp2;refine cS 8 (by kernel_rfl) (by kernel_rfl) ?_;simp only[List.take_succ_cons,List.take_zero,List.drop_succ_cons,List.drop_zero];repeat still_step
 refine wpStill_nil ?_;go_wp2;go_end0;exact x.out
theorem CW(K:Nat→Prop)(t m:Int)(M:Nat)(s:bq)(a b c:Int)(regs data slots:Int)(w:W)(h:dS K t m w M s)(I:s.aI.length≤99999)(hz:cC s regs data slots)(n:aw regs slots ⟨14,a,b,c⟩=true)(j:Ending→W→Prop)(k:∀w',dS K t m w' M (bQ s ⟨14,a,b,c⟩)→aH (fun g=>¬K g) w w'→j (Xq (Uq #[])) w'):Calls Tryz.prog 145 #[Pq (y ⟨M,0,z⟩),Aq #[N Z 14,N Z a,N Z b,N Z c]] w j:=by
 obtain⟨J,O,P⟩:=hz;simp[aw,below]at n;obtain⟨⟨ga,r⟩,u⟩:=n;subst u;obtain⟨a,rfl⟩:=Int.eq_ofNat_of_zero_le ga.1;obtain⟨b,rfl⟩:=Int.eq_ofNat_of_zero_le r.1;have l:=cH.start h 36 [N Z 14,N Z a,N Z b,N Z 0];have Q:=l.row.cell (i:=0) rfl;clear h;simp[bQ]at k;have o:a<s.slots.length:=by omega
 have x:b<s.regs.length:=by omega
 have d:=l.below ((Below.refl _ _).drew);obtain⟨rv,cv,sv,lv,e,f,R⟩:=id d.cz;obtain⟨g2,S,A,B,T,C⟩:=f.slots.at (i:=a) o;obtain⟨g1,U,E,V,F,X⟩:=f.regs.at (i:=b) x;have e1:s.regs.getD b 0=rg s.regs b:=by simp[rg]
 rw[e1]at F;subst A;subst E;have aa:=e.cell (i:=3) rfl;have m1:=e.cell (i:=1) rfl;have ab:=d.row.cell (i:=1) rfl;have ac:=d.row.cell (i:=2) rfl;have ad:=C a;have ae:(0:Int)≤(a:Int):=by omega
 have af:(a:Int)<(s.slots.length:Int):=by omega
 have ag:(0:Int)≤(b:Int):=by omega
 have ah:(b:Int)<(s.regs.length:Int):=by omega
 obtain⟨p,q⟩:=d.lU e f B (i:=a) o (rg s.regs b);have H:Hid (j (Xq (Uq #[])) ((w.alloc (Y #[N Z 14,N Z a,N Z b,N Z 0] 36)).drew.setCell ⟨g2,a,z⟩ (N Z (rg s.regs b)))):=k _ p q;clear k p q l d e f;go_enter Tryz.func145,Tryz.ntmps145;go_wp2;refine cS 15 (by kernel_rfl) (by kernel_rfl) ?_;simp only[List.take_succ_cons,List.take_zero,List.drop_succ_cons,List.drop_zero];repeat still_step
 refine wpStill_nil ?_;go_wp2;(try simp only[Exit.inBlock,Exit.then]);refine bodyPost_ret (v:=Uq #[]) ?_ rfl ?_;·simp[results,Tryz.results145,go_sem]
 ·exact H.out
theorem DI(K:Nat→Prop)(t k:Int)(M:Nat)(s:bq)(a b c:Int)(regs data slots:Int)(w:W)(h:dS K t k w M s)(ab:s.aI.length≤99999)(hz:cC s regs data slots)(p:aw regs slots ⟨2,a,b,c⟩=true)(m:Ending→W→Prop)(n:∀w',dS K t k w' M (bQ s ⟨2,a,b,c⟩)→aH (fun g=>¬K g) w w'→m (Xq (Uq #[])) w'):Calls Tryz.prog 145 #[Pq (y ⟨M,0,z⟩),Aq #[N Z 2,N Z a,N Z b,N Z c]] w m:=by
 obtain⟨ac,ad,ae⟩:=hz;simp[aw,below]at p;obtain⟨⟨ga,I⟩,J⟩:=p;subst J;obtain⟨a,rfl⟩:=Int.eq_ofNat_of_zero_le ga.1;obtain⟨b,rfl⟩:=Int.eq_ofNat_of_zero_le I.1;have q:a<s.regs.length:=by omega
 have O:b<s.regs.length:=by omega
 simp[bQ]at n;have j:=cH.start h 36 [N Z 2,N Z a,N Z b,N Z 0];have af:=j.row.cell (i:=0) rfl;clear h;obtain⟨rv,cv,sv,lv,e,f,r⟩:=id j.cz;obtain⟨ag,ah,o,P,u,Q⟩:=f.regs.at (i:=b) O;subst o;have R:=e.cell (i:=1) rfl;have S:=j.row.cell (i:=2) rfl;have T:(0:Int)≤(b:Int):=by omega
 have U:(b:Int)<(s.regs.length:Int):=by omega
 have v:s.regs.getD b 0=rg s.regs b:=by simp[rg]
 rw[v]at u;generalize rg s.regs b=x at*;have A:∀d,cH K t k w ((w.alloc (Y #[N Z 2,N Z a,N Z b,N Z 0] 36)).drewN d) M w.heap.size 36 [N Z 2,N Z a,N Z b,N Z 0] s:=fun d=>j.below (below_drewN (Below.refl _ _) d);go_enter Tryz.func145,Tryz.ntmps145;go_wp2;go_quiet(fail);generalize B:(w.alloc (Y #[N Z 2,N Z a,N Z b,N Z 0] 36)).drewN _=C;have E:cH K t k w C M w.heap.size 36 [N Z 2,N Z a,N Z b,N Z 0] s:=by rw[←B];exact A _
 clear A B R S u Q P r T U v j e f;have l:=E.below ((Below.refl _ _).drew);obtain⟨rv,cv,sv,lv,e,f,r⟩:=id l.cz;obtain⟨g2,ai,o,V,aj,X⟩:=f.regs.at (i:=a) q;subst o;have m1:=e.cell (i:=1) rfl;have ak:=l.row.cell (i:=1) rfl;have al:=X a;have am:(0:Int)≤(a:Int):=by omega
 have an:(a:Int)<(s.regs.length:Int):=by omega
 obtain⟨F,H⟩:=l.fW e f V (i:=a) q (x);have aa:Hid (m (Xq (Uq #[])) (C.drew.setCell ⟨g2,a,z⟩ (N Z (x)))):=n _ (F) H;clear n F H l e f E;go_wp2;refine cS 8 (by kernel_rfl) (by kernel_rfl) ?_;simp only[List.take_succ_cons,List.take_zero,List.drop_succ_cons,List.drop_zero];repeat still_step
 refine wpStill_nil ?_;go_wp2;go_end0;exact aa.out
theorem CX(K:Nat→Prop)(t k:Int)(M:Nat)(s:bq)(a b c:Int)(regs data slots:Int)(w:W)(h:dS K t k w M s)(ab:s.aI.length≤99999)(hz:cC s regs data slots)(p:aw regs slots ⟨15,a,b,c⟩=true)(m:Ending→W→Prop)(n:∀w',dS K t k w' M (bQ s ⟨15,a,b,c⟩)→aH (fun g=>¬K g) w w'→m (Xq (Uq #[])) w'):Calls Tryz.prog 145 #[Pq (y ⟨M,0,z⟩),Aq #[N Z 15,N Z a,N Z b,N Z c]] w m:=by
 obtain⟨ac,ad,ae⟩:=hz;simp[aw,below]at p;obtain⟨⟨ga,I⟩,J⟩:=p;subst J;obtain⟨a,rfl⟩:=Int.eq_ofNat_of_zero_le ga.1;obtain⟨b,rfl⟩:=Int.eq_ofNat_of_zero_le I.1;have q:a<s.regs.length:=by omega
 have O:b<s.slots.length:=by omega
 simp[bQ]at n;have j:=cH.start h 36 [N Z 15,N Z a,N Z b,N Z 0];have af:=j.row.cell (i:=0) rfl;clear h;obtain⟨rv,cv,sv,lv,e,f,r⟩:=id j.cz;obtain⟨ag,ah,o,P,u,Q⟩:=f.slots.at (i:=b) O;subst o;have R:=e.cell (i:=3) rfl;have S:=j.row.cell (i:=2) rfl;have T:(0:Int)≤(b:Int):=by omega
 have U:(b:Int)<(s.slots.length:Int):=by omega
 have v:s.slots.getD b 0=rg s.slots b:=by simp[rg]
 rw[v]at u;generalize rg s.slots b=x at*;have A:∀d,cH K t k w ((w.alloc (Y #[N Z 15,N Z a,N Z b,N Z 0] 36)).drewN d) M w.heap.size 36 [N Z 15,N Z a,N Z b,N Z 0] s:=fun d=>j.below (below_drewN (Below.refl _ _) d);go_enter Tryz.func145,Tryz.ntmps145;go_wp2;go_quiet(fail);generalize B:(w.alloc (Y #[N Z 15,N Z a,N Z b,N Z 0] 36)).drewN _=C;have E:cH K t k w C M w.heap.size 36 [N Z 15,N Z a,N Z b,N Z 0] s:=by rw[←B];exact A _
 clear A B R S u Q P r T U v j e f;have l:=E.below ((Below.refl _ _).drew);obtain⟨rv,cv,sv,lv,e,f,r⟩:=id l.cz;obtain⟨g2,ai,o,V,aj,X⟩:=f.regs.at (i:=a) q;subst o;have m1:=e.cell (i:=1) rfl;have ak:=l.row.cell (i:=1) rfl;have al:=X a;have am:(0:Int)≤(a:Int):=by omega
 have an:(a:Int)<(s.regs.length:Int):=by omega
 obtain⟨F,H⟩:=l.fW e f V (i:=a) q (x);have aa:Hid (m (Xq (Uq #[])) (C.drew.setCell ⟨g2,a,z⟩ (N Z (x)))):=n _ (F) H;clear n F H l e f E;go_wp2;refine cS 8 (by kernel_rfl) (by kernel_rfl) ?_;simp only[List.take_succ_cons,List.take_zero,List.drop_succ_cons,List.drop_zero];repeat still_step
 refine wpStill_nil ?_;go_wp2;go_end0;exact aa.out
theorem CV(K:Nat→Prop)(t m:Int)(M:Nat)(s:bq)(a b c:Int)(regs data slots:Int)(w:W)(h:dS K t m w M s)(am:s.aI.length≤99999)(hz:cC s regs data slots)(H:aw regs slots ⟨13,a,b,c⟩=true)(x:Ending→W→Prop)(e:∀w',dS K t m w' M (bQ s ⟨13,a,b,c⟩)→aH (fun g=>¬K g) w w'→x (Xq (Uq #[])) w'):Calls Tryz.prog 145 #[Pq (y ⟨M,0,z⟩),Aq #[N Z 13,N Z a,N Z b,N Z c]] w x:=by
 obtain⟨an,ao,ap⟩:=hz;simp[aw,below]at H;obtain⟨⟨ga,U⟩,V⟩:=H;subst V;obtain⟨a,rfl⟩:=Int.eq_ofNat_of_zero_le ga.1;obtain⟨b,rfl⟩:=Int.eq_ofNat_of_zero_le U.1;have X:a<s.regs.length:=by omega
 have aa:b<s.regs.length:=by omega
 simp[bQ]at e;have o:=cH.start h 36 [N Z 13,N Z a,N Z b,N Z 0];have aq:=o.row.cell (i:=0) rfl;clear h;obtain⟨rv,cv,sv,lv,f,k,I⟩:=id o.cz;obtain⟨ar,ab,E,ac,A,J⟩:=k.regs.at (i:=a) X;subst E;have ad:=f.cell (i:=1) rfl;have ae:=o.row.cell (i:=1) rfl;have af:(0:Int)≤(a:Int):=by omega
 have ag:(a:Int)<(s.regs.length:Int):=by omega
 have O:s.regs.getD a 0=rg s.regs a:=by simp[rg]
 rw[O]at A;generalize rg s.regs a=n at*;have P:∀d,cH K t m w ((w.alloc (Y #[N Z 13,N Z a,N Z b,N Z 0] 36)).drewN d) M w.heap.size 36 [N Z 13,N Z a,N Z b,N Z 0] s:=fun d=>o.below (below_drewN (Below.refl _ _) d);go_enter Tryz.func145,Tryz.ntmps145;go_wp2;go_quiet(fail);generalize Q:(w.alloc (Y #[N Z 13,N Z a,N Z b,N Z 0] 36)).drewN _=R;have p:cH K t m w R M w.heap.size 36 [N Z 13,N Z a,N Z b,N Z 0] s:=by rw[←Q];exact P _
 clear P Q ad ae A J ac I af ag O o f k;go_wp2_with fail;refine tP _ t m M s n R p.cz (by omega) _ ?_ ?_
 ·intro B q r u;rw[if_pos B]at e;obtain⟨ah,ai⟩:=B;obtain⟨j,rfl⟩:=Int.eq_ofNat_of_zero_le ah;have l:=p.next r u;clear p r u;have C:=l.below ((Below.refl q.heap.size q).drew);obtain⟨rv,cv,sv,lv,f,k,I⟩:=id C.cz;obtain⟨g1,au,aj,ak,av,al⟩:=k.cells.at (i:=j) (by show j<s.cells.length;omega);obtain⟨g2,ab,E,ax,A,J⟩:=k.regs.at (i:=b) aa;subst aj E;have e1:(s.out j).regs.getD b 0=rg s.regs b:=by simp[rg,bq.out]
  rw[e1]at A;have m1:=f.cell (i:=1) rfl;have m2:=f.cell (i:=2) rfl;have ay:=C.row.cell (i:=2) rfl;have az:=al j;have aA:(0:Int)≤(b:Int):=by omega
  have aB:(b:Int)<((s.out j).regs.length:Int):=by show(b:Int)<(s.regs.length:Int);omega
  have aC:(0:Int)≤(j:Int):=by omega
  have aD:(j:Int)<((s.out j).cells.length:Int):=ai;obtain⟨S,T⟩:=C.oq f k ak (i:=j) (by show j<s.cells.length;omega) (rg s.regs b);have F:Hid (x (Xq (Uq #[])) (q.drew.setCell ⟨g1,j,z⟩ (N Z (rg s.regs b)))):=e _ S T;clear e S T l C f k;go_wp2;refine cS 14 (by kernel_rfl) (by kernel_rfl) ?_;simp only[List.take_succ_cons,List.take_zero,List.drop_succ_cons,List.drop_zero];repeat still_step
  refine wpStill_nil ?_;go_wp2;(try simp only[Exit.inBlock,Exit.then]);refine bodyPost_ret (v:=Uq #[]) ?_ rfl ?_;·simp[results,Tryz.results145,go_sem]
  ·exact F.out
 ·intro B q r u;rw[if_neg B]at e;have l:=p.next r u;have F:Hid (x (Xq (Uq #[])) q):=e _ l.done l.ab;clear e l p r u;go_wp2;(try simp only[Exit.inBlock,Exit.then]);refine bodyPost_ret (v:=Uq #[]) ?_ rfl ?_;·simp[results,Tryz.results145,go_sem]
  ·exact F.out
theorem CU(K:Nat→Prop)(t m:Int)(M:Nat)(s:bq)(a b c:Int)(regs data slots:Int)(w:W)(h:dS K t m w M s)(ao:s.aI.length≤99999)(hz:cC s regs data slots)(I:aw regs slots ⟨12,a,b,c⟩=true)(u:Ending→W→Prop)(k:∀w',dS K t m w' M (bQ s ⟨12,a,b,c⟩)→aH (fun g=>¬K g) w w'→u (Xq (Uq #[])) w'):Calls Tryz.prog 145 #[Pq (y ⟨M,0,z⟩),Aq #[N Z 12,N Z a,N Z b,N Z c]] w u:=by
 obtain⟨ap,aq,ar⟩:=hz;simp[aw,below]at I;obtain⟨⟨ga,V⟩,X⟩:=I;subst X;obtain⟨a,rfl⟩:=Int.eq_ofNat_of_zero_le ga.1;obtain⟨b,rfl⟩:=Int.eq_ofNat_of_zero_le V.1;have J:a<s.regs.length:=by omega
 have aa:b<s.regs.length:=by omega
 simp[bQ]at k;have o:=cH.start h 36 [N Z 12,N Z a,N Z b,N Z 0];have au:=o.row.cell (i:=0) rfl;clear h;obtain⟨rv,cv,sv,lv,e,f,C⟩:=id o.cz;obtain⟨av,ax,E,ab,O,ac⟩:=f.regs.at (i:=b) aa;subst E;have ad:=e.cell (i:=1) rfl;have ae:=o.row.cell (i:=2) rfl;have af:(0:Int)≤(b:Int):=by omega
 have ag:(b:Int)<(s.regs.length:Int):=by omega
 have P:s.regs.getD b 0=rg s.regs b:=by simp[rg]
 rw[P]at O;generalize rg s.regs b=n at*;have Q:∀d,cH K t m w ((w.alloc (Y #[N Z 12,N Z a,N Z b,N Z 0] 36)).drewN d) M w.heap.size 36 [N Z 12,N Z a,N Z b,N Z 0] s:=fun d=>o.below (below_drewN (Below.refl _ _) d);go_enter Tryz.func145,Tryz.ntmps145;go_wp2;go_quiet(fail);generalize R:(w.alloc (Y #[N Z 12,N Z a,N Z b,N Z 0] 36)).drewN _=S;have p:cH K t m w S M w.heap.size 36 [N Z 12,N Z a,N Z b,N Z 0] s:=by rw[←R];exact Q _
 clear Q R ad ae O ac ab C af ag P o e f;go_wp2_with fail;refine tP _ t m M s n S p.cz (by omega) _ ?_ ?_
 ·intro A F q r;rw[if_pos A]at k;obtain⟨ah,ai⟩:=A;obtain⟨j,rfl⟩:=Int.eq_ofNat_of_zero_le ah;have l:=p.next q r;clear p q r;obtain⟨rv,cv,sv,lv,e,f,C⟩:=id l.cz;obtain⟨g1,ay,aj,az,ak,aA⟩:=f.cells.at (i:=j) (by show j<s.cells.length;omega);subst aj;have e1:(s.out j).cells.getD j 0=rg s.cells j:=by simp[rg,bq.out]
  rw[e1]at ak;have m2:=e.cell (i:=2) rfl;have aB:(0:Int)≤(j:Int):=by omega
  have aC:(j:Int)<((s.out j).cells.length:Int):=ai;clear e f;have B:=l.below ((Below.refl _ _).drew);obtain⟨rv,cv,sv,lv,e,f,C⟩:=id B.cz;obtain⟨g2,aD,E,al,aE,am⟩:=f.regs.at (i:=a) J;subst E;have m1:=e.cell (i:=1) rfl;have aF:=B.row.cell (i:=1) rfl;have aG:=am a;have aI:(0:Int)≤(a:Int):=by omega
  have an:(a:Int)<(s.regs.length:Int):=by omega
  obtain⟨T,U⟩:=B.fW e f al (i:=a) J (rg s.cells j);have H:Hid (u (Xq (Uq #[])) (F.drew.setCell ⟨g2,a,z⟩ (N Z (rg s.cells j)))):=k _ (T) U;clear k T U B e f l;have aJ:(a:Int)<((s.out j).regs.length:Int):=an;generalize rg s.cells j=x at*;go_wp2;refine cS 8 (by kernel_rfl) (by kernel_rfl) ?_;simp only[List.take_succ_cons,List.take_zero,List.drop_succ_cons,List.drop_zero];repeat still_step
  refine wpStill_nil ?_;go_wp2;go_end0;exact H.out
 ·intro A F q r;rw[if_neg A]at k;have l:=p.next q r;have H:Hid (u (Xq (Uq #[])) F):=k _ l.done l.ab;clear k l p q r;go_wp2;(try simp only[Exit.inBlock,Exit.then]);refine bodyPost_ret (v:=Uq #[]) ?_ rfl ?_;·simp[results,Tryz.results145,go_sem]
  ·exact H.out
theorem Ak(K:Nat→Prop)(t A:Int)(M:Nat)(s:bq)(k:Int)(a b c:Nat)(w:W)(h:dS K t A w M s)(aP:s.aI.length≤99998)(aE:3≤k∧k≤11)(U:a<s.regs.length)(aF:b<s.regs.length)(hc:c<s.regs.length)(F:Ending→W→Prop)(q:∀w',dS K t A w' M (if k=11 then(if rg s.regs c=0 then((s.out (rg s.regs b)).out (rg s.regs c)).die 3 else((s.out (rg s.regs b)).out (rg s.regs c)).cT a (dc 11 (rg s.regs b) (rg s.regs c)))else s.cT a (dc k (rg s.regs b) (rg s.regs c)))→aH (fun g=>¬K g) w w'→F (Xq (Uq #[])) w'):Calls Tryz.prog 145 #[Pq (y ⟨M,0,z⟩),Aq #[N Z k,N Z a,N Z b,N Z c]] w F:=by
 obtain⟨ar,au,av,aw,ax⟩:=info_parts Tryz.gh;have H:=cH.start h 36 [N Z k,N Z a,N Z b,N Z c];have V:=H.row.cell (i:=0) rfl;have e1:(k==1)=false:=by simp;omega
 have e2:(k==2)=false:=by simp;omega
 have aQ:(k==12)=false:=by simp;omega
 have aR:(k==13)=false:=by simp;omega
 have aS:(k==14)=false:=by simp;omega
 have aT:(k==15)=false:=by simp;omega
 clear h;obtain⟨rv,cv,sv,lv,f,j,m⟩:=id H.cz;obtain⟨aG,aI,r,ac,I,ad⟩:=j.regs.at (i:=b) aF;subst r;have ae:=f.cell (i:=1) rfl;have ag:=H.row.cell (i:=2) rfl;have ah:(0:Int)≤(b:Int):=by omega
 have ai:(b:Int)<(s.regs.length:Int):=by omega
 have J:s.regs.getD b 0=rg s.regs b:=by simp[rg]
 rw[J]at I;generalize rg s.regs b=x at*;have O:∀d,cH K t A w ((w.alloc (Y #[N Z k,N Z a,N Z b,N Z c] 36)).drewN d) M w.heap.size 36 [N Z k,N Z a,N Z b,N Z c] s:=fun d=>H.below (below_drewN (Below.refl _ _) d);go_enter Tryz.func145,Tryz.ntmps145;go_wp2;go_quiet(fail);generalize P:(w.alloc (Y #[N Z k,N Z a,N Z b,N Z c] 36)).drewN _=aj;have X:cH K t A w aj M w.heap.size 36 [N Z k,N Z a,N Z b,N Z c] s:=by rw[←P];exact O _
 clear O P ae ag I ad ac m ah ai J H f j;clear V;obtain⟨rv,cv,sv,lv,f,j,m⟩:=id X.cz;obtain⟨aG,aI,r,ac,I,ad⟩:=j.regs.at (i:=c) hc;subst r;have ae:=f.cell (i:=1) rfl;have ag:=X.row.cell (i:=3) rfl;have ah:(0:Int)≤(c:Int):=by omega
 have ai:(c:Int)<(s.regs.length:Int):=by omega
 have J:s.regs.getD c 0=rg s.regs c:=by simp[rg]
 rw[J]at I;generalize rg s.regs c=l at*;have O:∀d,cH K t A w (aj.drewN d) M w.heap.size 36 [N Z k,N Z a,N Z b,N Z c] s:=fun d=>X.below (below_drewN (Below.refl _ _) d);go_wp2;go_quiet(fail);generalize P:aj.drewN _=B;have C:cH K t A w B M w.heap.size 36 [N Z k,N Z a,N Z b,N Z c] s:=by rw[←P];exact O _
 clear O P ae ag I ad ac m ah ai J X f j;have V:=C.row.cell (i:=0) rfl;by_cases aa:k=11
 ·subst aa;obtain⟨rv,cv,sv,lv,f,j,m⟩:=id C.cz;obtain⟨aU,aV,rfl⟩:=af j.aI;have ak:=f.cell (i:=4) rfl;have Q:=(j.ab ((Below.refl B.heap.size B).alloc (Rq _) (Y #[N Z x] 3))).aI;have al:(s).aI.length≤100000:=by omega
  go_wp2_with(at_builtin;refine wpList_append_own_at _ rfl _ _ 22 rfl 0 3 ar (N Z 0) 1 8 Tryz.underlying22 au av aw ax rfl (by decide) _ _ _ rfl Q ⟨B.heap.size,0,z⟩ 1 1 [N Z x] rfl rfl (by simpa using gU B (N Z x) 3) (j7 _) ?_ ?_ (by omega) ?_);·unfold maxLen;omega
  ·omega
  intro aW u1 u R _ S;obtain⟨⟨ay,az⟩,aX,aY⟩:=lJ f j m u R (by simpa using S);obtain⟨am,an,rfl⟩:=af u;have ao:=C.next ay az;clear f j u R S Q ak ay az al C;clear V;obtain⟨rv,cv,sv,lv,f,j,m⟩:=id ao.cz;obtain⟨aZ,a0,rfl⟩:=af j.aI;have ak:=f.cell (i:=4) rfl;have Q:=(j.ab ((Below.refl (u1.setCell ⟨M,4,z⟩ (L am (s.aI.length+1) an)).heap.size (u1.setCell ⟨M,4,z⟩ (L am (s.aI.length+1) an))).alloc (Rq _) (Y #[N Z l] 3))).aI;have al:(s.out x).aI.length≤100000:=by simp[bq.out];omega
  go_wp2_with(at_builtin;refine wpList_append_own_at _ rfl _ _ 22 rfl 0 3 ar (N Z 0) 1 8 Tryz.underlying22 au av aw ax rfl (by decide) _ _ _ rfl Q ⟨u1.heap.size,0,z⟩ 1 1 [N Z l] rfl rfl (by simpa using gU (u1.setCell ⟨M,4,z⟩ (L am (s.aI.length+1) an)) (N Z l) 3) (j7 _) ?_ ?_ (by omega) ?_);·unfold maxLen;omega
  ·omega
  intro a1 u2 u R _ S;obtain⟨⟨aA,aB⟩,a2,a3⟩:=lJ f j m u R (by simpa using S);obtain⟨aC,aD,rfl⟩:=af u;have E:=ao.next aA aB;clear f j u R S Q ak aA aB al ao;have V:=E.row.cell (i:=0) rfl;by_cases ab:l=0
  ·subst ab;obtain⟨rv,cv,sv,lv,f,j,m⟩:=id E.cz;have a4:=f.cell (i:=5) rfl;have a5:=f.frozen 5;obtain⟨o,p⟩:=E.bK f j 3;have T:Hid (F (Xq (Uq #[])) ((u2.setCell ⟨M,4,z⟩ (L aC ((s.out x).aI.length+1) aD)).setCell ⟨M,5,z⟩ (N Z 3))):=q _ (by simpa using o) p;clear q o p E f j;go_wp2;(try simp only[Exit.inBlock,Exit.then]);refine bodyPost_ret (v:=Uq #[]) ?_ rfl ?_;·simp[results,Tryz.results145,go_sem]
   ·exact T.out
  ·have a6:(l==0)=false:=by simp[ab]
   have n:=E.below ((Below.refl _ _).drew);obtain⟨rv,cv,sv,lv,f,j,m⟩:=id n.cz;obtain⟨g2,aJ,r,ap,aK,aq⟩:=j.regs.at (i:=a) U;subst r;have m1:=f.cell (i:=1) rfl;have aL:=n.row.cell (i:=1) rfl;have aM:=aq a;have aN:(0:Int)≤(a:Int):=by omega
   have aO:(a:Int)<(((s.out x).out l).regs.length:Int):=by show(a:Int)<(s.regs.length:Int);omega
   obtain⟨o,p⟩:=n.fW f j ap (i:=a) U (dc 11 x l);have T:Hid (F (Xq (Uq #[])) ((u2.setCell ⟨M,4,z⟩ (L aC ((s.out x).aI.length+1) aD)).drew.setCell ⟨g2,a,z⟩ (N Z (dc 11 x l)))):=q _ (by simpa[ab]using o) p;clear q o p E n f j;go_wp2_with(go_at_call 172;refine(lM 11 x l _ (by omega) (fun _=>ab)).mono ?_;rintro e w'⟨rfl,rfl⟩);generalize dc 11 x l=v at*;refine cS 8 (by kernel_rfl) (by kernel_rfl) ?_;simp only[List.take_succ_cons,List.take_zero,List.drop_succ_cons,List.drop_zero];repeat still_step
   refine wpStill_nil ?_;go_wp2;go_end0;exact T.out
 ·have a7:(k==11)=false:=by simp[aa]
  rw[if_neg aa]at q;have n:=C.below ((Below.refl _ _).drew);obtain⟨rv,cv,sv,lv,f,j,m⟩:=id n.cz;obtain⟨g2,aJ,r,ap,aK,aq⟩:=j.regs.at (i:=a) U;subst r;have m1:=f.cell (i:=1) rfl;have aL:=n.row.cell (i:=1) rfl;have aM:=aq a;have aN:(0:Int)≤(a:Int):=by omega
  have aO:(a:Int)<((s).regs.length:Int):=by show(a:Int)<(s.regs.length:Int);omega
  obtain⟨o,p⟩:=n.fW f j ap (i:=a) U (dc k x l);have T:Hid (F (Xq (Uq #[])) (B.drew.setCell ⟨g2,a,z⟩ (N Z (dc k x l)))):=q _ o p;clear q o p C n f j;go_wp2_with(go_at_call 172;refine(lM k x l _ aE (fun e=>absurd e aa)).mono ?_;rintro e w'⟨rfl,rfl⟩);generalize dc k x l=v at*;refine cS 8 (by kernel_rfl) (by kernel_rfl) ?_;simp only[List.take_succ_cons,List.take_zero,List.drop_succ_cons,List.drop_zero];repeat still_step
  refine wpStill_nil ?_;go_wp2;go_end0;exact T.out
theorem BS(K:Nat→Prop)(t e:Int)(M:Nat)(s:bq)(o:dr)(regs data slots:Int)(w:W)(h:dS K t e w M s)(x:s.aI.length≤99998)(hz:cC s regs data slots)(d:aw regs slots o=true)(f:Ending→W→Prop)(i:∀w',dS K t e w' M (bQ s o)→aH (fun g=>¬K g) w w'→f (Xq (Uq #[])) w'):Calls Tryz.prog 145 #[Pq (y ⟨M,0,z⟩),Aq #[N Z o.kind,N Z o.a,N Z o.b,N Z o.c]] w f:=by
 have A:=lA d;obtain⟨k,a,b,c⟩:=o;simp only at A⊢;by_cases j:k=1;·subst j;exact DH K t e M s a b c regs data slots w h (by omega) hz d f i
 by_cases l:k=2;·subst l;exact DI K t e M s a b c regs data slots w h (by omega) hz d f i
 by_cases m:k=12;·subst m;exact CU K t e M s a b c regs data slots w h (by omega) hz d f i
 by_cases n:k=13;·subst n;exact CV K t e M s a b c regs data slots w h (by omega) hz d f i
 by_cases p:k=14;·subst p;exact CW K t e M s a b c regs data slots w h (by omega) hz d f i
 by_cases q:k=15;·subst q;exact CX K t e M s a b c regs data slots w h (by omega) hz d f i
 obtain⟨H,I,J⟩:=hz;have r:3≤k∧k≤11:=by omega
 have B:(0≤a∧a<regs)∧(0≤b∧b<regs)∧0≤c∧c<regs:=by unfold aw at d;rw[if_neg (by simpa using j),if_pos (by simpa using r)]at d;simp[below]at d;omega
 clear d;obtain⟨ga,C,E⟩:=B;obtain⟨a,rfl⟩:=Int.eq_ofNat_of_zero_le ga.1;obtain⟨b,rfl⟩:=Int.eq_ofNat_of_zero_le C.1;obtain⟨c,rfl⟩:=Int.eq_ofNat_of_zero_le E.1;refine Ak K t e M s k a b c w h x r (by omega) (by omega) (by omega) f (fun w' u F=>i w' ?_ F);unfold bQ;simp only[j,l,m,n,p,q,if_false];by_cases v:k=11;·subst v;simpa using u
 ·simpa[v]using u
end Go.Proofs.YtblhmeidbjigaabGreatDoor
