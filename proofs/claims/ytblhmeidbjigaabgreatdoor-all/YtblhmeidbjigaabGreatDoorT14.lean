import Derived.Test.YtblhmeidbjigaabGreatDoorT11
set_option linter.unusedSimpArgs false
set_option linter.unusedVariables false
set_option maxRecDepth 100000
set_option maxHeartbeats 8000000
namespace Go.Proofs.YtblhmeidbjigaabGreatDoor
open Go.RowKit
open Go.Value renaming int→N,slice→L,agg→Aq,tuple→Uq,pointer→Pq
open Go.IntKind renaming i64→Z
open Go.Obj renaming cells→Y
open Go.Ending renaming returned→Xq
open Option renaming none→z,some→y
open Nat renaming le_refl→Rq
open Go renaming World→W,Value→Vq
open Go.RowKit renaming Below→G
theorem cS{P:Program}{id:Nat}{b:Exit→Act→W→Prop}{a:Act}{w:W}{l:List Oper}(n:Nat)(c:P.follows .mixedOrders=true)(d:Region.lexTailB .any l.toArray n=true)(h:wpStill P l.toArray w.drew (fun e=>wpList P l.toArray b (l.drop n) e w.drew) (l.take n) a):(Code.region id l.toArray true).wp P b a w:=wp_region_still_tail n c d h
structure eF(K:Nat→Prop)(w0 w:World)(M O:Nat)(t:TypeId)(xs:List Value)(s:bq):Prop where
 cz:dJ (fun g=>K g∨g=O) w M s
 row:Row w O t xs
 ab:aH (fun g=>¬K g) w0 w
 lt:∀g,K g→g<w0.heap.size
 ge:w0.heap.size≤O
theorem eF.start{K:Nat→Prop}{w:W}{M:Nat}{s:bq}(h:dJ K w M s)(t:TypeId)(xs:List Vq):eF K w (w.alloc (Y xs.toArray t)) M w.heap.size t xs s:=⟨h.kept (fun g a=>by rcases a with a|a;exact .inl a;exact .inr (by omega)) (fun g a=>by rcases a with a|a;have:=h.lt g a;simp;omega;simp;omega) ((Below.refl _ _).alloc (Rq _) _),heap_alloc_new w _,(aH.refl _ _).alloc _,h.lt,Rq _⟩
theorem eF.below{K:Nat→Prop}{w0 w w':W}{M O:Nat}{t:TypeId}{xs:List Vq}{s:bq}(h:eF K w0 w M O t xs s)(a:G w.heap.size w w'):eF K w0 w' M O t xs s:=⟨h.cz.ab a,h.row.ab a,h.ab.below a h.ab.size,h.lt,h.ge⟩
theorem eF.next{K:Nat→Prop}{w0 w w':W}{M O:Nat}{t:TypeId}{xs:List Vq}{s s':bq}(h:eF K w0 w M O t xs s)(c:dJ (fun g=>K g∨g=O) w' M s')(b:aH (fun g=>¬(K g∨g=O)) w w'):eF K w0 w' M O t xs s':=⟨c,h.row.same (b.block O h.row.lt (fun a=>a (.inr rfl))),h.ab.trans (b.mono (fun g a e=>a (.inl e))),h.lt,h.ge⟩
theorem eF.done{K:Nat→Prop}{w0 w:W}{M O:Nat}{t:TypeId}{xs:List Vq}{s:bq}(h:eF K w0 w M O t xs s):dJ K w M s:=h.cz.kept (fun g a=>.inl (.inl a)) (fun g a=>Nat.lt_of_lt_of_le (h.lt g a) h.ab.size) (Below.refl _ _)
theorem eF.fW{K:Nat→Prop}{w0 w:W}{M O:Nat}{t:TypeId}{xs:List Vq}{s:bq}(h:eF K w0 w M O t xs s){rv cv sv lv:Vq}(d:Row w M 126 [rv,cv,sv,lv,N Z s.bK])(c:cN (fun g=>K g∨g=O) w rv cv sv lv s){g i:Nat}(b:rv.ownBlock=y g)(f:i<s.regs.length)(u:Int):dJ K (w.setCell ⟨g,i,z⟩ (N Z u)) M (s.cT i u)∧aH (fun g=>¬K g) w0 (w.setCell ⟨g,i,z⟩ (N Z u)):=by
 have j:¬(rv.ownBlock=y M):=bO d c.regs (by decide);have k:¬(K g∨g=O):=c.kr g b;have l:¬K M:=by obtain⟨_,_,_,_,_,_,m⟩:=h.cz;exact fun e=>m (.inl e)
 have b2:=c.fW b f u;have n:=d.a7 (a:=⟨g,i,z⟩) (fun e=>j (by rw[b];exact congrArg y e.symm)) (N Z u);have o:=b2.kept (K':=K) (fun g b=>.inl (.inl b)) (fun g b=>by have:=h.lt g b;have:=h.ab.size;simp;omega) (Below.refl _ _);exact⟨⟨rv,cv,sv,lv,n,o,l⟩,h.ab.setCell (.inl (fun e=>k (.inl e))) _⟩
theorem eF.oq{K:Nat→Prop}{w0 w:W}{M O:Nat}{t:TypeId}{xs:List Vq}{s:bq}(h:eF K w0 w M O t xs s){rv cv sv lv:Vq}(d:Row w M 126 [rv,cv,sv,lv,N Z s.bK])(c:cN (fun g=>K g∨g=O) w rv cv sv lv s){g i:Nat}(b:cv.ownBlock=y g)(f:i<s.cells.length)(u:Int):dJ K (w.setCell ⟨g,i,z⟩ (N Z u)) M (s.cell i u)∧aH (fun g=>¬K g) w0 (w.setCell ⟨g,i,z⟩ (N Z u)):=by
 have j:¬(cv.ownBlock=y M):=bO d c.cells (by decide);have k:¬(K g∨g=O):=c.kc g b;have l:¬K M:=by obtain⟨_,_,_,_,_,_,m⟩:=h.cz;exact fun e=>m (.inl e)
 have b2:=c.oq b f u;have n:=d.a7 (a:=⟨g,i,z⟩) (fun e=>j (by rw[b];exact congrArg y e.symm)) (N Z u);have o:=b2.kept (K':=K) (fun g b=>.inl (.inl b)) (fun g b=>by have:=h.lt g b;have:=h.ab.size;simp;omega) (Below.refl _ _);exact⟨⟨rv,cv,sv,lv,n,o,l⟩,h.ab.setCell (.inl (fun e=>k (.inl e))) _⟩
theorem eF.lU{K:Nat→Prop}{w0 w:W}{M O:Nat}{t:TypeId}{xs:List Vq}{s:bq}(h:eF K w0 w M O t xs s){rv cv sv lv:Vq}(d:Row w M 126 [rv,cv,sv,lv,N Z s.bK])(c:cN (fun g=>K g∨g=O) w rv cv sv lv s){g i:Nat}(b:sv.ownBlock=y g)(f:i<s.slots.length)(u:Int):dJ K (w.setCell ⟨g,i,z⟩ (N Z u)) M (s.slot i u)∧aH (fun g=>¬K g) w0 (w.setCell ⟨g,i,z⟩ (N Z u)):=by
 have j:¬(sv.ownBlock=y M):=bO d c.slots (by decide);have k:¬(K g∨g=O):=c.ks g b;have l:¬K M:=by obtain⟨_,_,_,_,_,_,m⟩:=h.cz;exact fun e=>m (.inl e)
 have b2:=c.lU b f u;have n:=d.a7 (a:=⟨g,i,z⟩) (fun e=>j (by rw[b];exact congrArg y e.symm)) (N Z u);have o:=b2.kept (K':=K) (fun g b=>.inl (.inl b)) (fun g b=>by have:=h.lt g b;have:=h.ab.size;simp;omega) (Below.refl _ _);exact⟨⟨rv,cv,sv,lv,n,o,l⟩,h.ab.setCell (.inl (fun e=>k (.inl e))) _⟩
theorem Ca(K:Nat→Prop)(M:Nat)(s:bq)(k c:Int)(a b:Nat)(w:W)(h:dJ K w M s)(Q:s.aI.length≤100000)(F:a<s.regs.length)(R:b<s.regs.length)(u:Ending→W→Prop)(m:∀w',dJ K w' M (if 0≤rg s.regs b∧rg s.regs b<s.cells.length then(s.out (rg s.regs b)).cT a (rg s.cells (rg s.regs b))else(s.out (rg s.regs b)).die 2)→aH (fun g=>¬K g) w w'→u (Xq (Uq #[])) w'):Calls Tryz.prog 168 #[Pq (y ⟨M,0,z⟩),Aq #[N Z k,N Z a,N Z b,N Z c]] w u:=by
 have v:=eF.start h 36 [N Z k,N Z a,N Z b,N Z c];clear h;obtain⟨rv,cv,sv,lv,e,f,S⟩:=id v.cz;obtain⟨ae,T,A,af,B,C⟩:=f.regs.at R;subst A;have H:=e.cell (i:=0) rfl;have U:=v.row.cell (i:=2) rfl;have ag:(0:Int)≤(b:Int):=by omega
 have ah:(b:Int)<(s.regs.length:Int):=by omega
 have V:s.regs.getD b 0=rg s.regs b:=by simp[rg]
 rw[V]at B;generalize rg s.regs b=n at*;have l:∀d,eF K w ((w.alloc (Y #[N Z k,N Z a,N Z b,N Z c] 36)).drewN d) M w.heap.size 36 [N Z k,N Z a,N Z b,N Z c] s:=fun d=>v.below (below_drewN (Below.refl _ _) d);clear v e f;go_enter Tryz.func168,Tryz.ntmps168;go_wp2;go_quiet(fail);go_wp2_with fail;generalize I:(w.alloc (Y #[N Z k,N Z a,N Z b,N Z c] 36)).drewN _=J;have p:eF K w J M w.heap.size 36 [N Z k,N Z a,N Z b,N Z c] s:=by rw[←I];exact l _
 clear l I H U B C;refine o6 _ M s n J p.cz Q _ ?_ ?_
 ·intro x q r t;rw[if_pos x]at m;obtain⟨X,aa⟩:=x;obtain⟨j,rfl⟩:=Int.eq_ofNat_of_zero_le X;have o:=p.next r t;clear p r t;have l:=o.below ((Below.refl q.heap.size q).drew);obtain⟨rv,cv,sv,lv,e,f,S⟩:=id l.cz;obtain⟨g1,ai,ab,aj,ac,ak⟩:=f.cells.at (i:=j) (by show j<s.cells.length;omega);obtain⟨g2,T,A,ad,B,C⟩:=f.regs.at (i:=a) F;subst ab A;have e1:(s.out j).cells.getD j 0=rg s.cells j:=by simp[rg,bq.out]
  rw[e1]at ac;have H:=e.cell (i:=0) rfl;have m1:=e.cell (i:=1) rfl;have al:=l.row.cell (i:=1) rfl;have am:=C a;have an:(0:Int)≤(a:Int):=by omega
  have ao:(a:Int)<((s.out j).regs.length:Int):=by show(a:Int)<(s.regs.length:Int);omega
  have ap:(0:Int)≤(j:Int):=by omega
  have aq:(j:Int)<((s.out j).cells.length:Int):=aa;obtain⟨O,P⟩:=l.fW e f ad (i:=a) F (rg s.cells j);have E:Hid (u (Xq (Uq #[])) (q.drew.setCell ⟨g2,a,z⟩ (N Z (rg s.cells j)))):=m _ O P;clear m O P o l e f;go_wp2;refine cS 14 (by kernel_rfl) (by kernel_rfl) ?_;simp only[List.take_succ_cons,List.take_zero,List.drop_succ_cons,List.drop_zero];repeat still_step
  refine wpStill_nil ?_;go_wp2;go_end0;exact E.out
 ·intro x q r t;rw[if_neg x]at m;have o:=p.next r t;have E:Hid (u (Xq (Uq #[])) q):=m _ o.done o.ab;clear m o p r t;go_wp2;go_end0;exact E.out
theorem Be(K:Nat→Prop)(M:Nat)(s:bq)(k c:Int)(a b:Nat)(w:W)(h:dJ K w M s)(P:s.aI.length≤100000)(Q:a<s.regs.length)(R:b<s.regs.length)(u:Ending→W→Prop)(m:∀w',dJ K w' M (if 0≤rg s.regs a∧rg s.regs a<s.cells.length then(s.out (rg s.regs a)).cell (rg s.regs a) (rg s.regs b)else(s.out (rg s.regs a)).die 2)→aH (fun g=>¬K g) w w'→u (Xq (Uq #[])) w'):Calls Tryz.prog 169 #[Pq (y ⟨M,0,z⟩),Aq #[N Z k,N Z a,N Z b,N Z c]] w u:=by
 have v:=eF.start h 36 [N Z k,N Z a,N Z b,N Z c];clear h;obtain⟨rv,cv,sv,lv,e,f,S⟩:=id v.cz;obtain⟨ae,T,B,af,x,E⟩:=f.regs.at Q;subst B;have F:=e.cell (i:=0) rfl;have U:=v.row.cell (i:=1) rfl;have ag:(0:Int)≤(a:Int):=by omega
 have ah:(a:Int)<(s.regs.length:Int):=by omega
 have V:s.regs.getD a 0=rg s.regs a:=by simp[rg]
 rw[V]at x;generalize rg s.regs a=n at*;have l:∀d,eF K w ((w.alloc (Y #[N Z k,N Z a,N Z b,N Z c] 36)).drewN d) M w.heap.size 36 [N Z k,N Z a,N Z b,N Z c] s:=fun d=>v.below (below_drewN (Below.refl _ _) d);clear v e f;go_enter Tryz.func169,Tryz.ntmps169;go_wp2;go_quiet(fail);go_wp2_with fail;generalize H:(w.alloc (Y #[N Z k,N Z a,N Z b,N Z c] 36)).drewN _=I;have p:eF K w I M w.heap.size 36 [N Z k,N Z a,N Z b,N Z c] s:=by rw[←H];exact l _
 clear l H F U x E;refine o6 _ M s n I p.cz P _ ?_ ?_
 ·intro A q r t;rw[if_pos A]at m;obtain⟨X,aa⟩:=A;obtain⟨j,rfl⟩:=Int.eq_ofNat_of_zero_le X;have o:=p.next r t;clear p r t;have l:=o.below ((Below.refl q.heap.size q).drew);obtain⟨rv,cv,sv,lv,e,f,S⟩:=id l.cz;obtain⟨g1,ai,ab,ac,aj,ad⟩:=f.cells.at (i:=j) (by show j<s.cells.length;omega);obtain⟨g2,T,B,ak,x,E⟩:=f.regs.at (i:=b) R;subst ab B;have e1:(s.out j).regs.getD b 0=rg s.regs b:=by simp[rg,bq.out]
  rw[e1]at x;have F:=e.cell (i:=0) rfl;have m1:=e.cell (i:=1) rfl;have al:=l.row.cell (i:=2) rfl;have am:=ad j;have an:(0:Int)≤(b:Int):=by omega
  have ao:(b:Int)<((s.out j).regs.length:Int):=by show(b:Int)<(s.regs.length:Int);omega
  have ap:(0:Int)≤(j:Int):=by omega
  have aq:(j:Int)<((s.out j).cells.length:Int):=aa;obtain⟨J,O⟩:=l.oq e f ac (i:=j) (by show j<s.cells.length;omega) (rg s.regs b);have C:Hid (u (Xq (Uq #[])) (q.drew.setCell ⟨g1,j,z⟩ (N Z (rg s.regs b)))):=m _ J O;clear m J O o l e f;go_wp2;refine cS 14 (by kernel_rfl) (by kernel_rfl) ?_;simp only[List.take_succ_cons,List.take_zero,List.drop_succ_cons,List.drop_zero];repeat still_step
  refine wpStill_nil ?_;go_wp2;go_end0;exact C.out
 ·intro A q r t;rw[if_neg A]at m;have o:=p.next r t;have C:Hid (u (Xq (Uq #[])) q):=m _ o.done o.ab;clear m o p r t;go_wp2;go_end0;exact C.out
theorem eF.bK{K:Nat→Prop}{w0 w:W}{M O:Nat}{t:TypeId}{xs:List Vq}{s:bq}(h:eF K w0 w M O t xs s){rv cv sv lv:Vq}(b:Row w M 126 [rv,cv,sv,lv,N Z s.bK])(d:cN (fun g=>K g∨g=O) w rv cv sv lv s)(u:Int):dJ K (w.setCell ⟨M,4,z⟩ (N Z u)) M (s.die u)∧aH (fun g=>¬K g) w0 (w.setCell ⟨M,4,z⟩ (N Z u)):=by
 have c:¬K M:=by obtain⟨_,_,_,_,_,_,f⟩:=h.cz;exact fun e=>f (.inl e)
 have b2:=(d.sC b (by decide) 4 (N Z u)).nH u;have i:=b2.kept (K':=K) (fun g a=>.inl (.inl a)) (fun g a=>by have:=h.lt g a;have:=h.ab.size;simp;omega) (Below.refl _ _);exact⟨⟨rv,cv,sv,lv,b.set 4 (N Z u),i,c⟩,h.ab.setCell (.inl c) _⟩
theorem vY(K:Nat→Prop)(M:Nat)(s:bq)(k:Int)(a b c:Nat)(w:W)(h:dJ K w M s)(av:s.aI.length≤99999)(aj:3≤k∧k≤11)(O:a<s.regs.length)(ak:b<s.regs.length)(hc:c<s.regs.length)(C:Ending→W→Prop)(p:∀w',dJ K w' M (if k=11 then(if rg s.regs c=0 then((s.out (rg s.regs b)).out (rg s.regs c)).die 3 else((s.out (rg s.regs b)).out (rg s.regs c)).cT a (dc 11 (rg s.regs b) (rg s.regs c)))else s.cT a (dc k (rg s.regs b) (rg s.regs c)))→aH (fun g=>¬K g) w w'→C (Xq (Uq #[])) w'):Calls Tryz.prog 170 #[Pq (y ⟨M,0,z⟩),Aq #[N Z k,N Z a,N Z b,N Z c]] w C:=by
 have P:=eF.start h 36 [N Z k,N Z a,N Z b,N Z c];clear h;obtain⟨rv,cv,sv,lv,f,j,u⟩:=id P.cz;obtain⟨al,T,q,U,r,t⟩:=j.regs.at ak;subst q;have E:=f.cell (i:=0) rfl;have am:=P.row.cell (i:=2) rfl;have V:(0:Int)≤(b:Int):=by omega
 have X:(b:Int)<(s.regs.length:Int):=by omega
 have F:s.regs.getD b 0=rg s.regs b:=by simp[rg]
 rw[F]at r;generalize rg s.regs b=x at*;have l:∀d,eF K w ((w.alloc (Y #[N Z k,N Z a,N Z b,N Z c] 36)).drewN d) M w.heap.size 36 [N Z k,N Z a,N Z b,N Z c] s:=fun d=>P.below (below_drewN (Below.refl _ _) d);clear P f j;go_enter Tryz.func170,Tryz.ntmps170;go_wp2;go_quiet(fail);go_wp2;generalize H:(w.alloc (Y #[N Z k,N Z a,N Z b,N Z c] 36)).drewN _=aa;have Q:eF K w aa M w.heap.size 36 [N Z k,N Z a,N Z b,N Z c] s:=by rw[←H];exact l _
 clear l H E am r t U u V X F;obtain⟨rv,cv,sv,lv,f,j,u⟩:=id Q.cz;obtain⟨al,T,q,U,r,t⟩:=j.regs.at hc;subst q;have E:=f.cell (i:=0) rfl;have an:=Q.row.cell (i:=3) rfl;have V:(0:Int)≤(c:Int):=by omega
 have X:(c:Int)<(s.regs.length:Int):=by omega
 have F:s.regs.getD c 0=rg s.regs c:=by simp[rg]
 rw[F]at r;generalize rg s.regs c=m at*;go_quiet(fail);have l:∀d,eF K w (aa.drewN d) M w.heap.size 36 [N Z k,N Z a,N Z b,N Z c] s:=fun d=>Q.below (below_drewN (Below.refl _ _) d);clear Q f j;generalize H:aa.drewN _=I;have A:eF K w I M w.heap.size 36 [N Z k,N Z a,N Z b,N Z c] s:=by rw[←H];exact l _
 clear l H E an r t U u V X F;have ae:=A.row.cell (i:=0) rfl;by_cases R:k=11
 ·subst R;go_wp2_with fail;refine jr _ M s x I A.cz (by omega) _ ?_;intro ao af ag;have ab:=A.next af ag;clear A af ag ae;go_wp2_with fail;refine jr _ M _ m ao ab.cz (by simp[bq.out];omega) _ ?_;intro S ah ai;have B:=ab.next ah ai;clear ab ah ai;have ae:=B.row.cell (i:=0) rfl;by_cases ac:m=0;·subst ac;obtain⟨rv,cv,sv,lv,f,j,u⟩:=id B.cz;have aw:=f.cell (i:=4) rfl;have ax:=f.frozen 4;obtain⟨n,o⟩:=B.bK f j 3;have J:Hid (C (Xq (Uq #[])) (S.setCell ⟨M,4,z⟩ (N Z 3))):=p _ (by simpa using n) o;clear p n o B f j;go_wp2_with(go_at_call 187;refine(o9 _ _).mono ?_;rintro e w'⟨rfl,rfl⟩);exact bodyPost_ret (v:=Uq #[]) (by simp[results,Tryz.results170,go_sem]) rfl J.out
  ·have l:=B.below ((Below.refl S.heap.size S).drew);obtain⟨rv,cv,sv,lv,f,j,u⟩:=id l.cz;obtain⟨g2,T,q,ad,r,t⟩:=j.regs.at (i:=a) O;subst q;have E:=f.cell (i:=0) rfl;have ap:=l.row.cell (i:=1) rfl;have aq:=t a;have ar:(0:Int)≤(a:Int):=by omega
   have au:(a:Int)<(((s.out x).out m).regs.length:Int):=by show(a:Int)<(s.regs.length:Int);omega
   obtain⟨n,o⟩:=l.fW f j ad (i:=a) O (dc 11 x m);have J:Hid (C (Xq (Uq #[])) (S.drew.setCell ⟨g2,a,z⟩ (N Z (dc 11 x m)))):=p _ (by simpa[ac]using n) o;clear p n o B l f j;go_wp2_with(go_at_call 187;refine(mO 11 x m _ (by omega) (fun _=>ac)).mono ?_;rintro e w'⟨rfl,rfl⟩);generalize dc 11 x m=v at*;refine cS 8 (by kernel_rfl) (by kernel_rfl) ?_;simp only[List.take_succ_cons,List.take_zero,List.drop_succ_cons,List.drop_zero];repeat still_step
   refine wpStill_nil ?_;go_wp2;go_end0;exact J.out
 ·have ay:(k==11)=false:=by simp[R]
  rw[if_neg R]at p;have l:=A.below ((Below.refl I.heap.size I).drew);obtain⟨rv,cv,sv,lv,f,j,u⟩:=id l.cz;obtain⟨g2,T,q,ad,r,t⟩:=j.regs.at (i:=a) O;subst q;have E:=f.cell (i:=0) rfl;have ap:=l.row.cell (i:=1) rfl;have aq:=t a;have ar:(0:Int)≤(a:Int):=by omega
  have au:(a:Int)<(s.regs.length:Int):=by omega
  obtain⟨n,o⟩:=l.fW f j ad (i:=a) O (dc k x m);have J:Hid (C (Xq (Uq #[])) (I.drew.setCell ⟨g2,a,z⟩ (N Z (dc k x m)))):=p _ n o;clear p n o A l f j;go_wp2_with(go_at_call 187;refine(mO k x m _ aj (fun e=>absurd e R)).mono ?_;rintro e w'⟨rfl,rfl⟩);generalize dc k x m=v at*;refine cS 8 (by kernel_rfl) (by kernel_rfl) ?_;simp only[List.take_succ_cons,List.take_zero,List.drop_succ_cons,List.drop_zero];repeat still_step
  refine wpStill_nil ?_;go_wp2;go_end0;exact J.out
theorem lA{regs slots:Int}{o:dr}(h:aw regs slots o=true):1≤o.kind∧o.kind≤15:=by
 unfold aw at h;repeat' split at h
 all_goals first|omega|simp at h
theorem Ff(K:Nat→Prop)(M:Nat)(s:bq)(a b c:Int)(regs data slots:Int)(w:W)(h:dJ K w M s)(C:s.aI.length≤99999)(hz:cC s regs data slots)(n:aw regs slots ⟨1,a,b,c⟩=true)(f:Ending→W→Prop)(j:∀w',dJ K w' M (bQ s ⟨1,a,b,c⟩)→aH (fun g=>¬K g) w w'→f (Xq (Uq #[])) w'):Calls Tryz.prog 140 #[Pq (y ⟨M,0,z⟩),Aq #[N Z 1,N Z a,N Z b,N Z c]] w f:=by
 obtain⟨E,F,H⟩:=hz;have k:=eF.start h 36 [N Z 1,N Z a,N Z b,N Z c];have I:=k.row.cell (i:=0) rfl;clear h;simp only[aw,below,if_true,Bool.and_eq_true,decide_eq_true_eq]at n;obtain⟨⟨ga,r⟩,t⟩:=n;obtain⟨a,rfl⟩:=Int.eq_ofNat_of_zero_le ga.1;simp only[bQ,if_true]at j;have o:a<s.regs.length:=by omega
 have d:=k.below ((Below.refl _ _).drew);obtain⟨rv,cv,sv,lv,l,m,J⟩:=id d.cz;obtain⟨g2,O,u,v,P,x⟩:=m.regs.at (i:=a) o;subst u;have Q:=l.cell (i:=0) rfl;have R:=d.row.cell (i:=1) rfl;have S:=d.row.cell (i:=2) rfl;have T:=d.row.cell (i:=3) rfl;have U:=x a;have V:(0:Int)≤(a:Int):=by omega
 have X:(a:Int)<(s.regs.length:Int):=by omega
 obtain⟨p,q⟩:=d.fW l m v (i:=a) o (256*b+c-32768);have A:Hid (f (Xq (Uq #[])) ((w.alloc (Y #[N Z 1,N Z a,N Z b,N Z c] 36)).drew.setCell ⟨g2,a,z⟩ (N Z (256*b+c-32768)))):=j _ p q;have B:=oR b c (w.alloc (Y #[N Z 1,N Z a,N Z b,N Z c] 36)).drew r t;clear j p q k d l m;go_enter Tryz.func140,Tryz.ntmps140;go_wp2;refine cS 12 (by kernel_rfl) (by kernel_rfl) ?_;simp only[List.take_succ_cons,List.take_zero,List.drop_succ_cons,List.drop_zero];repeat still_step
 still_call(B.mono (fun e w' h=>⟨h.1,h.2.symm⟩));repeat still_step
 refine wpStill_nil ?_;go_wp2;go_end0;exact A.out
theorem Fg(K:Nat→Prop)(M:Nat)(s:bq)(a b c:Int)(regs data slots:Int)(w:W)(h:dJ K w M s)(F:s.aI.length≤99999)(hz:cC s regs data slots)(n:aw regs slots ⟨2,a,b,c⟩=true)(j:Ending→W→Prop)(k:∀w',dJ K w' M (bQ s ⟨2,a,b,c⟩)→aH (fun g=>¬K g) w w'→j (Xq (Uq #[])) w'):Calls Tryz.prog 140 #[Pq (y ⟨M,0,z⟩),Aq #[N Z 2,N Z a,N Z b,N Z c]] w j:=by
 obtain⟨H,I,J⟩:=hz;have l:=eF.start h 36 [N Z 2,N Z a,N Z b,N Z c];have O:=l.row.cell (i:=0) rfl;clear h;simp[aw,below]at n;obtain⟨⟨ga,r⟩,t⟩:=n;subst t;obtain⟨a,rfl⟩:=Int.eq_ofNat_of_zero_le ga.1;obtain⟨b,rfl⟩:=Int.eq_ofNat_of_zero_le r.1;simp[bQ]at k;have o:a<s.regs.length:=by omega
 have u:b<s.regs.length:=by omega
 have d:=l.below ((Below.refl _ _).drew);obtain⟨rv,cv,sv,lv,e,f,P⟩:=id d.cz;obtain⟨g2,Q,v,x,R,A⟩:=f.regs.at (i:=a) o;obtain⟨g1,S,m,T,B,U⟩:=f.regs.at (i:=b) u;have e1:s.regs.getD b 0=rg s.regs b:=by simp[rg]
 rw[e1]at B;have C:=e.cell (i:=0) rfl;have m1:=e.cell (i:=0) rfl;have V:=d.row.cell (i:=1) rfl;have X:=d.row.cell (i:=2) rfl;have aa:=A a;have ab:(0:Int)≤(a:Int):=by omega
 have ac:(a:Int)<(s.regs.length:Int):=by omega
 have ad:(0:Int)≤(b:Int):=by omega
 have ae:(b:Int)<(s.regs.length:Int):=by omega
 obtain⟨p,q⟩:=d.fW e f x (i:=a) o (rg s.regs b);have E:Hid (j (Xq (Uq #[])) ((w.alloc (Y #[N Z 2,N Z a,N Z b,N Z 0] 36)).drew.setCell ⟨g2,a,z⟩ (N Z (rg s.regs b)))):=k _ p q;rw[v]at m C m1;simp only[Value.slice.injEq,Option.some.injEq,Addr.mk.injEq,true_and,and_true]at m;obtain⟨rfl,rfl⟩:=m;clear k p q l d e f;go_enter Tryz.func140,Tryz.ntmps140;go_wp2;refine cS 15 (by kernel_rfl) (by kernel_rfl) ?_;simp only[List.take_succ_cons,List.take_zero,List.drop_succ_cons,List.drop_zero];repeat still_step
 refine wpStill_nil ?_;go_wp2;go_end0;exact E.out
theorem Ez(K:Nat→Prop)(M:Nat)(s:bq)(a b c:Int)(regs data slots:Int)(w:W)(h:dJ K w M s)(t:s.aI.length≤99999)(hz:cC s regs data slots)(j:aw regs slots ⟨12,a,b,c⟩=true)(e:Ending→W→Prop)(k:∀w',dJ K w' M (bQ s ⟨12,a,b,c⟩)→aH (fun g=>¬K g) w w'→e (Xq (Uq #[])) w'):Calls Tryz.prog 140 #[Pq (y ⟨M,0,z⟩),Aq #[N Z 12,N Z a,N Z b,N Z c]] w e:=by obtain⟨u,v,x⟩:=hz;have d:=eF.start h 36 [N Z 12,N Z a,N Z b,N Z c];have A:=d.row.cell (i:=0) rfl;clear h;simp[aw,below]at j;obtain⟨⟨ga,o⟩,p⟩:=j;subst p;obtain⟨a,rfl⟩:=Int.eq_ofNat_of_zero_le ga.1;obtain⟨b,rfl⟩:=Int.eq_ofNat_of_zero_le o.1;have l:Hid (∀w',dJ K w' M (bQ s ⟨12,a,b,0⟩)→aH (fun g=>¬K g) w w'→e (Xq (Uq #[])) w'):=k;clear k;have B:=d.row.cell (i:=1) rfl;have C:=d.row.cell (i:=2) rfl;have E:=d.row.cell (i:=3) rfl;go_enter Tryz.func140,Tryz.ntmps140;go_wp2_with fail;refine Ca _ M s 12 0 a b _ d.cz (by omega) (by omega) (by omega) _ ?_;intro q m n;have f:=d.next (s':=bQ s ⟨12,a,b,0⟩) (by simpa[bQ]using m) n;have r:Hid (e (Xq (Uq #[])) q):=l.out _ f.done f.ab;clear l d f m n;go_wp2;go_end0;exact r.out
theorem EA(K:Nat→Prop)(M:Nat)(s:bq)(a b c:Int)(regs data slots:Int)(w:W)(h:dJ K w M s)(t:s.aI.length≤99999)(hz:cC s regs data slots)(j:aw regs slots ⟨13,a,b,c⟩=true)(e:Ending→W→Prop)(k:∀w',dJ K w' M (bQ s ⟨13,a,b,c⟩)→aH (fun g=>¬K g) w w'→e (Xq (Uq #[])) w'):Calls Tryz.prog 140 #[Pq (y ⟨M,0,z⟩),Aq #[N Z 13,N Z a,N Z b,N Z c]] w e:=by obtain⟨u,v,x⟩:=hz;have d:=eF.start h 36 [N Z 13,N Z a,N Z b,N Z c];have A:=d.row.cell (i:=0) rfl;clear h;simp[aw,below]at j;obtain⟨⟨ga,o⟩,p⟩:=j;subst p;obtain⟨a,rfl⟩:=Int.eq_ofNat_of_zero_le ga.1;obtain⟨b,rfl⟩:=Int.eq_ofNat_of_zero_le o.1;have l:Hid (∀w',dJ K w' M (bQ s ⟨13,a,b,0⟩)→aH (fun g=>¬K g) w w'→e (Xq (Uq #[])) w'):=k;clear k;have B:=d.row.cell (i:=1) rfl;have C:=d.row.cell (i:=2) rfl;have E:=d.row.cell (i:=3) rfl;go_enter Tryz.func140,Tryz.ntmps140;go_wp2_with fail;refine Be _ M s 13 0 a b _ d.cz (by omega) (by omega) (by omega) _ ?_;intro q m n;have f:=d.next (s':=bQ s ⟨13,a,b,0⟩) (by simpa[bQ]using m) n;have r:Hid (e (Xq (Uq #[])) q):=l.out _ f.done f.ab;clear l d f m n;go_wp2;go_end0;exact r.out
theorem EB(K:Nat→Prop)(M:Nat)(s:bq)(a b c:Int)(regs data slots:Int)(w:W)(h:dJ K w M s)(E:s.aI.length≤99999)(hz:cC s regs data slots)(m:aw regs slots ⟨14,a,b,c⟩=true)(j:Ending→W→Prop)(k:∀w',dJ K w' M (bQ s ⟨14,a,b,c⟩)→aH (fun g=>¬K g) w w'→j (Xq (Uq #[])) w'):Calls Tryz.prog 140 #[Pq (y ⟨M,0,z⟩),Aq #[N Z 14,N Z a,N Z b,N Z c]] w j:=by
 obtain⟨F,H,I⟩:=hz;have l:=eF.start h 36 [N Z 14,N Z a,N Z b,N Z c];have J:=l.row.cell (i:=0) rfl;clear h;simp[aw,below]at m;obtain⟨⟨ga,q⟩,r⟩:=m;subst r;obtain⟨a,rfl⟩:=Int.eq_ofNat_of_zero_le ga.1;obtain⟨b,rfl⟩:=Int.eq_ofNat_of_zero_le q.1;simp[bQ]at k;have n:a<s.slots.length:=by omega
 have t:b<s.regs.length:=by omega
 have d:=l.below ((Below.refl _ _).drew);obtain⟨rv,cv,sv,lv,e,f,O⟩:=id d.cz;obtain⟨g2,P,u,v,Q,x⟩:=f.slots.at (i:=a) n;obtain⟨g1,R,A,S,B,T⟩:=f.regs.at (i:=b) t;have e1:s.regs.getD b 0=rg s.regs b:=by simp[rg]
 rw[e1]at B;have U:=e.cell (i:=2) rfl;have m1:=e.cell (i:=0) rfl;have V:=d.row.cell (i:=1) rfl;have X:=d.row.cell (i:=2) rfl;have aa:=x a;have ab:(0:Int)≤(a:Int):=by omega
 have ac:(a:Int)<(s.slots.length:Int):=by omega
 have ad:(0:Int)≤(b:Int):=by omega
 have ae:(b:Int)<(s.regs.length:Int):=by omega
 obtain⟨o,p⟩:=d.lU e f v (i:=a) n (rg s.regs b);have C:Hid (j (Xq (Uq #[])) ((w.alloc (Y #[N Z 14,N Z a,N Z b,N Z 0] 36)).drew.setCell ⟨g2,a,z⟩ (N Z (rg s.regs b)))):=k _ o p;subst u;subst A;clear k o p l d e f;go_enter Tryz.func140,Tryz.ntmps140;go_wp2;refine cS 15 (by kernel_rfl) (by kernel_rfl) ?_;simp only[List.take_succ_cons,List.take_zero,List.drop_succ_cons,List.drop_zero];repeat still_step
 refine wpStill_nil ?_;go_wp2;go_end0;exact C.out
theorem EC(K:Nat→Prop)(M:Nat)(s:bq)(a b c:Int)(regs data slots:Int)(w:W)(h:dJ K w M s)(E:s.aI.length≤99999)(hz:cC s regs data slots)(m:aw regs slots ⟨15,a,b,c⟩=true)(j:Ending→W→Prop)(k:∀w',dJ K w' M (bQ s ⟨15,a,b,c⟩)→aH (fun g=>¬K g) w w'→j (Xq (Uq #[])) w'):Calls Tryz.prog 140 #[Pq (y ⟨M,0,z⟩),Aq #[N Z 15,N Z a,N Z b,N Z c]] w j:=by
 obtain⟨F,H,I⟩:=hz;have l:=eF.start h 36 [N Z 15,N Z a,N Z b,N Z c];have J:=l.row.cell (i:=0) rfl;clear h;simp[aw,below]at m;obtain⟨⟨ga,q⟩,r⟩:=m;subst r;obtain⟨a,rfl⟩:=Int.eq_ofNat_of_zero_le ga.1;obtain⟨b,rfl⟩:=Int.eq_ofNat_of_zero_le q.1;simp[bQ]at k;have n:a<s.regs.length:=by omega
 have t:b<s.slots.length:=by omega
 have d:=l.below ((Below.refl _ _).drew);obtain⟨rv,cv,sv,lv,e,f,O⟩:=id d.cz;obtain⟨g2,P,u,v,Q,x⟩:=f.regs.at (i:=a) n;obtain⟨g1,R,A,S,B,T⟩:=f.slots.at (i:=b) t;have e1:s.slots.getD b 0=rg s.slots b:=by simp[rg]
 rw[e1]at B;have U:=e.cell (i:=0) rfl;have m1:=e.cell (i:=2) rfl;have V:=d.row.cell (i:=1) rfl;have X:=d.row.cell (i:=2) rfl;have aa:=x a;have ab:(0:Int)≤(a:Int):=by omega
 have ac:(a:Int)<(s.regs.length:Int):=by omega
 have ad:(0:Int)≤(b:Int):=by omega
 have ae:(b:Int)<(s.slots.length:Int):=by omega
 obtain⟨o,p⟩:=d.fW e f v (i:=a) n (rg s.slots b);have C:Hid (j (Xq (Uq #[])) ((w.alloc (Y #[N Z 15,N Z a,N Z b,N Z 0] 36)).drew.setCell ⟨g2,a,z⟩ (N Z (rg s.slots b)))):=k _ o p;subst u;subst A;clear k o p l d e f;go_enter Tryz.func140,Tryz.ntmps140;go_wp2;refine cS 15 (by kernel_rfl) (by kernel_rfl) ?_;simp only[List.take_succ_cons,List.take_zero,List.drop_succ_cons,List.drop_zero];repeat still_step
 refine wpStill_nil ?_;go_wp2;go_end0;exact C.out
theorem DE(K:Nat→Prop)(M:Nat)(s:bq)(o:dr)(regs data slots:Int)(w:W)(h:dJ K w M s)(l:s.aI.length≤99999)(hz:cC s regs data slots)(d:aw regs slots o=true)(e:Ending→W→Prop)(f:∀w',dJ K w' M (bQ s o)→aH (fun g=>¬K g) w w'→e (Xq (Uq #[])) w'):Calls Tryz.prog 140 #[Pq (y ⟨M,0,z⟩),Aq #[N Z o.kind,N Z o.a,N Z o.b,N Z o.c]] w e:=by
 have E:=lA d;obtain⟨k,a,b,c⟩:=o;simp only at E⊢;by_cases m:k=1;·subst m;exact Ff K M s a b c regs data slots w h l hz d e f
 by_cases n:k=2;·subst n;exact Fg K M s a b c regs data slots w h l hz d e f
 by_cases p:k=12;·subst p;exact Ez K M s a b c regs data slots w h l hz d e f
 by_cases q:k=13;·subst q;exact EA K M s a b c regs data slots w h l hz d e f
 by_cases r:k=14;·subst r;exact EB K M s a b c regs data slots w h l hz d e f
 by_cases t:k=15;·subst t;exact EC K M s a b c regs data slots w h l hz d e f
 obtain⟨P,Q,R⟩:=hz;have j:=eF.start h 36 [N Z k,N Z a,N Z b,N Z c];have S:=j.row.cell (i:=0) rfl;clear h;have x:3≤k∧k≤11:=by omega
 have F:(0≤a∧a<regs)∧(0≤b∧b<regs)∧0≤c∧c<regs:=by unfold aw at d;rw[if_neg (by simpa using m),if_pos (by simpa using x)]at d;simp[below]at d;omega
 clear d;obtain⟨ga,H,I⟩:=F;obtain⟨a,rfl⟩:=Int.eq_ofNat_of_zero_le ga.1;obtain⟨b,rfl⟩:=Int.eq_ofNat_of_zero_le H.1;obtain⟨c,rfl⟩:=Int.eq_ofNat_of_zero_le I.1;have A:Hid (∀w',dJ K w' M (bQ s ⟨k,a,b,c⟩)→aH (fun g=>¬K g) w w'→e (Xq (Uq #[])) w'):=f;clear f;have T:=j.row.cell (i:=1) rfl;have U:=j.row.cell (i:=2) rfl;have V:=j.row.cell (i:=3) rfl;have e1:(k==1)=false:=by simp[m]
 have e2:(k==2)=false:=by simp[n]
 have X:(k==12)=false:=by simp[p]
 have aa:(k==13)=false:=by simp[q]
 have ab:(k==14)=false:=by simp[r]
 have ac:(k==15)=false:=by simp[t]
 go_enter Tryz.func140,Tryz.ntmps140;go_wp2_with fail;refine vY _ M s k a b c _ j.cz (by omega) x (by omega) (by omega) (by omega) _ ?_;intro J u B;have v:=j.next (s':=bQ s ⟨k,a,b,c⟩) (by
  unfold bQ;simp only[m,n,p,q,r,t,if_false];by_cases C:k=11;·subst C;simpa using u
  ·simpa[C]using u) B;have O:Hid (e (Xq (Uq #[])) J):=A.out _ v.done v.ab;clear A j v u B;go_wp2;go_end0;exact O.out
theorem mD{regs slots:Int}{l:List dr}(h:fQ regs slots l=true){k:Nat}(a:k<l.length):aw regs slots ⟨cD l k,oa l k,ob l k,oc l k⟩=true:=by have:=List.all_eq_true.1 h (l.getD k oz) (cm a);exact this
theorem Aj(K:Nat→Prop)(M:Nat)(s:bq)(l:List dr)(v:Vq)(regs data slots:Int)(w:W)(h:dJ K w M s)(I:s.aI.length+2*l.length≤99999)(hz:cC s regs data slots)(x:fQ regs slots l=true)(d:∀w',aH (fun g=>¬K g) w w'→iH w' v l)(e:Ending→W→Prop)(f:∀w',dJ K w' M (bh l s)→aH (fun g=>¬K g) w w'→e (Xq (Uq #[])) w'):Calls Tryz.prog 106 #[Pq (y ⟨M,0,z⟩),v] w e:=by
 obtain⟨J,cap,rfl,O,_⟩:=d w (aH.refl _ _);go_enter Tryz.func106,Tryz.ntmps106;go_wp2;go_loopw[4](fun i wr=>∃(k:Nat),k≤l.length∧i=N Z k∧dJ K wr M (bh (l.take k) s)∧aH (fun g=>¬K g) w wr)(fun i _=>l.length-(intOf i).toNat);case atStart=>exact⟨0,Nat.zero_le _,rfl,h,aH.refl _ _⟩
 case round=>
  clear h;obtain⟨k,P,rfl,a,c⟩:=hrel;have A:(bh (l.take k) s).aI.length≤99999:=by
   have:=jn (l.take k) s;have:(l.take k).length≤l.length:=by rw[List.length_take];omega
   omega
  have B:cC (bh (l.take k) s) regs data slots:=hz.bh _;by_cases m:k<l.length
  ·obtain⟨rv,cv,sv,lv,n,p,Q⟩:=id a;have q:=n.cell (i:=4) rfl;by_cases j:(bh (l.take k) s).bK=0
   ·rw[j]at q;obtain⟨R,S,r,_,hc⟩:=d wr c;simp only[Value.slice.injEq,true_and]at r;obtain⟨rfl,rfl⟩:=r;obtain⟨b,T,rfl,C,c1,c2,c3⟩:=hc k m;clear hc n p;go_wp2_with fail;refine DE K M _ ⟨cD l k,oa l k,ob l k,oc l k⟩ regs data slots wr a A B (mD x m) _ ?_;intro E t u;have F:dJ K E M (bh (l.take (k+1)) s):=by rw[qC m,if_pos j];exact t
    have H:=c.trans u;clear a t u c C c1 c2 c3 q;go_wp2;go_roundw;case rel=>exact⟨k+1,by omega,by go_num,F,H⟩
    case measure=>simp[intOf];omega
   ·have o:Hid (e (Xq (Uq #[])) wr):=f _ (by rw[qA j];exact a) c;have U:((bh (l.take k) s).bK==0)=false:=by simp[j]
    clear f a c d n p;generalize(bh (l.take k) s).bK=V at*;go_wp2;go_end0;exact o.out
  ·obtain rfl:k=l.length:=by omega
   rw[List.take_length]at a;have o:Hid (e (Xq (Uq #[])) wr):=f _ a c;clear f a c d;go_wp2;go_end0;exact o.out
theorem zS(K:Nat→Prop)(M:Nat)(s:bq)(e:fw)(regs S:Int)(w:W)(h:dJ K w M s)(ab:s.aI.length≤99999)(hz:(s.regs.length:Int)=regs)(m:bw regs S e=true)(T:e.kind≠3)(n:Ending→W→Prop)(c:∀w',dJ K w' M (dN s e)→aH (fun g=>¬K g) w w'→n (Xq (N Z (eh s e))) w'):Calls Tryz.prog 107 #[Pq (y ⟨M,0,z⟩),Aq #[N Z e.kind,N Z e.r,N Z e.x,N Z e.y]] w n:=by
 obtain⟨k,a,x,b⟩:=e;simp only at T⊢;have f:=eF.start h 40 [N Z k,N Z a,N Z x,N Z b];have C:=f.row.cell (i:=0) rfl;clear h;by_cases U:k=1
 ·subst U;have V:=f.row.cell (i:=2) rfl;have o:Hid (n (Xq (N Z x)) (w.alloc (Y #[N Z 1,N Z a,N Z x,N Z b] 40))):=by have:=c _ (by simpa[dN]using f.done) f.ab;show n _ _;simpa[eh]using this
  clear c f;go_enter Tryz.func107,Tryz.ntmps107;go_wp2;exact o.out
 ·obtain rfl:k=2:=by
   unfold bw at m;simp only at m;repeat' split at m
   all_goals first|omega|simp at m
  simp[bw,below]at m;obtain⟨⟨⟨X,ac⟩,_⟩,_⟩:=m;obtain⟨a,rfl⟩:=Int.eq_ofNat_of_zero_le X;obtain⟨rv,cv,sv,lv,E,F,ad⟩:=id f.cz;obtain⟨ae,af,aa,ag,v,H⟩:=F.regs.at (i:=a) (by omega);subst aa;have I:=E.cell (i:=0) rfl;have J:=f.row.cell (i:=1) rfl;have ah:(0:Int)≤(a:Int):=by omega
  have ai:(a:Int)<(s.regs.length:Int):=by omega
  have O:s.regs.getD a 0=rg s.regs a:=by simp[rg]
  rw[O]at v;have P:dN s ⟨2,a,x,b⟩=s.out (if rg s.regs a=0 then 0 else 1):=by simp[dN]
  have Q:eh s ⟨2,a,x,b⟩=if rg s.regs a=0 then b else x:=by simp[eh]
  rw[P,Q]at c;generalize rg s.regs a=R at*;have u:∀d,eF K w ((w.alloc (Y #[N Z 2,N Z a,N Z x,N Z b] 40)).drewN d) M w.heap.size 40 [N Z 2,N Z a,N Z x,N Z b] s:=fun d=>f.below (below_drewN (Below.refl _ _) d);clear f E F P Q O;by_cases A:R=0
  ·subst A;simp only[if_true]at c;go_enter Tryz.func107,Tryz.ntmps107;go_wp2;go_quiet(fail);generalize p:(w.alloc (Y #[N Z 2,N Z a,N Z x,N Z b] 40)).drewN _=q;have l:eF K w q M w.heap.size 40 [N Z 2,N Z a,N Z x,N Z b] s:=by rw[←p];exact u _
   clear u p I J v H C;go_wp2_with fail;refine jr _ M s 0 q l.cz (by omega) _ ?_;intro B r t;have j:=l.next r t;have aj:=j.row.cell (i:=3) rfl;have o:Hid (n (Xq (N Z b)) B):=c _ j.done j.ab;clear c l j r t;go_wp2;exact o.out
  ·simp only[if_neg A]at c;have ak:(R==0)=false:=by simp[A]
   go_enter Tryz.func107,Tryz.ntmps107;go_wp2;go_quiet(fail);generalize p:(w.alloc (Y #[N Z 2,N Z a,N Z x,N Z b] 40)).drewN _=q;have l:eF K w q M w.heap.size 40 [N Z 2,N Z a,N Z x,N Z b] s:=by rw[←p];exact u _
   clear u p I J v H C;go_wp2_with fail;refine jr _ M s 1 q l.cz (by omega) _ ?_;intro B r t;have j:=l.next r t;have V:=j.row.cell (i:=2) rfl;have o:Hid (n (Xq (N Z x)) B):=c _ j.done j.ab;clear c l j r t;go_wp2;exact o.out
theorem fY{regs slots n:Int}{l:List aN}(h:ie regs slots n l=true){k:Nat}(a:k<l.length):(aj l k).length≤12∧fQ regs slots (aj l k)=true∧bw regs n (b_ l k)=true:=by have:=List.all_eq_true.1 h (l.getD k bz) (cm a);simp only[cI,Bool.and_eq_true,decide_eq_true_eq]at this;exact⟨this.1.1,this.1.2,this.2⟩
theorem tz{s:bq}{e:fw}{regs n:Int}(h:bw regs n e=true)(c:e.kind≠3):0≤eh s e∧eh s e<n:=by
 unfold bw at h;by_cases a:e.kind=1
 ·simp[a,below]at h;have:eh s e=e.x:=by simp[eh,a]
  rw[this];omega
 ·by_cases b:e.kind=2
  ·simp[b,below]at h;have:eh s e=if rg s.regs e.r=0 then e.y else e.x:=by simp[eh,b]
   rw[this];split<;>omega
  ·simp[a,b,c]at h
theorem lf(s:bq)(e:fw):(dN s e).aI.length≤s.aI.length+1:=by unfold dN;split<;>simp[bq.out]
theorem oM(s:bq)(e:fw):(dN s e).bK=s.bK:=by unfold dN;split<;>rfl
def sS:List Vq:=[N Z 0,N Z 0,L z 0 0,L z 0 0]
def bJ(w:W)(R:Nat)(k a:Int)(b l:Vq):W:=(((w.setCell ⟨R,0,z⟩ (N Z k)).setCell ⟨R,1,z⟩ (N Z a)).setCell ⟨R,2,z⟩ b).setCell ⟨R,3,z⟩ l
theorem dX.sC{w:W}{v:Vq}{l:List Int}(h:dX w v l){H:Nat}{t:TypeId}{xs:List Vq}(a:Row w H t xs)(b:t≠3)(i:Nat)(u:Vq):dX (w.setCell ⟨H,i,z⟩ u) v l:=bj h (fun e=>bO a h b e) u
theorem dX.bJ{w:W}{v:Vq}{l:List Int}(h:dX w v l){R:Nat}{xs:List Vq}(a:Row w R 63 xs)(k b:Int)(c q:Vq):dX (Go.Proofs.YtblhmeidbjigaabGreatDoor.bJ w R k b c q) v l:=(((h.sC a (by decide) 0 _).sC (a.set 0 _) (by decide) 1 _).sC ((a.set 0 _).set 1 _) (by decide) 2 _).sC (((a.set 0 _).set 1 _).set 2 _) (by decide) 3 _
theorem aH.bJ{S:Nat→Prop}{w a:W}(h:aH S w a){R:Nat}(b:S R∨w.heap.size≤R)(k c:Int)(d q:Vq):aH S w (Go.Proofs.YtblhmeidbjigaabGreatDoor.bJ a R k c d q):=(((h.setCell b _).setCell b _).setCell b _).setCell b _
theorem Dm(K:Nat→Prop)(M:Nat)(s:bq)(a:List aN)(v:Vq)(fuel:Nat)(regs data slots:Int)(w0 w:W)(h:dJ K w M s)(bk:fuel≤300)(ai:s.aI=[])(V:s.bK=0)(hz:cC s regs data slots)(aY:ie regs slots a.length a=true)(bl:1≤a.length)(aZ:bm w0 v a)(ay:∀g,g<w0.heap.size→K g)(ak:G w0.heap.size w0 w)(X:Ending→W→Prop)(J:∀mv lv w',dX w' mv (runN a fuel 0 s).mem→dX w' lv (runN a fuel 0 s).aI→(∀g,mv.ownBlock=y g→lv.ownBlock≠y g)→(∀g,mv.ownBlock=y g→¬K g)→(∀g,lv.ownBlock=y g→¬K g)→aH (fun g=>¬K g) w w'→X (Xq (Aq #[N Z (runN a fuel 0 s).kind,N Z (runN a fuel 0 s).result,mv,lv])) w'):Calls Tryz.prog 68 #[Pq (y ⟨M,0,z⟩),v,N Z fuel] w X:=by
 obtain⟨bn,cap,rfl,bo,hc⟩:=aZ;obtain⟨B,al⟩:∃B,runN a fuel 0 s=B:=⟨_,rfl⟩;rw[al]at J;have az:=eF.start h 63 sS;have aA:∀w',aH (fun g=>¬K g) w w'→G w0.heap.size w0 w':=fun w' aB=>ak.trans (aB.toBelow ak.size (fun g H=>by rcases Nat.lt_or_ge g w0.heap.size with q|q;exact absurd (ay g q) H;exact q));clear h ak ay;have O:Hid (runN a (fuel-0) 0 s=B):=al;clear al;go_enter Tryz.func68,Tryz.ntmps68;go_wp2;go_loopw[7,8](fun x i wr=>∃(k:Nat)(t:Nat)(ab:bq),k≤fuel∧i=N Z k∧x=N Z t∧t<a.length∧cC ab regs data slots∧ab.aI.length≤25*k∧ab.bK=0∧eF K w wr M w.heap.size 63 sS ab∧Hid (runN a (fuel-k) t ab=B))(fun _ i _=>fuel-(intOf i).toNat);case atStart=>exact⟨0,0,s,Nat.zero_le _,rfl,rfl,by omega,hz,by simp[ai],V,az,O⟩
 case round=>
  clear az O ai V hz s;obtain⟨k,t,s,aB,rfl,rfl,V,hz,ai,bp,o,O⟩:=hrel;have br:=o.row.lt;by_cases bs:k<fuel
  ·obtain⟨b,bt,sv,rfl,aC,c1,c2,c3,c4,am⟩:=hc t V;have S:=aA wr o.ab;have a0:=aa S aC;have d1:=aa S c1;have d2:=aa S c2;have d3:=aa S c3;have d4:=aa S c4;obtain⟨bu,a1,an⟩:=fY aY V;have ac:=eF.start o.cz 42 [sv,N Z (fX a t),N Z (gJ a t),N Z (iT a t),N Z (ja a t)];obtain⟨bv,bx,a2,_,_⟩:=id am;subst a2;have a3:=ac.row.cell (i:=0) rfl;obtain⟨f,a4⟩:∃f,fuel-k=f+1:=⟨fuel-k-1,by omega⟩;have aD:Hid (runN a (f+1) t s=B):=by show _=_;rw[←a4];exact O.out
   clear aC c1 c2 c3 c4 S O;go_wp2_with fail;refine Aj _ M s (aj a t) _ regs data slots _ ac.cz (by omega) hz a1 ?_ _ ?_;·intro w' a5;refine am.ab (aA w' (o.ab.trans ?_));have:=ac.ab.trans (a5.mono (fun g H e=>H (.inl e)));exact this.mono (fun g H e=>H (.inl e))
   intro r aE aF;have p:=ac.next aE aF;clear ac aE aF a0 d1 d2 d3 d4 a3;have ao:cC (bh (aj a t) s) regs data slots:=hz.bh _;have bz:=jn (aj a t) s;have T:Hid ((if(bh (aj a t) s).bK≠0 then kf.mk (bh (aj a t) s).bK 0 [] (bh (aj a t) s).aI else if fX a t=3 then kf.mk 1 (rg (bh (aj a t) s).regs (gJ a t)) (bh (aj a t) s).cells (bh (aj a t) s).aI else runN a f (eh (bh (aj a t) s) (b_ a t)) (dN (bh (aj a t) s) (b_ a t)))=B):=aD.out;clear aD;generalize bh (aj a t) s=u at*;obtain⟨rv,cv,ap,lv,m,j,aq⟩:=id p.cz;have aG:=m.cell (i:=4) rfl;have l:eF K w r M w.heap.size 63 sS u:=o.next p.done (p.ab.mono (fun g H e=>H (by rcases e with e|e;exact .inl e;exact .inr e)));clear o am;by_cases U:u.bK=0
   ·rw[U]at aG;have e1:=p.row.cell (i:=1) rfl;by_cases P:fX a t=3
    ·rw[P]at e1;have n:Hid (kf.mk 1 (rg u.regs (gJ a t)) u.cells u.aI=B):=by have:=T.out;simp only[U,ne_eq,not_true_eq_false,if_false,P,if_true]at this;exact this
     have ar:=an;unfold bw at ar;have ad:(b_ a t).kind=3:=P;simp[ad,below]at ar;obtain⟨C,a6⟩:=Int.eq_ofNat_of_zero_le ar.1.1.1;have au:gJ a t=C:=a6;have e2:=p.row.cell (i:=2) rfl;rw[au]at e2;have a7:C<u.regs.length:=by have:=ao.regs;omega
     have d:=l.below ((Below.refl r.heap.size r).drew);have ae:=l.row.cell (i:=0) rfl;have aI:=l.row.frozen 0;have ag:=l.row.cell (i:=1) rfl;have aJ:=l.row.frozen 1;have b2:=l.row.cell (i:=2) rfl;have aK:=l.row.frozen 2;have ah:=l.row.cell (i:=3) rfl;have aL:=l.row.frozen 3;have av:=p.below ((Below.refl r.heap.size r).drew);clear m j l;obtain⟨rv,cv,ap,lv,m,j,aq⟩:=id av.cz;obtain⟨g2,bA,a8,bB,a9,bC⟩:=j.regs.at (i:=C) a7;subst a8;have a_:u.regs.getD C 0=rg u.regs C:=by simp[rg]
     rw[a_]at a9;have bD:=m.cell (i:=0) rfl;have m1:=m.cell (i:=1) rfl;have aM:=m.cell (i:=3) rfl;have ba:=av.row.cell (i:=2) rfl;rw[au]at ba;have bE:(0:Int)≤(C:Int):=by omega
     have bF:(C:Int)<(u.regs.length:Int):=by omega
     have aO:=d.row.cell (i:=0) rfl;have aP:=d.row.cell (i:=1) rfl;have aQ:=d.row.cell (i:=2) rfl;have aR:=d.row.cell (i:=3) rfl;have aS:=d.row.frozen 0;have aT:=d.row.frozen 1;have aU:=d.row.frozen 2;have aV:=d.row.frozen 3;have A:=J cv lv (bJ r.drew w.heap.size 1 (rg u.regs C) cv lv) (by rw[←n.out];exact dX.bJ j.cells d.row _ _ _ _) (by rw[←n.out];exact dX.bJ j.aI d.row _ _ _ _) j.cl (fun g e c=>j.kc g e (.inl (.inl c))) (fun g e c=>j.kl g e (.inl (.inl c))) (d.ab.bJ (.inr (Rq _)) _ _ _ _);rw[←n.out]at A;simp only[au]at A;obtain⟨Q,R,rfl⟩:=af j.cells;obtain⟨E,F,rfl⟩:=af j.aI;have I:Hid (X (Xq (Aq #[N Z 1,N Z (rg u.regs C),L Q u.cells.length R,L E u.aI.length F])) (bJ r.drew w.heap.size 1 (rg u.regs C) (L Q u.cells.length R) (L E u.aI.length F))):=A;clear A J d av p j m T n;generalize rg u.regs C=bb at*;unfold bJ at I;go_wp2;refine cS 18 (by kernel_rfl) (by kernel_rfl) ?_;simp only[List.take_succ_cons,List.take_zero,List.drop_succ_cons,List.drop_zero];repeat still_step
     refine wpStill_nil ?_;go_wp2;(try simp only[Exit.inBlock,Exit.then]);refine bodyPost_ret (v:=Aq #[N Z 1,N Z bb,L Q u.cells.length R,L E u.aI.length F]) ?_ rfl ?_;·simp[results,Tryz.results68,go_sem,ae,ag,b2,ah]
     ·exact I.out
    ·have bG:(fX a t==3)=false:=by simp[P]
     have n:Hid (runN a f (eh u (b_ a t)) (dN u (b_ a t))=B):=by have:=T.out;simp only[U,ne_eq,not_true_eq_false,if_false,P]at this;exact this
     have e2:=p.row.cell (i:=2) rfl;have e3:=p.row.cell (i:=3) rfl;have e4:=p.row.cell (i:=4) rfl;clear m j;go_wp2_with fail;refine zS _ M u (b_ a t) regs a.length r p.cz (by omega) ao.regs an P _ ?_;intro bc aW ad;have aX:=p.next aW ad;have bd:eF K w bc M w.heap.size 63 sS (dN u (b_ a t)):=l.next aX.done ((ad.mono (fun g H e=>H (.inl e))));obtain⟨be,bH⟩:=tz (s:=u) an P;have bf:cC (dN u (b_ a t)) regs data slots:=ao.on _;have bI:=lf u (b_ a t);have bg:(dN u (b_ a t)).bK=0:=by rw[oM];exact U
     generalize dN u (b_ a t)=u3 at*;generalize eh u (b_ a t)=aw at*;obtain⟨aw,rfl⟩:=Int.eq_ofNat_of_zero_le be;have ax:fuel-(k+1)=f:=by omega
     have bi:Hid (runN a (fuel-(k+1)) aw u3=B):=by show _=_;rw[ax];exact n.out
     clear aW ad aX p l n T aG e1 e2 e3 e4;go_wp2;go_roundw;case rel=>exact⟨k+1,aw,u3,by omega,by go_num,rfl,by omega,bf,by omega,bg,bd,bi⟩
     case measure=>simp[intOf];omega
   ·have n:Hid (kf.mk u.bK 0 [] u.aI=B):=by have:=T.out;simp only[U,ne_eq,not_false_eq_true,if_true]at this;exact this
    have bK:(u.bK==0)=false:=by simp[U]
    have d:=l.below ((Below.refl r.heap.size r).drew);have ae:=l.row.cell (i:=0) rfl;have aI:=l.row.frozen 0;have ag:=l.row.cell (i:=1) rfl;have aJ:=l.row.frozen 1;have b2:=l.row.cell (i:=2) rfl;have aK:=l.row.frozen 2;have ah:=l.row.cell (i:=3) rfl;have aL:=l.row.frozen 3;clear m j l;obtain⟨rv,cv,ap,lv,m,j,aq⟩:=id d.cz;have bL:=m.cell (i:=4) rfl;have aM:=m.cell (i:=3) rfl;have aO:=d.row.cell (i:=0) rfl;have aP:=d.row.cell (i:=1) rfl;have aQ:=d.row.cell (i:=2) rfl;have aR:=d.row.cell (i:=3) rfl;have aS:=d.row.frozen 0;have aT:=d.row.frozen 1;have aU:=d.row.frozen 2;have aV:=d.row.frozen 3;have A:=J (L z 0 0) lv (bJ r.drew w.heap.size u.bK 0 (L z 0 0) lv) (by rw[←n.out];exact World.ownsRow_nil _ _ _ _) (by rw[←n.out];exact dX.bJ j.aI d.row _ _ _ _) (fun g e=>by simp[Value.ownBlock]at e) (fun g e=>by simp[Value.ownBlock]at e) (fun g e c=>j.kl g e (.inl c)) (d.ab.bJ (.inr (Rq _)) _ _ _ _);rw[←n.out]at A;obtain⟨E,F,rfl⟩:=af j.aI;have I:Hid (X (Xq (Aq #[N Z u.bK,N Z 0,L z 0 0,L E u.aI.length F])) (bJ r.drew w.heap.size u.bK 0 (L z 0 0) (L E u.aI.length F))):=A;clear A J d p j m T n;generalize u.bK=bj at*;unfold bJ at I;go_wp2;refine cS 9 (by kernel_rfl) (by kernel_rfl) ?_;simp only[List.take_succ_cons,List.take_zero,List.drop_succ_cons,List.drop_zero];repeat still_step
    refine wpStill_nil ?_;go_wp2;(try simp only[Exit.inBlock,Exit.then]);refine bodyPost_ret (v:=Aq #[N Z bj,N Z 0,L z 0 0,L E u.aI.length F]) ?_ rfl ?_;·simp[results,Tryz.results68,go_sem,ae,ag,b2,ah]
    ·exact I.out
  ·have ax:fuel-k=0:=by omega
   have n:Hid (kf.mk 4 0 s.cells s.aI=B):=by have:=O.out;rw[ax]at this;exact this
   have d:=o.below ((Below.refl wr.heap.size wr).drew);have ae:=o.row.cell (i:=0) rfl;have aI:=o.row.frozen 0;have ag:=o.row.cell (i:=1) rfl;have aJ:=o.row.frozen 1;have b2:=o.row.cell (i:=2) rfl;have aK:=o.row.frozen 2;have ah:=o.row.cell (i:=3) rfl;have aL:=o.row.frozen 3;obtain⟨rv,cv,ap,lv,m,j,aq⟩:=id d.cz;have m1:=m.cell (i:=1) rfl;have aM:=m.cell (i:=3) rfl;have aO:=d.row.cell (i:=0) rfl;have aP:=d.row.cell (i:=1) rfl;have aQ:=d.row.cell (i:=2) rfl;have aR:=d.row.cell (i:=3) rfl;have aS:=d.row.frozen 0;have aT:=d.row.frozen 1;have aU:=d.row.frozen 2;have aV:=d.row.frozen 3;have A:=J cv lv (bJ wr.drew w.heap.size 4 0 cv lv) (by rw[←n.out];exact dX.bJ j.cells d.row _ _ _ _) (by rw[←n.out];exact dX.bJ j.aI d.row _ _ _ _) j.cl (fun g e c=>j.kc g e (.inl c)) (fun g e c=>j.kl g e (.inl c)) (d.ab.bJ (.inr (Rq _)) _ _ _ _);rw[←n.out]at A;obtain⟨Q,R,rfl⟩:=af j.cells;obtain⟨E,F,rfl⟩:=af j.aI;have I:Hid (X (Xq (Aq #[N Z 4,N Z 0,L Q s.cells.length R,L E s.aI.length F])) (bJ wr.drew w.heap.size 4 0 (L Q s.cells.length R) (L E s.aI.length F))):=A;clear A J d o j m O n;unfold bJ at I;go_wp2;refine cS 9 (by kernel_rfl) (by kernel_rfl) ?_;simp only[List.take_succ_cons,List.take_zero,List.drop_succ_cons,List.drop_zero];repeat still_step
   refine wpStill_nil ?_;go_wp2;(try simp only[Exit.inBlock,Exit.then]);refine bodyPost_ret (v:=Aq #[N Z 4,N Z 0,L Q s.cells.length R,L E s.aI.length F]) ?_ rfl ?_;·simp[results,Tryz.results68,go_sem,ae,ag,b2,ah]
   ·exact I.out
theorem At{l:List Int}{k:Nat}(h:k<l.length):bL (l.take (k+1))=bL (l.take k)++[N Z (l.getD k 0)]:=by rw[dn l 0 k h,jf]
theorem pQ(x:Int):∀u∈[Value.int Z x],u.oneCell'=true:=by intro u a;simp at a;subst a;rfl
theorem jm(v:Vq)(l:List Int)(w:W)(q:aM w v l)(J:l.length≤1000)(d:Ending→W→Prop)(h:∀e w',w'.ownsRow w.heap.size 3 1 e l.length (bL l)→G w.heap.size w w'→d (Xq e) w'):Calls Tryz.prog 105 #[v] w d:=by
 obtain⟨K,cap,rfl,M,hc⟩:=q;obtain⟨r,s,t,u,A⟩:=info_parts Tryz.gh;go_enter Tryz.func105,Tryz.ntmps105;go_wp2;go_loopw[3,4](fun o i wr=>∃(k:Nat),k≤l.length∧i=N Z k∧wr.ownsRow w.heap.size 3 1 o k (bL (l.take k))∧G w.heap.size w wr)(fun _ i _=>l.length-(intOf i).toNat);case atStart=>exact⟨0,Nat.zero_le _,rfl,World.ownsRow_nil _ _ _ _,Below.refl _ _⟩
 case round=>
  obtain⟨k,O,rfl,a,c⟩:=hrel;obtain⟨B,C,rfl⟩:=af a;have hz:=c.size;by_cases j:k<l.length
  ·obtain⟨b,P,rfl,m⟩:=hc k j;have E:=aa c m;have n:Hid (bL (l.take (k+1))=bL (l.take k)++[N Z (l.getD k 0)]):=At j;clear m;generalize l.getD k 0=x at*;go_wp2_with(at_builtin;refine wpList_append_own _ rfl _ _ 22 rfl w.heap.size 3 r (N Z 0) 1 8 Tryz.underlying22 s t u A rfl (by decide) _ _ _ rfl (a.alloc _) ⟨wr.heap.size,0,z⟩ 1 1 [N Z x] rfl rfl ?c1 (pQ _) ?c3 ?c4 ?c5 ?_);case c1=>exact gU wr _ _
   case c3=>unfold maxLen;omega
   case c4=>omega
   case c5=>simp;omega
   intro e Q f p _;rw[←n.out]at f;have F:=(c.alloc hz (Y #[N Z x] 3)).grown p (by simp;omega) (fun g H=>(a.lt g H).1);obtain⟨R,S,rfl⟩:=af f;clear p a E c n;go_wp2;go_roundw;case rel=>exact⟨k+1,by omega,by go_num,f,F⟩
   case measure=>simp[intOf];omega
  ·obtain rfl:k=l.length:=by omega
   rw[List.take_length]at a;have I:Hid (d (Xq (L B l.length C)) wr):=h _ _ a c;clear h a c hc;go_wp2;exact I.out
def DB:List Vq:=[L z 0 0,L z 0 0,L z 0 0,L z 0 0,N Z 0]
def fU(args:List Int)(n:Nat):List Int:=args++List.replicate n 0
theorem yW(args:List Int)(n:Nat):bL (fU args (n+1))=bL (fU args n)++[N Z 0]:=by unfold fU;rw[List.replicate_succ',←List.append_assoc,jf]
theorem kM(args:List Int)(n:Nat):(fU args n).length=args.length+n:=by simp[fU]
end Go.Proofs.YtblhmeidbjigaabGreatDoor
