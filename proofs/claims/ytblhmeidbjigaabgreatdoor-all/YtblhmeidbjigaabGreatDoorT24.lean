import Derived.Test.YtblhmeidbjigaabGreatDoorT20
set_option linter.unusedSimpArgs false
set_option linter.unusedVariables false
set_option maxRecDepth 100000
set_option maxHeartbeats 8000000
namespace Go.Proofs.YtblhmeidbjigaabGreatDoor
open Go.RowKit
open Go.Value renaming int→N,slice→L,string→Tq,agg→Aq,bool→Bq,tuple→Uq,pointer→Pq
open Go.IntKind renaming i64→Z
open Go.Obj renaming cells→Y
open Go.Ending renaming returned→Xq
open Option renaming none→z,some→y
open Go.Lib renaming hid→D
open Nat renaming le_refl→Rq
open Go renaming World→W,Value→Vq
open Go.RowKit renaming Below→G
def oN(t:TypeId):Prop:=t=42∨t=36∨t=33∨t=38∨t=3∨t=9
def cU(w w':W):Prop:=∀(b:Nat)(c:Array Vq)(t:TypeId)(a:Nat×Nat),oN t→w.heap[b]?=y (Obj.cells c t a)→w'.heap[b]?=y (Obj.cells c t a)
theorem cU.refl(w:W):cU w w:=fun _ _ _ _ _ h=>h
theorem cU.trans{a b c:W}(h:cU a b)(i:cU b c):cU a c:=fun g x t d f e=>i g x t d f (h g x t d f e)
theorem cU.pT{S:Nat→Prop}{w w':W}(d:aH S w w')(hs:∀g c t a,S g→w.heap[g]?=y (Y c t a)→¬oN t):cU w w':=by
 intro b c t a f e;have i:b<w.heap.size:=by
  by_cases h:b<w.heap.size;·exact h
  ·rw[Array.getElem?_eq_none (by omega)]at e;cases e
 rw[d.block b i (fun h=>hs b c t a h e f)];exact e
theorem cU.gS{w w':W}(a:G w.heap.size w w'):cU w w':=cU.pT ((aH.refl (fun _=>False) w).below a (Rq _)) (fun _ _ _ _ h=>h.elim)
def iG(w:W)(P:W→Prop):Prop:=∀w',cU w w'→P w'
theorem iG.here{w:W}{P:W→Prop}(h:iG w P):P w:=h w (cU.refl w)
theorem iG.next{w w':W}{P:W→Prop}(h:iG w P)(hs:cU w w'):iG w' P:=fun a b=>h a (hs.trans b)
theorem j8{w w':W}{base:Nat}{t:TypeId}{a:Nat}{v:Vq}{n:Nat}{xs:List Vq}(h:w.ownsRow base t a v n xs)(b:oN t)(hs:cU w w'):w'.ownsRow base t a v n xs:=by
 refine⟨h.1,?_⟩;rcases h.2 with c|⟨g,cap,d,e,f,i,j⟩;·exact .inl c
 ·exact .inr ⟨g,cap,d,e,f,hs _ _ _ _ b i,j⟩
theorem lS{w w':W}{g:Nat}{t:TypeId}{xs:List Vq}(h:Row w g t xs)(a:oN t)(hs:cU w w'):Row w' g t xs:=hs _ _ _ _ a h
theorem z_{w:W}{base:Nat}{v:Vq}{a:List (aN×Vq)}(h:aC w base v a):iG w (fun w'=>bm w' v (dT a)):=fun w' hs=>aC.rd (w:=w') ⟨j8 h.row (.inl rfl) hs,fun x b=>j8 (h.each x b) (.inr (.inl rfl)) hs,h.apart⟩
theorem C9{w:W}{base:Nat}{v:Vq}{a:List (aL×Vq)}(h:aP w base v a):iG w (fun w'=>cj w' v (da a)):=fun w' hs=>aP.rd (w:=w') ⟨j8 h.row (.inr (.inr (.inl rfl))) hs,fun x b=>j8 (h.each x b) (.inr (.inr (.inr (.inl rfl)))) hs,h.apart⟩
theorem A8{w:W}{c:Nat}{a:List (aN×Vq)}{b cap:Nat}{t:List Vq}(d:hI w c a)(e:Row w b 42 (bu a++t))(f:a.length≤9223372036854775807)(g:∀x∈a,x.1.ops.length≤9223372036854775807):iG w (fun w'=>bm w' (L (y ⟨b,0,z⟩) a.length cap) (dT a)):=fun w' hs=>nE (gp d fun p xs _ h=>lS h (.inr (.inl rfl)) hs) (lS e (.inl rfl) hs) f g
theorem A7{w:W}{a:List (aL×Vq)}{b cap:Nat}{t:List Vq}(c:mQ w a)(d:Row w b 33 (bt a++t))(e:a.length≤9223372036854775807)(f:∀x∈a,x.1.br.length≤9223372036854775807):iG w (fun w'=>cj w' (L (y ⟨b,0,z⟩) a.length cap) (da a)):=fun w' hs=>pU (ir c fun p xs g=>lS g (.inr (.inr (.inr (.inl rfl)))) hs) (lS d (.inr (.inr (.inl rfl))) hs) e f
theorem Cj{w:W}{B:Nat}{v:Vq}{l:List Int}(h:w.ownsRow B 3 1 v l.length (bL l)):aM w v l:=by obtain⟨c,cap,rfl⟩:=af h;refine⟨c,cap,rfl,iZ h,fun i a=>?_⟩;obtain⟨b,rfl,_,d,hc⟩:=cg h rfl (i:=i) (by rw[bH];exact a);refine⟨b,0,rfl,?_⟩;rw[Nat.zero_add,hc];simp[bL,List.getD,a]
theorem pR{w:W}{B:Nat}{v:Vq}{l:List Int}(h:w.ownsRow B 3 1 v l.length (bL l)):iG w (fun w'=>aM w' v l):=fun w' hs=>Cj (j8 h (.inr (.inr (.inr (.inr (.inl rfl))))) hs)
theorem CD{w:W}{B:Nat}{v:Vq}{l:List (List UInt8)}(h:w.ownsRow B 9 1 v l.length (dq l)):iG w (fun w'=>cZ w' v l):=fun w' hs=>gg (j8 h (.inr (.inr (.inr (.inr (.inr rfl))))) hs)
def E_(k:Nat):TypeId:=if k<2 then 25 else if k<4 then 30 else if k<6 then 63 else 105
def Fv(k:Nat):Nat:=if k<2 then 5 else if k<4 then 1 else if k<6 then 4 else 1
theorem Dq(k:Nat):¬oN (E_ k):=by
 unfold E_ oN;repeat' split
 all_goals decide
theorem uj:¬oN 80:=by unfold oN;decide
def bU{a:Type}(f:Nat→a)(k:Nat)(x:a):Nat→a:=fun j=>if j=k then x else f j
structure jD(w:World)(B:Nat)(n:Int)(val:Nat→Value)(cnt:Nat→Nat)(cel:Nat→List Value):Prop where
 row:Row w B 80 [.int .i64 n,val 0,val 1,val 2,val 3,val 4,val 5,val 6,val 7]
 own:∀k,k<8→w.ownsRow (B+1) (E_ k) (Fv k) (val k) (cnt k) (cel k)
 ap:∀j k,j<8→k<8→j≠k→∀g,(val j).ownBlock=some g→(val k).ownBlock≠some g
section
variable{w w':World}{B:Nat}{n:Int}{val:Nat→Value}{cnt:Nat→Nat}{cel:Nat→List Value}
theorem jD.below(h:jD w B n val cnt cel)(a:G w.heap.size w w'):jD w' B n val cnt cel:=⟨h.row.ab a,fun k b=>lO (h.own k b) ((aH.refl (fun _=>False) w).below a (Rq _)) (fun g c=>c.elim),h.ap⟩
theorem jD.count(h:jD w B n val cnt cel)(a:Int):jD (w.setCell ⟨B,0,z⟩ (N Z a)) B a val cnt cel∧cU w (w.setCell ⟨B,0,z⟩ (N Z a)):=by have d:aH (fun g=>g=B) w (w.setCell ⟨B,0,z⟩ (N Z a)):=(aH.refl (fun g=>g=B) w).setCell (p:=⟨B,0,z⟩) (.inl rfl) _;refine⟨⟨h.row.set 0 _,fun k f=>lO (h.own k f) d (fun g b=>by rw[b];omega),h.ap⟩,cU.pT d ?_⟩;intro g c t i b e;rw[b,h.row]at e;simp only[Option.some.injEq,Obj.cells.injEq]at e;obtain⟨_,rfl,_⟩:=e;exact uj
theorem jD.grow{w1 d:W}(h:jD w B n val cnt cel)(r:G w.heap.size w w1){k:Nat}(m:k<8){b:Vq}{news:List Vq}(A:w1.grownBy d (val k).ownBlock)(H:d.ownsRow (B+1) (E_ k) (Fv k) b (cnt k+1) (cel k++news))(C:b.ownBlock=(val k).ownBlock∨b.ownBlock=y w1.heap.size):jD (d.setCell ⟨B,k+1,z⟩ b) B n (bU val k b) (bU cnt k (cnt k+1)) (bU cel k (cel k++news))∧cU w (d.setCell ⟨B,k+1,z⟩ b)∧aH (fun g=>(val k).ownBlock=y g∨g=B) w (d.setCell ⟨B,k+1,z⟩ b):=by
 have f:=h.below r;have s:aH (fun g=>(val k).ownBlock=y g) w1 d:=(aH.refl _ _).grown A (fun g e=>.inl e);have R:B<w1.heap.size:=f.row.lt;have I:¬((val k).ownBlock=y B):=fun e=>by have:=((f.own k m).lt B e).1;omega
 have E:Row d B 80 [N Z n,val 0,val 1,val 2,val 3,val 4,val 5,val 6,val 7]:=f.row.kept s I;have u:aH (fun g=>g=B) d (d.setCell ⟨B,k+1,z⟩ b):=(aH.refl (fun g=>g=B) d).setCell (p:=⟨B,k+1,z⟩) (.inl rfl) _;have J:aH (fun g=>(val k).ownBlock=y g∨g=B) w (d.setCell ⟨B,k+1,z⟩ b):=((((aH.refl (fun g=>(val k).ownBlock=y g∨g=B) w).below r (Rq _)).grown A (fun g e=>.inl (.inl e))).setCell (p:=⟨B,k+1,z⟩) (.inl (.inr rfl)) _);refine⟨⟨?_,?_,?_⟩,?_,J⟩
 ·have hs:=E.set (k+1) b;have K:k=0∨k=1∨k=2∨k=3∨k=4∨k=5∨k=6∨k=7:=by omega
  rcases K with rfl|rfl|rfl|rfl|rfl|rfl|rfl|rfl<;>exact hs
 ·intro j l;by_cases e:j=k
  ·subst e;have:bU val j b j=b:=by simp[bU]
   rw[this,show bU cnt j (cnt j+1) j=cnt j+1 by simp[bU],show bU cel j (cel j++news) j=cel j++news by simp[bU]];exact lO H u (fun g a=>by rw[a];omega)
  ·rw[show bU val k b j=val j by simp[bU,e],show bU cnt k (cnt k+1) j=cnt j by simp[bU,e],show bU cel k (cel k++news) j=cel j by simp[bU,e]];refine lO ?_ u (fun g a=>by rw[a];omega);have ho:=f.own j l;exact d_ ho fun g a=>s.block g (ho.lt g a).2 (fun q=>h.ap k j m l (fun x=>e x.symm) g q a)
 ·intro i j v l M g a;by_cases o:i=k
  ·have e1:bU val k b i=b:=by simp[bU,o]
   have e2:bU val k b j=val j:=by simp[bU,show j≠k by omega]
   rw[e1]at a;rw[e2];rcases C with q|q;·rw[q]at a;exact h.ap k j m l (by omega) g a
   ·rw[q]at a;intro c;have:=((f.own j l).lt g c).2;simp only[Option.some.injEq]at a;omega
  ·by_cases F:j=k
   ·have e1:bU val k b i=val i:=by simp[bU,o]
    have e2:bU val k b j=b:=by simp[bU,F]
    rw[e1]at a;rw[e2];rcases C with q|q;·rw[q];exact h.ap i k v m o g a
    ·rw[q];intro c;have:=((f.own i v).lt g a).2;simp only[Option.some.injEq]at c;omega
   ·rw[show bU val k b i=val i by simp[bU,o]]at a;rw[show bU val k b j=val j by simp[bU,F]];exact h.ap i j v l M g a
 ·refine((cU.gS r).trans (cU.pT s ?_)).trans (cU.pT u ?_)
  ·intro g c t O a e;rcases(f.own k m).2 with⟨q,_⟩|⟨S,cap,T,P,_,Q,_⟩;·rw[q]at a;simp[Value.ownBlock]at a
   ·rw[P]at a;simp only[Value.ownBlock,Option.some.injEq]at a;subst a;rw[Q]at e;simp only[Option.some.injEq,Obj.cells.injEq]at e;obtain⟨_,rfl,_⟩:=e;exact Dq k
  ·intro g c t O a e;rw[a,E]at e;simp only[Option.some.injEq,Obj.cells.injEq]at e;obtain⟨_,rfl,_⟩:=e;exact uj
end
theorem xb(s:ByteArray)(d place:Int)(w:W)(hs:s.size≤maxLen)(F:TabW w):Calls Tryz.prog 87 #[Tq s,N Z d,N Z place] w fun e w'=>∃t ai,e=Xq (Uq #[Tq (ay t),N Z ai])∧fK s d place t ai∧G w.heap.size w w':=by
 have hc:=fJ s w hs;go_enter Tryz.func87,Tryz.ntmps87;go_wp2_with fail;refine hc.mono ?_;clear hc;rintro e w1⟨aB,l⟩;rcases aB with⟨p,v,aC,rfl,ho,u,j,H⟩|⟨ak,rfl⟩
 ·obtain⟨a,c,rfl⟩:=af ho.row;have I:aC.length=p.blocks.length:=by rw[←u,bD]
  have r:=ho.rd;rw[u]at r;rw[I]at r⊢;obtain⟨aE,aV,aW,aF⟩:=bF j;have o:G w.heap.size w (w1.alloc (Y #[N Z p.args,N Z p.regs,N Z p.data,N Z p.slots,L a p.blocks.length c] 25)):=l.alloc l.size _;have J:G w1.heap.size w1 (w1.alloc (Y #[N Z p.args,N Z p.regs,N Z p.data,N Z p.slots,L a p.blocks.length c] 25)):=(Below.refl _ _).alloc (Rq _) _;have K:=r.ab J;have al:=F.ab o;have m:Row (w1.alloc (Y #[N Z p.args,N Z p.regs,N Z p.data,N Z p.slots,L a p.blocks.length c] 25)) w1.heap.size 25 [N Z p.args,N Z p.regs,N Z p.data,N Z p.slots,L a p.blocks.length c]:=heap_alloc_new w1 _;have aG:=m.cell (i:=0) rfl;have aH:=m.cell (i:=1) rfl;have aI:=m.cell (i:=2) rfl;have aJ:=m.cell (i:=3) rfl;have aK:=m.cell (i:=4) rfl;have aX:=dw j;unfold dy;by_cases x:0≤d∧d<p.blocks.length∧0≤place∧place≤p.regs+p.slots
  ·obtain⟨M,aL,O,Q⟩:=id x;obtain⟨b,rfl⟩:=Int.eq_ofNat_of_zero_le M;have R:b<p.blocks.length:=by omega
   have aY:¬((b:Int)<0):=by omega
   have aZ:¬(place<0):=by omega
   have am:=D x;clear x ho u r l J I;have S:=fun P=>mH p a p.blocks.length c b (w1.alloc (Y #[N Z p.args,N Z p.regs,N Z p.data,N Z p.slots,L a p.blocks.length c] 25)) ⟨by omega,aE.2⟩ aF P;unfold dy ca at S;go_wp2_with fail;refine S _ ?_;intro n f an T;have A:G w.heap.size w f:=o.trans (T.mono o.size);have ao:=K.ab T;have ap:=F.ab A;have U:=zP an;clear an o K al m aG aH aI aJ aK S T;have V:G w.heap.size w (f.alloc (Y #[N Z p.args,N Z p.regs,N Z p.data,N Z p.slots,L a p.blocks.length c,N Z b,n] 164)):=A.alloc A.size _;have B:G f.heap.size f (f.alloc (Y #[N Z p.args,N Z p.regs,N Z p.data,N Z p.slots,L a p.blocks.length c,N Z b,n] 164)):=(Below.refl _ _).alloc (Rq _) _;have g:Row (f.alloc (Y #[N Z p.args,N Z p.regs,N Z p.data,N Z p.slots,L a p.blocks.length c,N Z b,n] 164)) f.heap.size 164 (nJ p (L a p.blocks.length c) b n):=heap_alloc_new f _;have X:gj (f.alloc (Y #[N Z p.args,N Z p.regs,N Z p.data,N Z p.slots,L a p.blocks.length c,N Z b,n] 164)) p (L a p.blocks.length c) n (ax p.regs p.slots):=⟨ao.ab B,U.ab B,ap.ab B⟩;have aa:=ry p.regs p.slots (by omega);have ab:=nC p (L a p.blocks.length c) n b _ j R aa _ X;have u0:=g.cell (i:=0) rfl;have u1:=g.cell (i:=1) rfl;have u2:=g.cell (i:=2) rfl;have u3:=g.cell (i:=3) rfl;have u4:=g.cell (i:=4) rfl;have u5:=g.cell (i:=5) rfl;have u6:=g.cell (i:=6) rfl;obtain⟨aM,aN,rfl,_,_⟩:=id U;unfold ca at ab;clear ao ap U A B;go_wp2_with fail;refine ab.mono ?_;rintro e aq⟨rfl,C⟩;have ac:=X.ab C;have h:=g.ab C;have E:G w.heap.size w aq:=V.trans (C.mono V.size);clear u0 u1 u2 u3 u4 u5 u6 ab X g V C;cases ad:dK p.regs p.slots (ax p.regs p.slots) (aj p.blocks b)with|true=>clear h ac;go_wp2;go_ret2;exact⟨[],5,rfl,.inr ⟨p,j,H,.inr ⟨am.out,.inl ⟨rfl,rfl,ad⟩⟩⟩,E⟩|false=>have u0:=h.cell (i:=0) rfl;have u1:=h.cell (i:=1) rfl;have u2:=h.cell (i:=2) rfl;have u3:=h.cell (i:=3) rfl;have u4:=h.cell (i:=4) rfl;have u5:=h.cell (i:=5) rfl;have u6:=h.cell (i:=6) rfl;have ag:=fun P=>rK p (L a p.blocks.length c) (L aM (ax p.regs p.slots).length aN) b _ j R aa place aq P ac O Q;unfold ca at ag;go_wp2_with fail;refine ag _ ?_;intro aO ar au av;have ah:G w.heap.size w ar:=E.trans (av.mono E.size);obtain⟨aP,aQ⟩:=de j R;have aw:=c_ (show 0≤p.regs∧p.regs≤100 by omega) (show 0≤p.slots∧p.slots≤100 by omega) aa aQ _ (Rq _) place O Q;have aR:(aD p.regs p.slots (ax p.regs p.slots) (aj p.blocks b) (aj p.blocks b).length place).size≤800000:=Nat.le_trans (gH p.regs p.slots _ (aj p.blocks b) _ _) (ns aP);have az:=dD _ aO ar au (F.ab ah) aw (by omega);have k:Hid (fK s b place (ae (aD p.regs p.slots (ax p.regs p.slots) (aj p.blocks b) (aj p.blocks b).length place)) 0):=.inr ⟨p,j,H,.inr ⟨am.out,.inr ⟨rfl,ad,by simp⟩⟩⟩;generalize ae (aD p.regs p.slots (ax p.regs p.slots) (aj p.blocks b) (aj p.blocks b).length place)=aS at*;clear u0 u1 u2 u3 u4 u5 u6 ag ac h E av aw aR au ad;go_wp2_with fail;refine az.mono ?_;rintro e aT⟨rfl,aA⟩;have aU:G w.heap.size w aT:=ah.trans (aA.mono ah.size);clear az aA;go_wp2;go_ret2;exact⟨aS,0,rfl,k.out,aU⟩
  ·have k:Hid (fK s d place [] 4):=.inr ⟨p,j,H,.inl ⟨rfl,rfl,x⟩⟩;have q:=D o;clear ho u r l J I K al m o;by_cases M:d<0;·go_wp2;go_ret2;exact⟨[],4,rfl,k.out,q.out⟩
   ·by_cases aL:(p.blocks.length:Int)≤d;·have a0:¬(d<0):=M;go_wp2;go_ret2;exact⟨[],4,rfl,k.out,q.out⟩
    ·have a1:d<(p.blocks.length:Int):=by omega
     by_cases O:place<0;·go_wp2;go_ret2;exact⟨[],4,rfl,k.out,q.out⟩
     ·have Q:p.regs+p.slots<place:=by omega
      go_wp2;go_ret2;exact⟨[],4,rfl,k.out,q.out⟩
 ·have k:Hid (fK s d place [] 1):=.inl ⟨rfl,rfl,ak⟩;have q:Hid (G w.heap.size w (w1.alloc (Y #[N Z 0,N Z 0,N Z 0,N Z 0,L z 0 0] 25))):=l.alloc l.size _;clear l ak;go_wp2;go_ret2;exact⟨[],1,rfl,k.out,q.out⟩
def gR(a:List bM)(p:Int):Nat→Int|0=>-1|k+1=>if aG a k=p then bP a k else gR a p k
theorem oQ{a:List bM}(c:∀j k,j<k→k<a.length→aG a j≠aG a k)(p:Int):∀k,k≤a.length→gR a p k=match(a.take k).find? (fun x=>decide (x.place=p))with|y x=>x.cT|z=>-1
 |0,_=>by simp[gR]
 |k+1,o=>by
  have f:=oQ c p k (by omega);rw[dn a pz k (by omega),List.find?_append];unfold gR;obtain⟨x,b⟩:∃x,x=a.getD k pz:=⟨_,rfl⟩;have e1:aG a k=x.place:=by unfold aG;rw[←b]
  have e2:bP a k=x.cT:=by unfold bP;rw[←b]
  rw[←b,e1,e2];by_cases h:x.place=p
  ·have g:(a.take k).find? (fun x=>decide (x.place=p))=z:=by
    rw[List.find?_eq_none];intro q i;obtain⟨j,l,rfl⟩:=List.getElem_of_mem i;have m:j<k:=by simp at l;omega
    have d:=c j k m (by omega);rw[e1,h]at d;have n:j<a.length:=by omega
    simp only[decide_eq_true_eq];intro e;apply d;simpa[aG,List.getD,n]using e
   rw[g,if_pos h];simp[h]
  ·rw[if_neg h,f];cases r:(a.take k).find? (fun x=>decide (x.place=p))<;>simp[h]
theorem uW{a:List bM}(b:∀j k,j<k→k<a.length→aG a j≠aG a k)(k:Nat):bL (aY a (k+1))=bL (aY a k)++[N Z (gR a k a.length)]:=by rw[←jf,oQ b _ _ (Rq _),List.take_length];simp only[aY,List.range_succ,List.map_append,List.map_cons,List.map_nil];rfl
theorem yP(q:a8)(e:Option Addr)(f pc b:Nat)(H:Int)(x:Option Addr)(ah A:Nat)(c:List bM)(w:W)(aB:dH w (L x ah A) c)(ai:∀j k,j<k→k<c.length→aG c j≠aG c k)(bb:0≤q.regs∧q.regs≤8)(bc:0≤q.slots∧q.slots≤8)(V:Ending→W→Prop)(K:∀M w',w'.ownsRow w.heap.size 3 1 M (q.regs+q.slots).toNat (bL (aY c (q.regs+q.slots).toNat))→G w.heap.size w w'→V (Xq (ca q (L e f pc) b M)) w'):Calls Tryz.prog 124 #[dy q (L e f pc),Aq #[N Z H,L x ah A],N Z b] w V:=by
 obtain⟨aC,aD,aE,aF,aH⟩:=info_parts Tryz.gh;obtain⟨bd,be,aj,bf,O⟩:=aB;simp only[Value.slice.injEq]at aj;obtain⟨rfl,rfl,rfl⟩:=aj;unfold ca at K;unfold dy;obtain⟨n,ak⟩:∃n:Nat,(q.regs+q.slots).toNat=n:=⟨_,rfl⟩;have bg:q.regs+q.slots=n:=by omega
 rw[ak]at K;have P:=D K;have Q:=D (uW ai);clear K ak ai;generalize q.args=l at*;generalize q.regs=m at*;generalize q.data=o at*;generalize q.slots=ps at*;obtain⟨r,u⟩:∃r,r=(((w.alloc (Y #[N Z l,N Z m,N Z o,N Z ps,L e f pc] 25)).alloc (Y #[N Z H,L x c.length A] 33)).alloc (Y #[N Z 0,N Z 0,N Z 0,N Z 0,L z 0 0,N Z 0,L z 0 0] 164)).alloc (Y #[N Z l,N Z m,N Z o,N Z ps,L e f pc,N Z b,L z 0 0] 164):=⟨_,rfl⟩;have s:Row r w.heap.size 25 [N Z l,N Z m,N Z o,N Z ps,L e f pc]:=by subst u;exact Row.alloc (Row.alloc (Row.alloc (heap_alloc_new w _) _) _) _
 have t:Row r (w.heap.size+1) 33 [N Z H,L x c.length A]:=by subst u;exact Row.alloc (Row.alloc (heap_alloc2_new w _ _) _) _
 have d:Row r (w.heap.size+2) 164 xE:=by subst u;have q:=heap_alloc2_new (w.alloc (Y #[N Z l,N Z m,N Z o,N Z ps,L e f pc] 25)) (Y #[N Z H,L x c.length A] 33) (Y #[N Z 0,N Z 0,N Z 0,N Z 0,L z 0 0,N Z 0,L z 0 0] 164);simp only[World.size_alloc]at q;exact Row.alloc q _
 have h:Row r (w.heap.size+3) 164 [N Z l,N Z m,N Z o,N Z ps,L e f pc,N Z b,L z 0 0]:=by subst u;have q:=heap_alloc2_new ((w.alloc (Y #[N Z l,N Z m,N Z o,N Z ps,L e f pc] 25)).alloc (Y #[N Z H,L x c.length A] 33)) (Y #[N Z 0,N Z 0,N Z 0,N Z 0,L z 0 0,N Z 0,L z 0 0] 164) (Y #[N Z l,N Z m,N Z o,N Z ps,L e f pc,N Z b,L z 0 0] 164);simp only[World.size_alloc]at q;exact q
 have al:G w.heap.size w r:=by subst u;exact((((Below.refl w.heap.size w).alloc (Rq _) _).alloc (by simp) _).alloc (by simp;omega) _).alloc (by simp;omega) _
 have am:w.heap.size+4≤r.heap.size:=by subst u;simp
 have an:=D u;clear u;go_enter Tryz.func124,Tryz.ntmps124;go_wp2;rw[←an.out];clear an;go_loopw[8](fun i wr=>∃(k:Nat)(sv:Vq),k≤n∧i=N Z k∧Row wr w.heap.size 25 [N Z l,N Z m,N Z o,N Z ps,L e f pc]∧Row wr (w.heap.size+1) 33 [N Z H,L x c.length A]∧Row wr (w.heap.size+2) 164 xE∧Row wr (w.heap.size+3) 164 [N Z l,N Z m,N Z o,N Z ps,L e f pc,N Z b,sv]∧wr.ownsRow (w.heap.size+4) 3 1 sv k (bL (aY c k))∧G w.heap.size w wr∧w.heap.size+4≤wr.heap.size)(fun i _=>n-(intOf i).toNat);case atStart=>exact⟨0,L z 0 0,Nat.zero_le _,rfl,s,t,d,h,World.ownsRow_nil _ _ _ _,al,am⟩
 case round=>
  clear s t d h al am r;rename W=>w1;obtain⟨k,sv,bh,rfl,s,t,d,h,I,J,hz⟩:=hrel;obtain⟨ab,ac,rfl⟩:=af I;have aI:=s.cell (i:=1) rfl;have aJ:=s.cell (i:=3) rfl;by_cases bi:k<n
  ·go_wp2;go_loopw[9,10](fun M i aK=>∃(j:Nat),j≤c.length∧i=N Z j∧M=N Z (gR c k j)∧G w1.heap.size w1 aK)(fun _ i _=>c.length-(intOf i).toNat);case atStart=>exact⟨0,Nat.zero_le _,rfl,rfl,Below.refl _ _⟩
   case round=>
    obtain⟨j,bj,rfl,rfl,p⟩:=hrel;clear aI aJ;have R:=J.trans (p.mono J.size);by_cases aL:j<c.length
    ·have ao:=aa p (t.cell (i:=1) rfl);obtain⟨bk,bl,rfl,ap,g1⟩:=O j aL;have bm:=aa R ap;have bn:=aa R g1;have bo:(0:Int)≤(j:Int):=by omega
     have bp:(j:Int)<(c.length:Int):=by omega
     have S:Hid (gR c k (j+1)=if aG c j=(k:Int)then bP c j else gR c k j):=rfl;clear ap g1 O s t d h I J R Q P;by_cases B:aG c j=(k:Int)
     ·have ad:Hid (gR c k (j+1)=bP c j):=by show _=_;rw[S.out,if_pos B]
      have e1:(aG c j==(k:Int))=true:=by simp[B]
      have bq:=D B;clear S B;generalize gR c k j=aM at*;generalize bP c j=aN at*;generalize aG c j=aO at*;go_wp2;go_roundw;case rel=>exact⟨j+1,by omega,by go_num,by rw[ad.out],p⟩
      case measure=>simp[intOf];omega
     ·have ad:Hid (gR c k (j+1)=gR c k j):=by show _=_;rw[S.out,if_neg B]
      have e1:(aG c j==(k:Int))=false:=by simp[B]
      clear S B;generalize gR c k j=aM at*;generalize bP c j=aN at*;generalize aG c j=aO at*;go_wp2;go_roundw;case rel=>exact⟨j+1,by omega,by go_num,by rw[ad.out],p⟩
      case measure=>simp[intOf];omega
    ·obtain rfl:j=c.length:=by omega
     have ao:=aa p (t.cell (i:=1) rfl);have aq:=D (Q.out k);have ar:=s.ab p;have au:=t.ab p;have av:=d.ab p;have ae:=h.ab p;have ag:=aV I p (Rq _);have aP:w.heap.size+4≤wr.heap.size:=Nat.le_trans hz p.size;have aw:=ae.cell (i:=6) rfl;generalize gR c k c.length=X at*;clear O s t d h I J hz p Q P;go_wp2_with(at_builtin;refine wpList_append_own _ rfl _ _ 22 rfl (w.heap.size+4) 3 aC (N Z 0) 1 8 Tryz.underlying22 aD aE aF aH rfl (by decide) _ _ _ rfl (ag.alloc _) ⟨wr.heap.size,0,z⟩ 1 1 [N Z X] rfl rfl ?c1 (zn _) ?c3 ?c4 ?c5 ?_);try(case c1=>exact zm wr _ _)
     case c3=>unfold maxLen;omega
     case c4=>omega
     case c5=>first|omega|(simp;omega)
     intro br aQ T ax _;rw[←aq.out]at T;have C:=((Below.refl (w.heap.size+4) wr).alloc aP (Y #[N Z X] 3)).grown ax (by simp;omega) (fun g aR=>(ag.lt g aR).1);have ay:=ar.below C (by omega);have az:=au.below C (by omega);have aA:=av.below C (by omega);have U:=ae.below C (by omega);obtain⟨E,F,rfl⟩:=af T;have bs:=U.cell (i:=6) rfl;have aS:=U.frozen 6;have aT:=ay.a7 (a:=⟨w.heap.size+3,6,z⟩) (by show w.heap.size≠w.heap.size+3;omega) (L E (k+1) F);have aU:=az.a7 (a:=⟨w.heap.size+3,6,z⟩) (by show w.heap.size+1≠w.heap.size+3;omega) (L E (k+1) F);have aW:=aA.a7 (a:=⟨w.heap.size+3,6,z⟩) (by show w.heap.size+2≠w.heap.size+3;omega) (L E (k+1) F);have aX:=U.set 6 (L E (k+1) F);have aZ:=ownsRow_setCell_below T (a:=⟨w.heap.size+3,6,z⟩) (by show w.heap.size+3<w.heap.size+4;omega) (L E (k+1) F);have a0:=dZ (g:=w.heap.size+3) (i:=6) (R.trans (C.mono (by omega))) (by omega) (L E (k+1) F);have a1:w.heap.size+4≤(aQ.setCell ⟨w.heap.size+3,6,z⟩ (L E (k+1) F)).heap.size:=by have:=C.size;simp;omega
     clear T ax ag ar au av ae ay az aA U C aq aw ao;go_wp2;go_roundw;case rel=>exact⟨k+1,_,by omega,by go_num,aT,aU,aW,aX,aZ,a0,a1⟩
     case measure=>simp[intOf];omega
  ·obtain rfl:k=n:=by omega
   have a2:Hid (V (Xq (Aq #[N Z l,N Z m,N Z o,N Z ps,L e f pc,N Z b,L ab k ac])) (Dn w1 (w.heap.size+2) (N Z l) (N Z m) (N Z o) (N Z ps) (L e f pc) (N Z b) (L ab k ac))):=P.out _ _ (a_ (ud I (by omega) _ _ _ _ _ _ _) (by omega)) (rZ J (by omega) _ _ _ _ _ _ _);have bt:=h.cell (i:=0) rfl;have a3:=d.cell (i:=0) rfl;have bu:=d.frozen 0;have bv:=h.cell (i:=1) rfl;have a4:=d.cell (i:=1) rfl;have bw:=d.frozen 1;have bx:=h.cell (i:=2) rfl;have a5:=d.cell (i:=2) rfl;have bz:=d.frozen 2;have bA:=h.cell (i:=3) rfl;have a6:=d.cell (i:=3) rfl;have bB:=d.frozen 3;have bC:=h.cell (i:=4) rfl;have a7:=d.cell (i:=4) rfl;have bD:=d.frozen 4;have bE:=h.cell (i:=5) rfl;have a9:=d.cell (i:=5) rfl;have bF:=d.frozen 5;have aw:=h.cell (i:=6) rfl;have ba:=d.cell (i:=6) rfl;have aS:=d.frozen 6;clear P s d h t I J Q O;go_wp2;exact bodyPost_ret (v:=Aq #[N Z l,N Z m,N Z o,N Z ps,L e f pc,N Z b,L ab k ac]) (by simp[results,Tryz.results124,go_sem,a3,a4,a5,a6,a7,a9,ba]) rfl a2.out
structure sk(w:World)(p:a8)(pv nv:Value)(b:Nat)(names:List Int):Prop where
 rd:gj w p pv nv names
 nf:aB p=true
 lt:b<p.blocks.length
 small:∀x∈names,x≤1000
theorem sk.ab{w w':W}{p:a8}{a c:Vq}{b:Nat}{names:List Int}(h:sk w p a c b names)(d:G w.heap.size w w'):sk w' p a c b names:=⟨h.rd.ab d,h.nf,h.lt,h.small⟩
noncomputable def dd(p:a8)(names:List Int)(b:Nat)(i:Int):TD:=aD p.regs p.slots names (aj p.blocks b) (aj p.blocks b).length i
noncomputable def gQ(p:a8)(names:List Int)(b:Nat):List (List UInt8):=bG p.regs p.slots p.data names (aj p.blocks b) (aj p.blocks b).length
theorem sk.aJ{w:W}{p:a8}{a c:Vq}{b:Nat}{names:List Int}(h:sk w p a c b names){i:Int}(d:0≤i)(e:i≤p.regs+p.slots):(dd p names b i).aJ:=by obtain⟨g,j,k,hs⟩:=bF h.nf;obtain⟨l,f⟩:=de h.nf h.lt;exact c_ (by omega) (by omega) h.small f _ (Rq _) i d e
theorem sk.final{w:W}{p:a8}{a c:Vq}{b:Nat}{names:List Int}(h:sk w p a c b names)(i:Int)(f:0≤i)(g:i≤p.regs+p.slots)(d:Ending→W→Prop)(j:∀e w',aA w' (dd p names b i) e→G w.heap.size w w'→d (Xq (Pq (y ⟨e,0,z⟩))) w'):Calls Tryz.prog 117 #[ca p a b c,N Z i] w d:=rK p a c b names h.nf h.lt h.small i w d h.rd f g j
theorem oe(t u:TD)(g h:Nat)(w:W)(c:aA w t g)(d:aA w u h)(f:t.aJ)(i:u.aJ)(a:Ending→W→Prop)(j:∀b w',(b=true↔t=u)→G w.heap.size w w'→a (Xq (Bq b)) w'):Calls Tryz.prog 157 #[Pq (y ⟨g,0,z⟩),Pq (y ⟨h,0,z⟩)] w a:=(eJ t u g h w c d f i).mono fun e w'⟨k,l,m⟩=>by subst k m;exact j _ _ (dE t u) (below_drewN (Below.refl _ _) l)
theorem oZ(p q:a8)(H I J K:Option Addr)(M pc O P Q R S T a b:Nat)(np nq:List Int)(g:List bM)(au:Option Addr)(av aw:Nat)(w:W)(ax:sk w p (L H M pc) (L I O P) a np)(ay:sk w q (L J Q R) (L K S T) b nq)(aY:dH w (L au av aw) g)(az:∀x∈g,(0≤x.cT∧x.cT≤p.regs+p.slots)∧(0≤x.place∧x.place≤q.regs+q.slots))(aA:Ending→W→Prop)(aB:∀U w',(U=true↔∀x∈g,dd p np a x.cT=dd q nq b x.place)→G w.heap.size w w'→aA (Xq (Bq U)) w'):Calls Tryz.prog 182 #[ca p (L H M pc) a (L I O P),ca q (L J Q R) b (L K S T),L au av aw] w aA:=by
 obtain⟨bb,bc,aC,bd,ac⟩:=aY;simp only[Value.slice.injEq]at aC;obtain⟨rfl,rfl,rfl⟩:=aC;unfold ca;obtain⟨m,r⟩:∃m,m=(w.alloc (Y #[N Z p.args,N Z p.regs,N Z p.data,N Z p.slots,L H M pc,N Z a,L I O P] 164)).alloc (Y #[N Z q.args,N Z q.regs,N Z q.data,N Z q.slots,L J Q R,N Z b,L K S T] 164):=⟨_,rfl⟩;have n:Row m w.heap.size 164 [N Z p.args,N Z p.regs,N Z p.data,N Z p.slots,L H M pc,N Z a,L I O P]:=by subst r;exact Row.alloc (heap_alloc_new w _) _
 have aD:Row m (w.heap.size+1) 164 [N Z q.args,N Z q.regs,N Z q.data,N Z q.slots,L J Q R,N Z b,L K S T]:=by subst r;exact heap_alloc2_new w _ _
 have aE:G w.heap.size w m:=by subst r;exact((Below.refl w.heap.size w).alloc (Rq _) _).alloc (by simp) _
 have aF:=D r;have aH:=D aB;have aI:=D ax;have aJ:=D ay;have aZ:=D az;clear r aB ax ay az;go_enter Tryz.func182,Tryz.ntmps182;go_wp2;rw[←aF.out];clear aF;go_loopw[7](fun i wr=>∃(k:Nat),k≤g.length∧i=N Z k∧G m.heap.size m wr∧Hid (∀j,j<k→dd p np a (bP g j)=dd q nq b (aG g j)))(fun i _=>g.length-(intOf i).toNat);case atStart=>exact⟨0,Nat.zero_le _,rfl,Below.refl _ _,fun j V=>by omega⟩
 case round=>
  obtain⟨k,be,rfl,l,v⟩:=hrel;have s:G w.heap.size w wr:=aE.trans (l.mono aE.size);by_cases ad:k<g.length
  ·obtain⟨aK,aL,rfl,aM,g1⟩:=ac k ad;have ae:=aZ.out _ (cm (d:=pz) ad);have A:0≤bP g k∧bP g k≤p.regs+p.slots:=ae.1;have X:0≤aG g k∧aG g k≤q.regs+q.slots:=ae.2;have B:G wr.heap.size wr wr.drew:=(Below.refl _ _).drew;have aN:G w.heap.size w wr.drew:=s.trans (B.mono s.size);have af:=fun C=>(aI.out.ab aN).final (bP g k) A.1 A.2 C;have ag:=fun c(f:G wr.heap.size wr c)=>aa f (aa l (n.cell (i:=0) rfl));have c1:=fun c(f:G wr.heap.size wr c)=>aa f (aa l (n.cell (i:=1) rfl));have c2:=fun c(f:G wr.heap.size wr c)=>aa f (aa l (n.cell (i:=2) rfl));have c3:=fun c(f:G wr.heap.size wr c)=>aa f (aa l (n.cell (i:=3) rfl));have c4:=fun c(f:G wr.heap.size wr c)=>aa f (aa l (n.cell (i:=4) rfl));have c5:=fun c(f:G wr.heap.size wr c)=>aa f (aa l (n.cell (i:=5) rfl));have ah:=fun c(f:G wr.heap.size wr c)=>aa f (aa l (n.cell (i:=6) rfl));have a0:∀c,G wr.heap.size wr c→c.cell? ⟨aK,aL+k*2,z⟩=y (N Z (bP g k)):=fun c f=>aa f (aa s aM);have bf:(0:Int)≤(k:Int):=by omega
   have bg:(k:Int)<(g.length:Int):=by omega
   have aO:=D g1;have ai:=D l;have aP:=D s;have aj:=D (cm (d:=pz) ad);have u:Hid ((g.getD k pz).cT=bP g k∧(g.getD k pz).place=aG g k):=⟨rfl,rfl⟩;have bh:=D n;have t:=D aD;have a1:=D (aI.out.aJ A.1 A.2);have a2:=D (aJ.out.aJ X.1 X.2);unfold ca at af;clear aM g1 ac l s aN n aD ae A;generalize bP g k=rg at*;generalize aG g k=ak at*;go_wp2;go_region_held3(fun c=>G wr.heap.size wr c)(first|with_reducible exact B|with_reducible exact ab)(first|(go_at_call 117;refine af _ ?_;intro g1 h aQ b2;have ab:G wr.heap.size wr h:=B.trans (b2.mono B.size)));have o:G m.heap.size m h:=ai.out.trans (ab.mono ai.out.size);have E:G w.heap.size w h:=aP.out.trans (ab.mono aP.out.size);clear af b2 ag c1 c2 c3 c4 c5 ah a0 ai B;have k2:G h.heap.size h h.drew:=(Below.refl _ _).drew;have aR:G w.heap.size w h.drew:=E.trans (k2.mono E.size);have al:=fun C=>(aJ.out.ab aR).final ak X.1 X.2 C;have ag:=fun c(f:G h.heap.size h c)=>aa f (aa o (t.out.cell (i:=0) rfl));have c1:=fun c(f:G h.heap.size h c)=>aa f (aa o (t.out.cell (i:=1) rfl));have c2:=fun c(f:G h.heap.size h c)=>aa f (aa o (t.out.cell (i:=2) rfl));have c3:=fun c(f:G h.heap.size h c)=>aa f (aa o (t.out.cell (i:=3) rfl));have c4:=fun c(f:G h.heap.size h c)=>aa f (aa o (t.out.cell (i:=4) rfl));have c5:=fun c(f:G h.heap.size h c)=>aa f (aa o (t.out.cell (i:=5) rfl));have ah:=fun c(f:G h.heap.size h c)=>aa f (aa o (t.out.cell (i:=6) rfl));have a3:∀c,G h.heap.size h c→c.cell? ⟨aK,aL+k*2+1,z⟩=y (N Z ak):=fun c f=>aa f (aa E aO.out);have aS:=D aQ;have am:=D o;have an:=D E;unfold ca at al;clear aQ o E aR ab aO;go_wp2;go_region_held3(fun c=>G h.heap.size h c)(first|with_reducible exact k2|with_reducible exact F)(first|(go_at_call 117;refine al _ ?_;intro g2 aT aU aV;have F:G h.heap.size h aT:=k2.trans (aV.mono k2.size)));have aW:=fun C=>oe _ _ g1 g2 aT (aS.out.ab F) aU a1.out a2.out C;have ao:=D (am.out.trans (F.mono am.out.size));have ap:=D (an.out.trans (F.mono an.out.size));clear al aV ag c1 c2 c3 c4 c5 ah a3 k2 aS aU am an F;go_wp2_with fail;refine aW _ ?_;intro U a4 hz aq;have aX:=D hz;have a5:=ao.out.trans (aq.mono ao.out.size);have a6:=ap.out.trans (aq.mono ap.out.size);clear aW hz aq ao ap;cases U with
    |true=>
     have a7:Hid (∀j,j<k+1→dd p np a (bP g j)=dd q nq b (aG g j)):=fun j V=>by
      by_cases e:j=k;·rw[e];have e1:bP g k=rg:=u.out.1;have e2:aG g k=ak:=u.out.2;rw[e1,e2];exact aX.out.1 rfl
      ·exact v.out j (by omega)
     clear v u aj;go_wp2;go_roundw;case rel=>exact⟨k+1,by omega,by go_num,a5,a7⟩
     case measure=>simp[intOf];omega
    |false=>have ar:=D (aH.out false a4 ⟨fun a9=>(by cases a9),fun r=>by have:=r _ aj.out;rw[u.out.1,u.out.2]at this;have:=aX.out.2 this;cases this⟩ a6);clear v u aj;go_wp2;exact ar.out
  ·obtain rfl:k=g.length:=by omega
   have a_:Hid (∀x∈g,dd p np a x.cT=dd q nq b x.place):=fun x ba=>by obtain⟨j,V,rfl⟩:=List.getElem_of_mem ba;have:=v.out j V;simpa[bP,aG,List.getD,V]using this
   have ar:=D (aH.out true _ ⟨fun _=>a_.out,fun _=>rfl⟩ s);clear ac v l s;go_wp2;exact ar.out
theorem sk.marked{w:W}{p:a8}{a c:Vq}{b:Nat}{names:List Int}(h:sk w p a c b names)(d:Ending→W→Prop)(e:∀v w',w'.ownsRow w.heap.size 9 1 v (gQ p names b).length (dq (gQ p names b))→G w.heap.size w w'→d (Xq v) w'):Calls Tryz.prog 120 #[ca p a b c] w d:=oX p a c b names h.nf h.lt h.small w h.rd d e
theorem yI(p q:a8)(R S E F:Option Addr)(T pc U V H I J K a b:Nat)(np nq:List Int)(w:W)(f:sk w p (L R T pc) (L S U V) a np)(h:sk w q (L E H I) (L F J K) b nq)(am:Ending→W→Prop)(an:∀ao w',(ao=true↔gQ p np a=gQ q nq b)→G w.heap.size w w'→am (Xq (Bq ao)) w'):Calls Tryz.prog 156 #[ca p (L R T pc) a (L S U V),ca q (L E H I) b (L F J K)] w am:=by
 obtain⟨M,g⟩:∃M,M=(w.alloc (Y #[N Z p.args,N Z p.regs,N Z p.data,N Z p.slots,L R T pc,N Z a,L S U V] 164)).alloc (Y #[N Z q.args,N Z q.regs,N Z q.data,N Z q.slots,L E H I,N Z b,L F J K] 164):=⟨_,rfl⟩;have e:Row M (w.heap.size+1) 164 [N Z q.args,N Z q.regs,N Z q.data,N Z q.slots,L E H I,N Z b,L F J K]:=by subst g;exact heap_alloc2_new w _ _
 have X:G w.heap.size w M:=by subst g;exact((Below.refl w.heap.size w).alloc (Rq _) _).alloc (by simp) _
 have O:=fun ab=>(f.ab X).marked ab;rw[g]at O;unfold ca at O⊢;have ap:=D e;have ac:=D X;have ad:=D an;have aq:=D h;subst g;clear e X an f h;go_enter Tryz.func156,Tryz.ntmps156;go_wp2_with fail;refine O _ ?_;intro v w1 ae ag;obtain⟨aK,aL,rfl⟩:=af ae;have e:=ap.out.ab ag;have P:=ac.out.trans (ag.mono ac.out.size);have ah:=fun ab=>(aq.out.ab P).marked ab;have aw:=e.cell (i:=0) rfl;have c1:=e.cell (i:=1) rfl;have c2:=e.cell (i:=2) rfl;have c3:=e.cell (i:=3) rfl;have c4:=e.cell (i:=4) rfl;have c5:=e.cell (i:=5) rfl;have ax:=e.cell (i:=6) rfl;have ar:=D ae;unfold ca at ah;clear O ap ac e ae ag;go_wp2_with fail;refine ah _ ?_;intro aM ai aj b2;obtain⟨aN,aO,rfl⟩:=af aj;have s:=P.trans (b2.mono P.size);have az:=gg (aV ar.out b2 (Rq _));have aA:=gg aj;clear ah ar aj b2 P aw c1 c2 c3 c4 c5 ax aq;generalize gQ p np a=l at*;generalize gQ q nq b=c at*;obtain⟨aP,aQ,t,aB,u⟩:=az;simp only[Value.slice.injEq,true_and]at t;obtain⟨rfl,rfl⟩:=t;obtain⟨aR,aS,t,aC,A⟩:=aA;simp only[Value.slice.injEq,true_and]at t;obtain⟨rfl,rfl⟩:=t;by_cases B:l.length=c.length
 ·obtain⟨n,Q⟩:∃n,l.length=n:=⟨_,rfl⟩;have au:c.length=n:=by rw[←B,Q]
  have aD:=D B;have aE:=D Q;rw[Q]at u aB⊢;rw[au]at A aC⊢;clear B Q au;go_wp2;go_loopw[7](fun i wr=>∃(k:Nat),k≤n∧i=N Z k∧G ai.heap.size ai wr∧Hid (∀j,j<k→l.getD j []=c.getD j []))(fun i _=>n-(intOf i).toNat);case atStart=>exact⟨0,Nat.zero_le _,rfl,Below.refl _ _,fun j aF=>by omega⟩
  case round=>
   obtain⟨k,aT,rfl,o,C⟩:=hrel;by_cases av:k<n
   ·obtain⟨b,aU,rfl,f⟩:=u k av;obtain⟨aW,aX,rfl,h⟩:=A k av;have g1:=aa o f;have g2:=aa o h;have aY:(k:Int)<(n:Int):=by omega
    have aG:=D (fun d=>below_drewN o d);have aH:=D (fun d=>below_drewN (s.trans (o.mono s.size)) d);clear f h u A;by_cases m:l.getD k []=c.getD k []
    ·have r:=(vu (l.getD k []) (c.getD k [])).2 m;have aI:Hid (∀j,j<k+1→l.getD j []=c.getD j []):=fun j aF=>by
      by_cases q:j=k;·rw[q];exact m
      ·exact C.out j (by omega)
     clear m C;generalize ay (l.getD k [])=x at*;generalize ay (c.getD k [])=aJ at*;go_wp2;go_quiet(fail);go_wp2;go_roundw;case rel=>exact⟨k+1,by omega,by go_num,aG.out _,aI⟩
     case measure=>simp[intOf];omega
    ·have r:=vv m;have ak:Hid (¬l=c):=by intro q;rw[q]at m;exact m rfl
     clear m C;generalize ay (l.getD k [])=x at*;generalize ay (c.getD k [])=aJ at*;go_wp2;go_quiet(fail);go_wp2;exact ad.out false _ ⟨fun r=>(by cases r),fun g=>absurd g ak.out⟩ (aH.out _)
   ·obtain rfl:k=n:=by omega
    have ak:Hid (l=c):=by show l=c;apply List.ext_getElem (by rw[aD.out]);intro j f h;have:=C.out j (by rw[←aE.out];exact f);simpa[List.getD,f,h]using this
    have al:=D (ad.out true _ ⟨fun _=>ak.out,fun _=>rfl⟩ (s.trans (o.mono s.size)));clear u A C o;go_wp2;exact al.out
 ·have r:((l.length:Int)==(c.length:Int))=false:=by simp;omega
  have al:=D (ad.out false ai ⟨fun r=>(by cases r),fun g=>absurd (congrArg List.length g) B⟩ s);clear u A B;go_wp2;exact al.out
theorem yT(I f J K M d1 d2 d3:Int)(O P ho:Option Addr)(g pc p Q an hc:Nat)(h:List aL)(w:W)(aH:cj w (L ho an hc) h)(aV:IntKind.i64.wrap (d1+d3)=d1+d3)(ao:Ending→W→Prop)(ap:∀ar w',(ar=true↔h.length=p∧∀b,b<h.length→aU h b<g∧∀x∈aq h b,x.cT<f∧x.place<d1+d3)→G w.heap.size w w'→ao (Xq (Bq ar)) w'):Calls Tryz.prog 122 #[Aq #[N Z I,N Z f,N Z J,N Z K,L O g pc],Aq #[N Z M,N Z d1,N Z d2,N Z d3,L P p Q],Aq #[L ho an hc]] w ao:=by
 obtain⟨aW,aX,F,aY,R⟩:=aH;simp only[Value.slice.injEq]at F;obtain⟨rfl,rfl,rfl⟩:=F;obtain⟨m,c⟩:∃m,m=((w.alloc (Y #[N Z I,N Z f,N Z J,N Z K,L O g pc] 25)).alloc (Y #[N Z M,N Z d1,N Z d2,N Z d3,L P p Q] 25)).alloc (Y #[L ho h.length hc] 30):=⟨_,rfl⟩;have ad:Row m w.heap.size 25 [N Z I,N Z f,N Z J,N Z K,L O g pc]:=by subst c;exact Row.alloc (Row.alloc (heap_alloc_new w _) _) _
 have ae:Row m (w.heap.size+1) 25 [N Z M,N Z d1,N Z d2,N Z d3,L P p Q]:=by subst c;exact Row.alloc (heap_alloc2_new w _ _) _
 have au:Row m (w.heap.size+2) 30 [L ho h.length hc]:=by subst c;have q:=heap_alloc2_new (w.alloc (Y #[N Z I,N Z f,N Z J,N Z K,L O g pc] 25)) (Y #[N Z M,N Z d1,N Z d2,N Z d3,L P p Q] 25) (Y #[L ho h.length hc] 30);simp only[World.size_alloc]at q;exact q
 have u:G w.heap.size w m:=by subst c;exact(((Below.refl w.heap.size w).alloc (Rq _) _).alloc (by simp) _).alloc (by simp;omega) _
 have af:=D c;have v:=D ap;clear c ap;by_cases A:h.length=p
 ·have o:((h.length:Int)==(p:Int))=true:=by simp[A]
  have av:((h.length:Int)!=(p:Int))=false:=by simp[A]
  have aI:=D A;clear A;go_enter Tryz.func122,Tryz.ntmps122;go_wp2;rw[←af.out];try rw[av]
  clear av o;clear af;go_loopw[7](fun i wr=>∃(k:Nat),k≤h.length∧i=N Z k∧G m.heap.size m wr∧Hid (∀b,b<k→aU h b<g∧∀x∈aq h b,x.cT<f∧x.place<d1+d3))(fun i _=>h.length-(intOf i).toNat);case atStart=>exact⟨0,Nat.zero_le _,rfl,Below.refl _ _,fun j ag=>by omega⟩
  case round=>
   obtain⟨k,aZ,rfl,B,S⟩:=hrel;have C:G w.heap.size w wr:=u.trans (B.mono u.size);have aJ:=aa B (au.cell (i:=0) rfl);by_cases aw:k<h.length
   ·obtain⟨a0,a1,sv,rfl,ax,g1,g2⟩:=R k aw;obtain⟨a2,a3,rfl,aK,T⟩:=id g2;have aM:=aa B (ad.cell (i:=4) rfl);have ah:=aa C ax;have ai:=aa C g1;have a4:(0:Int)≤(k:Int):=by omega
    have a5:(k:Int)<(h.length:Int):=by omega
    have ay:=D (fun n=>below_drewN B n);have az:=D (fun n=>below_drewN C n);obtain⟨a,U⟩:∃a,a=aq h k:=⟨_,rfl⟩;obtain⟨r,V⟩:∃r,r=aU h k:=⟨_,rfl⟩;have aA:Hid ((r<g∧∀x∈a,x.cT<f∧x.place<d1+d3)→∀b,b<k+1→aU h b<g∧∀x∈aq h b,x.cT<f∧x.place<d1+d3):=fun aN j ag=>by
     by_cases e:j=k;·rw[e,←U,←V];exact aN
     ·exact S.out j (by omega)
    have X:Hid ((∀b,b<h.length→aU h b<g∧∀x∈aq h b,x.cT<f∧x.place<d1+d3)→r<g∧∀x∈a,x.cT<f∧x.place<d1+d3):=fun c=>by rw[U,V];exact c k aw
    rw[←U]at T ai aK g2;rw[←V]at ah;clear ax g1 g2 R B U V S;by_cases hs:r<(g:Int)
    ·have aB:¬((g:Int)≤r):=by omega
     go_wp2;go_quiet(fail);go_wp2;go_loopw[9](fun i aj=>∃(j:Nat),j≤a.length∧i=N Z j∧G m.heap.size m aj∧Hid (∀l,l<j→bP a l<f∧aG a l<d1+d3))(fun i _=>a.length-(intOf i).toNat);case atStart=>exact⟨0,Nat.zero_le _,rfl,ay.out _,fun j ag=>by omega⟩
     case round=>
      clear aM aJ ah ai ay az C aB;rename W=>aj;obtain⟨j,ag,rfl,s,E⟩:=hrel;have ab:G w.heap.size w aj:=u.trans (s.mono u.size);by_cases aC:j<a.length
      ·obtain⟨b2,a6,rfl,F,e1⟩:=T j aC;have ah:=aa ab F;have ai:=aa ab e1;have c1:=aa s (ad.cell (i:=1) rfl);have a7:=aa s (ae.cell (i:=1) rfl);have a8:=aa s (ae.cell (i:=3) rfl);have a9:(0:Int)≤(j:Int):=by omega
       have a_:(j:Int)<(a.length:Int):=by omega
       have aO:=D (fun n=>below_drewN s n);have aD:=D (fun n=>below_drewN ab n);have H:=D (cm (d:=pz) aC);have t:Hid ((a.getD j pz).cT=bP a j∧(a.getD j pz).place=aG a j):=⟨rfl,rfl⟩;clear F e1 T s ab;generalize bP a j=rg at*;generalize aG a j=ac at*;by_cases aE:rg<f
       ·have m1:¬(f≤rg):=by omega
        by_cases aF:ac<d1+d3
        ·have m2:¬(d1+d3≤ac):=by omega
         have aP:Hid (∀l,l<j+1→bP a l<f∧aG a l<d1+d3):=fun l ak=>by
          by_cases e:l=j;·rw[e];have aQ:bP a j=rg:=t.out.1;have aR:aG a j=ac:=t.out.2;rw[aQ,aR];exact⟨aE,aF⟩
          ·exact E.out l (by omega)
         clear E t H;go_wp2;go_quiet(fail);go_wp2;go_roundw;case rel=>exact⟨j+1,by omega,by go_num,aO.out _,aP⟩
         case measure=>simp[intOf];omega
        ·have m2:d1+d3≤ac:=by omega
         have al:Hid (¬(r<g∧∀x∈a,x.cT<f∧x.place<d1+d3)):=fun c=>aF (by have:=(c.2 _ H.out).2;rw[t.out.2]at this;exact this);clear E t H;go_wp2;go_quiet(fail);go_wp2;exact v.out false _ ⟨fun o=>(by cases o),fun c=>absurd (X.out c.2) al.out⟩ (aD.out _)
       ·have m1:f≤rg:=by omega
        have al:Hid (¬(r<g∧∀x∈a,x.cT<f∧x.place<d1+d3)):=fun c=>aE (by have:=(c.2 _ H.out).1;rw[t.out.1]at this;exact this);clear E t H;go_wp2;go_quiet(fail);go_wp2;exact v.out false _ ⟨fun o=>(by cases o),fun c=>absurd (X.out c.2) al.out⟩ (aD.out _)
      ·obtain rfl:j=a.length:=by omega
       have aS:Hid (∀b,b<k+1→aU h b<g∧∀x∈aq h b,x.cT<f∧x.place<d1+d3):=aA.out ⟨hs,fun x aT=>by obtain⟨l,ak,rfl⟩:=List.getElem_of_mem aT;have:=E.out l ak;simpa[bP,aG,List.getD,ak]using this⟩;clear T E aA X;go_wp2;go_roundw;case rel=>exact⟨k+1,by omega,by go_num,s,aS⟩
       case measure=>simp[intOf];omega
    ·have aB:(g:Int)≤r:=by omega
     go_wp2;go_quiet(fail);go_wp2;exact v.out false _ ⟨fun o=>(by cases o),fun c=>by have:=(X.out c.2).1;omega⟩ (az.out _)
   ·obtain rfl:k=h.length:=by omega
    have am:=D (v.out true _ ⟨fun _=>⟨aI.out,S.out⟩,fun _=>rfl⟩ C);clear R S B C;go_wp2;exact am.out
 ·have o:((h.length:Int)==(p:Int))=false:=by simp;omega
  have am:=D (v.out false _ ⟨fun o=>(by cases o),fun c=>absurd c.1 A⟩ u);clear R ad ae au u v A;go_enter Tryz.func122,Tryz.ntmps122;go_wp2;rw[←af.out];exact am.out
theorem xa(c d1 d2 d3:Int)(J ho:Option Addr)(K M X hc:Nat)(h:List aL)(ai:0<h.length)(w:W)(aj:cj w (L ho X hc) h)(ab:Ending→W→Prop)(O:∀ac w',(ac=true↔aU h 0=0∧∀x∈aq h 0,x.place<d1∧(x.cT=x.place∨(c≤x.cT∧c≤x.place)))→G w.heap.size w w'→ab (Xq (Bq ac)) w'):Calls Tryz.prog 123 #[Aq #[N Z c,N Z d1,N Z d2,N Z d3,L J K M],Aq #[L ho X hc]] w ab:=by
 obtain⟨aw,ax,P,ay,ad⟩:=aj;simp only[Value.slice.injEq]at P;obtain⟨rfl,rfl,rfl⟩:=P;obtain⟨ak,al,sv,rfl,s,g1,g2⟩:=ad 0 ai;obtain⟨az,aA,ae,am,C⟩:=id g2;obtain⟨a,af⟩:∃a,a=aq h 0:=⟨_,rfl⟩;rw[←af]at ae C am O;subst ae;simp only[Nat.zero_mul,Nat.add_zero]at s g1;obtain⟨t,f⟩:∃t,t=(w.alloc (Y #[N Z c,N Z d1,N Z d2,N Z d3,L J K M] 25)).alloc (Y #[L (y ⟨ak,al,z⟩) h.length hc] 30):=⟨_,rfl⟩;have Q:Row t w.heap.size 25 [N Z c,N Z d1,N Z d2,N Z d3,L J K M]:=by subst f;exact Row.alloc (heap_alloc_new w _) _
 have u:G w.heap.size w t:=by subst f;exact((Below.refl w.heap.size w).alloc (Rq _) _).alloc (by simp) _
 have R:=aa u s;have ag:=aa u g1;rw[f]at R ag;have aB:(0:Int)<(h.length:Int):=by omega
 have S:=D f;have o:=D O;clear O ad s g1 g2 af f;by_cases hz:aU h 0=0
 ·have an:=D hz;rw[hz]at R;clear hz;go_enter Tryz.func123,Tryz.ntmps123;go_wp2;rw[←S.out];clear S R ag;go_loopw[6](fun i wr=>∃(k:Nat),k≤a.length∧i=N Z k∧G t.heap.size t wr∧Hid (∀j,j<k→aG a j<d1∧(bP a j=aG a j∨(c≤bP a j∧c≤aG a j))))(fun i _=>a.length-(intOf i).toNat);case atStart=>exact⟨0,Nat.zero_le _,rfl,Below.refl _ _,fun j E=>by omega⟩
  case round=>
   obtain⟨k,aC,rfl,v,p⟩:=hrel;have A:G w.heap.size w wr:=u.trans (v.mono u.size);by_cases ah:k<a.length
   ·obtain⟨b,aD,rfl,s,g1⟩:=C k ah;have aE:=aa A s;have aF:=aa A g1;have P:=aa v (Q.cell (i:=0) rfl);have e1:=aa v (Q.cell (i:=1) rfl);have aH:(0:Int)≤(k:Int):=by omega
    have aI:(k:Int)<(a.length:Int):=by omega
    have H:=D (fun n=>below_drewN v n);have B:=D (fun n=>below_drewN A n);have q:=D (cm (d:=pz) ah);have g:Hid ((a.getD k pz).cT=bP a k∧(a.getD k pz).place=aG a k):=⟨rfl,rfl⟩;clear s g1 C v A;generalize bP a k=rg at*;generalize aG a k=m at*;by_cases aJ:m<d1
    ·have ao:decide (d1≤m)=false:=by simp;omega
     by_cases I:rg=m
     ·have l:(rg !=m)=false:=by simp[I]
      have aK:=D I;have F:Hid (∀j,j<k+1→aG a j<d1∧(bP a j=aG a j∨(c≤bP a j∧c≤aG a j))):=fun j E=>by
       by_cases e:j=k;·rw[e];have T:bP a k=rg:=g.out.1;have U:aG a k=m:=g.out.2;rw[T,U];exact⟨by omega,by omega⟩
       ·exact p.out j (by omega)
      clear p g q I;go_wp2;go_quiet(fail);go_wp2;go_quiet(fail);go_wp2;go_roundw;case rel=>first|exact⟨k+1,by omega,by go_num,H.out _,F⟩|exact⟨k+1,by omega,by go_num,below_drewN (H.out _) _,F⟩
      case measure=>simp[intOf];omega
     ·have l:(rg !=m)=true:=by simp[I]
      by_cases aM:rg<c
      ·have ap:decide (rg<c)=true:=by simp;omega
       have r:Hid (¬((a.getD k pz).place<d1∧((a.getD k pz).cT=(a.getD k pz).place∨(c≤(a.getD k pz).cT∧c≤(a.getD k pz).place)))):=fun f=>by rw[g.out.1,g.out.2]at f;omega
       clear p g;go_wp2;go_quiet(fail);go_wp2;(try(go_quiet(fail);go_wp2));first|exact o.out false _ ⟨fun l=>(by cases l),fun f=>absurd (f.2 _ q.out) r.out⟩ (B.out _)|exact o.out false _ ⟨fun l=>(by cases l),fun f=>absurd (f.2 _ q.out) r.out⟩ (below_drewN (B.out _) _)
      ·have ap:decide (rg<c)=false:=by simp;omega
       by_cases aN:m<c
       ·have ar:decide (m<c)=true:=by simp;omega
        have r:Hid (¬((a.getD k pz).place<d1∧((a.getD k pz).cT=(a.getD k pz).place∨(c≤(a.getD k pz).cT∧c≤(a.getD k pz).place)))):=fun f=>by rw[g.out.1,g.out.2]at f;omega
        clear p g;go_wp2;go_quiet(fail);go_wp2;(try(go_quiet(fail);go_wp2));first|exact o.out false _ ⟨fun l=>(by cases l),fun f=>absurd (f.2 _ q.out) r.out⟩ (B.out _)|exact o.out false _ ⟨fun l=>(by cases l),fun f=>absurd (f.2 _ q.out) r.out⟩ (below_drewN (B.out _) _)
       ·have ar:decide (m<c)=false:=by simp;omega
        have F:Hid (∀j,j<k+1→aG a j<d1∧(bP a j=aG a j∨(c≤bP a j∧c≤aG a j))):=fun j E=>by
         by_cases e:j=k;·rw[e];have T:bP a k=rg:=g.out.1;have U:aG a k=m:=g.out.2;rw[T,U];exact⟨by omega,by omega⟩
         ·exact p.out j (by omega)
        clear p g q;go_wp2;go_quiet(fail);go_wp2;go_quiet(fail);go_wp2;go_roundw;case rel=>first|exact⟨k+1,by omega,by go_num,H.out _,F⟩|exact⟨k+1,by omega,by go_num,below_drewN (H.out _) _,F⟩
        case measure=>simp[intOf];omega
    ·have ao:decide (d1≤m)=true:=by simp;omega
     have r:Hid (¬((a.getD k pz).place<d1∧((a.getD k pz).cT=(a.getD k pz).place∨(c≤(a.getD k pz).cT∧c≤(a.getD k pz).place)))):=fun f=>by rw[g.out.1,g.out.2]at f;omega
     clear p g;go_wp2;go_quiet(fail);go_wp2;(try(go_quiet(fail);go_wp2));first|exact o.out false _ ⟨fun l=>(by cases l),fun f=>absurd (f.2 _ q.out) r.out⟩ (B.out _)|exact o.out false _ ⟨fun l=>(by cases l),fun f=>absurd (f.2 _ q.out) r.out⟩ (below_drewN (B.out _) _)
   ·obtain rfl:k=a.length:=by omega
    have au:Hid (∀x∈a,x.place<d1∧(x.cT=x.place∨(c≤x.cT∧c≤x.place))):=fun x av=>by obtain⟨j,E,rfl⟩:=List.getElem_of_mem av;have:=p.out j E;simpa[bP,aG,List.getD,E]using this
    have V:=D (o.out true _ ⟨fun _=>⟨an.out,au.out⟩,fun _=>rfl⟩ A);clear C p v A;go_wp2;exact V.out
 ·have aO:(aU h 0==0)=false:=by simp[hz]
  have V:=D (o.out false _ ⟨fun l=>(by cases l),fun f=>absurd f.1 hz⟩ u);clear C Q o hz u;generalize aU h 0=aP at*;go_enter Tryz.func123,Tryz.ntmps123;go_wp2;rw[←S.out];exact V.out
end Go.Proofs.YtblhmeidbjigaabGreatDoor
