import Derived.Test.YtblhmeidbjigaabGreatDoorT15
import Derived.Test.YtblhmeidbjigaabGreatDoorT16
import Derived.Test.YtblhmeidbjigaabGreatDoorT18
import Derived.Test.YtblhmeidbjigaabGreatDoorT19
set_option linter.unusedSimpArgs false
set_option linter.unusedVariables false
set_option maxRecDepth 100000
set_option maxHeartbeats 8000000
namespace Go.Proofs.YtblhmeidbjigaabGreatDoor
open Go.RowKit
open Go.Value renaming int→N,slice→L,string→Tq,agg→Aq,bool→Bq,tuple→Uq,pointer→Pq
open Go.IntKind renaming i64→Z
open Go.Obj renaming cells→Y
open Go.Ending renaming returned→Xq
open Option renaming none→z,some→y
open Go.Lib renaming hid→D
open Nat renaming le_refl→Rq
open Go renaming World→W,Value→Vq
open Go.RowKit renaming Below→G
noncomputable section
open Classical
def iI(e:fw)(t:TD):fw:=if e.kind=2 then(match t.isNum with|y n=>⟨1,0,if n≠0 then e.x else e.y,0⟩|z=>e)else e
section
variable(p q:a8)(h:List aL)(b:Nat)
def bV:List dr:=aj p.blocks (aU h b).toNat
def fs(i:Int):TD:=aD p.regs 0 (ax p.regs 0) (bV p h b) (bV p h b).length i
def ft(i:Int):TD:=aD q.regs q.slots (aY (aq h b) (q.regs+q.slots).toNat) (aj q.blocks b) (aj q.blocks b).length i
def eu:fw:=iI (b_ p.blocks (aU h b).toNat) (fs p h b (b_ p.blocks (aU h b).toNat).r)
def iw:fw:=iI (b_ q.blocks b) (ft q h b (b_ q.blocks b).r)
def BU(c d:Int):Prop:=aU h d.toNat=c∧∀x∈aq h d.toNat,fs p h b x.cT=ft q h b x.place
structure zp:Prop where
 src:0≤aU h b∧aU h b<p.blocks.length
 br:∀x∈aq h b,0≤x.cT∧x.cT<p.regs∧0≤x.place∧x.place<q.regs+q.slots
 marks:cP p.regs 0 p.data (ax p.regs 0) (bV p h b) (bV p h b).length=cP q.regs q.slots q.data (aY (aq h b) (q.regs+q.slots).toNat) (aj q.blocks b) (aj q.blocks b).length
 cells:fs p h b p.regs=ft q h b (q.regs+q.slots)
 kind:(eu p h b).kind=(iw q h b).kind
 term:((eu p h b).kind=2∨(eu p h b).kind=3)→fs p h b (eu p h b).r=ft q h b (iw q h b).r
 edgeX:(eu p h b).kind≠3→BU p q h b (eu p h b).x (iw q h b).x
 edgeY:(eu p h b).kind=2→BU p q h b (eu p h b).y (iw q h b).y
end
def kQ(p q:a8)(h:List aL):Prop:=h.length=q.blocks.length∧∀b,b<h.length→aU h b<p.blocks.length∧∀x∈aq h b,x.cT<p.regs∧x.place<q.regs+q.slots
def nG(q:a8)(h:List aL):Prop:=aU h 0=0∧∀x∈aq h 0,x.place<q.regs∧(x.cT=x.place∨(q.args≤x.cT∧q.args≤x.place))
section
variable(p q:a8)(h:List aL)(b:Nat)
def nB(l:List bM):Prop:=∀x∈l,fs p h b x.cT=ft q h b x.place
def hH:Int:=if dK p.regs 0 (ax p.regs 0) (bV p h b)=true∨dK q.regs q.slots (aY (aq h b) (q.regs+q.slots).toNat) (aj q.blocks b)=true then 5 else if cP p.regs 0 p.data (ax p.regs 0) (bV p h b) (bV p h b).length≠cP q.regs q.slots q.data (aY (aq h b) (q.regs+q.slots).toNat) (aj q.blocks b) (aj q.blocks b).length then 10 else if fs p h b p.regs≠ft q h b (q.regs+q.slots)then 11 else if(eu p h b).kind≠(iw q h b).kind then 12 else if((eu p h b).kind=2∨(eu p h b).kind=3)∧fs p h b (eu p h b).r≠ft q h b (iw q h b).r then 12 else if(eu p h b).kind=3 then 0 else if aU h (iw q h b).x.toNat≠(eu p h b).x then 13 else if(eu p h b).kind=2∧aU h (iw q h b).y.toNat≠(eu p h b).y then 13 else if¬nB p q h b (aq h (iw q h b).x.toNat)then 14 else if(eu p h b).kind=2∧¬nB p q h b (aq h (iw q h b).y.toNat)then 14 else 0
end
def lK(p q:a8)(h:List aL)(e n:Int):Prop:=(e=9∧n=0∧¬nG q h)∨(nG q h∧((∃b:Nat,b<q.blocks.length∧n=b∧e=hH p q h b∧e≠0∧∀c,c<b→hH p q h c=0)∨(e=0∧n=0∧∀b,b<q.blocks.length→hH p q h b=0)))
def kY(s t g:ByteArray)(e n:Int):Prop:=(e=6∧n=0∧∀p,aB p=true→ay (aK p)=s→p.slots≠0)∨∃p,aB p=true∧ay (aK p)=s∧p.slots=0∧((e=7∧n=0∧∀q,aB q=true→ay (aK q)≠t)∨∃q,aB q=true∧ay (aK q)=t∧((e=8∧n=0∧¬(p.args=q.args∧p.data=q.data))∨((p.args=q.args∧p.data=q.data)∧((e=2∧n=0∧∀h,aO h=true→ay (aQ h)=g→¬kQ p q h)∨∃h,aO h=true∧ay (aQ h)=g∧kQ p q h∧lK p q h e n))))
theorem lK.one{p q:a8}{h:List aL}{e n e' l:Int}(a:lK p q h e n)(b:lK p q h e' l):e=e'∧n=l:=by
 rcases a with⟨rfl,rfl,i⟩|⟨r,i⟩
 ·rcases b with⟨rfl,rfl,_⟩|⟨s,_⟩;·exact⟨rfl,rfl⟩
  ·exact absurd s i
 ·rcases b with⟨_,_,g⟩|⟨_,g⟩;·exact absurd r g
  ·rcases i with⟨x,j,rfl,rfl,m,t⟩|⟨rfl,rfl,j⟩
   ·rcases g with⟨d,f,rfl,rfl,k,o⟩|⟨_,_,f⟩
    ·have:x=d:=by
      rcases Nat.lt_trichotomy x d with c|c|c;·exact absurd (o x c) m
      ·exact c
      ·exact absurd (t d c) k
     subst this;exact⟨rfl,rfl⟩
    ·exact absurd (f x j) m
   ·rcases g with⟨d,f,rfl,rfl,k,o⟩|⟨rfl,rfl,f⟩;·exact absurd (j d f) k
    ·exact⟨rfl,rfl⟩
theorem kY.one{s t g:ByteArray}{e n e' r:Int}(a:kY s t g e n)(b:kY s t g e' r):e=e'∧n=r:=by
 rcases a with⟨rfl,rfl,d⟩|⟨p,f,i,o,d⟩
 ·rcases b with⟨rfl,rfl,_⟩|⟨p,f,i,o,_⟩;·exact⟨rfl,rfl⟩
  ·exact absurd o (d p f i)
 rcases b with⟨_,_,c⟩|⟨u,v,w,J,c⟩;·exact absurd o (c p f i)
 obtain rfl:p=u:=iL f v (i.trans w.symm);rcases d with⟨rfl,rfl,d⟩|⟨q,j,k,d⟩
 ·rcases c with⟨rfl,rfl,_⟩|⟨q,j,k,_⟩;·exact⟨rfl,rfl⟩
  ·exact absurd k (d q j)
 rcases c with⟨_,_,c⟩|⟨x,A,B,c⟩;·exact absurd k (c q j)
 obtain rfl:q=x:=iL j A (k.trans B.symm);rcases d with⟨rfl,rfl,d⟩|⟨C,d⟩
 ·rcases c with⟨rfl,rfl,_⟩|⟨E,_⟩;·exact⟨rfl,rfl⟩
  ·exact absurd E d
 rcases c with⟨_,_,c⟩|⟨_,c⟩;·exact absurd C c
 rcases d with⟨rfl,rfl,d⟩|⟨h,l,m,hs,d⟩
 ·rcases c with⟨rfl,rfl,_⟩|⟨h,l,m,hs,_⟩;·exact⟨rfl,rfl⟩
  ·exact absurd hs (d h l m)
 rcases c with⟨_,_,c⟩|⟨F,H,I,K,c⟩;·exact absurd hs (c h l m)
 obtain rfl:h=F:=nh l H (m.trans I.symm);exact d.one c
theorem sD{l:List bM}{b:Int}(h:fP b l=true):∀x∈l,0≤x.cT∧0≤x.place:=by
 induction l generalizing b with
  |nil=>intro x a;cases a
  |cons d l c=>
   simp only[fP,Bool.and_eq_true,below,decide_eq_true_eq]at h;intro x a;rcases List.mem_cons.1 a with rfl|a;·omega
   ·exact c h.2 x a
theorem fE{h:List aL}(g:aO h=true){b:Nat}(a:b<h.length):0≤aU h b∧∀x∈aq h b,0≤x.cT∧0≤x.place:=by
 simp only[aO,j6,Bool.and_eq_true,decide_eq_true_eq,List.all_eq_true]at g;have c:h.getD b hz∈h:=by simp[List.getD,a]
 have:=g.2 _ c;simp only[cX,Bool.and_eq_true,below,decide_eq_true_eq]at this;exact⟨this.1.1.1,sD this.2⟩
theorem xP{p q:a8}{h:List aL}(s:aO h=true)(hs:kQ p q h){b:Nat}(t:b<q.blocks.length)(e:hH p q h b=0):zp p q h b:=by
 have m:b<h.length:=by rw[hs.1];exact t
 obtain⟨n,o⟩:=hs.2 b m;obtain⟨g1,g2⟩:=fE s m;unfold hH at e;split at e;·omega
 split at e;·omega
 rename_i f;split at e;·omega
 rename_i hc;split at e;·omega
 rename_i g;split at e;·omega
 rename_i i;have f:=Decidable.not_not.1 f;have hc:=Decidable.not_not.1 hc;have g:=Decidable.not_not.1 g;have i:((eu p h b).kind=2∨(eu p h b).kind=3)→fs p h b (eu p h b).r=ft q h b (iw q h b).r:=fun a=>Decidable.not_not.1 fun c=>i ⟨a,c⟩;have r:∀x∈aq h b,0≤x.cT∧x.cT<p.regs∧0≤x.place∧x.place<q.regs+q.slots:=fun x j=>⟨(g2 x j).1,(o x j).1,(g2 x j).2,(o x j).2⟩;split at e;·rename_i u;exact⟨⟨g1,n⟩,r,f,hc,g,i,fun c=>absurd u c,fun c=>by omega⟩
 split at e;·omega
 rename_i k;split at e;·omega
 rename_i v;split at e;·omega
 rename_i l;split at e;·omega
 rename_i w;have k:=Decidable.not_not.1 k;have l:=Decidable.not_not.1 l;exact⟨⟨g1,n⟩,r,f,hc,g,i,fun _=>⟨k,l⟩,fun c=>⟨Decidable.not_not.1 fun d=>v ⟨c,d⟩,Decidable.not_not.1 fun d=>w ⟨c,d⟩⟩⟩
theorem kY.ok{s t g:ByteArray}{n:Int}(a:kY s t g 0 n):∃p q h,aB p=true∧ay (aK p)=s∧aB q=true∧ay (aK q)=t∧aO h=true∧ay (aQ h)=g∧p.slots=0∧p.args=q.args∧p.data=q.data∧(∀b,b<q.blocks.length→zp p q h b)∧aU h 0=0∧(∀x∈aq h 0,x.place<q.regs∧(x.cT=x.place∨(p.args≤x.cT∧p.args≤x.place))):=by
 rcases a with⟨c,_⟩|⟨p,j,k,l,a⟩;·omega
 rcases a with⟨c,_⟩|⟨q,m,o,a⟩;·omega
 rcases a with⟨c,_⟩|⟨⟨e1,e2⟩,a⟩;·omega
 rcases a with⟨c,_⟩|⟨h,e,r,hs,a⟩;·omega
 rcases a with⟨c,_⟩|⟨f,a⟩;·omega
 rcases a with⟨b,_,_,c,d,_⟩|⟨_,_,a⟩;·omega
 exact⟨p,q,h,j,k,m,o,e,r,l,e1,e2,fun b i=>xP e hs i (a b i),f.1,by rw[e1];exact f.2⟩
def fD(regs slots:Int)(was:Int→TD)(o:dr):TD:=if o.kind=1 then bk (256*o.b+o.c-32768)else if o.kind=2∨o.kind=14 then was o.b else if o.kind=15 then was (regs+o.b)else if o.kind=12 then aS (was (regs+slots)) (was o.b)else if o.kind=13 then bS (was (regs+slots)) (was o.a) (was o.b)else aX o.kind (was o.b) (was o.c)
def stepT(regs slots:Int)(was:Int→TD)(o:dr):Int→TD:=fun place=>if aZ regs slots o≠place then was place else fD regs slots was o
def m_(regs slots:Int):List dr→(Int→TD)→(Int→TD)|[],was=>was|o::l,was=>m_ regs slots l (stepT regs slots was o)
def mB(was:Int→TD)(o:dr):Option MD:=if o.kind=11 then y (.div (was o.b) (was o.c))else if o.kind=12 then y (.cell (was o.b))else if o.kind=13 then y (.cell (was o.a))else z
def Ev(data:Int)(l:List MD):Option MD→List MD|y a=>if uT data a=true∨a∈l then l else l++[a]|z=>l
theorem uR(regs slots:Int)(l a:List dr)(was:Int→TD):m_ regs slots (l++a) was=m_ regs slots a (m_ regs slots l was):=by induction l generalizing was with|nil=>rfl|cons o l b=>exact b _
theorem jG(regs slots:Int)(names:List Int)(ops:List dr)(k:Nat):aD regs slots names ops (k+1)=stepT regs slots (aD regs slots names ops k) (ops.getD k oz):=by funext place;simp only[aD,stepT,fD]
theorem mM{ops:List dr}{k:Nat}(h:k<ops.length):ops.take (k+1)=ops.take k++[ops.getD k oz]:=by rw[List.take_add_one,List.getElem?_eq_getElem h];simp[List.getD,h]
theorem oD(regs slots:Int)(names:List Int)(ops:List dr):∀k,k≤ops.length→aD regs slots names ops k=m_ regs slots (ops.take k) (cW names):=by intro k;induction k with|zero=>intro _;funext p;simp[aD,m_]|succ k a=>intro b;rw[jG,a (by omega),mM (by omega),uR];rfl
def vH(regs slots:Int)(was:Int→TD)(o:dr):Bool:=decide (3≤o.kind∧o.kind≤13∧4095<(fD regs slots was o).size)
def kj(regs slots:Int):List dr→(Int→TD)→Bool|[],_=>false|o::l,was=>vH regs slots was o||kj regs slots l (stepT regs slots was o)
theorem k8(regs slots:Int)(l a:List dr)(was:Int→TD):kj regs slots (l++a) was=(kj regs slots l was||kj regs slots a (m_ regs slots l was)):=by induction l generalizing was with|nil=>simp[kj,m_]|cons o l b=>simp only[List.cons_append,kj,m_,b,Bool.or_assoc]
theorem xw(regs slots:Int)(was:Int→TD)(o:dr):stepT regs slots was o (aZ regs slots o)=fD regs slots was o:=by unfold stepT;simp
theorem BA(regs slots:Int)(names:List Int)(ops:List dr):∀k,k≤ops.length→((List.range k).any fun k=>decide (3≤cD ops k∧cD ops k≤13∧4095<(aD regs slots names ops (k+1) (aZ regs slots (ops.getD k oz))).size))=kj regs slots (ops.take k) (cW names):=by intro k;induction k with|zero=>intro _;simp[kj]|succ k a=>intro b;rw[List.range_succ,List.any_append,a (by omega),mM (by omega),k8,←oD _ _ _ _ _ (by omega)];simp only[List.any_cons,List.any_nil,Bool.or_false,kj];rw[jG,xw];rfl
theorem CP(regs slots:Int)(names:List Int)(ops:List dr):dK regs slots names ops=kj regs slots ops (cW names):=by have:=BA regs slots names ops ops.length (Rq _);rw[List.take_length]at this;exact this
theorem fK.one{s:ByteArray}{h place:Int}{t i:List UInt8}{e e':Int}(a:fK s h place t e)(b:fK s h place i e'):t=i∧e=e':=by
 rcases a with⟨rfl,rfl,d⟩|⟨p,f,g,d⟩
 ·rcases b with⟨rfl,rfl,_⟩|⟨p,f,g,_⟩;·exact⟨rfl,rfl⟩
  ·exact absurd g (d p f)
 rcases b with⟨_,_,c⟩|⟨j,k,l,c⟩;·exact absurd g (c p f)
 obtain rfl:p=j:=iL f k (g.trans l.symm);rcases d with⟨rfl,rfl,d⟩|⟨m,d⟩
 ·rcases c with⟨rfl,rfl,_⟩|⟨n,_⟩;·exact⟨rfl,rfl⟩
  ·exact absurd n d
 rcases c with⟨_,_,c⟩|⟨_,c⟩;·exact absurd m c
 rcases d with⟨rfl,rfl,d⟩|⟨rfl,d,rfl⟩
 ·rcases c with⟨rfl,rfl,_⟩|⟨_,c,_⟩;·exact⟨rfl,rfl⟩
  ·rw[d]at c;cases c
 ·rcases c with⟨_,_,c⟩|⟨rfl,_,rfl⟩;·rw[d]at c;cases c
  ·exact⟨rfl,rfl⟩
def eV(s:ByteArray)(a:Int)(l:List (List UInt8))(e:Int):Prop:=(e=1∧l=[]∧∀p,aB p=true→ay (aK p)≠s)∨∃p,aB p=true∧ay (aK p)=s∧((e=4∧l=[]∧¬(0≤a∧a<p.blocks.length))∨((0≤a∧a<p.blocks.length)∧((e=5∧l=[]∧dK p.regs p.slots (ax p.regs p.slots) (aj p.blocks a.toNat)=true)∨(e=0∧dK p.regs p.slots (ax p.regs p.slots) (aj p.blocks a.toNat)=false∧l=bG p.regs p.slots p.data (ax p.regs p.slots) (aj p.blocks a.toNat) (aj p.blocks a.toNat).length))))
theorem eV.one{s:ByteArray}{h:Int}{l i:List (List UInt8)}{e e':Int}(a:eV s h l e)(b:eV s h i e'):l=i∧e=e':=by
 rcases a with⟨rfl,rfl,d⟩|⟨p,f,g,d⟩
 ·rcases b with⟨rfl,rfl,_⟩|⟨p,f,g,_⟩;·exact⟨rfl,rfl⟩
  ·exact absurd g (d p f)
 rcases b with⟨_,_,c⟩|⟨j,k,m,c⟩;·exact absurd g (c p f)
 obtain rfl:p=j:=iL f k (g.trans m.symm);rcases d with⟨rfl,rfl,d⟩|⟨n,d⟩
 ·rcases c with⟨rfl,rfl,_⟩|⟨o,_⟩;·exact⟨rfl,rfl⟩
  ·exact absurd o d
 rcases c with⟨_,_,c⟩|⟨_,c⟩;·exact absurd n c
 rcases d with⟨rfl,rfl,d⟩|⟨rfl,d,rfl⟩
 ·rcases c with⟨rfl,rfl,_⟩|⟨_,c,_⟩;·exact⟨rfl,rfl⟩
  ·rw[d]at c;cases c
 ·rcases c with⟨_,_,c⟩|⟨rfl,_,rfl⟩;·rw[d]at c;cases c
  ·exact⟨rfl,rfl⟩
end
def dq(l:List (List UInt8)):List Vq:=l.map fun x=>Tq (ay x)
theorem fh(l:List (List UInt8)):(dq l).length=l.length:=by simp[dq]
theorem r9(l:List (List UInt8))(s:List UInt8):dq (l++[s])=dq l++[Tq (ay s)]:=by simp[dq]
theorem Tryz.uV:(Tryz.prog.info? 9).map (fun i=>(i.zero,i.size,i.bytes))=y (y (Tq ⟨#[]⟩),1,16):=by kernel_rfl
def cZ(w:W)(v:Vq)(l:List (List UInt8)):Prop:=∃a cap,v=L a l.length cap∧l.length≤9223372036854775807∧∀i,i<l.length→∃b c,a=y ⟨b,c,z⟩∧w.cell? ⟨b,c+i,z⟩=y (Tq (ay (l.getD i [])))
theorem cZ.ab{w w':W}{v:Vq}{l:List (List UInt8)}(h:cZ w v l)(a:G w.heap.size w w'):cZ w' v l:=by obtain⟨c,cap,rfl,d,hc⟩:=h;exact⟨c,cap,rfl,d,fun i f=>let⟨b,g,e,j⟩:=hc i f;⟨b,g,e,aa a j⟩⟩
theorem gg{w:W}{B:Nat}{v:Vq}{l:List (List UInt8)}(h:w.ownsRow B 9 1 v l.length (dq l)):cZ w v l:=by obtain⟨c,cap,rfl⟩:=af h;refine⟨c,cap,rfl,iZ h,fun i a=>?_⟩;obtain⟨b,rfl,_,d,hc⟩:=cg h rfl (i:=i) (by rw[fh];exact a);refine⟨b,0,rfl,?_⟩;rw[Nat.zero_add,hc];simp[dq,List.getD,a]
theorem vu(x a:List UInt8):((ay x).toList==(ay a).toList)=true↔x=a:=by simp[ay]
theorem vv{x a:List UInt8}(h:x≠a):((ay x).toList==(ay a).toList)=false:=by simp[ay,h]
theorem Di(v:Vq)(l:List (List UInt8))(s:List UInt8)(w:W)(h:cZ w v l):Calls Tryz.prog 154 #[v,Tq (ay s)] w fun e w'=>e=Xq (Bq (decide (s∈l)))∧w=w':=by
 obtain⟨p,cap,rfl,q,hc⟩:=h;go_enter Tryz.func154,Tryz.ntmps154;go_wp2;go_loopw[5](fun i wr=>wr=w∧∃(k:Nat),k≤l.length∧i=N Z k∧Hid (∀j,j<k→l.getD j []≠s))(fun i _=>l.length-(intOf i).toNat);case atStart=>exact⟨rfl,0,Nat.zero_le _,rfl,fun j d=>by omega⟩
 case round=>
  obtain⟨rfl,k,r,rfl,c⟩:=hrel;by_cases g:k<l.length
  ·obtain⟨b,t,rfl,u⟩:=hc k g;have A:(0:Int)≤(k:Int):=by omega
   have B:(k:Int)<(l.length:Int):=by omega
   by_cases a:l.getD k []=s
   ·have m:=(vu (l.getD k []) s).2 a;have f:Hid (decide (s∈l)=true):=by show _=_;rw[decide_eq_true_eq,←a];exact cm g
    have C:=D a;clear c a;generalize l.getD k []=x at*;go_wp2;(try simp only[Exit.inBlock,Exit.then]);refine bodyPost_ret (v:=Bq true) ?_ rfl ?_;·simp[results,Tryz.results154,go_sem]
    ·exact⟨by rw[f.out],rfl⟩
   ·have m:=vv a;have n:Hid (∀j,j<k+1→l.getD j []≠s):=fun j d=>by
     by_cases e:j=k;·subst e;exact a
     ·exact c.out j (by omega)
    clear c a;generalize l.getD k []=x at*;go_wp2;go_roundw;case rel=>exact⟨by first|rfl|trivial,k+1,by omega,by go_num,n⟩
    case measure=>simp[intOf];omega
  ·obtain rfl:k=l.length:=by omega
   have f:Hid (decide (s∈l)=false):=by show _=_;rw[decide_eq_false_iff_not];intro o;obtain⟨j,d,e⟩:=List.getElem_of_mem o;exact c.out j d (by simp[List.getD,d,e])
   clear c hc;go_wp2;go_ret;exact⟨by rw[f.out];rfl,rfl⟩
theorem CE(w:W)(x:Vq)(t:TypeId):∀j u,[x][j]?=y u→(w.alloc (Y #[x] t)).cell? ((⟨w.heap.size,0,z⟩:Addr).add j)=y u:=by intro j u a;match j,a with|0,a=>simp at a;subst a;simp[Addr.add]
theorem CF(x:ByteArray):∀u∈[Value.string x],u.oneCell'=true:=by intro u a;simp at a;subst a;rfl
theorem jR(regs slots data:Int)(names:List Int)(ops:List dr):∀k,(bG regs slots data names ops k).length≤k
 |0=>by simp[bG]
 |k+1=>by
  have:=jR regs slots data names ops k;simp only[bG];split;·simp;omega
  ·omega
theorem yl{regs slots data:Int}{names:List Int}{ops:List dr}{k:Nat}(h:hO regs slots data names ops k≠[]∧hO regs slots data names ops k∉bG regs slots data names ops k):bG regs slots data names ops (k+1)=bG regs slots data names ops k++[hO regs slots data names ops k]:=by simp only[bG];rw[if_pos h]
theorem ym{regs slots data:Int}{names:List Int}{ops:List dr}{k:Nat}(h:¬(hO regs slots data names ops k≠[]∧hO regs slots data names ops k∉bG regs slots data names ops k)):bG regs slots data names ops (k+1)=bG regs slots data names ops k:=by simp only[bG];rw[if_neg h]
theorem oX(p:a8)(f d:Vq)(b:Nat)(names:List Int)(C:aB p=true)(P:b<p.blocks.length)(ai:∀x∈names,x≤1000)(w:W)(Q:gj w p f d names)(T:Ending→W→Prop)(U:∀v w',w'.ownsRow w.heap.size 9 1 v (bG p.regs p.slots p.data names (aj p.blocks b) (aj p.blocks b).length).length (dq (bG p.regs p.slots p.data names (aj p.blocks b) (aj p.blocks b).length))→G w.heap.size w w'→T (Xq v) w'):Calls Tryz.prog 120 #[ca p f b d] w T:=by
 obtain⟨ak,al,am,an,ao⟩:=info_parts Tryz.uV;obtain⟨aR,aS⟩:=de C P;have V:G w.heap.size w (w.alloc (Y #[N Z p.args,N Z p.regs,N Z p.data,N Z p.slots,f,N Z b,d] 164)):=(Below.refl _ _).alloc (Rq _) _;have a:Row (w.alloc (Y #[N Z p.args,N Z p.regs,N Z p.data,N Z p.slots,f,N Z b,d] 164)) w.heap.size 164 (nJ p f b d):=heap_alloc_new w _;have X:w.heap.size+1≤(w.alloc (Y #[N Z p.args,N Z p.regs,N Z p.data,N Z p.slots,f,N Z b,d] 164)).heap.size:=by simp
 have ab:=fun k ac ap aq=>AU p f d b names C P ai k ac ap aq;obtain⟨aT,cap,rfl,aU,hc⟩:=id Q.blocks;obtain⟨ar,au,sv,rfl,av,_,_,_,_,aw⟩:=hc b P;obtain⟨aW,aX,rfl,aY,ax⟩:=aw;have aZ:(0:Int)≤(b:Int):=by omega
 have a0:(b:Int)<(p.blocks.length:Int):=by omega
 have az:=D Q;have ad:=D a;have ae:=D V;have ag:=D U;have aA:=fun k=>jR p.regs p.slots p.data names (aj p.blocks b) k;unfold ca at ab⊢;clear a Q hc V U ax;go_enter Tryz.func120,Tryz.ntmps120;go_wp2;go_loopw[3,4](fun l i wr=>∃(k:Nat),k≤(aj p.blocks b).length∧i=N Z k∧wr.ownsRow (w.heap.size+1) 9 1 l (bG p.regs p.slots p.data names (aj p.blocks b) k).length (dq (bG p.regs p.slots p.data names (aj p.blocks b) k))∧Row wr w.heap.size 164 (nJ p (L (y ⟨ar,au,z⟩) p.blocks.length cap) b d)∧G w.heap.size w wr∧w.heap.size+1≤wr.heap.size)(fun _ i _=>(aj p.blocks b).length-(intOf i).toNat);case atStart=>exact⟨0,Nat.zero_le _,rfl,World.ownsRow_nil _ _ _ _,ad.out,ae.out,X⟩
 case round=>
  clear ad ae X;obtain⟨k,ac,rfl,n,a,j,hz⟩:=hrel;obtain⟨a1,a2,rfl⟩:=af n;have aC:=aa j av;have aD:=a.cell (i:=0) rfl;have aE:=a.cell (i:=1) rfl;have aF:=a.cell (i:=2) rfl;have aG:=a.cell (i:=3) rfl;have aH:=a.cell (i:=4) rfl;have aI:=a.cell (i:=5) rfl;have aJ:=a.cell (i:=6) rfl;have aK:=aA k;by_cases aL:k<(aj p.blocks b).length
  ·have R:=ab k aL wr (az.out.ab j);have a3:(k:Int)<((aj p.blocks b).length:Int):=by omega
   obtain⟨M,E⟩:∃M,hO p.regs p.slots p.data names (aj p.blocks b) k=M:=⟨_,rfl⟩;obtain⟨c,s⟩:∃c,bG p.regs p.slots p.data names (aj p.blocks b) k=c:=⟨_,rfl⟩;have F:Hid (M≠[]∧M∉c→bG p.regs p.slots p.data names (aj p.blocks b) (k+1)=c++[M]):=fun h=>by rw[←E,←s]at h⊢;exact yl h
   have t:Hid (¬(M≠[]∧M∉c)→bG p.regs p.slots p.data names (aj p.blocks b) (k+1)=c):=fun h=>by rw[←E,←s]at h;rw[←s];exact ym h
   rw[E]at R;rw[s]at n aK⊢;clear E s;go_wp2_with fail;refine R.mono ?_;rintro e u⟨rfl,b2⟩;have o:=aV n b2 (Rq _);have H:=a.ab b2;have I:=j.trans (b2.mono j.size);have J:w.heap.size+1≤u.heap.size:=Nat.le_trans hz b2.size;have K:=Di _ c M u (gg o);clear R n a j hz b2 aD aE aF aG aH aI aJ aC;go_wp2_with fail;refine K.mono ?_;rintro e a4⟨rfl,rfl⟩;by_cases m:M=[]
   ·subst m;have A:=D (t.out (by simp));have a5:(ay []).toList=[]:=by simp[ay]
    clear K F t;generalize decide ([]∈c)=a6 at*;go_wp2;go_roundw;case rel=>exact⟨k+1,by omega,by go_num,by rw[A.out];exact o,H,I,J⟩
    case measure=>simp[intOf];omega
   ·have a7:(ay M).toList≠[]:=by simp[ay,m]
    have a9:((ay M).toList==[])=false:=by simp[ay,m]
    have ba:(ay M).toList.isEmpty=false:=by simp[ay,m]
    by_cases r:M∈c
    ·have B:decide (M∈c)=true:=by simp[r]
     rw[B];have A:=D (t.out (fun q=>q.2 r));clear K F t B r m;go_wp2;go_roundw;case rel=>exact⟨k+1,by omega,by go_num,by rw[A.out];exact o,H,I,J⟩
     case measure=>simp[intOf];omega
    ·have B:decide (M∈c)=false:=by simp[r]
     rw[B];have A:=D (F.out ⟨m,r⟩);clear K F t B r m;go_wp2_with(at_builtin;refine wpList_append_own _ rfl _ _ 105 rfl (w.heap.size+1) 9 ak (Tq ⟨#[]⟩) 1 16 Tryz.underlying105 al am an ao rfl (by decide) _ _ _ rfl (o.alloc _) ⟨u.heap.size,0,z⟩ 1 1 [Tq (ay M)] rfl rfl ?c1 (CF _) ?c3 ?c4 ?c5 ?_);case c1=>exact CE u _ _
     case c3=>unfold maxLen;omega
     case c4=>omega
     case c5=>simp;omega
     intro bb aM S ah _;rw[←r9]at S;have O:=((Below.refl (w.heap.size+1) u).alloc J (Y #[Tq (ay M)] 9)).grown ah (by simp;omega) (fun g C=>(o.lt g C).1);have aN:=H.below O (by omega);have aO:=I.trans (O.mono (by omega));have aP:w.heap.size+1≤aM.heap.size:=Nat.le_trans J O.size;obtain⟨bc,bd,rfl⟩:=af S;clear ah o H I O;go_wp2;go_roundw;case rel=>exact⟨k+1,by omega,by go_num,by rw[A.out];simpa using S,aN,aO,aP⟩
     case measure=>simp[intOf];omega
  ·obtain rfl:k=(aj p.blocks b).length:=by omega
   have aQ:=D (ag.out _ _ (a_ n (by omega)) j);clear ag n j a;go_wp2;exact aQ.out
theorem yO(s:ByteArray)(h:Int)(w:W)(hs:s.size≤maxLen)(aq:TabW w)(H:Ending→W→Prop)(I:∀l j v w',eV s h l j→w'.ownsRow w.heap.size 9 1 v l.length (dq l)→G w.heap.size w w'→H (Xq (Uq #[v,N Z j])) w'):Calls Tryz.prog 89 #[Tq s,N Z h] w H:=by
 have hc:=fJ s w hs;have q:=D I;have k:Hid (∀j w',eV s h [] j→G w.heap.size w w'→H (Xq (Uq #[L z 0 0,N Z j])) w'):=fun j w' ar au=>I [] j _ w' ar (World.ownsRow_nil _ _ _ _) au;clear I;go_enter Tryz.func89,Tryz.ntmps89;go_wp2_with fail;refine hc.mono ?_;clear hc;rintro e w1⟨av,m⟩;rcases av with⟨p,v,aw,rfl,ho,x,n,J⟩|⟨ac,rfl⟩
 ·obtain⟨a,c,rfl⟩:=af ho.row;have K:aw.length=p.blocks.length:=by rw[←x,bD]
  have r:=ho.rd;rw[x]at r;rw[K]at r⊢;obtain⟨ay,aE,aF,az⟩:=bF n;have t:G w.heap.size w (w1.alloc (Y #[N Z p.args,N Z p.regs,N Z p.data,N Z p.slots,L a p.blocks.length c] 25)):=m.alloc m.size _;have M:G w1.heap.size w1 (w1.alloc (Y #[N Z p.args,N Z p.regs,N Z p.data,N Z p.slots,L a p.blocks.length c] 25)):=(Below.refl _ _).alloc (Rq _) _;have O:=r.ab M;have aG:=dw n;unfold dy;by_cases A:0≤h∧h<p.blocks.length
  ·obtain⟨ad,aA⟩:=id A;obtain⟨b,rfl⟩:=Int.eq_ofNat_of_zero_le ad;have ae:b<p.blocks.length:=by omega
   have aH:¬((b:Int)<0):=by omega
   have ag:=D A;clear A ho x r m M K;have Q:=fun P=>mH p a p.blocks.length c b (w1.alloc (Y #[N Z p.args,N Z p.regs,N Z p.data,N Z p.slots,L a p.blocks.length c] 25)) ⟨by omega,ay.2⟩ az P;unfold dy ca at Q;go_wp2_with fail;refine Q _ ?_;intro o d ah R;have B:G w.heap.size w d:=t.trans (R.mono t.size);have ai:=O.ab R;have ak:=aq.ab B;have S:=zP ah;clear ah t O Q R;have T:G w.heap.size w (d.alloc (Y #[N Z p.args,N Z p.regs,N Z p.data,N Z p.slots,L a p.blocks.length c,N Z b,o] 164)):=B.alloc B.size _;have C:G d.heap.size d (d.alloc (Y #[N Z p.args,N Z p.regs,N Z p.data,N Z p.slots,L a p.blocks.length c,N Z b,o] 164)):=(Below.refl _ _).alloc (Rq _) _;have al:Row (d.alloc (Y #[N Z p.args,N Z p.regs,N Z p.data,N Z p.slots,L a p.blocks.length c,N Z b,o] 164)) d.heap.size 164 (nJ p (L a p.blocks.length c) b o):=heap_alloc_new d _;have U:gj (d.alloc (Y #[N Z p.args,N Z p.regs,N Z p.data,N Z p.slots,L a p.blocks.length c,N Z b,o] 164)) p (L a p.blocks.length c) o (ax p.regs p.slots):=⟨ai.ab C,S.ab C,ak.ab C⟩;have am:=ry p.regs p.slots (by omega);have V:=nC p (L a p.blocks.length c) o b _ n ae am _ U;obtain⟨aB,aC,rfl,_,_⟩:=id S;unfold ca at V;clear ai ak S B C;go_wp2_with fail;refine V.mono ?_;rintro e X⟨rfl,E⟩;have aa:=U.ab E;have f:=al.ab E;have u:G w.heap.size w X:=T.trans (E.mono T.size);clear V U al T E;cases F:dK p.regs p.slots (ax p.regs p.slots) (aj p.blocks b)with|true=>have g:=D (k.out 5 X (.inr ⟨p,n,J,.inr ⟨ag.out,.inl ⟨rfl,rfl,F⟩⟩⟩) u);clear f aa k q F;go_wp2;exact g.out|false=>have u0:=f.cell (i:=0) rfl;have u1:=f.cell (i:=1) rfl;have u2:=f.cell (i:=2) rfl;have u3:=f.cell (i:=3) rfl;have u4:=f.cell (i:=4) rfl;have u5:=f.cell (i:=5) rfl;have u6:=f.cell (i:=6) rfl;have ab:=fun P=>oX p (L a p.blocks.length c) (L aB (ax p.regs p.slots).length aC) b _ n ae am X aa P;unfold ca at ab;go_wp2_with fail;refine ab _ ?_;intro v an ao ap;have aD:G w.heap.size w an:=u.trans (ap.mono u.size);have g:=D (q.out _ 0 v an (.inr ⟨p,n,J,.inr ⟨ag.out,.inr ⟨rfl,F,rfl⟩⟩⟩) (by have:=a_ ao u.size;simpa using this) aD);clear u0 u1 u2 u3 u4 u5 u6 ab aa f u ap ao F k q;go_wp2;exact g.out
  ·have g:=D (k.out 4 _ (.inr ⟨p,n,J,.inl ⟨rfl,rfl,A⟩⟩) t);clear ho x r m M K O t k q;by_cases ad:h<0;·go_wp2;exact g.out
   ·have aA:(p.blocks.length:Int)≤h:=by omega
    go_wp2;exact g.out
 ·have g:=D (k.out 1 (w1.alloc (Y #[N Z 0,N Z 0,N Z 0,N Z 0,L z 0 0] 25)) (.inl ⟨rfl,rfl,ac⟩) (m.alloc m.size _));clear m ac k q;go_wp2;exact g.out
structure Mv(B Lo:Nat)(w w':World):Prop where
 low:Below B w w'
 size:w.heap.size≤w'.heap.size
 row:∀g ty xs,Lo≤g→ty≠9→Row w g ty xs→Row w' g ty xs
theorem Mv.refl(B Lo:Nat)(w:W):Mv B Lo w w:=⟨Below.refl _ _,Rq _,fun _ _ _ _ _ a=>a⟩
theorem Mv.trans{B Lo:Nat}{w a b:W}(h:Mv B Lo w a)(c:Mv B Lo a b):Mv B Lo w b:=⟨h.low.trans c.low,Nat.le_trans h.size c.size,fun g d xs e f i=>c.row g d xs e f (h.row g d xs e f i)⟩
theorem Mv.of{B Lo:Nat}{w w':W}(a:G w.heap.size w w')(b:B≤w.heap.size):Mv B Lo w w':=⟨a.mono b,a.size,fun _ _ _ _ _ c=>c.ab a⟩
theorem Mv.set{B Lo:Nat}{w a:W}(h:Mv B Lo w a){g:Nat}(l:B≤g)(m:g<Lo)(i:Nat)(u:Vq):Mv B Lo w (a.setCell ⟨g,i,z⟩ u):=⟨⟨h.low.os,h.low.tape,h.low.output,by simpa using h.low.size,fun k c=>(Below.heap_setCell _ _ _ _ (by show k≠g;omega)).trans (h.low.block k c)⟩,by simpa using h.size,fun b d xs e f j=>(h.row b d xs e f j).a7 (by show b≠g;omega) u⟩
theorem au.mv{B Lo:Nat}{w w':W}{t:TD}{ps:Vq}(h:au Lo w t ps)(f:Mv B Lo w w'):au Lo w' t ps:=by induction t generalizing ps with|leaf k n=>exact⟨h.1,Nat.le_trans h.2 f.size⟩|two k a b i j=>obtain⟨g,l,m,e,d,o,p,q⟩:=h;exact⟨g,l,m,e,d,f.row _ _ _ d (by decide) o,i p,j q⟩|three k a b c i j r=>obtain⟨g,l,m,pc,e,d,o,p,q,s⟩:=h;exact⟨g,l,m,pc,e,d,f.row _ _ _ d (by decide) o,i p,j q,r s⟩
def jV(w:W)(P n:Nat)(f:Nat→TD)(ps:Nat→Vq):Prop:=∃xs,Row w P 179 xs∧n*5≤xs.length∧∀i,i<n→∀j u,(aT (f i) (ps i))[j]?=y u→xs[i*5+j]?=y u
theorem jV.ab{w w':W}{P n:Nat}{f:Nat→TD}{ps:Nat→Vq}(h:jV w P n f ps)(a:G w.heap.size w w'):jV w' P n f ps:=let⟨xs,b,c,hc⟩:=h;⟨xs,b.ab a,c,hc⟩
theorem jV.cell{w:W}{P n:Nat}{f:Nat→TD}{ps:Nat→Vq}(h:jV w P n f ps){i:Nat}(a:i<n){j:Nat}{u:Vq}(b:(aT (f i) (ps i))[j]?=y u):w.cell? ⟨P,i*5+j,z⟩=y u:=let⟨xs,c,d,hc⟩:=h;c.cell (hc i a j u b)
theorem jV.frozen{w:W}{P n:Nat}{f:Nat→TD}{ps:Nat→Vq}(h:jV w P n f ps)(i:Nat):w.frozen? ⟨P,i,z⟩=false:=let⟨xs,a,b,hc⟩:=h;a.frozen i
def mG(w:W)(g o:Nat)(a b c d e:Vq):W:=((((w.setCell ⟨g,o,z⟩ a).setCell ⟨g,o+1,z⟩ b).setCell ⟨g,o+2,z⟩ c).setCell ⟨g,o+3,z⟩ d).setCell ⟨g,o+4,z⟩ e
def ui(f:Nat→TD)(i:Nat)(t:TD):Nat→TD:=fun k=>if k=i then t else f k
def Er(f:Nat→Vq)(i:Nat)(t:Vq):Nat→Vq:=fun k=>if k=i then t else f k
def dV(w:W)(g o:Nat)(t:TD)(p:Vq):W:=mG w g o (N Z (ai t)) (N Z (az t)) p (N Z t.size) (Tq (ay (ae t)))
theorem jV.put{w:W}{P n:Nat}{f:Nat→TD}{ps:Nat→Vq}(h:jV w P n f ps){i:Nat}(m:i<n)(t:TD)(p:Vq):jV (dV w P (i*5) t p) P n (ui f i t) (Er ps i p):=by
 obtain⟨xs,b,c,hc⟩:=h;refine⟨_,((((b.set (i*5) _).set (i*5+1) _).set (i*5+2) _).set (i*5+3) _).set (i*5+4) _,by simpa using c,?_⟩;intro k d j u a;have o:j<5:=by have:=(List.getElem?_eq_some_iff.1 a).1;simpa[aT]using this
 by_cases e:k=i
 ·subst e;simp only[ui,Er,if_true]at a;have g:j=0∨j=1∨j=2∨j=3∨j=4:=by omega
  have q:k*5+5≤xs.length:=by omega
  rcases g with rfl|rfl|rfl|rfl|rfl<;>simp only[aT,List.getElem?_cons_zero,List.getElem?_cons_succ]at a<;>simp only[List.getElem?_set,List.length_set]<;>simp[a,show k*5+0<xs.length by omega,show k*5<xs.length by omega,show k*5+1<xs.length by omega,show k*5+2<xs.length by omega,show k*5+3<xs.length by omega,show k*5+4<xs.length by omega]
 ·have l:=hc k d j u (by simpa[ui,Er,e]using a);simp only[List.getElem?_set];rw[if_neg (by omega),if_neg (by omega),if_neg (by omega),if_neg (by omega),if_neg (by omega)];exact l
theorem jV.off{w:W}{P n:Nat}{f:Nat→TD}{ps:Nat→Vq}(h:jV w P n f ps){g:Nat}(b:P≠g)(i:Nat)(u:Vq):jV (w.setCell ⟨g,i,z⟩ u) P n f ps:=let⟨xs,c,d,hc⟩:=h;⟨xs,c.a7 (a:=⟨g,i,z⟩) b u,d,hc⟩
theorem vt{w:W}{H:Nat}{t e:TypeId}{xs c:List Vq}{v:Vq}{B d n:Nat}(b:Row w H t xs)(h:w.ownsRow B e d v n c)(f:t≠e):v.ownBlock≠y H:=by
 intro q;rcases h.2 with⟨rfl,_⟩|⟨k,cap,g,rfl,_,a,_⟩;·simp[Value.ownBlock]at q
 ·simp only[Value.ownBlock,Option.some.injEq]at q;subst q;unfold Row at b;rw[b]at a;simp only[Option.some.injEq,Obj.cells.injEq]at a;exact f a.2.1
structure uv(B Lo:Nat)(w:World)(P n:Nat)(f:Nat→TD)(ps:Nat→Value)(c:TD)(pc:Value)(ms:List (List UInt8))(mv:Value):Prop where
 pl:jV w P n f ps
 parts:∀i,i<n→au Lo w (f i) (ps i)
 pc:au Lo w c pc
 pS:w.ownsRow Lo 9 1 mv ms.length (dq ms)
 hP:B≤P
 kX:P<Lo
structure pL(B Lo:Nat)(w:World)(M P cap n:Nat)(f:Nat→TD)(ps:Nat→Value)(c:TD)(pc:Value)(ms:List (List UInt8))(mv:Value)(big:Bool)(regs data:Int):Prop where
 row:Row w M 181 [.slice (some ⟨P,0,none⟩) n cap,.int .i64 (ai c),.int .i64 (az c),pc,.int .i64 c.size,.string (ay (ae c)),mv,.bool big,.int .i64 regs,.int .i64 data]
 b:uv B Lo w P n f ps c pc ms mv
 hM:B≤M
 pO:M<Lo
 ne:P≠M
def dY(B Lo:Nat)(w:W)(M P cap n:Nat)(f:Nat→TD)(c:TD)(ms:List (List UInt8))(big:Bool)(regs data:Int):Prop:=∃ps pc mv,pL B Lo w M P cap n f ps c pc ms mv big regs data
section
variable{B Lo:Nat}{w w':World}{M P cap n:Nat}{f:Nat→TD}{ps:Nat→Value}{c:TD}{pc:Value}{ms:List (List UInt8)}{mv:Value}{big:Bool}{regs data:Int}
theorem pL.at(h:pL B Lo w M P cap n f ps c pc ms mv big regs data):dY B Lo w M P cap n f c ms big regs data:=⟨_,_,_,h⟩
theorem uv.le(h:uv B Lo w P n f ps c pc ms mv):B≤w.heap.size:=by have:=h.pc.lo;have:=h.hP;have:=h.kX;omega
theorem pL.le(h:pL B Lo w M P cap n f ps c pc ms mv big regs data):B≤w.heap.size:=h.b.le
theorem uv.next(h:uv B Lo w P n f ps c pc ms mv)(a:G w.heap.size w w'):uv B Lo w' P n f ps c pc ms mv:=⟨h.pl.ab a,fun i b=>(h.parts i b).ab a,h.pc.ab a,aV h.pS a (Rq _),h.hP,h.kX⟩
theorem pL.next(h:pL B Lo w M P cap n f ps c pc ms mv big regs data)(a:G w.heap.size w w'):pL B Lo w' M P cap n f ps c pc ms mv big regs data:=⟨h.row.ab a,h.b.next a,h.hM,h.pO,h.ne⟩
theorem dY.next(h:dY B Lo w M P cap n f c ms big regs data)(a:G w.heap.size w w'):dY B Lo w' M P cap n f c ms big regs data:=let⟨_,_,_,u⟩:=h;⟨_,_,_,u.next a⟩
theorem uv.congr(h:uv B Lo w P n f ps c pc ms mv){g:Nat→TD}(b:∀i,i<n→f i=g i):uv B Lo w P n g ps c pc ms mv:=let⟨xs,d,e,hc⟩:=h.pl;⟨⟨xs,d,e,fun i a j u k=>hc i a j u (by rw[b i a];exact k)⟩,fun i a=>by rw[←b i a];exact h.parts i a,h.pc,h.pS,h.hP,h.kX⟩
theorem dY.congr(h:dY B Lo w M P cap n f c ms big regs data){g:Nat→TD}{a:TD}{ms':List (List UInt8)}{b:Bool}(d:∀i,i<n→f i=g i)(hc:c=a)(e:ms=ms')(j:big=b):dY B Lo w M P cap n g a ms' b regs data:=by subst hc;subst e;subst j;obtain⟨ps,pc,mv,u⟩:=h;exact⟨ps,pc,mv,u.row,u.b.congr d,u.hM,u.pO,u.ne⟩
theorem uv.wI(h:uv B Lo w P n f ps c pc ms mv){g:Nat}(a:g<Lo):mv.ownBlock≠y g:=by intro e;have:=(h.pS.lt g e).1;omega
theorem au.dV{Lo:Nat}{w:W}{t:TD}{ps:Vq}(h:au Lo w t ps){g:Nat}(a:g<Lo)(o:Nat)(b:TD)(p:Vq):au Lo (dV w g o b p) t ps:=((((h.under a _ _).under a _ _).under a _ _).under a _ _).under a _ _
theorem pL.place(h:pL B Lo w M P cap n f ps c pc ms mv big regs data){i:Nat}(b:i<n){t:TD}{p:Vq}(d:au Lo w t p):pL B Lo (dV w P (i*5) t p) M P cap n (ui f i t) (Er ps i p) c pc ms mv big regs data:=by
 refine⟨?_,⟨h.b.pl.put b t p,?_,h.b.pc.dV h.b.kX _ _ _,?_,h.b.hP,h.b.kX⟩,h.hM,h.pO,h.ne⟩;·exact((((h.row.a7 (a:=⟨P,_,z⟩) (Ne.symm h.ne) _).a7 (a:=⟨P,_,z⟩) (Ne.symm h.ne) _).a7 (a:=⟨P,_,z⟩) (Ne.symm h.ne) _).a7 (a:=⟨P,_,z⟩) (Ne.symm h.ne) _).a7 (a:=⟨P,_,z⟩) (Ne.symm h.ne) _
 ·intro k g;by_cases e:k=i;·simp only[ui,Er,e,if_true];exact d.dV h.b.kX _ _ _
  ·simp only[ui,Er,e,if_false];exact(h.b.parts k g).dV h.b.kX _ _ _
 ·have q:=h.b.wI h.b.kX;exact bj (bj (bj (bj (bj h.b.pS q _) q _) q _) q _) q _
theorem pL.cells(h:pL B Lo w M P cap n f ps c pc ms mv big regs data){t:TD}{p:Vq}(a:au Lo w t p):pL B Lo (dV w M 1 t p) M P cap n f ps t p ms mv big regs data:=by refine⟨((((h.row.set 1 _).set 2 _).set 3 _).set 4 _).set 5 _,⟨((((h.b.pl.off h.ne _ _).off h.ne _ _).off h.ne _ _).off h.ne _ _).off h.ne _ _,fun i b=>(h.b.parts i b).dV h.pO _ _ _,a.dV h.pO _ _ _,?_,h.b.hP,h.b.kX⟩,h.hM,h.pO,h.ne⟩;have q:=h.b.wI h.pO;exact bj (bj (bj (bj (bj h.b.pS q _) q _) q _) q _) q _
theorem pL.flag(h:pL B Lo w M P cap n f ps c pc ms mv big regs data)(b:Bool):pL B Lo (w.setCell ⟨M,7,z⟩ (Bq b)) M P cap n f ps c pc ms mv b regs data:=⟨h.row.set 7 _,⟨h.b.pl.off h.ne _ _,fun i a=>(h.b.parts i a).under h.pO _ _,h.b.pc.under h.pO _ _,bj h.b.pS (h.b.wI h.pO) _,h.b.hP,h.b.kX⟩,h.hM,h.pO,h.ne⟩
theorem pL.marks(h:pL B Lo w M P cap n f ps c pc ms mv big regs data){ms':List (List UInt8)}{b:Vq}(l:w'.ownsRow Lo 9 1 b ms'.length (dq ms'))(a:w.grownBy w' mv.ownBlock):pL B Lo (w'.setCell ⟨M,6,z⟩ b) M P cap n f ps c pc ms' b big regs data∧Mv B Lo w (w'.setCell ⟨M,6,z⟩ b):=by
 have j:Mv B Lo w w':=by
  refine⟨⟨a.os,a.tape,a.output,a.size,fun k o=>a.block k (Nat.lt_of_lt_of_le o h.le) (fun e=>?_)⟩,a.size,fun g u xs m p d=>d.grown a (fun e=>?_)⟩;·have:=h.b.wI (g:=k) (by have:=h.hM;have:=h.pO;omega);exact this e.symm
  ·exact vt d h.b.pS p e
 have r:Row w' M 181 _:=h.row.grown a (h.b.wI h.pO);have s:jV w' P n f ps:=let⟨xs,d,m,hc⟩:=h.b.pl;⟨xs,d.grown a (h.b.wI h.b.kX),m,hc⟩;have q:b.ownBlock≠y M:=fun e=>by have:=(l.lt M e).1;have:=h.pO;omega
 exact⟨⟨r.set 6 _,⟨s.off h.ne _ _,fun i t=>((h.b.parts i t).mv j).under h.pO _ _,(h.b.pc.mv j).under h.pO _ _,bj l q _,h.b.hP,h.b.kX⟩,h.hM,h.pO,h.ne⟩,j.set h.hM h.pO _ _⟩
theorem Mv.dV{w a:W}(h:Mv B Lo w a){g:Nat}(b:B≤g)(c:g<Lo)(o:Nat)(t:TD)(p:Vq):Mv B Lo w (dV a g o t p):=((((h.set b c _ _).set b c _ _).set b c _ _).set b c _ _).set b c _ _
end
noncomputable section
open Classical
def eN(data:Int)(u:TD):List UInt8:=match u.isNum with|y n=>if 0≤n∧n<data then[]else 64::32::ae u|z=>64::32::ae u
def ix(u v:TD):List UInt8:=match u.isNum,v.isNum with|y _,y a=>if a≠0 then[]else 47::32::(ae u++32::ae v)|_,_=>47::32::(ae u++32::ae v)
def fq(data:Int)(was:Int→TD)(o:dr):List UInt8:=if o.kind=11 then ix (was o.b) (was o.c)else if o.kind=12 then eN data (was o.b)else if o.kind=13 then eN data (was o.a)else[]
def dA(ms:List (List UInt8))(s:List UInt8):List (List UInt8):=if s≠[]∧s∉ms then ms++[s]else ms
theorem gP(ms:List (List UInt8)):dA ms []=ms:=by simp[dA]
theorem zD{ms:List (List UInt8)}{s:List UInt8}(h:s∈ms):dA ms s=ms:=by simp[dA,h]
theorem wz{ms:List (List UInt8)}{s:List UInt8}(a:s≠[])(h:s∉ms):dA ms s=ms++[s]:=by simp[dA,h,a]
theorem qW(regs slots data:Int)(names:List Int)(ops:List dr)(k:Nat):bG regs slots data names ops (k+1)=dA (bG regs slots data names ops k) (fq data (aD regs slots names ops k) (ops.getD k oz)):=by
 have e:hO regs slots data names ops k=fq data (aD regs slots names ops k) (ops.getD k oz):=by
  unfold hO fq;by_cases a:(ops.getD k oz).kind=11;·simp only[a,if_true];rfl
  ·by_cases b:(ops.getD k oz).kind=12;·simp only[b,if_true,if_neg (show¬((12:Int)=11)by omega),true_or];rfl
   ·by_cases c:(ops.getD k oz).kind=13;·simp only[c,if_true,if_neg (show¬((13:Int)=11)by omega),if_neg (show¬((13:Int)=12)by omega),or_true];rfl
    ·simp only[a,b,c,if_false,or_self]
 show(if hO regs slots data names ops k≠[]∧hO regs slots data names ops k∉bG regs slots data names ops k then _ else _)=_;rw[e];rfl
end
theorem s9{B Lo:Nat}{w:W}{M P cap n:Nat}{f:Nat→TD}{c:TD}{ms:List (List UInt8)}{big:Bool}{regs data:Int}(h:dY B Lo w M P cap n f c ms big regs data)(t:List UInt8)(F:t≠[])(ag:ms.length≤1000)(H:Ending→W→Prop)(I:∀w',dY B Lo w' M P cap n f c (dA ms t) big regs data→Mv B Lo w w'→H (Xq (Uq #[])) w'):Calls Tryz.prog 216 #[Pq (y ⟨M,0,z⟩),Tq (ay t)] w H:=by
 obtain⟨ps,pc,mv,a⟩:=h;obtain⟨T,U,V,X,aa⟩:=info_parts Tryz.uV;obtain⟨ah,ai,rfl⟩:=af a.b.pS;obtain⟨aj,ak,J,al,hc⟩:=gg a.b.pS;simp only[Value.slice.injEq,true_and]at J;obtain⟨rfl,rfl⟩:=J;have am:=a.row.cell (i:=6) rfl;have K:=(Below.refl w.heap.size w).alloc (Rq _) (Y #[Tq (ay t)] 9);have o:=a.next K;have an:=o.row.cell (i:=6) rfl;have p:=D a;have l:=D o;have q:=D I;have ab:=D F;have ao:Lo≤w.heap.size:=a.b.pc.lo;have u:=D o.b.pS;clear I a o F K;go_enter Tryz.func216,Tryz.ntmps216;go_wp2;go_loopw[4](fun i wr=>wr=w∧∃(k:Nat),k≤ms.length∧i=N Z k∧Hid (∀j,j<k→ms.getD j []≠t))(fun i _=>ms.length-(intOf i).toNat);case atStart=>exact⟨rfl,0,Nat.zero_le _,rfl,fun j r=>by omega⟩
 case round=>
  obtain⟨rfl,k,ap,rfl,m⟩:=hrel;by_cases O:k<ms.length
  ·obtain⟨b,aq,rfl,ar⟩:=hc k O;have au:(0:Int)≤(k:Int):=by omega
   have av:(k:Int)<(ms.length:Int):=by omega
   by_cases d:ms.getD k []=t
   ·have ac:=(vu (ms.getD k []) t).2 d;have g:t∈ms:=by rw[←d];exact cm O
    have v:=D (q.out _ (by rw[zD g];exact p.out.at) (Mv.refl _ _ _));have aw:=D d;clear m d g q p l u;generalize ms.getD k []=x at*;go_wp2;go_end0;exact v.out
   ·have ac:=vv d;have ad:Hid (∀j,j<k+1→ms.getD j []≠t):=fun j r=>by
     by_cases e:j=k;·subst e;exact d
     ·exact m.out j (by omega)
    clear m d;generalize ms.getD k []=x at*;go_wp2;go_roundw;case rel=>exact⟨by first|rfl|trivial,k+1,by omega,by go_num,ad⟩
    case measure=>simp[intOf];omega
  ·obtain rfl:k=ms.length:=by omega
   have g:t∉ms:=by intro g;obtain⟨j,r,e⟩:=List.getElem_of_mem g;exact m.out j r (by simp[List.getD,r,e])
   have A:=D (fun w'=>q.out w');rw[wz ab.out g]at A;clear m hc q g;go_wp2_with(at_builtin;refine wpList_append_own _ rfl _ _ 105 rfl Lo 9 T (Tq ⟨#[]⟩) 1 16 Tryz.underlying105 U V X aa rfl (by decide) _ _ _ rfl u.out ⟨wr.heap.size,0,z⟩ 1 1 [Tq (ay t)] rfl rfl ?c1 (CF _) ?c3 ?c4 ?c5 ?_);case c1=>exact CE wr _ _
   case c3=>unfold maxLen;omega
   case c4=>omega
   case c5=>simp;omega
   intro ax ae s C _;rw[←r9]at s;obtain⟨Q,R⟩:=l.out.marks (ms':=ms++[t]) (by simpa using s) C;have S:Mv B Lo wr (wr.alloc (Y #[Tq (ay t)] 9)):=Mv.of ((Below.refl wr.heap.size wr).alloc (Rq _) _) p.out.le;have v:=D (A.out _ Q.at (S.trans R));have E:Row ae M 181 _:=l.out.row.grown C (l.out.b.wI l.out.pO);have az:=E.cell (i:=6) rfl;have aA:=E.frozen 6;obtain⟨aB,aC,rfl⟩:=af s;clear C s Q R S E A p l u;go_wp2;go_end0;exact v.out
theorem sB{data:Int}{u:TD}(h:u.isNum.isSome=true∧0≤numOf u∧numOf u<data):eN data u=[]:=by
 obtain⟨k,a⟩:=Option.isSome_iff_exists.1 h.1;have e:numOf u=k:=by simp[numOf,a]
 rw[e]at h;simp[eN,a,h.2]
theorem sA{data:Int}{u:TD}(h:¬(u.isNum.isSome=true∧0≤numOf u∧numOf u<data)):eN data u=64::32::ae u:=by
 cases a:u.isNum with
  |none=>simp[eN,a]
  |some k=>
   have e:numOf u=k:=by simp[numOf,a]
   rw[e,a]at h;simp only[eN,a];rw[if_neg (fun q=>h ⟨rfl,q⟩)]
theorem l8{B Lo:Nat}{w:W}{M P cap n:Nat}{f:Nat→TD}{c:TD}{ms:List (List UInt8)}{big:Bool}{regs data:Int}(h:dY B Lo w M P cap n f c ms big regs data)(u:TD)(a:Vq)(x:u.aJ)(aj:u.size≤1000000000)(S:ms.length≤1000)(A:Ending→W→Prop)(C:∀w',dY B Lo w' M P cap n f c (dA ms (eN data u)) big regs data→Mv B Lo w w'→A (Xq (Uq #[])) w'):Calls Tryz.prog 209 #[Pq (y ⟨M,0,z⟩),ar u a] w A:=by
 have E:B≤w.heap.size:=let⟨_,_,_,m⟩:=h;m.le;have o:G w.heap.size w (w.alloc (Y #[N Z (ai u),N Z (az u),a,N Z u.size,Tq (ay (ae u))] 179)):=(Below.refl _ _).alloc (Rq _) _;have F:=D (h.next o);have H:Row (w.alloc (Y #[N Z (ai u),N Z (az u),a,N Z u.size,Tq (ay (ae u))] 179)) w.heap.size 179 (aT u a):=heap_alloc_new w _;have p:=fi x a (w.alloc (Y #[N Z (ai u),N Z (az u),a,N Z u.size,Tq (ay (ae u))] 179));have ak:=dm x (by omega);have r:=D o;have I:=D H;have j:=D C;unfold ar at p⊢;clear h C o H;go_enter Tryz.func209,Tryz.ntmps209;go_wp2_with fail;refine p.mono ?_;rintro e w1⟨rfl,k⟩;have J:=r.out.trans (k.mono r.out.size);have d:=D (F.out.next k);have b:=I.out.ab k;have T:w1.cell? ⟨M,9,z⟩=y (N Z data):=let⟨_,_,_,m⟩:=d.out;m.row.cell (i:=9) rfl;have g:Hid (Mv B Lo w w1):=Mv.of J E;clear p F r I k J;by_cases hc:u.isNum.isSome=true∧0≤numOf u∧numOf u<data;·have s:=D (j.out w1 (by rw[sB hc,gP];exact d.out) g.out);obtain⟨c1,c2,c3⟩:=hc;rw[c1];clear j d g;go_wp2;go_end0;exact s.out
 ·have t:=D j.out;rw[sA hc]at t;have K:=jZ (ai u) (az u) u.size a (ay (ae u)) w1;have hs:Hid (ay (64::32::ae u)=ay [64,32]++ay (ae u)):=by show _=_;rw[cE];rfl
  have al:(ay [64,32]).size=2:=rfl;have U:=b.cell (i:=0) rfl;have V:=b.cell (i:=1) rfl;have X:=b.cell (i:=2) rfl;have aa:=b.cell (i:=3) rfl;have ab:=b.cell (i:=4) rfl;have l:u.isNum.isSome=false∨(u.isNum.isSome=true∧numOf u<0)∨(u.isNum.isSome=true∧0≤numOf u∧data≤numOf u):=by
   cases hz:u.isNum.isSome with
    |false=>exact .inl rfl
    |true=>
     rw[hz]at hc;by_cases ac:numOf u<0;·exact .inr (.inl ⟨rfl,ac⟩)
     ·exact .inr (.inr ⟨rfl,by omega,by have:¬(0≤numOf u∧numOf u<data):=fun q=>hc ⟨rfl,q⟩;omega⟩)
  clear hc j b;generalize numOf u=am at*;generalize u.isNum.isSome=an at*;rcases l with rfl|⟨rfl,ad⟩|⟨rfl,ad,ao⟩;all_goals go_wp2_with fail;refine K.mono ?_;rintro e af⟨rfl,b2⟩;have O:=D (d.out.next b2);have Q:Hid (Mv B Lo w af):=g.out.trans (Mv.of b2 (Nat.le_trans E g.out.size));have v:=fun ag=>s9 O.out (64::32::ae u) (by simp) S ag;rw[hs.out]at v;clear K d g b2 U V X aa ab T;go_wp2_with fail;refine v _ ?_;intro ah l R;have s:=D (t.out ah l (Q.out.trans R));clear v t Q O l R;go_wp2;go_end0;exact s.out
theorem uP{u v:TD}(h:u.isNum.isSome=true∧v.isNum.isSome=true∧numOf v≠0):ix u v=[]:=by
 obtain⟨k,b⟩:=Option.isSome_iff_exists.1 h.1;obtain⟨c,a⟩:=Option.isSome_iff_exists.1 h.2.1;have e:numOf v=c:=by simp[numOf,a]
 rw[e]at h;simp[ix,b,a,h.2.2]
theorem uO{u v:TD}(h:¬(u.isNum.isSome=true∧v.isNum.isSome=true∧numOf v≠0)):ix u v=47::32::(ae u++32::ae v):=by
 unfold ix;cases c:u.isNum with
  |none=>rfl
  |some k=>
   cases b:v.isNum with
    |none=>rfl
    |some a=>
     have e:numOf v=a:=by simp[numOf,b]
     rw[e,c,b]at h;have:a=0:=by
      by_cases q:a=0;·exact q
      ·exact absurd ⟨rfl,rfl,q⟩ h
     subst this;simp
theorem uG{B Lo:Nat}{w:W}{M P cap n:Nat}{f:Nat→TD}{c:TD}{ms:List (List UInt8)}{big:Bool}{regs data:Int}(h:dY B Lo w M P cap n f c ms big regs data)(u v:TD)(l m:Vq)(S:u.aJ)(T:v.aJ)(aD:u.size≤1000000000)(sv:v.size≤1000000000)(ag:ms.length≤1000)(E:Ending→W→Prop)(U:∀w',dY B Lo w' M P cap n f c (dA ms (ix u v)) big regs data→Mv B Lo w w'→E (Xq (Uq #[])) w'):Calls Tryz.prog 213 #[Pq (y ⟨M,0,z⟩),ar u l,ar v m] w E:=by
 have r:B≤w.heap.size:=let⟨_,_,_,F⟩:=h;F.le;have ah:Lo≤w.heap.size:=let⟨_,_,_,F⟩:=h;F.b.pc.lo;have H:=CO.start w u v l m;have V:=D (h.next H.ab);have X:=D H;have s:=D U;have I:=fi S l ((w.alloc (Y #[N Z (ai u),N Z (az u),l,N Z (u).size,Tq (ay (ae u))] 179)).alloc (Y #[N Z (ai v),N Z (az v),m,N Z (v).size,Tq (ay (ae v))] 179));have J:=fun aj=>fi T m aj;have aE:=dm S (by omega);have aF:=dm T (by omega);unfold ar at I J⊢;clear h U H;go_enter Tryz.func213,Tryz.ntmps213;go_wp2_with fail;refine I.mono ?_;rintro e w1⟨rfl,K⟩;have j:=X.out.next K;have aa:=D (V.out.next K);have ab:=(j.rv).cell (i:=0) rfl;have c1:=(j.rv).cell (i:=1) rfl;have c2:=(j.rv).cell (i:=2) rfl;have c3:=(j.rv).cell (i:=3) rfl;have c4:=(j.rv).cell (i:=4) rfl;clear I K X V;go_wp2_with fail;refine(J w1).mono ?_;rintro e b⟨rfl,b2⟩;have O:=j.next b2;have t:=D (aa.out.next b2);have k:Hid (Mv B Lo w b):=Mv.of O.ab r;have x:=D O;clear J b2 aa j O ab c1 c2 c3 c4;by_cases hc:u.isNum.isSome=true∧v.isNum.isSome=true∧numOf v≠0
 ·have Q:=D (s.out b (by rw[uP hc,gP];exact t.out) k.out);obtain⟨c1,c2,c3⟩:=hc;have c4:(numOf v==0)=false:=by simp[c3]
  rw[c1,c2];clear s t k x;go_wp2;go_end0;exact Q.out
 ·have R:=D s.out;rw[uO hc]at R;have hs:=pM u v;have ac:=D hs;have ad:G b.heap.size b b.drew:=(Below.refl _ _).drew;have ak:Mv B Lo b b.drew:=Mv.of ad (Nat.le_trans r k.out.size);have o:=fun a(d:Mv B Lo b a)=>d.row _ _ _ (show Lo≤w.heap.size from ah) (by decide) x.out.ru;have p:=fun a(d:Mv B Lo b a)=>d.row _ _ _ (show Lo≤w.heap.size+1 by omega) (by decide) x.out.rv;have aG:=fun a d=>(o a d).cell (i:=0) rfl;have aH:=fun a d=>(o a d).cell (i:=1) rfl;have aI:=fun a d=>(o a d).cell (i:=2) rfl;have aJ:=fun a d=>(o a d).cell (i:=3) rfl;have aK:=fun a d=>(o a d).cell (i:=4) rfl;have ab:=fun a d=>(p a d).cell (i:=0) rfl;have c1:=fun a d=>(p a d).cell (i:=1) rfl;have c2:=fun a d=>(p a d).cell (i:=2) rfl;have c3:=fun a d=>(p a d).cell (i:=3) rfl;have c4:=fun a d=>(p a d).cell (i:=4) rfl;have al:∀a,G b.heap.size b a→Calls Tryz.prog 148 #[Aq #[N Z (ai u),N Z (az u),l,N Z u.size,Tq (ay (ae u))]] a fun e w'=>e=Xq (Tq (ay (ae u)))∧G b.heap.size b w'∧Mv B Lo b w':=fun a g=>(jZ (ai u) (az u) u.size l (ay (ae u)) a).mono fun e w' q=>⟨q.1,g.trans (q.2.mono g.size),Mv.of (g.trans (q.2.mono g.size)) (Nat.le_trans r k.out.size)⟩;have am:∀a,G b.heap.size b a→Calls Tryz.prog 148 #[Aq #[N Z (ai v),N Z (az v),m,N Z v.size,Tq (ay (ae v))]] a fun e w'=>e=Xq (Tq (ay (ae v)))∧G b.heap.size b w'∧Mv B Lo b w':=fun a g=>(jZ (ai v) (az v) v.size m (ay (ae v)) a).mono fun e w' q=>⟨q.1,g.trans (q.2.mono g.size),Mv.of (g.trans (q.2.mono g.size)) (Nat.le_trans r k.out.size)⟩;have an:∀a A,G b.heap.size b a→(∀w',E (Xq (Uq #[])) w'→Mv B Lo b w'→A (Xq (Uq #[])) w')→Calls Tryz.prog 216 #[Pq (y ⟨M,0,z⟩),Tq (((⟨#[47,32]⟩:ByteArray)++ay (ae u)++⟨#[32]⟩)++ay (ae v))] a A:=by intro a A g ao;rw[ac.out];have m2:Mv B Lo b a:=Mv.of g (Nat.le_trans r k.out.size);exact s9 (t.out.next g) _ (by simp) ag A (fun w' ap af=>ao w' (R.out w' ap (k.out.trans (m2.trans af))) (m2.trans af))
  have aq:u.isNum.isSome=false∨(u.isNum.isSome=true∧v.isNum.isSome=false)∨(u.isNum.isSome=true∧v.isNum.isSome=true∧numOf v=0):=by
   cases hz:u.isNum.isSome with
    |false=>exact .inl rfl
    |true=>
     cases au:v.isNum.isSome with
      |false=>exact .inr (.inl ⟨rfl,rfl⟩)
      |true=>
       refine .inr (.inr ⟨rfl,rfl,?_⟩);by_cases q:numOf v=0;·exact q
       ·exact absurd ⟨hz,au,q⟩ hc
  clear hc s t x R o p hs ac;generalize numOf u=aL at*;generalize u.isNum.isSome=aM at*;generalize numOf v=aN at*;generalize v.isNum.isSome=aO at*;generalize ay (ae u)=C at*;generalize ay (ae v)=av at*;have g1:(9223372036854775807<2+C.size)=False:=by simp only[eq_iff_iff,iff_false];omega
  have g2:(9223372036854775807<2+C.size+1)=False:=by simp only[eq_iff_iff,iff_false];omega
  have aP:(9223372036854775807<2+C.size+1+av.size)=False:=by simp only[eq_iff_iff,iff_false];omega
  have aQ:(9223372036854775806<2+C.size)=False:=by simp only[eq_iff_iff,iff_false];omega
  rcases aq with rfl|⟨rfl,rfl⟩|⟨rfl,rfl,rfl⟩;all_goals go_wp2;go_region_held3(fun a=>Mv B Lo b a)(first|with_reducible exact ak|with_reducible exact aw|with_reducible exact ax|with_reducible exact aA)(first|(go_at_call 148;with_reducible refine(al _ ?_).mono ?_;with_reducible exact ad;rintro e aR⟨rfl,aB,aw⟩)|(go_at_call 148;with_reducible refine(am _ ?_).mono ?_;with_reducible exact aB;rintro e aS⟨rfl,aC,ax⟩)|(go_at_call 216;with_reducible refine an _ _ ?_ ?_;with_reducible exact aC;intro aT hF aA;have Q:=D hF;clear hF));go_wp2;go_end0;exact Q.out
end Go.Proofs.YtblhmeidbjigaabGreatDoor
