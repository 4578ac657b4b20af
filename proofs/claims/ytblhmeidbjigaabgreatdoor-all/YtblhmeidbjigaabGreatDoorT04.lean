import Derived.Lib.ItoaNum
import Derived.Lib.ItoaLen
import Derived.OpenShut
import Derived.Maps.AppendAt
import Derived.Shelf.Strconv.Itoa3
import Derived.Shelf.Lay
import Derived.Ground.NamesProg
import Derived.Lib.SmallJoins
import Derived.ProofKit
import Derived.LaidMore
import Derived.Stop.Joined
import Derived.Stop.LaidErr
import Derived.Test.YtblhmeidbjigaabGreatDoorT03
set_option linter.unusedSimpArgs false
set_option linter.unusedVariables false
set_option maxRecDepth 100000
set_option maxHeartbeats 8000000
namespace Go.Proofs.YtblhmeidbjigaabGreatDoor
open Go.RowKit
open Go.Value renaming int→N,slice→L,string→Tq,pointer→Pq
open Go.IntKind renaming i64→Z
open Go.Obj renaming cells→Y
open Go.Ending renaming returned→Xq
open Option renaming none→z,some→y
open Nat renaming le_refl→Rq
open Go renaming World→W,Value→Vq
open Go.RowKit renaming Below→G
noncomputable section
open Classical
inductive TD where|leaf(k n:Int)|two(k:Int)(a b:TD)|three(k:Int)(a b c:TD)
def TD.kind:TD→Int|.leaf k _=>k|.two k _ _=>k|.three k _ _ _=>k
def TD.size:TD→Nat|.leaf _ _=>1|.two _ a b=>1+a.size+b.size|.three _ a b c=>1+a.size+b.size+c.size
def bk(n:Int):TD:=.leaf 100 n
def TD.isNum:TD→Option Int|.leaf k n=>if k=100 then y n else z|_=>z
def TD.dv:TD→Option (TD×Int)|.two k a b=>if k=3 then b.isNum.map (a,·)else z|_=>z
def eL:TD→Int→TD
 |.leaf q n,k=>if q=100 then bk (wrap64 (n+k))else if k=0 then .leaf q n else .two 3 (.leaf q n) (bk k)
 |.two q a b,k=>if k=0 then .two q a b else match q,b.isNum with|3,y d=>eL a (wrap64 (d+k))|_,_=>.two 3 (.two q a b) (bk k)
 |.three q a b c,k=>if k=0 then .three q a b c else .two 3 (.three q a b c) (bk k)
def aW(kind:Int)(u:TD)(n:Int):Option TD:=if kind=4 then y (eL u (wrap64 (0-n)))else if kind=3 then(if n=0 then y u else u.dv.map fun p=>eL p.1 (wrap64 (p.2+n)))else if kind=5 then(if n=0 then y (bk 0)else if n=1 then y u else z)else if kind=6 then(if n=0 then y (bk 0)else if n=-1 then y u else z)else if kind=7 then(if n=0 then y u else if n=-1 then y (bk (-1))else z)else if kind=8 then(if n=0 then y u else z)else if kind=11 then(if n=1 then y u else z)else z
def bE(u:TD):Option TD×Int:=match u.isNum with|y n=>(z,n)|z=>match u.dv with|y (a,n)=>(y a,n)|z=>(y u,0)
def cV(u v:TD):Bool:=decide ((bE u).1=(bE v).1∧(bE u).2≠(bE v).2)
def eY(kind:Int):Bool:=decide (kind=3∨kind=5∨kind=6∨kind=7∨kind=8∨kind=10)
def dk(kind:Int)(u v:TD):TD:=match v.isNum.bind (aW kind u)with|y t=>t|z=>if u=v∧(kind=4∨kind=8∨kind=9)then bk 0 else if u=v∧(kind=6∨kind=7)then u else if u=v∧kind=10 then bk 1 else if kind=10∧cV u v=true then bk 0 else .two kind u v
def aS:TD→TD→TD|.three 13 c a v,u=>if a=u then v else if cV a u=true then aS c u else .two 12 (.three 13 c a v) u|b,u=>.two 12 b u
def bY:TD→TD→TD|.three 13 c a v,u=>if a=u then c else if cV a u=true then .three 13 (bY c u) a v else .three 13 c a v|b,_=>b
def cO:TD→TD→TD→TD
 |.three 13 c a w,u,v=>match u.isNum,a.isNum with|y n,y k=>if k>n then .three 13 (cO c u v) a w else .three 13 (.three 13 c a w) u v|_,_=>.three 13 (.three 13 c a w) u v
 |b,u,v=>.three 13 b u v
def bS(a u v:TD):TD:=if aS a u=v then a else cO (bY a u) u v
def ia(k:Int):UInt8:=if k=3 then 43 else if k=4 then 45 else if k=5 then 42 else if k=6 then 38 else if k=7 then 124 else if k=8 then 94 else if k=9 then 60 else if k=10 then 61 else if k=11 then 47 else if k=12 then 64 else 33
def ae:TD→List UInt8|.leaf k n=>if k=100 then Lib.itoa n else if k=101 then 114::Lib.itoa n else if k=102 then 120::Lib.itoa n else[109]|.two k a b=>40::ia k::32::(ae a++32::(ae b++[41]))|.three k a b c=>40::ia k::32::(ae a++32::(ae b++32::(ae c++[41])))
def aX(kind:Int)(u v:TD):TD:=match u.isNum,v.isNum with|y a,y b=>if kind=11∧b=0 then dk kind u v else bk (dc kind a b)|y _,z=>if eY kind then dk kind v u else dk kind u v|z,y _=>dk kind u v|z,z=>if eY kind∧ae v<ae u then dk kind v u else dk kind u v
def cW(names:List Int)(place:Int):TD:=if(names.length:Int)≤place then .leaf 103 0 else if names.getD place.toNat 0<0 then .leaf 102 place else .leaf 101 (names.getD place.toNat 0)
def aZ(regs slots:Int)(o:dr):Int:=if o.kind=13 then regs+slots else if o.kind=14 then regs+o.a else o.a
def aD(regs slots:Int)(names:List Int)(ops:List dr):Nat→Int→TD|0,place=>cW names place|k+1,place=>let o:=ops.getD k oz;let was:=aD regs slots names ops k;if aZ regs slots o≠place then was place else if o.kind=1 then bk (256*o.b+o.c-32768)else if o.kind=2∨o.kind=14 then was o.b else if o.kind=15 then was (regs+o.b)else if o.kind=12 then aS (was (regs+slots)) (was o.b)else if o.kind=13 then bS (was (regs+slots)) (was o.a) (was o.b)else aX o.kind (was o.b) (was o.c)
def dK(regs slots:Int)(names:List Int)(ops:List dr):Bool:=(List.range ops.length).any fun k=>decide (3≤cD ops k∧cD ops k≤13∧4095<(aD regs slots names ops (k+1) (aZ regs slots (ops.getD k oz))).size)
def ax(regs slots:Int):List Int:=(List.range (regs+slots).toNat).map fun(i:Nat)=>if(i:Int)<regs then(i:Int)else-1
def fK(s:ByteArray)(a place:Int)(t:List UInt8)(e:Int):Prop:=(e=1∧t=[]∧∀p,aB p=true→ay (aK p)≠s)∨∃p,aB p=true∧ay (aK p)=s∧((e=4∧t=[]∧¬(0≤a∧a<p.blocks.length∧0≤place∧place≤p.regs+p.slots))∨((0≤a∧a<p.blocks.length∧0≤place∧place≤p.regs+p.slots)∧((e=5∧t=[]∧dK p.regs p.slots (ax p.regs p.slots) (aj p.blocks a.toNat)=true)∨(e=0∧dK p.regs p.slots (ax p.regs p.slots) (aj p.blocks a.toNat)=false∧t=ae (aD p.regs p.slots (ax p.regs p.slots) (aj p.blocks a.toNat) (aj p.blocks a.toNat).length place)))))
def hO(regs slots data:Int)(names:List Int)(ops:List dr)(k:Nat):List UInt8:=let o:=ops.getD k oz;let was:=aD regs slots names ops k;if o.kind=11 then match(was o.b).isNum,(was o.c).isNum with|y _,y a=>if a≠0 then[]else 47::32::(ae (was o.b)++32::ae (was o.c))|_,_=>47::32::(ae (was o.b)++32::ae (was o.c))else if o.kind=12∨o.kind=13 then let u:=was (if o.kind=12 then o.b else o.a);match u.isNum with|y n=>if 0≤n∧n<data then[]else 64::32::ae u|z=>64::32::ae u else[]
def bG(regs slots data:Int)(names:List Int)(ops:List dr):Nat→List (List UInt8)|0=>[]|k+1=>let l:=bG regs slots data names ops k;let s:=hO regs slots data names ops k;if s≠[]∧s∉l then l++[s]else l
theorem fo(k:Int):(bk k).isNum=y k:=by simp[bk,TD.isNum]
theorem vs(u:TD)(k:Int):dk 3 u (bk k)=if k=0 then u else match u.dv with|y p=>eL p.1 (wrap64 (p.2+k))|z=>.two 3 u (bk k):=by
 unfold dk;rw[fo];simp only[Option.bind_some,aW];by_cases a:k=0;·simp[a]
 ·cases b:u.dv with|none=>simp[a]|some p=>simp[a]
theorem wE(u:TD)(k:Int):aX 3 u (bk k)=eL u k:=by
 cases u with
  |leaf q n=>
   by_cases d:q=100;·subst d;have h:(TD.leaf 100 n).isNum=y n:=fo n;simp[aX,h,fo,eL,dc]
   ·have h:(TD.leaf q n).isNum=z:=by simp[TD.isNum,d]
    have e:(TD.leaf q n).dv=z:=rfl;simp only[aX,h,fo,vs,e,eL,if_neg d]
  |two q a b=>
   have h:(TD.two q a b).isNum=z:=rfl;simp only[aX,h,fo,vs,eL];by_cases f:k=0;·simp[f]
   ·simp only[if_neg f];by_cases d:q=3;·subst d;cases g:b.isNum with|none=>simp[TD.dv,g]|some i=>simp[TD.dv,g]
    ·simp only[TD.dv,if_neg d];split;·exact absurd rfl d
     ·rfl
  |three q a b c=>have h:(TD.three q a b c).isNum=z:=rfl;have e:(TD.three q a b c).dv=z:=rfl;simp only[aX,h,fo,vs,e,eL]
def eE(kind:Int)(u v:TD):TD:=if u=v∧(kind=4∨kind=8∨kind=9)then bk 0 else if u=v∧(kind=6∨kind=7)then u else if u=v∧kind=10 then bk 1 else if kind=10∧cV u v=true then bk 0 else .two kind u v
theorem rW{kind:Int}{u v:TD}(h:v.isNum.bind (aW kind u)=z):dk kind u v=eE kind u v:=by unfold dk eE;rw[h]
theorem xl{kind:Int}{u v t:TD}(h:v.isNum.bind (aW kind u)=y t):dk kind u v=t:=by unfold dk;rw[h]
theorem t_{kind:Int}{u v:TD}(h:u=v)(a:kind=4∨kind=8∨kind=9):eE kind u v=bk 0:=by unfold eE;rw[if_pos ⟨h,a⟩]
theorem tZ{kind:Int}{u v:TD}(h:u=v)(a:kind=6∨kind=7):eE kind u v=u:=by unfold eE;rw[if_neg (by omega),if_pos ⟨h,a⟩]
theorem xj{kind:Int}{u v:TD}(h:u=v)(a:kind=10):eE kind u v=bk 1:=by unfold eE;rw[if_neg (by omega),if_neg (by omega),if_pos ⟨h,a⟩]
theorem mJ{kind:Int}{u v:TD}(h:u≠v)(a:kind=10)(b:cV u v=true):eE kind u v=bk 0:=by unfold eE;rw[if_neg (fun q=>h q.1),if_neg (fun q=>h q.1),if_neg (fun q=>h q.1),if_pos ⟨a,b⟩]
theorem jg{kind:Int}{u v:TD}(h:u≠v)(a:¬(kind=10∧cV u v=true)):eE kind u v=.two kind u v:=by unfold eE;rw[if_neg (fun q=>h q.1),if_neg (fun q=>h q.1),if_neg (fun q=>h q.1),if_neg a]
theorem A5{kind:Int}{u v:TD}(a:kind=3∨kind=5∨kind=11):eE kind u v=.two kind u v:=by unfold eE;rw[if_neg (by omega),if_neg (by omega),if_neg (by omega),if_neg (by omega)]
theorem pE{kind:Int}{u v:TD}(h:v.isNum=z):v.isNum.bind (aW kind u)=z:=by rw[h];rfl
def fp(c:UInt8):Bool:=decide (c=45∨(48≤c.toNat∧c.toNat≤57))
theorem ik{d:Nat}(h:d<10):(UInt8.ofNat (48+d)).toNat=48+d:=by rw[UInt8.toNat_ofNat'];omega
theorem iQ(u:Nat):∀c∈Lib.decDigits u,48≤c.toNat∧c.toNat≤57:=by
 induction u using Nat.strongRecOn with
  |_ u a=>
   intro c hc;by_cases h:u<10;·rw[Lib.decDigits_one h]at hc;simp only[List.mem_singleton]at hc;subst hc;rw[ik h];omega
   ·rw[Lib.decDigits,dif_neg h]at hc;rcases List.mem_append.1 hc with hc|hc;·exact a (u/10) (by omega) c hc
    ·simp only[List.mem_singleton]at hc;subst hc;rw[ik (Nat.mod_lt _ (by decide))];omega
theorem iY(u:Nat):Lib.decDigits u≠[]:=by intro e;have:=congrArg List.length e;rw[Lib.decDigits_length]at this;have:=Lib.nDigits_pos u;simp at*;omega
theorem ma{u v:Nat}(h:Lib.decDigits u=Lib.decDigits v):u=v:=by
 induction u using Nat.strongRecOn generalizing v with
  |_ u d=>
   by_cases b:u<10
   ·by_cases a:v<10;·rw[Lib.decDigits_one b,Lib.decDigits_one a]at h;have:=congrArg UInt8.toNat (List.cons.inj h).1;rw[ik b,ik a]at this;omega
    ·exfalso;rw[Lib.decDigits_one b,Lib.decDigits,dif_neg a]at h;have c:=congrArg List.length h;simp only[List.length_append,List.length_cons,List.length_nil]at c;have:=iY (v/10);have:0<(Lib.decDigits (v/10)).length:=List.length_pos_iff.2 this;omega
   ·by_cases a:v<10;·exfalso;rw[Lib.decDigits_one a,Lib.decDigits,dif_neg b]at h;have c:=congrArg List.length h;simp only[List.length_append,List.length_cons,List.length_nil]at c;have:=iY (u/10);have:0<(Lib.decDigits (u/10)).length:=List.length_pos_iff.2 this;omega
    ·rw[Lib.decDigits,dif_neg b]at h;conv at h=>rhs;rw[Lib.decDigits,dif_neg a]
     obtain⟨e,c⟩:=List.append_inj' h rfl;have e1:=d (u/10) (by omega) e;have e2:=congrArg UInt8.toNat (List.cons.inj c).1;rw[ik (Nat.mod_lt _ (by decide)),ik (Nat.mod_lt _ (by decide))]at e2;omega
theorem mz(n:Int):∀c∈Lib.itoa n,fp c=true:=by
 intro c hc;unfold Lib.itoa at hc;simp only[fp,decide_eq_true_eq];split at hc
 ·rcases List.mem_cons.1 hc with hc|hc;·exact .inl hc
  ·exact .inr (iQ _ c hc)
 ·exact .inr (iQ _ c hc)
theorem tB(n:Int):∃c l,Lib.itoa n=c::l∧fp c=true:=by
 cases h:Lib.itoa n with
  |nil=>
   exfalso;unfold Lib.itoa at h;split at h;·cases h
   ·exact iY _ h
  |cons c l=>exact⟨c,l,rfl,mz n c (by rw[h];simp)⟩
theorem B8{n a:Int}(h:Lib.itoa n=Lib.itoa a):n=a:=by
 have b:∀u:Nat,∃c l,Lib.decDigits u=c::l∧48≤c.toNat:=by intro u;cases e:Lib.decDigits u with|nil=>exact absurd e (iY u)|cons c l=>exact⟨c,l,rfl,(iQ u c (by rw[e];simp)).1⟩
 unfold Lib.itoa at h;split at h
 ·split at h;·have:=ma (List.cons.inj h).2;omega
  ·exfalso;obtain⟨c,l,e,hc⟩:=b a.toNat;rw[e]at h;have:=(List.cons.inj h).1;subst this;simp at hc
 ·split at h;·exfalso;obtain⟨c,l,e,hc⟩:=b n.toNat;rw[e]at h;have:=(List.cons.inj h).1;subst this;simp at hc
  ·have:=ma h;omega
def pV(x:List UInt8):Prop:=∀c l,x=c::l→fp c=false
theorem kW{l x:List UInt8}(a:∀c∈l,fp c=true)(e:pV x):(l++x).takeWhile fp=l:=by
 induction l with
  |nil=>cases x with|nil=>rfl|cons c b=>simp[e c b rfl]
  |cons c b f=>simp only[List.cons_append,List.takeWhile_cons,a c (by simp),if_true];rw[f (fun d g=>a d (by simp[g]))]
theorem qN{n a:Int}{x b:List UInt8}(d:pV x)(f:pV b)(h:Lib.itoa n++x=Lib.itoa a++b):n=a∧x=b:=by have c:=kW (mz n) d;have g:=kW (mz a) f;rw[h]at c;have e:Lib.itoa n=Lib.itoa a:=c.symm.trans g;rw[e]at h;exact⟨B8 e,List.append_cancel_left h⟩
def TD.ok:TD→Prop|.leaf k n=>k=100∨k=101∨k=102∨(k=103∧n=0)|.two k a b=>3≤k∧k≤12∧a.ok∧b.ok|.three k a b c=>k=13∧a.ok∧b.ok∧c.ok
theorem r8{k q:Int}(c:3≤k∧k≤13)(d:3≤q∧q≤13)(h:ia k=ia q):k=q:=by
 have a:k=3∨k=4∨k=5∨k=6∨k=7∨k=8∨k=9∨k=10∨k=11∨k=12∨k=13:=by omega
 have b:q=3∨q=4∨q=5∨q=6∨q=7∨q=8∨q=9∨q=10∨q=11∨q=12∨q=13:=by omega
 rcases a with rfl|rfl|rfl|rfl|rfl|rfl|rfl|rfl|rfl|rfl|rfl<;>rcases b with rfl|rfl|rfl|rfl|rfl|rfl|rfl|rfl|rfl|rfl|rfl<;>first|rfl|(exfalso;revert h;decide)
theorem lV(t:TD)(h:t.ok):∃c l,ae t=c::l∧((∃n,t=.leaf 100 n∧fp c=true)∨(∃n,t=.leaf 101 n∧c=114)∨(∃n,t=.leaf 102 n∧c=120)∨(t=.leaf 103 0∧c=109)∨((∀k n,t≠.leaf k n)∧c=40)):=by
 cases t with
  |leaf k n=>
   rcases h with rfl|rfl|rfl|⟨rfl,rfl⟩;·obtain⟨c,l,e,hc⟩:=tB n;exact⟨c,l,by simpa[ae]using e,.inl ⟨n,rfl,hc⟩⟩
   ·exact⟨114,Lib.itoa n,by simp[ae],.inr (.inl ⟨n,rfl,rfl⟩)⟩
   ·exact⟨120,Lib.itoa n,by simp[ae],.inr (.inr (.inl ⟨n,rfl,rfl⟩))⟩
   ·exact⟨109,[],by simp[ae],.inr (.inr (.inr (.inl ⟨rfl,rfl⟩)))⟩
  |two k a b=>exact⟨40,_,rfl,.inr (.inr (.inr (.inr ⟨(fun _ _ e=>by cases e),rfl⟩)))⟩
  |three k a b c=>exact⟨40,_,rfl,.inr (.inr (.inr (.inr ⟨(fun _ _ e=>by cases e),rfl⟩)))⟩
theorem gf{c:UInt8}(l:List UInt8)(h:fp c=false):pV (c::l):=fun d a e=>by obtain⟨rfl,_⟩:=List.cons.inj e;exact h
theorem xp:∀(t u:TD)(x m:List UInt8),t.ok→u.ok→pV x→pV m→ae t++x=ae u++m→t=u∧x=m:=by
 intro t;induction t with
  |leaf k n=>
   intro u x m o i p r h;obtain⟨c,l,e,hc⟩:=lV _ o;obtain⟨d,M,e',j⟩:=lV u i;have s:c=d:=by rw[e,e']at h;exact(List.cons.inj h).1
   subst s;rcases hc with⟨O,e1,f⟩|⟨O,e1,rfl⟩|⟨O,e1,rfl⟩|⟨e1,rfl⟩|⟨e1,rfl⟩
   ·rcases j with⟨g,rfl,_⟩|⟨g,rfl,rfl⟩|⟨g,rfl,rfl⟩|⟨rfl,rfl⟩|⟨_,rfl⟩;·cases e1;simp only[ae,if_true]at h;obtain⟨rfl,rfl⟩:=qN p r h;exact⟨rfl,rfl⟩
    all_goals simp[fp]at f
   ·rcases j with⟨g,rfl,f⟩|⟨g,rfl,_⟩|⟨g,rfl,f⟩|⟨rfl,f⟩|⟨_,f⟩;·simp[fp]at f
    ·cases e1;simp[ae]at h;obtain⟨rfl,rfl⟩:=qN p r h;exact⟨rfl,rfl⟩
    all_goals simp at f
   ·rcases j with⟨g,rfl,f⟩|⟨g,rfl,f⟩|⟨g,rfl,_⟩|⟨rfl,f⟩|⟨_,f⟩;·simp[fp]at f
    ·simp at f
    ·cases e1;simp[ae]at h;obtain⟨rfl,rfl⟩:=qN p r h;exact⟨rfl,rfl⟩
    all_goals simp at f
   ·rcases j with⟨g,rfl,f⟩|⟨g,rfl,f⟩|⟨g,rfl,f⟩|⟨rfl,_⟩|⟨_,f⟩;·simp[fp]at f
    ·simp at f
    ·simp at f
    ·cases e1;simp[ae]at h;exact⟨rfl,h⟩
    ·simp at f
   ·exact absurd rfl (e1 k n)
  |two k a b C E=>
   intro u x m o i p r h;obtain⟨d,M,e',j⟩:=lV u i;have s:(40:UInt8)=d:=by rw[e']at h;exact(List.cons.inj h).1
   subst s;rcases j with⟨g,rfl,f⟩|⟨g,rfl,f⟩|⟨g,rfl,f⟩|⟨rfl,f⟩|⟨F,_⟩;·simp[fp]at f
   ·simp at f
   ·simp at f
   ·simp at f
   obtain⟨k1,k2,oa,ob⟩:=o;cases u with|leaf q g=>exact absurd rfl (F q g)|two q v w=>obtain⟨H,R,A,B⟩:=i;simp only[ae,List.cons_append,List.append_assoc,List.cons.injEq,true_and]at h;obtain⟨hs,h⟩:=h;obtain rfl:=r8 ⟨k1,by omega⟩ ⟨H,by omega⟩ hs;obtain⟨rfl,I⟩:=C v _ _ oa A (gf _ (by decide)) (gf _ (by decide)) h;have J:=(List.cons.inj I).2;obtain⟨rfl,K⟩:=E w _ _ ob B (gf _ (by decide)) (gf _ (by decide)) J;exact⟨rfl,by simpa using K⟩|three q v w P=>exfalso;obtain⟨rfl,A,B,Q⟩:=i;simp only[ae,List.cons_append,List.append_assoc,List.cons.injEq,true_and]at h;have:=r8 ⟨k1,by omega⟩ ⟨by omega,by omega⟩ h.1;omega
  |three k a b c C E S=>
   intro u x m o i p r h;obtain⟨d,M,e',j⟩:=lV u i;have s:(40:UInt8)=d:=by rw[e']at h;exact(List.cons.inj h).1
   subst s;rcases j with⟨g,rfl,f⟩|⟨g,rfl,f⟩|⟨g,rfl,f⟩|⟨rfl,f⟩|⟨F,_⟩;·simp[fp]at f
   ·simp at f
   ·simp at f
   ·simp at f
   obtain⟨rfl,oa,ob,oc⟩:=o;cases u with|leaf q g=>exact absurd rfl (F q g)|two q v w=>exfalso;obtain⟨H,R,A,B⟩:=i;simp only[ae,List.cons_append,List.append_assoc,List.cons.injEq,true_and]at h;have:=r8 ⟨by omega,by omega⟩ ⟨H,by omega⟩ h.1;omega|three q v w P=>obtain⟨rfl,A,B,Q⟩:=i;simp only[ae,List.cons_append,List.append_assoc,List.cons.injEq,true_and]at h;obtain⟨rfl,I⟩:=C v _ _ oa A (gf _ (by decide)) (gf _ (by decide)) h;have J:=(List.cons.inj I).2;obtain⟨rfl,K⟩:=E w _ _ ob B (gf _ (by decide)) (gf _ (by decide)) J;have T:=(List.cons.inj K).2;obtain⟨rfl,U⟩:=S P _ _ oc Q (gf _ (by decide)) (gf _ (by decide)) T;exact⟨rfl,by simpa using U⟩
theorem ke{t u:TD}(a:t.ok)(b:u.ok)(h:ae t=ae u):t=u:=(xp t u [] [] a b (fun _ _ e=>by cases e) (fun _ _ e=>by cases e) (by simpa using h)).1
def jN(n:Int):Prop:=-9223372036854775808≤n∧n≤9223372036854775807
theorem CI{n:Int}(h:(Lit.int Z n).wf=true):jN n:=by simp only[Lit.wf,Bool.and_eq_true,decide_eq_true_eq]at h;exact⟨Int.le_trans (by decide) h.1,Int.le_trans h.2 (by decide)⟩
theorem g_(n:Int):jN (wrap64 n):=CI (wrap64_wf n)
theorem fT{n:Int}(h:-1000000≤n∧n≤1000000):jN n:=⟨by omega,by omega⟩
theorem xB(k x a:Int):jN (dc k x a):=by
 unfold dc;repeat' split
 all_goals first|exact g_ _|exact CI (wf_bits _ _ _ _)|exact fT (by omega)
def TD.aJ:TD→Prop|.leaf k n=>(k=100∨k=101∨k=102∨(k=103∧n=0))∧jN n|.two k a b=>3≤k∧k≤12∧a.aJ∧b.aJ|.three k a b c=>k=13∧a.aJ∧b.aJ∧c.aJ
theorem TD.aJ.ok{t:TD}(h:t.aJ):t.ok:=by induction t with|leaf k n=>exact h.1|two k a b d e=>exact⟨h.1,h.2.1,d h.2.2.1,e h.2.2.2⟩|three k a b c d e f=>exact⟨h.1,d h.2.1,e h.2.2.1,f h.2.2.2⟩
theorem TD.size_pos(t:TD):1≤t.size:=by cases t<;>simp only[TD.size]<;>omega
theorem xq{t:TD}(h:t.aJ):(ae t).length≤24*t.size:=by
 induction t with
  |leaf k n=>
   have j:=Lib.itoa_length_le n h.2.1 h.2.2;simp only[ae,TD.size];repeat' split
   all_goals(try simp only[List.length_cons,List.length_nil]);omega
  |two k a b d e=>have f:=d h.2.2.1;have g:=e h.2.2.2;simp only[ae,TD.size,List.length_cons,List.length_append,List.length_nil];omega
  |three k a b c d e i=>have f:=d h.2.1;have g:=e h.2.2.1;have l:=i h.2.2.2;simp only[ae,TD.size,List.length_cons,List.length_append,List.length_nil];omega
theorem dp{n:Int}(h:jN n):(bk n).aJ:=⟨.inl rfl,h⟩
theorem e9{t:TD}{n:Int}(h:t.isNum=y n):t=bk n:=by
 cases t with
  |leaf k d=>
   simp only[TD.isNum]at h;split at h;·rename_i e;subst e;cases h;rfl
   ·cases h
  |two k a b=>cases h
  |three k a b c=>cases h
theorem dC{t:TD}{n:Int}(h:t.isNum=y n)(a:t.aJ):jN n:=by rw[e9 h]at a;exact a.2
theorem gy{t a:TD}{n:Int}(h:t.dv=y (a,n)):t=.two 3 a (bk n):=by
 cases t with
  |leaf k d=>cases h
  |two k x c=>
   simp only[TD.dv]at h;split at h;·rename_i e;subst e;cases b:c.isNum with|none=>rw[b]at h;cases h|some d=>rw[b]at h;simp only[Option.map_some,Option.some.injEq,Prod.mk.injEq]at h;obtain⟨rfl,rfl⟩:=h;rw[e9 b]
   ·cases h
  |three k x c f=>cases h
theorem sU:∀(u:TD)(k:Int),u.aJ→jN k→(eL u k).aJ:=by
 intro u;induction u with
  |leaf q n=>
   intro k d e;simp only[eL];repeat' split
   ·exact dp (g_ _)
   ·exact d
   ·exact⟨by omega,by omega,d,dp e⟩
  |two q a b f g=>
   intro k d e;simp only[eL];split;·exact d
   ·split;·exact f _ d.2.2.1 (g_ _)
    ·exact⟨by omega,by omega,d,dp e⟩
  |three q a b c=>
   intro k d e;simp only[eL];split;·exact d
   ·exact⟨by omega,by omega,d,dp e⟩
theorem uA{kind n:Int}{u t:TD}(h:aW kind u n=y t)(b:u.aJ)(d:jN n):t.aJ:=by
 unfold aW at h;repeat' split at h
 all_goals first|(cases h;done)|(simp only[Option.some.injEq]at h;subst h;first|exact b|exact sU _ _ b (g_ _)|exact dp (fT (by omega)))|skip
 cases c:u.dv with|none=>rw[c]at h;cases h|some p=>obtain⟨a,f⟩:=p;rw[c]at h;simp only[Option.map_some,Option.some.injEq]at h;subst h;have e:=gy c;subst e;exact sU _ _ b.2.2.1 (g_ _)
theorem jh{kind:Int}{u v:TD}(e:3≤kind∧kind≤11)(b:u.aJ)(d:v.aJ):(dk kind u v).aJ:=by
 unfold dk;split;·rename_i t a;cases c:v.isNum with|none=>rw[c]at a;cases a|some n=>rw[c]at a;exact uA (by simpa using a) b (dC c d)
 ·repeat' split
  ·exact dp (fT (by omega))
  ·exact b
  ·exact dp (fT (by omega))
  ·exact dp (fT (by omega))
  ·exact⟨e.1,by omega,b,d⟩
theorem yi{kind:Int}{u v:TD}(a:3≤kind∧kind≤11)(b:u.aJ)(c:v.aJ):(aX kind u v).aJ:=by
 unfold aX;split
 ·split;·exact jh a b c
  ·exact dp (xB _ _ _)
 ·split;·exact jh a c b
  ·exact jh a b c
 ·exact jh a b c
 ·split;·exact jh a c b
  ·exact jh a b c
theorem mI(e u:TD)(d:e.aJ)(f:u.aJ):(aS e u).aJ:=by
 induction e with
  |leaf k n=>exact⟨by omega,by omega,d,f⟩
  |two k a b=>exact⟨by omega,by omega,d,f⟩
  |three k c a v g h i=>
   obtain rfl:k=13:=d.1;simp only[aS];repeat' split
   ·exact d.2.2.2
   ·exact g d.2.1
   ·exact⟨by omega,by omega,d,f⟩
theorem kz(e u:TD)(d:e.aJ):(bY e u).aJ:=by
 induction e with
  |leaf k n=>exact d
  |two k a b=>exact d
  |three k c a v f g h=>
   obtain rfl:k=13:=d.1;simp only[bY];repeat' split
   ·exact d.2.1
   ·exact⟨rfl,f d.2.1,d.2.2.1,d.2.2.2⟩
   ·exact d
theorem qR(g u v:TD)(d:g.aJ)(e:u.aJ)(f:v.aJ):(cO g u v).aJ:=by
 induction g with
  |leaf k n=>exact⟨rfl,d,e,f⟩
  |two k a b=>exact⟨rfl,d,e,f⟩
  |three k c a w h i j=>
   obtain rfl:k=13:=d.1;simp only[cO];split
   ·split;·exact⟨rfl,h d.2.1,d.2.2.1,d.2.2.2⟩
    ·exact⟨rfl,d,e,f⟩
   ·exact⟨rfl,d,e,f⟩
theorem sQ(a u v:TD)(b:a.aJ)(c:u.aJ)(d:v.aJ):(bS a u v).aJ:=by
 unfold bS;split;·exact b
 ·exact qR _ _ _ (kz _ _ b) c d
end
structure bq where
 regs:List Int
 cells:List Int
 slots:List Int
 aI:List Int
 bK:Int
structure kf where
 kind:Int
 result:Int
 mem:List Int
 aI:List Int
def rg(l:List Int)(i:Int):Int:=l.getD i.toNat 0
def EW(l:List Int)(i v:Int):List Int:=l.set i.toNat v
theorem mL(l:List Int)(i v:Int):(EW l i v).length=l.length:=by simp[EW]
def bq.out(s:bq)(n:Int):bq:=⟨s.regs,s.cells,s.slots,s.aI++[n],s.bK⟩
def bq.cT(s:bq)(i v:Int):bq:=⟨EW s.regs i v,s.cells,s.slots,s.aI,s.bK⟩
def bq.cell(s:bq)(i v:Int):bq:=⟨s.regs,EW s.cells i v,s.slots,s.aI,s.bK⟩
def bq.slot(s:bq)(i v:Int):bq:=⟨s.regs,s.cells,EW s.slots i v,s.aI,s.bK⟩
def bq.die(s:bq)(t:Int):bq:=⟨s.regs,s.cells,s.slots,s.aI,t⟩
def bQ(s:bq)(o:dr):bq:=if o.kind=1 then s.cT o.a (256*o.b+o.c-32768)else if o.kind=2 then s.cT o.a (rg s.regs o.b)else if o.kind=12 then if 0≤rg s.regs o.b∧rg s.regs o.b<s.cells.length then(s.out (rg s.regs o.b)).cT o.a (rg s.cells (rg s.regs o.b))else(s.out (rg s.regs o.b)).die 2 else if o.kind=13 then if 0≤rg s.regs o.a∧rg s.regs o.a<s.cells.length then(s.out (rg s.regs o.a)).cell (rg s.regs o.a) (rg s.regs o.b)else(s.out (rg s.regs o.a)).die 2 else if o.kind=14 then s.slot o.a (rg s.regs o.b)else if o.kind=15 then s.cT o.a (rg s.slots o.b)else if o.kind=11 then if rg s.regs o.c=0 then((s.out (rg s.regs o.b)).out (rg s.regs o.c)).die 3 else((s.out (rg s.regs o.b)).out (rg s.regs o.c)).cT o.a (dc 11 (rg s.regs o.b) (rg s.regs o.c))else s.cT o.a (dc o.kind (rg s.regs o.b) (rg s.regs o.c))
def bh:List dr→bq→bq|[],s=>s|o::a,s=>if s.bK=0 then bh a (bQ s o)else s
theorem ky(l:List dr){s:bq}(h:s.bK≠0):bh l s=s:=by cases l with|nil=>rfl|cons o a=>simp[bh,h]
theorem xY(l:List dr)(o:dr)(s:bq):bh (l++[o]) s=if(bh l s).bK=0 then bQ (bh l s) o else bh l s:=by
 induction l generalizing s with
  |nil=>rfl
  |cons p b a=>
   simp only[bh,List.cons_append];by_cases h:s.bK=0;·simp only[h,if_true];exact a _
   ·simp only[h,if_false]
theorem qC{l:List dr}{k:Nat}(h:k<l.length)(s:bq):bh (l.take (k+1)) s=if(bh (l.take k) s).bK=0 then bQ (bh (l.take k) s) ⟨cD l k,oa l k,ob l k,oc l k⟩else bh (l.take k) s:=by rw[dn l oz k h,xY];rfl
theorem qA{l:List dr}{k:Nat}{s:bq}(h:(bh (l.take k) s).bK≠0):bh l s=bh (l.take k) s:=by
 have e:∀(a b:List dr)(s:bq),bh (a++b) s=bh b (bh a s):=by
  intro a;induction a with
   |nil=>intro b s;rfl
   |cons o f d=>
    intro b s;simp only[bh,List.cons_append];by_cases c:s.bK=0;·simp only[c,if_true];exact d _ _
    ·simp only[c,if_false];exact(ky b c).symm
 conv=>lhs;rw[←List.take_append_drop k l,e]
 exact ky _ h
structure cC(s:bq)(r c k:Int):Prop where
 regs:(s.regs.length:Int)=r
 cells:(s.cells.length:Int)=c
 slots:(s.slots.length:Int)=k
theorem cC.out{s:bq}{a c k:Int}(h:cC s a c k)(n:Int):cC (s.out n) a c k:=⟨h.regs,h.cells,h.slots⟩
theorem cC.die{s:bq}{a c k:Int}(h:cC s a c k)(n:Int):cC (s.die n) a c k:=⟨h.regs,h.cells,h.slots⟩
theorem cC.cT{s:bq}{a c k:Int}(h:cC s a c k)(i n:Int):cC (s.cT i n) a c k:=⟨by simp only[bq.cT,mL];exact h.regs,h.cells,h.slots⟩
theorem cC.cell{s:bq}{a c k:Int}(h:cC s a c k)(i n:Int):cC (s.cell i n) a c k:=⟨h.regs,by simp only[bq.cell,mL];exact h.cells,h.slots⟩
theorem cC.slot{s:bq}{a c k:Int}(h:cC s a c k)(i n:Int):cC (s.slot i n) a c k:=⟨h.regs,h.cells,by simp only[bq.slot,mL];exact h.slots⟩
theorem cC.step{s:bq}{a c k:Int}(h:cC s a c k)(o:dr):cC (bQ s o) a c k:=by
 unfold bQ;repeat' split
 ·exact h.cT _ _
 ·exact h.cT _ _
 ·exact(h.out _).cT _ _
 ·exact(h.out _).die _
 ·exact(h.out _).cell _ _
 ·exact(h.out _).die _
 ·exact h.slot _ _
 ·exact h.cT _ _
 ·exact((h.out _).out _).die _
 ·exact((h.out _).out _).cT _ _
 ·exact h.cT _ _
theorem Bc(s:bq)(o:dr):(bQ s o).aI.length≤s.aI.length+2:=by
 unfold bQ;repeat' split
 all_goals simp[bq.cT,bq.out,bq.die,bq.cell,bq.slot]
theorem cC.bh{s:bq}{a c k:Int}(l:List dr)(h:cC s a c k):cC (bh l s) a c k:=by
 induction l generalizing s with
  |nil=>exact h
  |cons o t b=>
   simp only[Go.Proofs.YtblhmeidbjigaabGreatDoor.bh];split;·exact b (h.step o)
   ·exact h
theorem jn(l:List dr)(s:bq):(bh l s).aI.length≤s.aI.length+2*l.length:=by
 induction l generalizing s with
  |nil=>simp[bh]
  |cons o t a=>
   simp only[bh,List.length_cons];split;·have:=a (bQ s o);have:=Bc s o;omega
   ·omega
def dN(s:bq)(e:fw):bq:=if e.kind=2 then s.out (if rg s.regs e.r=0 then 0 else 1)else s
def eh(s:bq)(e:fw):Int:=if e.kind=2 then(if rg s.regs e.r=0 then e.y else e.x)else e.x
def runN(a:List aN):Nat→Int→bq→kf|0,_,s=>⟨4,0,s.cells,s.aI⟩|f+1,i,s=>if(bh (aj a i.toNat) s).bK≠0 then⟨(bh (aj a i.toNat) s).bK,0,[],(bh (aj a i.toNat) s).aI⟩else if fX a i.toNat=3 then⟨1,rg (bh (aj a i.toNat) s).regs (gJ a i.toNat),(bh (aj a i.toNat) s).cells,(bh (aj a i.toNat) s).aI⟩else runN a f (eh (bh (aj a i.toNat) s) (b_ a i.toNat)) (dN (bh (aj a i.toNat) s) (b_ a i.toNat))
theorem cC.on{s:bq}{a c k:Int}(h:cC s a c k)(e:fw):cC (dN s e) a c k:=by
 unfold dN;split;·exact h.out _
 ·exact h
def bL(l:List Int):List Vq:=l.map (N Z)
theorem bH(l:List Int):(bL l).length=l.length:=by simp[bL]
theorem ints_set(l:List Int)(i:Nat)(v:Int):bL (l.set i v)=(bL l).set i (N Z v):=by simp[bL,List.map_set]
theorem jf(l:List Int)(v:Int):bL (l++[v])=bL l++[N Z v]:=by simp[bL]
theorem Tryz.gh:(Tryz.prog.info? 3).map (fun i=>(i.zero,i.size,i.bytes))=y (y (N Z 0),1,8):=by kernel_rfl
abbrev dX(w:W)(v:Vq)(l:List Int):Prop:=w.ownsRow 0 3 1 v l.length (bL l)
theorem dX.at{w:W}{v:Vq}{l:List Int}(h:dX w v l){i:Nat}(a:i<l.length):∃b cap,v=L (y ⟨b,0,z⟩) l.length cap∧v.ownBlock=y b∧w.cell? ⟨b,i,z⟩=y (N Z (l.getD i 0))∧∀o,w.frozen? ⟨b,o,z⟩=false:=by obtain⟨d,cap,rfl⟩:=af h;obtain⟨b,rfl,_,c,hc⟩:=cg h rfl (i:=i) (by rw[bH];exact a);refine⟨b,cap,rfl,c,?_,fun o=>gC h c o⟩;rw[hc];simp[bL,List.getD,a]
theorem dX.set{w:W}{v:Vq}{l:List Int}(h:dX w v l){g i:Nat}(a:v.ownBlock=y g)(b:i<l.length)(u:Int):dX (w.setCell ⟨g,i,z⟩ (N Z u)) v (l.set i u):=by have:=fG h a (i:=i) (by rw[bH];exact b) (N Z u);rw[←ints_set]at this;show World.ownsRow _ _ _ _ _ _ _;rw[List.length_set];exact this
theorem bO{w:W}{H:Nat}{t:TypeId}{xs:List Vq}{v:Vq}{l:List Int}(a:Row w H t xs)(h:dX w v l)(b:t≠3):v.ownBlock≠y H:=by
 intro e;rcases h.2 with⟨rfl,_⟩|⟨k,cap,d,rfl,_,c,_⟩;·simp[Value.ownBlock]at e
 ·simp only[Value.ownBlock,Option.some.injEq]at e;subst e;have:=a.symm.trans c;simp at this;exact b this.2
structure cN(K:Nat→Prop)(w:World)(rv cv sv lv:Value)(s:bq):Prop where
 regs:dX w rv s.regs
 cells:dX w cv s.cells
 slots:dX w sv s.slots
 aI:dX w lv s.aI
 rc:∀g,rv.ownBlock=some g→cv.ownBlock≠some g
 rs:∀g,rv.ownBlock=some g→sv.ownBlock≠some g
 rl:∀g,rv.ownBlock=some g→lv.ownBlock≠some g
 cs:∀g,cv.ownBlock=some g→sv.ownBlock≠some g
 cl:∀g,cv.ownBlock=some g→lv.ownBlock≠some g
 sl:∀g,sv.ownBlock=some g→lv.ownBlock≠some g
 kr:∀g,rv.ownBlock=some g→¬K g
 kc:∀g,cv.ownBlock=some g→¬K g
 ks:∀g,sv.ownBlock=some g→¬K g
 kl:∀g,lv.ownBlock=some g→¬K g
 lt:∀g,K g→g<w.heap.size
section
variable{K:Nat→Prop}{w w':World}{rv cv sv lv:Value}{s:bq}
theorem cN.same(h:cN K w rv cv sv lv s)(hs:w.heap.size≤w'.heap.size)(a:∀g,(rv.ownBlock=y g∨cv.ownBlock=y g∨sv.ownBlock=y g∨lv.ownBlock=y g)→w'.heap[g]?=w.heap[g]?):cN K w' rv cv sv lv s:=⟨d_ h.regs fun g e=>a g (.inl e),d_ h.cells fun g e=>a g (.inr (.inl e)),d_ h.slots fun g e=>a g (.inr (.inr (.inl e))),d_ h.aI fun g e=>a g (.inr (.inr (.inr e))),h.rc,h.rs,h.rl,h.cs,h.cl,h.sl,h.kr,h.kc,h.ks,h.kl,fun g b=>Nat.lt_of_lt_of_le (h.lt g b) hs⟩
theorem cN.DK(h:cN K w rv cv sv lv s){g:Nat}(a:rv.ownBlock=y g∨cv.ownBlock=y g∨sv.ownBlock=y g∨lv.ownBlock=y g):g<w.heap.size:=by
 rcases a with e|e|e|e;·exact(World.ownsRow.lt h.regs g e).2
 ·exact(World.ownsRow.lt h.cells g e).2
 ·exact(World.ownsRow.lt h.slots g e).2
 ·exact(World.ownsRow.lt h.aI g e).2
theorem cN.ab(h:cN K w rv cv sv lv s)(a:G w.heap.size w w'):cN K w' rv cv sv lv s:=h.same a.size fun g b=>a.block g (h.DK b)
theorem cN.sC(h:cN K w rv cv sv lv s){H:Nat}{t:TypeId}{xs:List Vq}(a:Row w H t xs)(b:t≠3)(i:Nat)(u:Vq):cN K (w.setCell ⟨H,i,z⟩ u) rv cv sv lv s:=h.same (by simp) fun g c=>Below.heap_setCell _ _ _ _ (fun e=>by
 subst e;rcases c with e|e|e|e;·exact bO a h.regs b e
 ·exact bO a h.cells b e
 ·exact bO a h.slots b e
 ·exact bO a h.aI b e)
theorem cN.fW(h:cN K w rv cv sv lv s){g i:Nat}(a:rv.ownBlock=y g)(b:i<s.regs.length)(u:Int):cN K (w.setCell ⟨g,i,z⟩ (N Z u)) rv cv sv lv ⟨s.regs.set i u,s.cells,s.slots,s.aI,s.bK⟩:=⟨h.regs.set a b u,bj h.cells (h.rc g a) _,bj h.slots (h.rs g a) _,bj h.aI (h.rl g a) _,h.rc,h.rs,h.rl,h.cs,h.cl,h.sl,h.kr,h.kc,h.ks,h.kl,fun g a=>by simpa using h.lt g a⟩
theorem cN.oq(h:cN K w rv cv sv lv s){g i:Nat}(a:cv.ownBlock=y g)(b:i<s.cells.length)(u:Int):cN K (w.setCell ⟨g,i,z⟩ (N Z u)) rv cv sv lv ⟨s.regs,s.cells.set i u,s.slots,s.aI,s.bK⟩:=⟨bj h.regs (fun e=>h.rc g e a) _,h.cells.set a b u,bj h.slots (h.cs g a) _,bj h.aI (h.cl g a) _,h.rc,h.rs,h.rl,h.cs,h.cl,h.sl,h.kr,h.kc,h.ks,h.kl,fun g a=>by simpa using h.lt g a⟩
theorem cN.lU(h:cN K w rv cv sv lv s){g i:Nat}(a:sv.ownBlock=y g)(b:i<s.slots.length)(u:Int):cN K (w.setCell ⟨g,i,z⟩ (N Z u)) rv cv sv lv ⟨s.regs,s.cells,s.slots.set i u,s.aI,s.bK⟩:=⟨bj h.regs (fun e=>h.rs g e a) _,bj h.cells (fun e=>h.cs g e a) _,h.slots.set a b u,bj h.aI (h.sl g a) _,h.rc,h.rs,h.rl,h.cs,h.cl,h.sl,h.kr,h.kc,h.ks,h.kl,fun g a=>by simpa using h.lt g a⟩
theorem cN.app(h:cN K w rv cv sv lv s){a:Vq}{x:Int}(n:w'.ownsRow 0 3 1 a (s.aI.length+1) (bL s.aI++[N Z x]))(j:w.grownBy w' lv.ownBlock)(k:a.ownBlock=lv.ownBlock∨a.ownBlock=y w.heap.size):cN K w' rv cv sv a (s.out x):=by
 have c:∀{v:Vq}{l:List Int},dX w v l→(∀g,v.ownBlock=y g→lv.ownBlock≠y g)→dX w' v l:=by intro v l d f;refine World.ownsRow.kept d j ?_;cases o:v.ownBlock with|none=>exact .inl rfl|some g=>exact .inr (fun e=>f g o e.symm)
 have i:∀{v:Vq}{l:List Int},dX w v l→(∀g,v.ownBlock=y g→lv.ownBlock≠y g)→∀g,v.ownBlock=y g→a.ownBlock≠y g:=by
  intro v l d f g b e;rcases k with q|q;·exact f g b (q.symm.trans e)
  ·rw[q]at e;simp only[Option.some.injEq]at e;have:=(World.ownsRow.lt d g b).2;omega
 refine⟨c h.regs h.rl,c h.cells h.cl,c h.slots h.sl,?_,h.rc,h.rs,i h.regs h.rl,h.cs,i h.cells h.cl,i h.slots h.sl,h.kr,h.kc,h.ks,?_,fun g b=>Nat.lt_of_lt_of_le (h.lt g b) j.size⟩;·show World.ownsRow _ _ _ _ _ _ _;simp only[bq.out,List.length_append,List.length_cons,List.length_nil,Nat.zero_add];rw[jf];exact n
 ·intro g e m;rcases k with q|q;·exact h.kl g (q.symm.trans e) m
  ·rw[q]at e;simp only[Option.some.injEq]at e;have:=h.lt g m;omega
theorem cN.nH(h:cN K w rv cv sv lv s)(t:Int):cN K w rv cv sv lv (s.die t):=⟨h.regs,h.cells,h.slots,h.aI,h.rc,h.rs,h.rl,h.cs,h.cl,h.sl,h.kr,h.kc,h.ks,h.kl,h.lt⟩
theorem cN.kept{K':Nat→Prop}(h:cN K w rv cv sv lv s)(b:∀g,K' g→K g∨w.heap.size≤g)(c:∀g,K' g→g<w'.heap.size)(d:G w.heap.size w w'):cN K' w' rv cv sv lv s:=by
 have n:∀{v:Vq}{l:List Int},dX w v l→(∀g,v.ownBlock=y g→¬K g)→∀g,v.ownBlock=y g→¬K' g:=by
  intro v l f i g e j;rcases b g j with q|q;·exact i g e q
  ·have:=(World.ownsRow.lt f g e).2;omega
 have a:=h.ab d;exact⟨a.regs,a.cells,a.slots,a.aI,h.rc,h.rs,h.rl,h.cs,h.cl,h.sl,n h.regs h.kr,n h.cells h.kc,n h.slots h.ks,n h.aI h.kl,c⟩
end
noncomputable section
open Classical
theorem wh{names:List Int}(a:∀x∈names,x≤1000){place:Int}(c:0≤place∧place≤1000):(cW names place).aJ:=by
 unfold cW;split;·exact⟨.inr (.inr (.inr ⟨rfl,rfl⟩)),fT (by omega)⟩
 ·split;·exact⟨.inr (.inr (.inl rfl)),fT (by omega)⟩
  ·rename_i d e;have b:names.getD place.toNat 0∈names:=cm (by omega);have:=a _ b;exact⟨.inr (.inl rfl),fT (by omega)⟩
theorem wu{regs slots:Int}{o:dr}(h:aw regs slots o=true):(o.kind=1∧(0≤o.a∧o.a<regs)∧(0≤o.b∧o.b<256)∧(0≤o.c∧o.c<256))∨((o.kind=2∨o.kind=12∨o.kind=13)∧(0≤o.a∧o.a<regs)∧(0≤o.b∧o.b<regs))∨((3≤o.kind∧o.kind≤11)∧(0≤o.a∧o.a<regs)∧(0≤o.b∧o.b<regs)∧(0≤o.c∧o.c<regs))∨(o.kind=14∧(0≤o.a∧o.a<slots)∧(0≤o.b∧o.b<regs))∨(o.kind=15∧(0≤o.a∧o.a<regs)∧(0≤o.b∧o.b<slots)):=by
 unfold aw at h;repeat' split at h
 all_goals simp[below]at h
 all_goals omega
theorem uY{regs slots:Int}{ops:List dr}(h:fQ regs slots ops=true){k:Nat}(a:k<ops.length):aw regs slots (ops.getD k oz)=true:=List.all_eq_true.1 h _ (cm a)
theorem c_{regs slots:Int}{names:List Int}{ops:List dr}(f:0≤regs∧regs≤100)(hs:0≤slots∧slots≤100)(d:∀x∈names,x≤1000)(e:fQ regs slots ops=true):∀(k:Nat),k≤ops.length→∀place:Int,0≤place→place≤regs+slots→(aD regs slots names ops k place).aJ:=by
 intro k;induction k with
  |zero=>intro _ place b c;exact wh d ⟨b,by omega⟩
  |succ k a=>
   intro g place b c;have a:=a (by omega);have h:=wu (uY e (show k<ops.length by omega));simp only[aD];generalize ops.getD k oz=o at*;repeat' split
   ·exact a place b c
   ·exact dp (fT (by omega))
   ·exact a _ (by omega) (by omega)
   ·exact a _ (by omega) (by omega)
   ·exact mI _ _ (a _ (by omega) (by omega)) (a _ (by omega) (by omega))
   ·exact sQ _ _ _ (a _ (by omega) (by omega)) (a _ (by omega) (by omega)) (a _ (by omega) (by omega))
   ·exact yi (by omega) (a _ (by omega) (by omega)) (a _ (by omega) (by omega))
theorem sV:∀(u:TD)(k:Int),(eL u k).size≤u.size+2:=by
 intro u;induction u with
  |leaf q n=>
   intro k;simp only[eL];repeat' split
   all_goals simp only[bk,TD.size];omega
  |two q a b d f=>
   intro k;simp only[eL];split;·omega
   ·split;·rename_i e _;have g:=d (wrap64 (e+k));simp only[TD.size];omega
    ·simp only[bk,TD.size];omega
  |three q a b c=>
   intro k;simp only[eL];split;·omega
   ·simp only[bk,TD.size];omega
theorem uB{kind n:Int}{u t:TD}(h:aW kind u n=y t):t.size≤u.size+2:=by
 have d:=u.size_pos;unfold aW at h;repeat' split at h
 all_goals first|(cases h;done)|(simp only[Option.some.injEq]at h;subst h;first|omega|exact sV _ _|(simp only[bk,TD.size];omega))|skip
 cases b:u.dv with|none=>rw[b]at h;cases h|some p=>obtain⟨a,c⟩:=p;rw[b]at h;simp only[Option.map_some,Option.some.injEq]at h;subst h;have e:=gy b;subst e;have:=sV a (wrap64 (c+n));simp only[bk,TD.size];omega
theorem ua(kind:Int)(u v:TD):(dk kind u v).size≤1+u.size+v.size:=by
 have c:=u.size_pos;have d:=v.size_pos;unfold dk;split;·rename_i t a;cases b:v.isNum with|none=>rw[b]at a;cases a|some n=>rw[b]at a;have:=uB (by simpa using a);omega
 ·repeat' split
  all_goals(try simp only[bk,TD.size]);omega
theorem yj(kind:Int)(u v:TD):(aX kind u v).size≤1+u.size+v.size:=by
 have a:=ua kind u v;have b:=ua kind v u;have c:=u.size_pos;unfold aX;repeat' split
 all_goals(try simp only[bk,TD.size]);omega
theorem yV(d u:TD):(aS d u).size≤1+d.size+u.size:=by
 induction d with
  |leaf k n=>simp only[aS,TD.size];omega
  |two k a b=>simp only[aS,TD.size];omega
  |three k c a v g i j=>
   by_cases f:k=13
   ·subst f;simp only[aS];repeat' split
    all_goals(try simp only[TD.size]at*);omega
   ·have e:aS (.three k c a v) u=.two 12 (.three k c a v) u:=by
     unfold aS;split;·rename_i h;cases h;exact absurd rfl f
     ·rfl
    rw[e];simp only[TD.size];omega
theorem mA(d u:TD):(bY d u).size≤d.size:=by
 induction d with
  |leaf k n=>simp only[bY];omega
  |two k a b=>simp only[bY];omega
  |three k c a v g i j=>
   by_cases f:k=13
   ·subst f;simp only[bY];repeat' split
    all_goals(try simp only[TD.size]at*);omega
   ·have e:bY (.three k c a v) u=.three k c a v:=by
     unfold bY;split;·rename_i h;cases h;exact absurd rfl f
     ·rfl
    rw[e];omega
theorem qU(d u v:TD):(cO d u v).size≤1+d.size+u.size+v.size:=by
 induction d with
  |leaf k n=>simp only[cO,TD.size];omega
  |two k a b=>simp only[cO,TD.size];omega
  |three k c a w g i j=>
   by_cases f:k=13
   ·subst f;simp only[cO];repeat' split
    all_goals(try simp only[TD.size]at*);omega
   ·have e:cO (.three k c a w) u v=.three 13 (.three k c a w) u v:=by
     unfold cO;split;·rename_i h;cases h;exact absurd rfl f
     ·rfl
    rw[e];simp only[TD.size];omega
theorem sR(a u v:TD):(bS a u v).size≤1+a.size+u.size+v.size:=by have b:=mA a u;have c:=qU (bY a u) u v;unfold bS;split<;>omega
def sF:Nat→Nat|0=>1|k+1=>1+3*sF k
theorem Cd(k:Nat):1≤sF k:=by cases k<;>simp only[sF]<;>omega
theorem gH(regs slots:Int)(names:List Int)(ops:List dr):∀(k:Nat)(place:Int),(aD regs slots names ops k place).size≤sF k:=by
 intro k;induction k with
  |zero=>
   intro place;simp only[aD,cW,sF];repeat' split
   all_goals simp only[TD.size];omega
  |succ k a=>
   intro place;have c:=Cd k;simp only[aD,sF];repeat' split
   ·have:=a place;omega
   ·simp only[bk,TD.size];omega
   ·have:=a (ops.getD k oz).b;omega
   ·have:=a (regs+(ops.getD k oz).b);omega
   ·have b:=yV (aD regs slots names ops k (regs+slots)) (aD regs slots names ops k (ops.getD k oz).b);have:=a (regs+slots);have:=a (ops.getD k oz).b;omega
   ·have b:=sR (aD regs slots names ops k (regs+slots)) (aD regs slots names ops k (ops.getD k oz).a) (aD regs slots names ops k (ops.getD k oz).b);have:=a (regs+slots);have:=a (ops.getD k oz).a;have:=a (ops.getD k oz).b;omega
   ·have b:=yj (ops.getD k oz).kind (aD regs slots names ops k (ops.getD k oz).b) (aD regs slots names ops k (ops.getD k oz).c);have:=a (ops.getD k oz).b;have:=a (ops.getD k oz).c;omega
theorem Ax{j k:Nat}(h:j≤k):sF j≤sF k:=by
 induction k with
  |zero=>obtain rfl:j=0:=(by omega);exact Rq _
  |succ k a=>
   by_cases e:j=k+1;·subst e;exact Rq _
   ·have:=a (by omega);simp only[sF];omega
end
end Go.Proofs.YtblhmeidbjigaabGreatDoor
namespace Go.Proofs
open Go.Shelf
shelf_lay LaysM.n171 Nm 171 at Tryz as Tryz.laysItoa
end Go.Proofs
namespace Go.Proofs.YtblhmeidbjigaabGreatDoor
open Go.RowKit
open Go.Value renaming int→N,slice→L,string→Tq,pointer→Pq
open Go.IntKind renaming i64→Z
open Go.Obj renaming cells→Y
open Go.Ending renaming returned→Xq
open Option renaming none→z,some→y
open Nat renaming le_refl→Rq
open Go renaming World→W,Value→Vq
open Go.RowKit renaming Below→G
section
open Go.Shelf
def TabW(w:W):Prop:=Lib.TabIs Tryz.prog w "internal/strconv.uint64pow10" .u64 Lib.pow10Tab
theorem Bf:∃g,Tryz.prog.globalNamed "internal/strconv.uint64pow10" =y g:=Option.isSome_iff_exists.1 (show(Tryz.prog.globalNamed "internal/strconv.uint64pow10").isSome=true by kernel_rfl)
theorem TabW.ab{w w':W}(h:TabW w)(a:G w.heap.size w w'):TabW w':=let⟨_,b⟩:=Bf;Joins.tab_stays b h a (Rq _)
theorem pY(w:W)(q:Nat)(os:Array Obj):G w.heap.size w (Sort.grow (w.drewN q) os):=⟨rfl,rfl,rfl,by first|(simp[Sort.grow];done)|(simp[Sort.grow];omega),fun i a=>by show((w.drewN q).heap++os)[i]?=_;rw[Array.getElem?_append_left (by show i<w.heap.size;omega)];rfl⟩
theorem lr(n:Int)(a:jN n)(w:W)(b:TabW w):Calls Tryz.prog 90 #[N Z n] w fun e w'=>e=Xq (Tq (ay (Lib.itoa n)))∧G w.heap.size w w':=(Any.strconv_Itoa Tryz.laysItoa n a.1 a.2 w b).mono fun e w'⟨c,k,os,d⟩=>⟨c,by rw[d];exact pY _ _ _⟩
def aA(w:W):TD→Nat→Prop|.leaf k n,g=>Row w g 200 [N Z k,N Z n,Pq z,Pq z,Pq z]|.two k a b,g=>∃ga d,Row w g 200 [N Z k,N Z 0,Pq (y ⟨ga,0,z⟩),Pq (y ⟨d,0,z⟩),Pq z]∧aA w a ga∧aA w b d|.three k a b c,g=>∃ga d e,Row w g 200 [N Z k,N Z 0,Pq (y ⟨ga,0,z⟩),Pq (y ⟨d,0,z⟩),Pq (y ⟨e,0,z⟩)]∧aA w a ga∧aA w b d∧aA w c e
theorem aA.ab{w w':W}{t:TD}{g:Nat}(h:aA w t g)(d:G w.heap.size w w'):aA w' t g:=by induction t generalizing g with|leaf k n=>exact Row.ab h d|two k a b e f=>obtain⟨ga,i,j,l,m⟩:=h;exact⟨ga,i,j.ab d,e l,f m⟩|three k a b c e f o=>obtain⟨ga,i,p,j,l,m,q⟩:=h;exact⟨ga,i,p,j.ab d,e l,f m,o q⟩
theorem aA.lt{w:W}{t:TD}{g:Nat}(h:aA w t g):g<w.heap.size:=by cases t with|leaf k n=>exact Row.lt h|two k a b=>obtain⟨ga,e,d,_⟩:=h;exact d.lt|three k a b c=>obtain⟨ga,e,f,d,_⟩:=h;exact d.lt
theorem aA.drewN{w:W}{t:TD}{g:Nat}(h:aA w t g)(n:Nat):aA (w.drewN n) t g:=h.ab (below_drewN (Below.refl _ _) n)
def TD.num:TD→Int|.leaf _ n=>n|_=>0
theorem aA.cM{w:W}{t:TD}{g:Nat}(h:aA w t g):w.cell? ⟨g,0,z⟩=y (N Z t.kind):=by cases t with|leaf k n=>exact Row.cell (i:=0) h rfl|two k a b=>obtain⟨ga,e,d,_⟩:=h;exact d.cell (i:=0) rfl|three k a b c=>obtain⟨ga,e,f,d,_⟩:=h;exact d.cell (i:=0) rfl
theorem aA.iu{w:W}{t:TD}{g:Nat}(h:aA w t g):w.cell? ⟨g,1,z⟩=y (N Z t.num):=by cases t with|leaf k n=>exact Row.cell (i:=1) h rfl|two k a b=>obtain⟨ga,e,d,_⟩:=h;exact d.cell (i:=1) rfl|three k a b c=>obtain⟨ga,e,f,d,_⟩:=h;exact d.cell (i:=1) rfl
theorem bI{t:TD}(h:t.aJ):t.kind=100↔t.isNum=y t.num:=by cases t with|leaf k n=>simp[TD.kind,TD.isNum,TD.num]|two k a b=>obtain⟨d,f,_⟩:=h;simp only[TD.kind,TD.isNum];constructor;omega;intro e;cases e|three k a b c=>obtain⟨d,_⟩:=h;simp only[TD.kind,TD.isNum];constructor;omega;intro e;cases e
theorem dO{t:TD}(h:t.aJ):t.kind≠100↔t.isNum=z:=by cases t with|leaf k n=>simp[TD.kind,TD.isNum]|two k a b=>obtain⟨d,e,_⟩:=h;simp only[TD.kind,TD.isNum];constructor;intro _;trivial;intro _;omega|three k a b c=>obtain⟨d,_⟩:=h;simp only[TD.kind,TD.isNum];constructor;intro _;trivial;intro _;omega
end
theorem eo(n:Int)(w:W)(a:Ending→W→Prop)(b:∀g w',aA w' (bk n) g→G w.heap.size w w'→a (Xq (Pq (y ⟨g,0,z⟩))) w'):Calls Tryz.prog 174 #[N Z n] w a:=by have c:Hid (a (Xq (Pq (y ⟨w.heap.size,0,z⟩))) (w.alloc (Y #[N Z 100,N Z n,Pq z,Pq z,Pq z] 200))):=b _ _ (heap_alloc_new w _) ((Below.refl _ _).alloc (Rq _) _);clear b;go_enter Tryz.func174,Tryz.ntmps174;go_wp2;exact c.out
theorem tS(k:Int)(a:3≤k∧k≤13)(w:W):Calls Tryz.prog 152 #[N Z k] w fun e w'=>e=Xq (Tq (ay [ia k]))∧w=w':=by
 have h:k=3∨k=4∨k=5∨k=6∨k=7∨k=8∨k=9∨k=10∨k=11∨k=12∨k=13:=by omega
 rcases h with rfl|rfl|rfl|rfl|rfl|rfl|rfl|rfl|rfl|rfl|rfl;all_goals go_enter Tryz.func152,Tryz.ntmps152;go_wp2;go_ret;exact⟨rfl,rfl⟩
theorem AZ(t:TD):∀(g:Nat)(w:W),aA w t g→t.aJ→t.size≤4000000000000→Calls Tryz.prog 151 #[Pq (y ⟨g,0,z⟩)] w fun e w'=>e=Xq (N Z t.size)∧w=w':=by
 induction t with
  |leaf k n=>
   intro g w h f hs;have r:=h.cM;have E:100≤k:=by obtain⟨f,_⟩:=f;omega
   simp only[TD.kind]at r;go_enter Tryz.func151,Tryz.ntmps151;go_wp2;go_ret;exact⟨rfl,rfl⟩
  |two k a b j l=>
   intro g w h f hs;obtain⟨ga,s,d,m,o⟩:=h;obtain⟨M,O,p,q⟩:=f;have E:¬(100≤k):=by omega
   have P:k≠13:=by omega
   simp only[TD.size]at hs⊢;have u:=j ga w m p (by omega);have v:=l s w o q (by omega);have r:=d.cell (i:=0) rfl;have c2:=d.cell (i:=2) rfl;have c3:=d.cell (i:=3) rfl;have F:=a.size_pos;have H:=b.size_pos;clear j l d m o p q;generalize a.size=x at*;generalize b.size=I at*;go_enter Tryz.func151,Tryz.ntmps151;go_wp2_with fail;refine u.mono ?_;rintro e w1⟨rfl,rfl⟩;go_wp2_with fail;refine v.mono ?_;rintro e w1⟨rfl,rfl⟩;go_wp2;go_ret;refine⟨?_,rfl⟩;congr 2
  |three k a b c j l A=>intro g w h f hs;obtain⟨ga,s,J,d,m,o,B⟩:=h;obtain⟨rfl,p,q,C⟩:=f;simp only[TD.size]at hs⊢;have u:=j ga w m p (by omega);have v:=l s w o q (by omega);have K:=A J w B C (by omega);have r:=d.cell (i:=0) rfl;have c2:=d.cell (i:=2) rfl;have c3:=d.cell (i:=3) rfl;have c4:=d.cell (i:=4) rfl;have F:=a.size_pos;have H:=b.size_pos;have hc:=c.size_pos;clear j l A d m o B p q C;generalize a.size=x at*;generalize b.size=I at*;generalize c.size=Q at*;go_enter Tryz.func151,Tryz.ntmps151;go_wp2_with fail;refine u.mono ?_;rintro e w1⟨rfl,rfl⟩;go_wp2_with fail;refine v.mono ?_;rintro e w1⟨rfl,rfl⟩;go_wp2_with fail;refine K.mono ?_;rintro e w1⟨rfl,rfl⟩;go_wp2;go_ret;refine⟨?_,rfl⟩;congr 2
end Go.Proofs.YtblhmeidbjigaabGreatDoor
