import Derived.Test.YtblhmeidbjigaabGreatDoorT09
import Derived.Test.YtblhmeidbjigaabGreatDoorT11
set_option linter.unusedSimpArgs false
set_option linter.unusedVariables false
set_option maxRecDepth 100000
set_option maxHeartbeats 8000000
namespace Go.Proofs.YtblhmeidbjigaabGreatDoor
open Go.RowKit
open Go.Value renaming int→N,slice→L,string→Tq,agg→Aq,bool→Bq,tuple→Uq
open Go.IntKind renaming i64→Z
open Go.Obj renaming cells→Y
open Go.Ending renaming returned→Xq
open Option renaming none→z,some→y
open Nat renaming le_refl→Rq
open Go renaming World→W,Value→Vq
open Go.RowKit renaming Below→G
noncomputable section
open Classical
inductive MD where|cell(u:TD)|div(u v:TD)
def zI(regs slots:Int)(names:List Int)(ops:List dr)(k:Nat):Option MD:=if(ops.getD k oz).kind=11 then y (.div (aD regs slots names ops k (ops.getD k oz).b) (aD regs slots names ops k (ops.getD k oz).c))else if(ops.getD k oz).kind=12 then y (.cell (aD regs slots names ops k (ops.getD k oz).b))else if(ops.getD k oz).kind=13 then y (.cell (aD regs slots names ops k (ops.getD k oz).a))else z
def uT(data:Int):MD→Bool
 |.cell u=>match u.isNum with|y n=>decide (0≤n∧n<data)|z=>false
 |.div u v=>match u.isNum,v.isNum with|y _,y a=>decide (a≠0)|_,_=>false
def cP(regs slots data:Int)(names:List Int)(ops:List dr):Nat→List MD|0=>[]|k+1=>match zI regs slots names ops k with|y a=>if uT data a=true∨a∈cP regs slots data names ops k then cP regs slots data names ops k else cP regs slots data names ops k++[a]|z=>cP regs slots data names ops k
def aY(ps:List bM)(n:Nat):List Int:=(List.range n).map fun(p:Nat)=>match ps.find? (fun x=>decide (x.place=(p:Int)))with|y x=>x.cT|z=>-1
theorem wJ(ps:List bM){n:Nat}{p:Int}(a:0≤p)(b:p<n):(aY ps n).getD p.toNat 0=match ps.find? (fun x=>decide (x.place=p))with|y x=>x.cT|z=>-1:=by
 have e:((p.toNat:Nat):Int)=p:=by omega
 simp only[aY,List.getD];rw[List.getElem?_map,List.getElem?_range (by omega)];simp only[Option.map_some,Option.getD_some];rw[e]
end
section
open Go.ChangeShapes Go.WideShapes Go.ChangeAt Go.Deep
theorem Tryz.zz:Tryz.prog.cellsOf 36=4:=by kernel_rfl
theorem Tryz.vW:Tryz.prog.cellsOf 40=4:=by kernel_rfl
theorem Tryz.vV:Tryz.prog.cellsOf 42=5:=by kernel_rfl
theorem Tryz.tl:Tryz.prog.cellsOf 25=5:=by kernel_rfl
theorem Tryz.BL:Tryz.prog.cellsOf 34=1:=by kernel_rfl
theorem Tryz.Ai:Tryz.prog.cellsOf 23=1:=by kernel_rfl
theorem Tryz.CQ:Tryz.prog.bytesOf 36=32:=by kernel_rfl
theorem Tryz.BG:Tryz.prog.bytesOf 42=56:=by kernel_rfl
section
variable{H:Type}{enc:TypeId×Value→H}{w:World}{spare:Nat→Bool}{held:Bool}
theorem Dc{fuel:Nat}{e:List Vq}{x:DataW H×List MemPlace}(h:DataW.trod enc Tryz.prog w 0 spare held fuel 36 e=y x):∃o:dr,e=[N Z o.kind,N Z o.a,N Z o.b,N Z o.c]:=by obtain⟨m,p,q,r,n,_,f,g,i,j,k⟩:=Go.Joins.trod_struct4 Tryz.underlying36 h;rw[Tryz.zz]at f;simp only[Tryz.jl]at g i j k;match e,f with|[s,c1,c2,c3],_=>obtain⟨a,l,_,_⟩:=DataW.trod_int Tryz.underlying3 g;obtain⟨b,e1,_,_⟩:=DataW.trod_int Tryz.underlying3 i;obtain⟨c,e2,_,_⟩:=DataW.trod_int Tryz.underlying3 j;obtain⟨d,e3,_,_⟩:=DataW.trod_int Tryz.underlying3 k;simp at l e1 e2 e3;exact⟨⟨a,b,c,d⟩,by rw[l,e1,e2,e3]⟩
theorem Ch{fuel:Nat}{e:List Vq}{x:DataW H×List MemPlace}(h:DataW.trod enc Tryz.prog w 0 spare held fuel 40 e=y x):∃o:fw,e=[N Z o.kind,N Z o.r,N Z o.x,N Z o.y]:=by obtain⟨m,p,q,r,n,_,f,g,i,j,k⟩:=Go.Joins.trod_struct4 Tryz.underlying40 h;rw[Tryz.vW]at f;simp only[Tryz.jl]at g i j k;match e,f with|[s,c1,c2,c3],_=>obtain⟨a,l,_,_⟩:=DataW.trod_int Tryz.underlying3 g;obtain⟨b,e1,_,_⟩:=DataW.trod_int Tryz.underlying3 i;obtain⟨c,e2,_,_⟩:=DataW.trod_int Tryz.underlying3 j;obtain⟨d,e3,_,_⟩:=DataW.trod_int Tryz.underlying3 k;simp at l e1 e2 e3;exact⟨⟨a,b,c,d⟩,by rw[l,e1,e2,e3]⟩
theorem Ci{fuel:Nat}{v:Vq}{x:DataW H×List MemPlace}(h:DataW.trod enc Tryz.prog w 0 spare held fuel 34 [v]=y x)(hs:∀n∈x.1.weights Tryz.prog 34,n≤reachBytes):∃ps,iH w v ps∧ps.length≤4398046511104:=by
 rcases open_slice Tryz.underlying34 h with⟨e,_⟩|⟨a,b,cap,g,n,A,B,e,_,C,E,l,m,q⟩;·simp at e;subst e;exact⟨[],⟨z,0,rfl,by simp,fun i d=>by simp at d⟩,by simp⟩
 ·simp at e;subst e;have F:b≤g:=by rw[l];split<;>omega
  have r:∀i,i<b→∃p:dr,w.cell? (a.add (i*4))=y (N Z p.kind)∧w.cell? (a.add (i*4+1))=y (N Z p.a)∧w.cell? (a.add (i*4+2))=y (N Z p.b)∧w.cell? (a.add (i*4+3))=y (N Z p.c):=by
   intro i d;obtain⟨I,hc,s⟩:=q i (by omega);rw[Tryz.zz]at hc;obtain⟨o,rfl⟩:=Dc s;have:=(jd hc).2;refine⟨o,?_,?_,?_,?_⟩;·have:=this 0 (by simp);simpa[add_add]using this
   ·have:=this 1 (by simp);simpa[add_add]using this
   ·have:=this 2 (by simp);simpa[add_add]using this
   ·have:=this 3 (by simp);simpa[add_add]using this
  obtain⟨f,j⟩:=@choose_lt dr ⟨oz⟩ b _ r;have t:b*32≤reachBytes:=by have:=hs ((b+(g-b))*32) (by rw[m];simp[DataW.weights,Tryz.underlying34,Tryz.CQ]);omega
  have u:b≤4398046511104:=by unfold reachBytes at t;omega
  refine⟨(List.range b).map f,⟨y a,cap,by simp,by simp;omega,fun i d=>?_⟩,by simpa using u⟩;have c:i<b:=by simpa using d
  obtain⟨c1,c2,c3,c4⟩:=j i c;have k:=jW (by simpa using(j 0 (by omega)).1);rw[k,Addr.add_lit]at c1 c2 c3 c4;refine⟨a.block,a.off,by rw[←k],?_,?_,?_,?_⟩;·rw[c1];simp[cD,c]
  ·rw[Nat.add_assoc,c2];simp[oa,c]
  ·rw[Nat.add_assoc,c3];simp[ob,c]
  ·rw[Nat.add_assoc,c4];simp[oc,c]
theorem Cg{fuel:Nat}{a:List Vq}{x:DataW H×List MemPlace}(h:DataW.trod enc Tryz.prog w 0 spare held fuel 42 a=y x)(hs:∀n∈x.1.weights Tryz.prog 42,n≤reachBytes):∃(o:fw)(sv:Vq)(ps:List dr),a=[sv,N Z o.kind,N Z o.r,N Z o.x,N Z o.y]∧iH w sv ps∧ps.length≤4398046511104:=by obtain⟨i,l,n,j,c,d,f⟩:=trod_struct2 Tryz.underlying42 h;rw[Tryz.vV]at c;simp only[Tryz.vW,Tryz.BL]at d f;match a,c with|[g,c1,c2,c3,c4],_=>obtain⟨o,e⟩:=Ch f;simp at e;obtain⟨ps,k,b⟩:=Ci (v:=g) (x:=i) (by simpa using d) (fun n b=>hs n (by rw[j];simp[DataW.weights,DataW.weightsEach,Tryz.underlying42];exact .inl b));exact⟨o,g,ps,by rw[e.1,e.2.1,e.2.2.1,e.2.2.2],k,b⟩
theorem AB{fuel:Nat}{v:Vq}{x:DataW H×List MemPlace}(h:DataW.trod enc Tryz.prog w 0 spare held fuel 23 [v]=y x)(hs:∀n∈x.1.weights Tryz.prog 23,n≤reachBytes):∃g,bm w v g∧g.length≤2513169434916∧∀k,k<g.length→(aj g k).length≤4398046511104:=by
 rcases open_slice Tryz.underlying23 h with⟨e,_⟩|⟨a,b,cap,q,n,Q,R,e,_,S,T,A,r,B⟩;·simp at e;subst e;exact⟨[],⟨z,0,rfl,by simp,fun i c=>by simp at c⟩,by simp,fun i c=>by simp at c⟩
 ·simp at e;subst e;have U:b≤q:=by rw[A];split<;>omega
  have C:∀i,i<b→∃p:aN,(∃sv,w.cell? (a.add (i*5))=y sv∧iH w sv p.ops)∧w.cell? (a.add (i*5+1))=y (N Z p.fin.kind)∧w.cell? (a.add (i*5+2))=y (N Z p.fin.r)∧w.cell? (a.add (i*5+3))=y (N Z p.fin.x)∧w.cell? (a.add (i*5+4))=y (N Z p.fin.y)∧p.ops.length≤4398046511104:=by
   intro i c;obtain⟨V,hc,E⟩:=B i (by omega);rw[Tryz.vV]at hc;obtain⟨o,sv,ps,rfl,F,j⟩:=Cg E (fun n j=>hs n (by rw[r];simp only[DataW.weights,Tryz.underlying23];refine List.mem_cons.2 (.inr (List.mem_append.2 (.inl ?_)));exact jC (List.mem_map.2 ⟨i,by simpa using c,rfl⟩) j));have:=(jd hc).2;refine⟨⟨ps,o⟩,⟨sv,?_,F⟩,?_,?_,?_,?_,j⟩;·have:=this 0 (by simp);simpa[add_add]using this
   ·have:=this 1 (by simp);simpa[add_add]using this
   ·have:=this 2 (by simp);simpa[add_add]using this
   ·have:=this 3 (by simp);simpa[add_add]using this
   ·have:=this 4 (by simp);simpa[add_add]using this
  obtain⟨f,l⟩:=@choose_lt aN ⟨bz⟩ b _ C;have I:b*56≤reachBytes:=by have:=hs ((b+(q-b))*56) (by rw[r];simp[DataW.weights,Tryz.underlying23,Tryz.BG]);omega
  have J:b≤2513169434916:=by unfold reachBytes at I;omega
  refine⟨(List.range b).map f,⟨y a,cap,by simp,by simp;omega,fun i c=>?_⟩,by simpa using J,fun k K=>?_⟩
  ·have m:i<b:=by simpa using c
   obtain⟨⟨sv,s,M⟩,c1,c2,c3,c4,_⟩:=l i m;obtain⟨⟨X,O,_⟩,_⟩:=l 0 (by omega);have t:=jW (by simpa using O);rw[t,Addr.add_lit]at s c1 c2 c3 c4;have P:aj ((List.range b).map f) i=(f i).ops:=by simp[aj,m]
   have d:b_ ((List.range b).map f) i=(f i).fin:=by simp[b_,m]
   refine⟨a.block,a.off,sv,by rw[←t],s,?_,?_,?_,?_,?_⟩;·rw[Nat.add_assoc,c1];unfold fX;rw[d]
   ·rw[Nat.add_assoc,c2];unfold gJ;rw[d]
   ·rw[Nat.add_assoc,c3];unfold iT;rw[d]
   ·rw[Nat.add_assoc,c4];unfold ja;rw[d]
   ·rw[P];exact M
  ·have u:k<b:=by simpa using K
   have:aj ((List.range b).map f) k=(f k).ops:=by simp[aj,u]
   rw[this];exact(l k u).2.2.2.2.2
theorem vx{P:Program}{t:TypeId}{b c d e f:Field}{fuel:Nat}{a:List Vq}{x:DataW H×List MemPlace}(o:P.underlying t=y (.struct #[b,c,d,e,f]))(h:DataW.trod enc P w 0 spare held fuel t a=y x):∃i j k l m n q,x=(.agg [i.1,j.1,k.1,l.1,m.1],q)∧a.length=P.cellsOf t∧DataW.trod enc P w 0 spare held n b.type ((a.drop b.offset).take (P.cellsOf b.type))=y i∧DataW.trod enc P w 0 spare held n c.type ((a.drop c.offset).take (P.cellsOf c.type))=y j∧DataW.trod enc P w 0 spare held n d.type ((a.drop d.offset).take (P.cellsOf d.type))=y k∧DataW.trod enc P w 0 spare held n e.type ((a.drop e.offset).take (P.cellsOf e.type))=y l∧DataW.trod enc P w 0 spare held n f.type ((a.drop f.offset).take (P.cellsOf f.type))=y m:=by obtain⟨xs,n,_,rfl,p,r,g⟩:=DataW.trod_struct o h;match xs,r with|[i,j,k,l,m],_=>exact⟨i,j,k,l,m,n,_,by simp;rfl,p,by simpa using g 0 b rfl,by simpa using g 1 c rfl,by simpa using g 2 d rfl,by simpa using g 3 e rfl,by simpa using g 4 f rfl⟩
end
theorem Tryz.tm:Tryz.prog.cellsOf 83=15:=by kernel_rfl
theorem Tryz.BM:Tryz.prog.cellsOf 9=1:=by kernel_rfl
theorem Tryz.qz:Tryz.prog.cellsOf 30=1:=by kernel_rfl
theorem Tryz.vX:Tryz.prog.cellsOf 28=1:=by kernel_rfl
theorem Tryz.Ac:Tryz.prog.bytesOf 83=224:=by kernel_rfl
structure hJ where
 kind:Int
 s:ByteArray
 t:ByteArray
 h:ByteArray
 a0:Int
 a1:Int
 a2:Int
 a3:Int
 pv:Value
 bl:List aN
 hv:Value
 hl:List aL
 av:Value
 mv:Value
 sv:Value
 la:List Int
 lm:List Int
 ls:List Int
 a:Int
 b:Int
def xu:hJ:=⟨0,⟨#[]⟩,⟨#[]⟩,⟨#[]⟩,0,0,0,0,L z 0 0,[],L z 0 0,[],L z 0 0,L z 0 0,L z 0 0,[],[],[],0,0⟩
def iU(x:hJ):List Vq:=[N Z x.kind,Tq x.s,Tq x.t,Tq x.h,N Z x.a0,N Z x.a1,N Z x.a2,N Z x.a3,x.pv,x.hv,x.av,x.mv,x.sv,N Z x.a,N Z x.b]
structure ib(w:World)(x:hJ):Prop where
 s:x.s.size≤maxLen
 t:x.t.size≤maxLen
 h:x.h.size≤maxLen
 p:bm w x.pv x.bl
 pl:x.bl.length≤2513169434916
 po:∀k,k<x.bl.length→(aj x.bl k).length≤4398046511104
 g:cj w x.hv x.hl
 gl:x.hl.length≤4398046511104
 go:∀k,k<x.hl.length→(aq x.hl k).length≤8796093022208
 ra:aM w x.av x.la
 rm:aM w x.mv x.lm
 rs:aM w x.sv x.ls
 la:x.la.length≤17592186044416
 lm:x.lm.length≤17592186044416
 ls:x.ls.length≤17592186044416
def uu(w:W)(v:Vq)(l:List hJ):Prop:=∃a cap,v=L a l.length cap∧l.length≤628292358710∧∀i,i<l.length→∃b c,a=y ⟨b,c,z⟩∧(∀j u,(iU (l.getD i xu))[j]?=y u→w.cell? ⟨b,c+i*15+j,z⟩=y u)∧ib w (l.getD i xu)
section
variable{H:Type}{enc:TypeId×Value→H}{w:World}{spare:Nat→Bool}{held:Bool}
theorem vy{P:Program}{t:TypeId}{c d e f g i j k l:Field}{fuel:Nat}{a:List Vq}{x:DataW H×List MemPlace}(C:P.underlying t=y (.struct #[c,d,e,f,g,i,j,k,l]))(h:DataW.trod enc P w 0 spare held fuel t a=y x):∃m o p r s u v A B n q,x=(.agg [m.1,o.1,p.1,r.1,s.1,u.1,v.1,A.1,B.1],q)∧a.length=P.cellsOf t∧DataW.trod enc P w 0 spare held n c.type ((a.drop c.offset).take (P.cellsOf c.type))=y m∧DataW.trod enc P w 0 spare held n d.type ((a.drop d.offset).take (P.cellsOf d.type))=y o∧DataW.trod enc P w 0 spare held n e.type ((a.drop e.offset).take (P.cellsOf e.type))=y p∧DataW.trod enc P w 0 spare held n f.type ((a.drop f.offset).take (P.cellsOf f.type))=y r∧DataW.trod enc P w 0 spare held n g.type ((a.drop g.offset).take (P.cellsOf g.type))=y s∧DataW.trod enc P w 0 spare held n i.type ((a.drop i.offset).take (P.cellsOf i.type))=y u∧DataW.trod enc P w 0 spare held n j.type ((a.drop j.offset).take (P.cellsOf j.type))=y v∧DataW.trod enc P w 0 spare held n k.type ((a.drop k.offset).take (P.cellsOf k.type))=y A∧DataW.trod enc P w 0 spare held n l.type ((a.drop l.offset).take (P.cellsOf l.type))=y B:=by obtain⟨xs,n,_,rfl,E,F,b⟩:=DataW.trod_struct C h;match xs,F with|[m,o,p,r,s,u,v,A,B],_=>exact⟨m,o,p,r,s,u,v,A,B,n,_,by simp;rfl,E,by simpa using b 0 c rfl,by simpa using b 1 d rfl,by simpa using b 2 e rfl,by simpa using b 3 f rfl,by simpa using b 4 g rfl,by simpa using b 5 i rfl,by simpa using b 6 j rfl,by simpa using b 7 k rfl,by simpa using b 8 l rfl⟩
theorem Am{a:List Vq}(h:a.length=5):∃b c1 c2 c3 c4,a=[b,c1,c2,c3,c4]:=by match a,h with|[b,c1,c2,c3,c4],_=>exact⟨b,c1,c2,c3,c4,rfl⟩
theorem yw{fuel:Nat}{e:List Vq}{x:DataW H×List MemPlace}(h:DataW.trod enc Tryz.prog w 0 spare held fuel 25 e=y x)(hs:∀n∈x.1.weights Tryz.prog 25,n≤reachBytes):∃a b c d u g,e=[N Z a,N Z b,N Z c,N Z d,u]∧bm w u g∧g.length≤2513169434916∧∀k,k<g.length→(aj g k).length≤4398046511104:=by obtain⟨B,C,E,F,r,n,q,s,f,i,j,l,m,o⟩:=vx Tryz.underlying25 h;rw[Tryz.tl]at f;obtain⟨I,c1,c2,c3,c4,rfl⟩:=Am f;simp only[Tryz.jl,Tryz.Ai]at i j l m o;obtain⟨a,p,_,_⟩:=DataW.trod_int Tryz.underlying3 i;obtain⟨b,e1,_,_⟩:=DataW.trod_int Tryz.underlying3 j;obtain⟨c,e2,_,_⟩:=DataW.trod_int Tryz.underlying3 l;obtain⟨d,e3,_,_⟩:=DataW.trod_int Tryz.underlying3 m;simp at p e1 e2 e3;obtain⟨g,k1,k2,t⟩:=AB (v:=c4) (x:=r) (by simpa using o) (fun n A=>hs n (by rw[s];simp only[DataW.weights,Tryz.underlying25,DataW.weightsEach,List.map_cons,List.map_nil,List.mem_append];exact .inr (.inr (.inr (.inr (.inl A))))));exact⟨a,b,c,d,c4,g,by rw[p,e1,e2,e3],k1,k2,t⟩
theorem wP{fuel:Nat}{c:List Vq}{x:DataW H×List MemPlace}(h:DataW.trod enc Tryz.prog w 0 spare held fuel 67 c=y x)(hs:∀n∈x.1.weights Tryz.prog 67,n≤reachBytes):∃a e s f g i,c=[a,e,s]∧aM w a f∧aM w e g∧aM w s i∧f.length≤17592186044416∧g.length≤17592186044416∧i.length≤17592186044416:=by obtain⟨p,q,r,n,d,j,k,l,m⟩:=trod_struct3 Tryz.underlying67 h;rw[Tryz.oL]at j;simp only[Tryz.xU]at k l m;match c,j with|[o,c1,c2],_=>obtain⟨t,u,A,_⟩:=mC (v:=o) (x:=p) (by simpa using k) (fun n b=>hs n (by rw[d];simp[DataW.weights,Tryz.underlying67,DataW.weightsEach];exact .inl b));obtain⟨B,C,E,_⟩:=mC (v:=c1) (x:=q) (by simpa using l) (fun n b=>hs n (by rw[d];simp[DataW.weights,Tryz.underlying67,DataW.weightsEach];exact .inr (.inl b)));obtain⟨F,I,J,_⟩:=mC (v:=c2) (x:=r) (by simpa using m) (fun n b=>hs n (by rw[d];simp[DataW.weights,Tryz.underlying67,DataW.weightsEach];exact .inr (.inr b)));exact⟨o,c1,c2,t,B,F,rfl,u,C,I,A,E,J⟩
theorem yt{fuel:Nat}{a:List Vq}{x:DataW H×List MemPlace}(h:DataW.trod enc Tryz.prog w 0 spare held fuel 30 a=y x)(hs:∀n∈x.1.weights Tryz.prog 30,n≤reachBytes):∃u g,a=[u]∧cj w u g∧g.length≤4398046511104∧∀k,k<g.length→(aq g k).length≤8796093022208:=by obtain⟨e,n,f,b,c⟩:=trod_struct1 Tryz.underlying30 h;rw[Tryz.qz]at b;simp only[Tryz.vX]at c;match a,b with|[d],_=>obtain⟨g,k1,k2,i⟩:=AD (v:=d) (x:=e) (by simpa using c) (fun n j=>hs n (by rw[f];simp only[DataW.weights,Tryz.underlying30,DataW.weightsEach,List.map_cons,List.map_nil,List.mem_append];exact .inl j));exact⟨d,g,rfl,k1,k2,i⟩
theorem AF{fuel:Nat}{e:List Vq}{x:DataW H×List MemPlace}(h:DataW.trod enc Tryz.prog w 0 spare held fuel 83 e=y x)(hs:∀n∈x.1.weights Tryz.prog 83,n≤reachBytes):∃o:hJ,e=iU o∧ib w o:=by obtain⟨am,an,ao,ap,aq,ar,au,av,aw,n,q,f,i,j,l,m,p,r,s,t,v,A⟩:=vy Tryz.underlying83 h;rw[Tryz.tm]at i;simp only[Tryz.jl,Tryz.BM,Tryz.tl,Tryz.qz,Tryz.oL]at j l m p r s t v A;match e,i with|[ax,c1,c2,c3,c4,c5,ay,az,aA,aB,aC,aD,aE,aF,aG],_=>obtain⟨k,B,_,_⟩:=DataW.trod_int Tryz.underlying3 j;obtain⟨F,e1,_,I⟩:=DataW.trod_string Tryz.underlying9 l;obtain⟨J,e2,_,K⟩:=DataW.trod_string Tryz.underlying9 m;obtain⟨M,e3,_,O⟩:=DataW.trod_string Tryz.underlying9 p;obtain⟨a,C,_,_⟩:=DataW.trod_int Tryz.underlying3 v;obtain⟨b,E,_,_⟩:=DataW.trod_int Tryz.underlying3 A;simp at B e1 e2 e3 C E;obtain⟨P,Q,R,S,u,g,e4,T,U,V⟩:=yw r (fun n c=>hs n (by rw[f];simp only[DataW.weights,Tryz.underlying83,DataW.weightsEach,List.map_cons,List.map_nil,List.mem_append];exact .inr (.inr (.inr (.inr (.inl c))))));obtain⟨u2,g2,e5,X,aa,ab⟩:=yt s (fun n c=>hs n (by rw[f];simp only[DataW.weights,Tryz.underlying83,DataW.weightsEach,List.map_cons,List.map_nil,List.mem_append];exact .inr (.inr (.inr (.inr (.inr (.inl c)))))));obtain⟨ac,mv,sv,ad,ae,af,d,ag,ah,ai,aj,ak,al⟩:=wP t (fun n c=>hs n (by rw[f];simp only[DataW.weights,Tryz.underlying83,DataW.weightsEach,List.map_cons,List.map_nil,List.mem_append];exact .inr (.inr (.inr (.inr (.inr (.inr (.inl c))))))));simp at e4 e5 d;refine⟨⟨k,F,J,M,P,Q,R,S,u,g,u2,g2,ac,mv,sv,ad,ae,af,a,b⟩,?_,⟨I,K,O,T,U,V,X,aa,ab,ag,ah,ai,aj,ak,al⟩⟩;simp only[iU];rw[B,e1,e2,e3,C,E,e4.1,e4.2.1,e4.2.2.1,e4.2.2.2.1,e4.2.2.2.2,e5,d.1,d.2.1,d.2.2]
theorem yx{fuel:Nat}{v:Vq}{x:DataW H×List MemPlace}(h:DataW.trod enc Tryz.prog w 0 spare held fuel 73 [v]=y x)(hs:∀n∈x.1.weights Tryz.prog 73,n≤reachBytes):∃g,uu w v g:=by
 rcases open_slice Tryz.underlying73 h with⟨e,_⟩|⟨a,b,cap,k,n,O,P,e,_,Q,R,s,l,t⟩;·simp at e;subst e;exact⟨[],z,0,rfl,by simp,fun i c=>by simp at c⟩
 ·simp at e;subst e;have S:b≤k:=by rw[s];split<;>omega
  have A:∀i,i<b→∃p:hJ,(∀j u,(iU p)[j]?=y u→w.cell? (a.add (i*15+j))=y u)∧ib w p:=by intro i c;obtain⟨T,hc,B⟩:=t i (by omega);rw[Tryz.tm]at hc;obtain⟨o,rfl,ho⟩:=AF B (fun n C=>hs n (by rw[l];simp only[DataW.weights,Tryz.underlying73];refine List.mem_cons.2 (.inr (List.mem_append.2 (.inl ?_)));exact jC (List.mem_map.2 ⟨i,by simpa using c,rfl⟩) C));have E:=(jd hc).2;refine⟨o,fun j u d=>?_,ho⟩;obtain⟨F,I⟩:=List.getElem?_eq_some_iff.1 d;have:=E j (by simpa using F);rw[add_add]at this;rw[this];simpa using I
  obtain⟨f,m⟩:=@choose_lt hJ ⟨xu⟩ b _ A;have J:b*224≤reachBytes:=by have:=hs ((b+(k-b))*224) (by rw[l];simp[DataW.weights,Tryz.underlying73,Tryz.Ac]);omega
  have K:b≤628292358710:=by unfold reachBytes at J;omega
  refine⟨(List.range b).map f,y a,cap,by simp,by simpa using K,fun i c=>?_⟩;have q:i<b:=by simpa using c
  obtain⟨c1,c2⟩:=m i q;have r:=jW (by have:=(m 0 (by omega)).1 0 _ rfl;simpa using this);have M:((List.range b).map f).getD i xu=f i:=by simp[List.getD,q]
  rw[M];refine⟨a.block,a.off,by rw[←r],fun j u d=>?_,c2⟩;have:=c1 j u d;rw[r,Addr.add_lit]at this;rw[Nat.add_assoc];exact this
theorem open_steps_arg{v:Vq}{d:DataW H}{p:List MemPlace}{b:Reach}{c:Nat}(e:Value.okWide Tryz.prog w b c 73 v)(h:DataW.Trod enc Tryz.prog w 0 spare held 73 v d p)(hs:∀n∈d.weights Tryz.prog 73,n≤reachBytes):∃l,uu w v l:=by obtain⟨a,g,cap,rfl⟩:=okWide_slice Tryz.underlying73 e;obtain⟨fuel,f⟩:=h;exact yx (x:=(d,p)) (by simpa[Value.cells]using f) hs
end
end
section
variable{P:Program}{md:Region.Mode}{ops:Array Oper}{w:World}
theorem Au{n:Nat}(p:Nat→Prop):∀(d i:Nat),n-i=d→i<n→p i→∃a,a<n∧p a∧∀j,a<j→j<n→¬p j:=by
 intro d;induction d using Nat.strongRecOn with
  |_ d f=>
   intro i l g k;by_cases h:∃j,i<j∧j<n∧p j;·obtain⟨j,e,b,c⟩:=h;exact f (n-j) (by omega) j rfl b c
   ·exact⟨i,g,k,fun j e b c=>h ⟨j,e,b,c⟩⟩
def zM(md:Region.Mode)(ops:Array Oper)(n:Nat):Bool:=(List.range n).all fun i=>decide (i=0)||(List.range (n+1)).any fun j=>decide (i<j)&&Region.waitsFor md ops j i
theorem EO{n:Nat}{a:Array Bool}(hs:zM md ops n=true)(hc:Region.chainB md ops n=true)(d:HeadInv md ops n a)(hz:a.getD 0 false=true){i:Nat}(w:i<n)(x:a.getD i true=false){t:Nat}(U:n≤t):t∉Region.ready md ops a:=by
 obtain⟨f,A,g,B⟩:=Au (n:=n) (fun k=>a.getD k true=false) _ i rfl w x;have C:f≠0:=fun e=>by subst e;have:=getD_both g;rw[hz]at this;cases this
 have b:=List.all_eq_true.1 hs f (List.mem_range.2 A);rw[Bool.or_eq_true]at b;rcases b with b|b;·exact absurd (of_decide_eq_true b) C
 obtain⟨j,E,h⟩:=List.any_eq_true.1 b;rw[Bool.and_eq_true]at h;have F:f<j:=of_decide_eq_true h.1;obtain⟨p,l,e,m,r,s⟩:=Region.waitsFor_spec h.2;have V:j≤n:=by have:=List.mem_range.1 E;omega
 intro H;obtain⟨_,I,o,u⟩:=mem_ready.1 H;have J:t<ops.size:=(Array.getElem?_eq_some_iff.1 o).1;have K:j=n:=by
  by_cases q:j=n;·exact q
  ·exfalso;have M:j<a.size:=by rw[d.size];omega
   have O:=B j F (by omega);have P:a.getD j false=true:=by cases Q:a.getD j false with|true=>rfl|false=>exact absurd (getD_in M Q) O
   have:=d.closed j p l P e m r;rw[s,getD_both g]at this;cases this
 by_cases q:t=n
 ·have e1:p=I:=by rw[K,←q]at l;exact Option.some.inj (l.symm.trans o)
  rw[e1]at m;have:=u e m r;rw[s,getD_both g]at this;cases this
 ·have c:=List.all_eq_true.1 hc t (List.mem_range.2 J);rw[Bool.or_eq_true]at c;rcases c with c|c;·have:=of_decide_eq_true c;omega
  ·obtain⟨X,R,e',v,S,T⟩:=Region.waitsFor_spec c;rw[Option.some.inj (R.symm.trans o)]at v;have:=u e' v S;rw[T,getD_both (d.tail (t-1) (by omega) (by omega))]at this;cases this
theorem yb{n i:Nat}{oi:Oper}{v:Vq}{s:Array Bool→Act→Prop}(t:ops[i]?=y oi)(B:∀(j:Nat)(o:Oper)m b,ops[j]?=y o→o.op≠.select m b)(hs:zM md ops n=true)(hc:Region.chainB md ops n=true)(u:i<n)(J:∀c a,s c a→∀j∈Region.ready md ops c,n≤j)(f:Nat):∀(c:Array Bool)(a:Act),HeadInv md ops n c→c.getD 0 false=true→(∀j g,ops[j]?=y g→j≠i→c.getD j true=false→(∀e∈g.after,Region.binds md e=true→e.on≠i)→oi.apart ops g=true)→i∈Region.ready md ops c→YieldsAt P ops w oi v a→wpAnyL P md ops w n s f (c.setIfInBounds i true) (a.put oi.dst v)→wpAnyL P md ops w n s (f+1) c a:=by
 induction f with
  |zero=>
   intro c a p hz _ d r H;refine⟨fun h=>(by rw[h]at d;cases d),fun j l=>?_⟩;have x:j<n:=Nat.lt_of_not_le fun h=>EO hs hc p hz u (mem_ready.1 d).1 h l;by_cases q:j=i;·rw[q];exact⟨u,r.stOp t H⟩
   ·have:=J _ _ H j (ready_mono l q);omega
  |succ f K=>
   intro c a p hz C d r H;refine⟨fun h=>(by rw[h]at d;cases d),fun j l=>?_⟩;have E:=(mem_ready.1 d).1;have x:j<n:=Nat.lt_of_not_le fun h=>EO hs hc p hz u E h l;refine⟨x,?_⟩;by_cases q:j=i;·rw[q];exact r.stOp t H
   ·obtain⟨F,g,A,M⟩:=mem_ready.1 l;have O:∀e∈g.after,Region.binds md e=true→e.on≠i:=fun e Q R S=>by have:=M e Q R;rw[S,getD_both E]at this;cases this
    have step:=stOp_put A (C j g A q F O) (fun m b=>B i oi m b t) (fun m b=>B j g m b A) r (H.2 j (ready_mono l q)).2;refine stOp_mono (fun T I=>?_) step;refine K _ T (p.set l x) (getD_set_true hz) (fun k U V X aa ab=>C k U V X ?_ ab) (ready_mono d (Ne.symm q)) I.1 ?_
    ·by_cases e:j=k;·rw[←e];exact F
     ·rwa[getD_set_ne true e]at aa
    ·rw[Array.setIfInBounds_comm _ _ q];exact I.2
theorem BZ{n g:Nat}{d:Act→Prop}(q:Region.noSelect ops=true)(hs:zM md ops n=true)(hc:Region.chainB md ops n=true)(l:List Oper):∀(k:Nat)(b:Array Bool)(a:Act),(∀j,j<l.length→l[j]?=ops[k+j]?)→k+l.length=n→HeadInv md ops n b→b.getD 0 false=true→Region.lexHead md ops g l.length k b=true→wpStill P ops w d l a→wpAnyL P md ops w n (fun r s=>Region.seqB md ops g n r=true∧d s) l.length b a:=by
 induction l with
  |nil=>
   intro k b a _ e _ _ c h;have:k=n:=by simpa using e
   rw[←this];exact⟨c,h⟩
  |cons o l t=>
   intro k b a f e i hz c h;have ho:ops[k]?=y o:=by have:=f 0 (Nat.zero_lt_succ _);simpa using this.symm
   simp only[List.length_cons]at e c⊢;unfold Region.lexHead at c;simp only[Bool.and_eq_true]at c;have m:k<n:=by omega
   have p:k∈Region.ready md ops b:=by simpa using c.1.1
   have u:stOp P ops w k (wpStill P ops w d l) a:=by unfold stOp;rw[ho];exact h
   obtain⟨v,x,A⟩:=yieldsAt_of_stOp ho u;refine yb ho (Region.noSelect_spec q) hs hc m (fun _ _ B=>seqB_ready B.1) _ b a i hz (Region.free_spec ho c.1.2) p x ?_;refine t (k+1) _ _ (fun j C=>?_) (by omega) (i.set p m) (getD_set_true hz) c.2 A;have:=f (j+1) (by simp;omega);rw[List.getElem?_cons_succ]at this;rw[this];congr 1;omega
def tK(ops:Array Oper)(n:Nat):Bool:=Region.noSelect ops&&decide (1≤n)&&decide (n<ops.size)&&Region.free .any ops (Array.replicate ops.size false) 0&&(Region.ready .any ops (Array.replicate ops.size false)).contains 0&&zM .any ops n&&Region.chainB .any ops n&&Region.lexHead .any ops (ops.size-n) (n-1) 1 ((Array.replicate ops.size false).setIfInBounds 0 true)
theorem vz{id:Nat}{b:Exit→Act→W→Prop}{a:Act}{w:W}{o:Oper}{l:List Oper}(n:Nat)(v:Vq)(u:P.follows .mixedOrders=true)(f:tK (o::l).toArray n=true)(x:∀c a w,b (.panic c) (a.put o.dst v) w→b (.panic c) a w)(A:Yields P (o::l).toArray o v a)(h:wpStill P (o::l).toArray w.drew (fun e=>wpList P (o::l).toArray b ((o::l).drop n) e w.drew) (l.take (n-1)) (a.put o.dst v)):(Code.region id (o::l).toArray true).wp P b a w:=by
 simp only[tK,Bool.and_eq_true,decide_eq_true_eq]at f;obtain⟨⟨⟨⟨⟨⟨⟨k,O⟩,B⟩,C⟩,m⟩,hs⟩,hc⟩,E⟩:=f;refine wp_region_any u ?_;have F:(o::l).toArray.size=l.length+1:=by simp
 have Q:n≤l.length:=by rw[F]at B;omega
 have R:0<(o::l).toArray.size:=by omega
 have I:HeadInv .any (o::l).toArray n ((Array.replicate (o::l).toArray.size false).setIfInBounds 0 true):=by have J:HeadInv .any (o::l).toArray n (Array.replicate (o::l).toArray.size false):=⟨by simp,fun j S _ p=>(by rw[getD_replicate_false]at p;cases p),fun t _ K=>getD_in (by simpa using K) (getD_replicate_false _ _)⟩;exact J.set (by simpa using m) (by omega)
 have hz:((Array.replicate (o::l).toArray.size false).setIfInBounds 0 true).getD 0 false=true:=by simp
 have d:(l.take (n-1)).length=n-1:=by rw[List.length_take];omega
 have H:=BZ (P:=P) (md:=.any) (w:=w.drew) (g:=(o::l).toArray.size-n) k hs hc (l.take (n-1)) 1 _ (a.put o.dst v) (fun j q=>by rw[d]at q;rw[Nat.add_comm 1 j];simp[List.getElem?_take,q]) (by rw[d];omega) I hz (by rw[d];exact E) h;have:=wpAny_of_head (Q':=b) (g:=(o::l).toArray.size-n) (fun M e r=>by have:=wpAny_of_seq (md:=.any) (Q':=b) ((o::l).drop n) n M e w.drew (fun j=>by simp[List.getElem?_drop]) (by rw[show((o::l).drop n).length=(o::l).toArray.size-n by simp];exact r.1) r.2;rwa[show((o::l).drop n).length=(o::l).toArray.size-n by simp]at this) _ _ _ H;rw[d]at this;have s:wpAny P .any (o::l).toArray b ((n-1)+((o::l).toArray.size-n)+1) (Array.replicate (o::l).toArray.size false) a w.drew:=wpAny_take (i:=0) (oi:=o) (v:=v) (by simp) k C (by simpa using m) x A this;rw[show(n-1)+((o::l).toArray.size-n)+1=(o::l).toArray.size by omega]at s;exact s
end
theorem nz(aE aF aG aI:Int)(v:Vq)(d:List (aN×Vq))(w:W)(base:Nat)(mark:Int)(I:aC w base v d)(a8:base≤w.heap.size)(aJ:d.length≤1000)(aK:∀x∈d,x.1.ops.length≤1000)(a9:0≤mark∧mark≤4611686018427387904)(S:Nat→Prop)(aL:∀g,v.ownBlock=y g→S g)(aM:∀x∈d,∀g,x.2.ownBlock=y g→S g):Calls Tryz.prog 74 #[Aq #[N Z aE,N Z aF,N Z aG,N Z aI,v],N Z mark] w fun e w'=>e=Xq (Bq true)∧(∃ab,aC w' base v ab∧ab.length≤1000∧∀x∈ab,x.1.ops.length≤1000)∧aH S w w':=by
 obtain⟨an,cap,rfl⟩:=af I.row;go_enter Tryz.func74,Tryz.ntmps74;go_wp2;go_loopw[5](fun i wr=>∃(k:Nat)(c:List (aN×Vq)),k≤d.length∧i=N Z k∧Hid (c.length=d.length)∧Hid (∀x∈c,x.1.ops.length≤1000)∧Hid (∀x∈c,∀g,x.2.ownBlock=y g→g<w.heap.size∧S g)∧xG mark k c∧aC wr base (L an d.length cap) c∧wr.cell? ⟨w.heap.size,4,z⟩=y (L an d.length cap)∧aH S w wr∧w.heap.size+1≤wr.heap.size)(fun i _=>d.length-(intOf i).toNat);case atStart=>exact⟨0,d,Nat.zero_le _,rfl,rfl,aK,fun x f g ao=>⟨((I.each x f).lt g ao).2,aM x f g ao⟩,fun i C a_=>by omega,I.alloc _,by simp,(aH.refl _ _).alloc _,by simp⟩
 case round=>
  obtain⟨k,c,ba,rfl,m,p,u,r,ho,J,E,hz⟩:=hrel;have ap:w.heap.size<wr.heap.size:=by omega
  by_cases aq:k<d.length;case neg=>
   obtain⟨q,ac⟩:∃q,q=wr:=⟨_,rfl⟩;subst ac;have aO:xG mark c.length c:=fun i C _=>r i C (by have:=m.out;omega);go_wp2;clear r I;go_loop[7](fun i=>∃(j:Nat),j≤d.length∧i=N Z j)(fun i=>d.length-(intOf i).toNat);case atStart=>exact⟨0,Nat.zero_le _,rfl⟩
   case round=>
    obtain⟨j,aP,rfl⟩:=hrel;by_cases aQ:j<d.length;case neg=>go_wp2;go_ret;exact⟨rfl,⟨_,ho,(by rw[m.out];exact aJ),(by first|exact p.out|exact fun a b h=>p.out (a,b) h)⟩,E⟩
    have K:j<c.length:=by rw[m.out];exact aQ
    obtain⟨b,rfl,aR,c2,c1,c3,c4,c5,A⟩:=gV ho K;have s:=ho.each _ (List.getElem_mem K);have ad:=p.out _ (List.getElem_mem K);have ae:=aO j K K;rw[ae.1]at c1;have aS:Hid (∀i,i<c[j].1.ops.length→cD c[j].1.ops i=mark+j):=ae.2;obtain⟨ag,ah,t⟩:=af s;rw[t]at c2 s;clear ae t;generalize c[j].1.ops=ps at*;have bb:(mark+(j:Int)!=mark+(j:Int))=false:=by simp
    go_wp2;go_loop[8](fun i=>∃(F:Nat),F≤ps.length∧i=N Z F)(fun i=>ps.length-(intOf i).toNat);case atStart=>exact⟨0,Nat.zero_le _,rfl⟩
    case round=>
     obtain⟨F,bc,rfl⟩:=hrel;by_cases ar:F<ps.length
     ·obtain⟨g,rfl,aT,d1,d2,d3,d4,M⟩:=lB s ar;rw[aS.out F ar]at d1;go_wp2;go_round;case rel=>exact⟨F+1,by omega,by go_num⟩
      case measure=>simp[intOf];omega
     ·go_wp2;go_round;case rel=>exact⟨j+1,by omega,by go_num⟩
      case measure=>simp[intOf];omega
  obtain⟨q,ac⟩:∃q,q=wr:=⟨_,rfl⟩;subst ac;have l:k<c.length:=by rw[m.out];exact aq
  obtain⟨b,rfl,aR,c2,c1,c3,c4,c5,A⟩:=gV ho l;have bd:b<w.heap.size:=((I.row).lt b rfl).2;have aU:=A (k*5+1);have aV:=A (k*5+2);have aW:=A (k*5+3);have aX:=A (k*5+4);have au:=ho.DZ l (mark+k) 0 0 0;have av:=r.set (⟨c[k].1.ops,⟨mark+k,0,0,0⟩⟩,c[k].2);have aw:Hid ((c.set k (⟨c[k].1.ops,⟨mark+k,0,0,0⟩⟩,c[k].2)).length=d.length):=by show List.length _=_;rw[List.length_set];exact m.out
  have ax:Hid (∀x∈c.set k (⟨c[k].1.ops,⟨mark+k,0,0,0⟩⟩,c[k].2),x.1.ops.length≤1000):=by
   intro x f;rcases List.mem_or_eq_of_mem_set f with f|rfl;·exact p.out x f
   ·exact p.out c[k] (List.getElem_mem l)
  have ay:Hid (∀x∈c.set k (⟨c[k].1.ops,⟨mark+k,0,0,0⟩⟩,c[k].2),∀g,x.2.ownBlock=y g→g<w.heap.size∧S g):=by
   intro x f;rcases List.mem_or_eq_of_mem_set f with f|rfl;·exact u.out x f
   ·exact u.out c[k] (List.getElem_mem l)
  have H:Hid (fX (dT (c.set k (⟨c[k].1.ops,⟨mark+k,0,0,0⟩⟩,c[k].2))) k=mark+k):=by show fX _ _=_;unfold fX;rw[(gF _ (by rw[List.length_set];exact l)).2,List.getElem_set_self]
  have P:(jF q b (k*5+1) (mark+k) 0 0 0).cell? ⟨w.heap.size,4,z⟩=y (L (y ⟨b,0,z⟩) d.length cap):=oK (by simp;omega) J;have Q:=E.jF (o:=k*5+1) (.inl (aL b rfl)) (mark+k) 0 0 0;have R:w.heap.size+1≤(jF q b (k*5+1) (mark+k) 0 0 0).heap.size:=by rw[ub];exact hz
  have O:Hid (jF q b (k*5+1) (mark+k) 0 0 0=(((q.setCell ⟨b,k*5+1,z⟩ (N Z (mark+k))).setCell ⟨b,k*5+2,z⟩ (N Z 0)).setCell ⟨b,k*5+3,z⟩ (N Z 0)).setCell ⟨b,k*5+4,z⟩ (N Z 0)):=rfl;go_wp2;rw[←O.out];clear O;generalize c.set k (⟨c[k].1.ops,⟨mark+k,0,0,0⟩⟩,c[k].2)=aY at*;generalize jF q b (k*5+1) (mark+k) 0 0 0=w1 at*;clear r m p u ho J E hz ap l c1 c2 c3 c4 c5 A aU aV aW aX c q;go_loopw[6](fun i T=>∃(j:Nat)(c:List (aN×Vq)),j≤1000∧i=N Z j∧Hid (c.length=d.length)∧Hid (∀x∈c,x.1.ops.length≤1000)∧Hid (∀x∈c,∀g,x.2.ownBlock=y g→g<w.heap.size∧S g)∧xG mark k c∧Hid (fX (dT c) k=mark+k)∧Hid (j≤(aj (dT c) k).length∧∀i,i<j→cD (aj (dT c) k) i=mark+k)∧aC T base (L (y ⟨b,0,z⟩) d.length cap) c∧T.cell? ⟨w.heap.size,4,z⟩=y (L (y ⟨b,0,z⟩) d.length cap)∧aH S w T∧w.heap.size+1≤T.heap.size)(fun i _=>1000-(intOf i).toNat);case atStart=>exact⟨0,aY,by omega,rfl,aw,ax,ay,av,H,⟨Nat.zero_le _,fun i C=>by omega⟩,au,P,Q,R⟩
  case round=>
   clear aw ax ay av H au P Q R;obtain⟨j,c,aP,rfl,m,p,u,r,H,ai,ho,J,E,hz⟩:=hrel;have l:k<c.length:=by rw[m.out];exact aq
   have ap:w.heap.size<wr.heap.size:=by omega
   obtain⟨be,az,_,c2,c1,c3,c4,c5,A⟩:=gV ho l;simp only[Option.some.injEq,Addr.mk.injEq,and_true]at az;obtain rfl:=az;have s:=ho.each _ (List.getElem_mem l);have ad:=p.out _ (List.getElem_mem l);have ak:=u.out _ (List.getElem_mem l);have U:Hid (aj (dT c) k=c[k].1.ops∧b_ (dT c) k=c[k].1.fin):=gF c l;obtain⟨ag,ah,t⟩:=af s;have V:Hid (j≤c[k].1.ops.length∧∀i,i<j→cD c[k].1.ops i=mark+k):=by have:=ai.out;rw[U.out.1]at this;exact this
   have X:Hid (c[k].1.fin.kind=mark+k):=by have:=H.out;unfold fX at this;rw[U.out.2]at this;exact this
   have aA:Hid (c[k].2=L ag c[k].1.ops.length ah):=t;rw[t]at c2;obtain⟨n,B⟩:∃n,n=c[k].1.ops.length:=⟨_,rfl⟩;rw[←B]at c2;have aB:Hid (n=c[k].1.ops.length):=B;have bf:n≤1000:=by rw[B];exact ad
   by_cases bg:j<n;case neg=>
    have al:xG mark (k+1) c:=by
     intro i C bh;by_cases e:i=k;·subst e;exact⟨X.out,fun aZ bi=>V.out.2 aZ (by omega)⟩
     ·exact r i C (by omega)
    clear t B ai H V X r U aA aB s;go_wp2;go_roundw;case rel=>exact⟨k+1,c,by omega,by go_num,m,p,u,al,ho,J,E,hz⟩
    case measure=>simp[intOf];omega
   have aD:wr.ownsRow base 36 4 (L ag n ah) c[k].1.ops.length (bB c[k].1.ops):=by rw[t,←B]at s;rw[←B];exact s
   obtain⟨g,rfl,aT,d1,d2,d3,d4,M⟩:=lB aD (j:=j) (by omega);have bj:=M (j*4);have bk:=M (j*4+1);have bl:=M (j*4+2);have bm:=M (j*4+3);have am:c[k].2.ownBlock=y g:=by rw[t];rfl
   have bn:g<w.heap.size:=(ak g am).1;have a0:=(ak g am).2;have a1:=ho.EU l am (j:=j) (by omega) (mark+k) 0 0 0;have al:=r.set (⟨c[k].1.ops.set j ⟨mark+k,0,0,0⟩,c[k].1.fin⟩,c[k].2);have a2:Hid ((c.set k (⟨c[k].1.ops.set j ⟨mark+k,0,0,0⟩,c[k].1.fin⟩,c[k].2)).length=d.length):=by show List.length _=_;rw[List.length_set];exact m.out
   have a3:Hid (∀x∈c.set k (⟨c[k].1.ops.set j ⟨mark+k,0,0,0⟩,c[k].1.fin⟩,c[k].2),x.1.ops.length≤1000):=by
    intro x f;rcases List.mem_or_eq_of_mem_set f with f|rfl;·exact p.out x f
    ·show List.length (List.set _ _ _)≤1000;rw[List.length_set];exact ad
   have a4:Hid (∀x∈c.set k (⟨c[k].1.ops.set j ⟨mark+k,0,0,0⟩,c[k].1.fin⟩,c[k].2),∀g,x.2.ownBlock=y g→g<w.heap.size∧S g):=by
    intro x f;rcases List.mem_or_eq_of_mem_set f with f|rfl;·exact u.out x f
    ·exact ak
   have aa:=gF (c.set k (⟨c[k].1.ops.set j ⟨mark+k,0,0,0⟩,c[k].1.fin⟩,c[k].2)) (i:=k) (by rw[List.length_set];exact l);rw[List.getElem_set_self]at aa;have a5:Hid (fX (dT (c.set k (⟨c[k].1.ops.set j ⟨mark+k,0,0,0⟩,c[k].1.fin⟩,c[k].2))) k=mark+k):=by show fX _ _=_;unfold fX;rw[aa.2];exact X.out
   have a6:Hid (j+1≤(aj (dT (c.set k (⟨c[k].1.ops.set j ⟨mark+k,0,0,0⟩,c[k].1.fin⟩,c[k].2))) k).length∧∀i,i<j+1→cD (aj (dT (c.set k (⟨c[k].1.ops.set j ⟨mark+k,0,0,0⟩,c[k].1.fin⟩,c[k].2))) k) i=mark+k):=by
    show _∧_;rw[aa.1];refine⟨by simp only[List.length_set];omega,fun i C=>?_⟩;by_cases e:i=j;·subst e;simp[cD,List.getD,show i<c[k].1.ops.length by omega]
    ·have:=V.out.2 i (by omega);simp only[cD,List.getD,List.getElem?_set_ne (fun h=>e h.symm)]at this⊢;exact this
   have P:(jF wr g (j*4) (mark+k) 0 0 0).cell? ⟨w.heap.size,4,z⟩=y (L (y ⟨b,0,z⟩) d.length cap):=oK (by simp;omega) J;have Q:=E.jF (o:=j*4) (.inl a0) (mark+k) 0 0 0;have R:w.heap.size+1≤(jF wr g (j*4) (mark+k) 0 0 0).heap.size:=by rw[ub];exact hz
   have O:Hid (jF wr g (j*4) (mark+k) 0 0 0=(((wr.setCell ⟨g,j*4,z⟩ (N Z (mark+k))).setCell ⟨g,j*4+1,z⟩ (N Z 0)).setCell ⟨g,j*4+2,z⟩ (N Z 0)).setCell ⟨g,j*4+3,z⟩ (N Z 0)):=rfl;generalize c.set k (⟨c[k].1.ops.set j ⟨mark+k,0,0,0⟩,c[k].1.fin⟩,c[k].2)=a7 at*;clear t B ai H V X r U aA aB s aD aa ho m p u;go_wp2;rw[←O.out];clear O;generalize jF wr g (j*4) (mark+k) 0 0 0=bo at*;go_roundw;case rel=>exact⟨j+1,a7,by omega,by go_num,a2,a3,a4,al,a5,a6,a1,P,Q,R⟩
   case measure=>simp[intOf];omega
theorem uN(s:ByteArray)(k:Int)(w:W)(hs:s.size≤maxLen)(bq:0≤k∧k≤4611686018427387)(aF:Ending→W→Prop)(ba:∀f j m n v T w',aC w' w.heap.size v T→(T.length≤1000∧∀x∈T,x.1.ops.length≤1000)→G w.heap.size w w'→aF (Xq (Uq #[Aq #[N Z f,N Z j,N Z m,N Z n,v],Bq true])) w'):Calls Tryz.prog 39 #[Tq s,N Z k] w aF:=by
 have aB:Hid (∀f j m n v T w',aC w' w.heap.size v T→(T.length≤1000∧∀x∈T,x.1.ops.length≤1000)→G w.heap.size w w'→aF (Xq (Uq #[Aq #[N Z f,N Z j,N Z m,N Z n,v],Bq true])) w'):=ba;clear ba;have bb:Row (w.alloc (Y #[N Z 0,N Z 0,N Z 0,N Z 0,L z 0 0] 25)) w.heap.size 25 [N Z 0,N Z 0,N Z 0,N Z 0,L z 0 0]:=heap_alloc_new w _;go_enter Tryz.func39,Tryz.ntmps39;go_wp2_with fail;refine xy s _ hs _ ?_ ?_
 ·intro f j m n l br b w1 P aD g1 aG U;have Q:=wv (p:=⟨f,j,m,n,l⟩) aD g1;have ah:G (w.heap.size+1) (w.alloc (Y #[N Z 0,N Z 0,N Z 0,N Z 0,L z 0 0] 25)) w1:=by simpa using U
  have aH:=ah.size;simp at aH;have aI:=bb.ab U;have aJ:=Below.under ah;have be:w.heap.size<w1.heap.size:=by omega
  clear U;obtain⟨q,c1,rfl⟩:=af P.row;have P:aC w1 (w.heap.size+1) (L q b.length c1) b:=by simpa using P
  have a:Row (w1.alloc (Y #[N Z f,N Z j,N Z m,N Z n,L q b.length c1] 25)) w1.heap.size 25 [N Z f,N Z j,N Z m,N Z n,L q b.length c1]:=heap_alloc_new w1 _;have hc:=fJ s (w1.alloc (Y #[N Z f,N Z j,N Z m,N Z n,L q b.length c1] 25)) hs;go_wp2_with fail;refine hc.mono ?_;clear hc;rintro e c⟨aK,V⟩;have a:=a.ab V;have ai:G (w1.heap.size+1) (w1.alloc (Y #[N Z f,N Z j,N Z m,N Z n,L q b.length c1] 25)) c:=by simpa using V
  clear V;rcases aK with⟨⟨bs,bt,b2,bu,bv⟩,bf,R,rfl,K,aj,g2,aE⟩|⟨aL,rfl⟩;case inr=>exact absurd aG (aL _ g1)
  obtain⟨X,c2,rfl⟩:=af K.row;have K:aC c (w1.heap.size+1) (L X R.length c2) R:=by simpa using K
  have bc:=iL g1 g2 (aG.trans aE.symm);simp only[a8.mk.injEq]at bc;obtain⟨rfl,rfl,rfl,rfl,rfl⟩:=bc;simp only at aj;clear aG aE g1 g2;have aM:=ai.size;simp at aM;have aa:=Below.under ai;have aO:=aI.ab aa;have ab:=P.below aa (Rq _);have bg:w1.heap.size<c.heap.size:=by omega
  have bh:w.heap.size<c.heap.size:=by omega
  have aP:G c.heap.size c (c.alloc (Y #[N Z f,N Z j,N Z m,N Z n,L X R.length c2] 25)):=(Below.refl _ _).alloc (Rq _) _;have r:Row (c.alloc (Y #[N Z f,N Z j,N Z m,N Z n,L X R.length c2] 25)) c.heap.size 25 [N Z f,N Z j,N Z m,N Z n,L X R.length c2]:=heap_alloc_new c _;have H:=(ab.alloc (Y #[N Z f,N Z j,N Z m,N Z n,L X R.length c2] 25)).rd;have I:=(K.alloc (Y #[N Z f,N Z j,N Z m,N Z n,L X R.length c2] 25)).rd;rw[aD]at H;rw[aj]at I;have t:=a.cell (i:=0) rfl;have u:=a.cell (i:=1) rfl;have A:=a.cell (i:=2) rfl;have C:=a.cell (i:=3) rfl;have E:=a.cell (i:=4) rfl;unfold dy;go_wp2_with fail;refine(fe f j m n _ _ _ _ H I).mono ?_;rintro e ak⟨rfl,ac⟩;have r:=r.ab ac;have al:G (c.heap.size+1) (c.alloc (Y #[N Z f,N Z j,N Z m,N Z n,L X R.length c2] 25)) ak:=by simpa using ac
  clear ac H I aP t u A C E;have M:=Below.under al;have aQ:=al.size;simp at aQ;have a:=a.ab M;have aR:=aO.ab M;have am:=ab.below M (Rq _);have an:=K.below M (Rq _);have J:∀g,k5 (L q b.length c1) b g→w.heap.size+1≤g∧g<w1.heap.size:=fun g d=>zw P g d;have ad:∀g,(Value.slice q b.length c1).ownBlock=y g→k5 (L q b.length c1) b g:=fun g d=>.inl d;have ae:∀x∈(b:List (aN×Vq)),∀g,x.2.ownBlock=y g→k5 (L q b.length c1) b g:=fun x ao g d=>.inr ⟨x,ao,d⟩;have ap:¬k5 (L q b.length c1) b w1.heap.size:=fun h=>by have:=J _ h;omega
  have aS:¬k5 (L q b.length c1) b c.heap.size:=fun h=>by have:=J _ h;omega
  have aq:¬k5 (L q b.length c1) b w.heap.size:=fun h=>by have:=J _ h;omega
  have ar:=k7 f j m n (L q b.length c1) b ak (w.heap.size+1) am (by omega) Q.1 Q.2 (k5 (L q b.length c1) b) ad ae;have t:=a.cell (i:=0) rfl;have u:=a.cell (i:=1) rfl;have A:=a.cell (i:=2) rfl;have C:=a.cell (i:=3) rfl;have E:=a.cell (i:=4) rfl;go_wp2_with fail;refine ar.mono ?_;clear ar;rintro e bi⟨rfl,ag,F⟩;have a:=a.kept F ap;have r:=r.kept F aS;have aT:=aR.kept F aq;have au:=an.jX F (fun g d=>by have:=J g d;omega);have bj:=F.size;have H:=ag.rd;have I:=au.rd;rw[aD]at H;rw[aj]at I;clear t u A C E;have t:=a.cell (i:=0) rfl;have u:=a.cell (i:=1) rfl;have A:=a.cell (i:=2) rfl;have C:=a.cell (i:=3) rfl;have E:=a.cell (i:=4) rfl;have aU:=r.cell (i:=0) rfl;have aV:=r.cell (i:=1) rfl;have aW:=r.cell (i:=2) rfl;have aX:=r.cell (i:=3) rfl;have aY:=r.cell (i:=4) rfl;go_wp2_with fail;refine(fe f j m n _ _ _ _ H I).mono ?_;rintro e aZ⟨rfl,O⟩;have a:=a.ab O;have a0:=aT.ab O;have av:=ag.below O (Rq _);have bk:=O.size;have aw:=nz f j m n (L q b.length c1) b aZ (w.heap.size+1) (77+100*k) av (by omega) Q.1 Q.2 (by omega) (k5 (L q b.length c1) b) ad ae;clear H I t u A C E aU aV aW aX aY;have t:=a.cell (i:=0) rfl;have u:=a.cell (i:=1) rfl;have A:=a.cell (i:=2) rfl;have C:=a.cell (i:=3) rfl;have E:=a.cell (i:=4) rfl;go_wp2_with fail;refine aw.mono ?_;clear aw;rintro e a1⟨rfl,⟨a2,ax,a3⟩,S⟩;have a:=a.kept S ap;have o:=a0.kept S aq;have ay:=aJ.trans (aa.mono (by omega))|>.trans (M.mono (by omega));have az:=ay.trans ((F.toBelow (B:=w.heap.size) (by omega) (fun g d=>by have:=J g d;omega)));have aA:=(az.trans (O.mono (by omega))).trans ((S.toBelow (B:=w.heap.size) (by omega) (fun g d=>by have:=J g d;omega)));have a4:=aB.out f j m n (L q b.length c1) a2 (((((a1.setCell ⟨w.heap.size,0,z⟩ (N Z f)).setCell ⟨w.heap.size,1,z⟩ (N Z j)).setCell ⟨w.heap.size,2,z⟩ (N Z m)).setCell ⟨w.heap.size,3,z⟩ (N Z n)).setCell ⟨w.heap.size,4,z⟩ (L q b.length c1)) ((((((ax.set (by simp) _).set (by simp) _).set (by simp) _).set (by simp) _).set (by simp) _).base (by omega)) a3 (((((aA.setCell (by simp) _).setCell (by simp) _).setCell (by simp) _).setCell (by simp) _).setCell (by simp) _);clear S F ag au av ax am an P K ab ay az aA aB ad ae t u A C E;have t:=a.cell (i:=0) rfl;have u:=a.cell (i:=1) rfl;have A:=a.cell (i:=2) rfl;have C:=a.cell (i:=3) rfl;have E:=a.cell (i:=4) rfl;have a5:=o.cell (i:=0) rfl;have a6:=o.cell (i:=1) rfl;have a7:=o.cell (i:=2) rfl;have a9:=o.cell (i:=3) rfl;have a_:=o.cell (i:=4) rfl;have bl:=o.frozen 0;have bm:=o.frozen 1;have bn:=o.frozen 2;have bo:=o.frozen 3;have bp:=o.frozen 4;go_wp2;exact bodyPost_ret (v:=Uq #[Aq #[N Z f,N Z j,N Z m,N Z n,L q b.length c1],Bq true]) (by simp[results,Tryz.results39,go_sem,a5,a6,a7,a9,a_]) rfl a4
 ·intro w1 bd U;have Q:([]:List (aN×Vq)).length≤1000∧∀x∈([]:List (aN×Vq)),x.1.ops.length≤1000:=⟨by simp,fun x ao=>by cases ao⟩;have aD:dT []=[]:=rfl;have ah:G (w.heap.size+1) (w.alloc (Y #[N Z 0,N Z 0,N Z 0,N Z 0,L z 0 0] 25)) w1:=by simpa using U
  have aH:=ah.size;simp at aH;have aI:=bb.ab U;have aJ:=Below.under ah;have be:w.heap.size<w1.heap.size:=by omega
  clear U;have P:aC w1 (w.heap.size+1) (L z 0 0) []:=iA _ _;have a:Row (w1.alloc (Y #[N Z 0,N Z 0,N Z 0,N Z 0,L z 0 0] 25)) w1.heap.size 25 [N Z 0,N Z 0,N Z 0,N Z 0,L z 0 0]:=heap_alloc_new w1 _;have hc:=fJ s (w1.alloc (Y #[N Z 0,N Z 0,N Z 0,N Z 0,L z 0 0] 25)) hs;go_wp2_with fail;refine hc.mono ?_;clear hc;rintro e c⟨aK,V⟩;have a:=a.ab V;have ai:G (w1.heap.size+1) (w1.alloc (Y #[N Z 0,N Z 0,N Z 0,N Z 0,L z 0 0] 25)) c:=by simpa using V
  clear V;rcases aK with⟨bw,bf,R,rfl,K,aj,g2,aE⟩|⟨aL,rfl⟩;case inl=>exact absurd aE (bd _ g2)
  have K:aC c (w1.heap.size+1) (L z 0 0) []:=iA _ _;have aj:dT []=[]:=rfl;clear bd aL;have aM:=ai.size;simp at aM;have aa:=Below.under ai;have aO:=aI.ab aa;have ab:=P.below aa (Rq _);have bg:w1.heap.size<c.heap.size:=by omega
  have bh:w.heap.size<c.heap.size:=by omega
  have aP:G c.heap.size c (c.alloc (Y #[N Z 0,N Z 0,N Z 0,N Z 0,L z 0 0] 25)):=(Below.refl _ _).alloc (Rq _) _;have r:Row (c.alloc (Y #[N Z 0,N Z 0,N Z 0,N Z 0,L z 0 0] 25)) c.heap.size 25 [N Z 0,N Z 0,N Z 0,N Z 0,L z 0 0]:=heap_alloc_new c _;have H:=(ab.alloc (Y #[N Z 0,N Z 0,N Z 0,N Z 0,L z 0 0] 25)).rd;have I:=(K.alloc (Y #[N Z 0,N Z 0,N Z 0,N Z 0,L z 0 0] 25)).rd;have t:=a.cell (i:=0) rfl;have u:=a.cell (i:=1) rfl;have A:=a.cell (i:=2) rfl;have C:=a.cell (i:=3) rfl;have E:=a.cell (i:=4) rfl;go_wp2_with fail;refine(fe 0 0 0 0 _ _ _ _ H I).mono ?_;rintro e ak⟨rfl,ac⟩;have r:=r.ab ac;have al:G (c.heap.size+1) (c.alloc (Y #[N Z 0,N Z 0,N Z 0,N Z 0,L z 0 0] 25)) ak:=by simpa using ac
  clear ac H I aP t u A C E;have M:=Below.under al;have aQ:=al.size;simp at aQ;have a:=a.ab M;have aR:=aO.ab M;have am:=ab.below M (Rq _);have an:=K.below M (Rq _);have J:∀g,k5 (L z 0 0) [] g→w.heap.size+1≤g∧g<w1.heap.size:=fun g d=>zw P g d;have ad:∀g,(Value.slice z 0 0).ownBlock=y g→k5 (L z 0 0) [] g:=fun g d=>.inl d;have ae:∀x∈([]:List (aN×Vq)),∀g,x.2.ownBlock=y g→k5 (L z 0 0) [] g:=fun x ao g d=>.inr ⟨x,ao,d⟩;have ap:¬k5 (L z 0 0) [] w1.heap.size:=fun h=>by have:=J _ h;omega
  have aS:¬k5 (L z 0 0) [] c.heap.size:=fun h=>by have:=J _ h;omega
  have aq:¬k5 (L z 0 0) [] w.heap.size:=fun h=>by have:=J _ h;omega
  have ar:=k7 0 0 0 0 (L z 0 0) [] ak (w.heap.size+1) am (by omega) Q.1 Q.2 (k5 (L z 0 0) []) ad ae;have t:=a.cell (i:=0) rfl;have u:=a.cell (i:=1) rfl;have A:=a.cell (i:=2) rfl;have C:=a.cell (i:=3) rfl;have E:=a.cell (i:=4) rfl;go_wp2_with fail;refine ar.mono ?_;clear ar;rintro e bi⟨rfl,ag,F⟩;have a:=a.kept F ap;have r:=r.kept F aS;have aT:=aR.kept F aq;have au:=an.jX F (fun g d=>by have:=J g d;omega);have bj:=F.size;have H:=ag.rd;have I:=au.rd;clear t u A C E;have t:=a.cell (i:=0) rfl;have u:=a.cell (i:=1) rfl;have A:=a.cell (i:=2) rfl;have C:=a.cell (i:=3) rfl;have E:=a.cell (i:=4) rfl;have aU:=r.cell (i:=0) rfl;have aV:=r.cell (i:=1) rfl;have aW:=r.cell (i:=2) rfl;have aX:=r.cell (i:=3) rfl;have aY:=r.cell (i:=4) rfl;go_wp2_with fail;refine(fe 0 0 0 0 _ _ _ _ H I).mono ?_;rintro e aZ⟨rfl,O⟩;have a:=a.ab O;have a0:=aT.ab O;have av:=ag.below O (Rq _);have bk:=O.size;have aw:=nz 0 0 0 0 (L z 0 0) [] aZ (w.heap.size+1) (77+100*k) av (by omega) Q.1 Q.2 (by omega) (k5 (L z 0 0) []) ad ae;clear H I t u A C E aU aV aW aX aY;have t:=a.cell (i:=0) rfl;have u:=a.cell (i:=1) rfl;have A:=a.cell (i:=2) rfl;have C:=a.cell (i:=3) rfl;have E:=a.cell (i:=4) rfl;go_wp2_with fail;refine aw.mono ?_;clear aw;rintro e a1⟨rfl,⟨a2,ax,a3⟩,S⟩;have a:=a.kept S ap;have o:=a0.kept S aq;have ay:=aJ.trans (aa.mono (by omega))|>.trans (M.mono (by omega));have az:=ay.trans ((F.toBelow (B:=w.heap.size) (by omega) (fun g d=>by have:=J g d;omega)));have aA:=(az.trans (O.mono (by omega))).trans ((S.toBelow (B:=w.heap.size) (by omega) (fun g d=>by have:=J g d;omega)));have a4:=aB.out 0 0 0 0 (L z 0 0) a2 (((((a1.setCell ⟨w.heap.size,0,z⟩ (N Z 0)).setCell ⟨w.heap.size,1,z⟩ (N Z 0)).setCell ⟨w.heap.size,2,z⟩ (N Z 0)).setCell ⟨w.heap.size,3,z⟩ (N Z 0)).setCell ⟨w.heap.size,4,z⟩ (L z 0 0)) ((((((ax.set (by simp) _).set (by simp) _).set (by simp) _).set (by simp) _).set (by simp) _).base (by omega)) a3 (((((aA.setCell (by simp) _).setCell (by simp) _).setCell (by simp) _).setCell (by simp) _).setCell (by simp) _);clear S F ag au av ax am an P K ab ay az aA aB ad ae t u A C E;have t:=a.cell (i:=0) rfl;have u:=a.cell (i:=1) rfl;have A:=a.cell (i:=2) rfl;have C:=a.cell (i:=3) rfl;have E:=a.cell (i:=4) rfl;have a5:=o.cell (i:=0) rfl;have a6:=o.cell (i:=1) rfl;have a7:=o.cell (i:=2) rfl;have a9:=o.cell (i:=3) rfl;have a_:=o.cell (i:=4) rfl;have bl:=o.frozen 0;have bm:=o.frozen 1;have bn:=o.frozen 2;have bo:=o.frozen 3;have bp:=o.frozen 4;go_wp2;exact bodyPost_ret (v:=Uq #[Aq #[N Z 0,N Z 0,N Z 0,N Z 0,L z 0 0],Bq true]) (by simp[results,Tryz.results39,go_sem,a5,a6,a7,a9,a_]) rfl a4
end Go.Proofs.YtblhmeidbjigaabGreatDoor
