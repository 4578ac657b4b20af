import Derived.Test.YtblhmeidbjigaabGreatDoorT02
set_option linter.unusedSimpArgs false
set_option linter.unusedVariables false
set_option maxRecDepth 100000
set_option maxHeartbeats 8000000
namespace Go.Proofs.YtblhmeidbjigaabGreatDoor
open Go.RowKit
open Go.Value renaming int→N,slice→L,string→Tq,agg→Aq,bool→Bq,tuple→Uq
open Go.IntKind renaming i64→Z
open Go.Obj renaming cells→Y
open Go.Ending renaming returned→Xq
open Option renaming none→z,some→y
open Nat renaming le_refl→Rq
open Go renaming World→W,Value→Vq
open Go.RowKit renaming Below→G
def dc(k x a:Int):Int:=if k=3 then wrap64 (x+a)else if k=4 then wrap64 (x-a)else if k=5 then wrap64 (x*a)else if k=6 then bits .and Z x a else if k=7 then bits .or Z x a else if k=8 then bits .xor Z x a else if k=9 then(if x<a then 1 else 0)else if k=10 then(if x=a then 1 else 0)else wrap64 (x.tdiv a)
theorem oS(b:Bool)(w:W):Calls Tryz.prog 203 #[Bq b] w fun e w'=>e=Xq (N Z (if b then 1 else 0))∧w=w':=by
 go_enter Tryz.func203,Tryz.ntmps203;cases b;·go_wp2;go_ret;exact⟨by simp,rfl⟩
 ·go_wp2;go_ret;exact⟨by simp,rfl⟩
theorem zE(b:Bool)(w:W):Calls Tryz.prog 188 #[Bq b] w fun e w'=>e=Xq (N Z (if b then 1 else 0))∧w=w':=by
 go_enter Tryz.func188,Tryz.ntmps188;cases b;·go_wp2;go_ret;exact⟨by simp,rfl⟩
 ·go_wp2;go_ret;exact⟨by simp,rfl⟩
theorem oR(b c:Int)(w:W)(a:0≤b∧b<256)(hc:0≤c∧c<256):Calls Tryz.prog 167 #[N Z b,N Z c] w fun e w'=>e=Xq (N Z (256*b+c-32768))∧w=w':=by go_enter Tryz.func167,Tryz.ntmps167;go_wp2;go_ret;exact⟨by simp,rfl⟩
theorem vg(x a:Int)(b:a≠0)(w:W):Calls Tryz.prog 204 #[N Z x,N Z a] w fun e w'=>e=Xq (Uq #[N Z (wrap64 (x.tdiv a)),Bq true])∧w=w':=by go_enter Tryz.func204,Tryz.ntmps204;go_wp2;go_ret2;exact⟨by simp,rfl⟩
theorem sJ(x:Int)(w:W):Calls Tryz.prog 204 #[N Z x,N Z 0] w fun e w'=>e=Xq (Uq #[N Z 0,Bq false])∧w=w':=by go_enter Tryz.func204,Tryz.ntmps204;go_wp2;go_ret2;exact⟨by simp,rfl⟩
theorem mO(k x a:Int)(w:W)(c:3≤k∧k≤11)(b:k=11→a≠0):Calls Tryz.prog 187 #[N Z k,N Z x,N Z a] w fun e w'=>e=Xq (Uq #[N Z (dc k x a),Bq true])∧w=w':=by
 obtain rfl|rfl|rfl|rfl|rfl|rfl|rfl|rfl|rfl:k=9∨k=10∨k=3∨k=4∨k=5∨k=6∨k=7∨k=8∨k=11:=by omega
 ·by_cases h:x<a;all_goals go_enter Tryz.func187,Tryz.ntmps187;go_wp2_with(first|(go_at_call 203;refine(oS _ _).mono ?_;rintro e w'⟨rfl,rfl⟩));go_ret2;exact⟨by simp[dc,h],rfl⟩
 ·by_cases h:x=a;all_goals go_enter Tryz.func187,Tryz.ntmps187;go_wp2_with(first|(go_at_call 203;refine(oS _ _).mono ?_;rintro e w'⟨rfl,rfl⟩));go_ret2;exact⟨by simp[dc,h],rfl⟩
 all_goals go_enter Tryz.func187,Tryz.ntmps187;go_wp2_with(first|(go_at_call 204;refine(vg _ _ (b rfl) _).mono ?_;rintro e w'⟨rfl,rfl⟩));go_ret2;exact⟨by simp[dc],rfl⟩
theorem o9(x:Int)(w:W):Calls Tryz.prog 187 #[N Z 11,N Z x,N Z 0] w fun e w'=>e=Xq (Uq #[N Z 0,Bq false])∧w=w':=by go_enter Tryz.func187,Tryz.ntmps187;go_wp2_with(go_at_call 204;refine(sJ _ _).mono ?_;rintro e w'⟨rfl,rfl⟩);go_ret2;exact⟨by simp,rfl⟩
theorem lM(k x a:Int)(w:W)(c:3≤k∧k≤11)(b:k=11→a≠0):Calls Tryz.prog 172 #[N Z k,N Z x,N Z a] w fun e w'=>e=Xq (N Z (dc k x a))∧w=w':=by
 obtain rfl|rfl|rfl|rfl|rfl|rfl|rfl|rfl|rfl:k=9∨k=10∨k=11∨k=3∨k=4∨k=5∨k=6∨k=7∨k=8:=by omega
 ·by_cases h:x<a;all_goals go_enter Tryz.func172,Tryz.ntmps172;go_wp2_with(first|(go_at_call 188;refine(zE _ _).mono ?_;rintro e w'⟨rfl,rfl⟩));go_ret;exact⟨by simp[dc,h],rfl⟩
 ·by_cases h:x=a;all_goals go_enter Tryz.func172,Tryz.ntmps172;go_wp2_with(first|(go_at_call 188;refine(zE _ _).mono ?_;rintro e w'⟨rfl,rfl⟩));go_ret;exact⟨by simp[dc,h],rfl⟩
 ·have b:=b rfl;go_enter Tryz.func172,Tryz.ntmps172;go_wp2;go_ret;exact⟨by simp[dc],rfl⟩
 all_goals go_enter Tryz.func172,Tryz.ntmps172;go_wp2;go_ret;exact⟨by simp[dc],rfl⟩
def Row(w:W)(g:Nat)(e:TypeId)(xs:List Vq):Prop:=w.heap[g]?=y (Y xs.toArray e (0,0))
structure Es(g:Nat)(w w':World):Prop where
 os:w'.os=w.os
 tape:w'.tape=w.tape
 output:w'.output=w.output
 size:w'.heap.size=w.heap.size
 block:∀k,k≠g→w'.heap[k]?=w.heap[k]?
theorem Es.below{g B:Nat}{w0 w w':W}(h:Es g w w')(a:G B w0 w)(b:B≤g):G B w0 w':=a.trans ⟨h.os,h.tape,h.output,Nat.le_of_eq h.size.symm,fun k c=>h.block k (by omega)⟩
theorem Es.cell{g:Nat}{w w':W}(h:Es g w w'){b o:Nat}(a:b≠g):w'.cell? ⟨b,o,z⟩=w.cell? ⟨b,o,z⟩:=World.cell?_of_block (w:=w) (h.block b a)
theorem Row.cell{w:W}{g:Nat}{e:TypeId}{xs:List Vq}(h:Row w g e xs){i:Nat}{u:Vq}(a:xs[i]?=y u):w.cell? ⟨g,i,z⟩=y u:=by unfold Row at h;simp[World.cell?,h,a]
theorem Row.frozen{w:W}{g:Nat}{e:TypeId}{xs:List Vq}(h:Row w g e xs)(i:Nat):w.frozen? ⟨g,i,z⟩=false:=by unfold Row at h;simp[World.frozen?,h]
theorem Row.lt{w:W}{g:Nat}{e:TypeId}{xs:List Vq}(h:Row w g e xs):g<w.heap.size:=(Array.getElem?_eq_some_iff.1 h).1
theorem Row.same{w w':W}{g:Nat}{e:TypeId}{xs:List Vq}(h:Row w g e xs)(hs:w'.heap[g]?=w.heap[g]?):Row w' g e xs:=hs.trans h
theorem Row.below{w w':W}{g B:Nat}{e:TypeId}{xs:List Vq}(h:Row w g e xs)(a:G B w w')(b:g<B):Row w' g e xs:=h.same (a.block g b)
theorem Row.ab{w w':W}{g:Nat}{e:TypeId}{xs:List Vq}(h:Row w g e xs)(a:G w.heap.size w w'):Row w' g e xs:=h.below a h.lt
theorem Row.alloc{w:W}{g:Nat}{e:TypeId}{xs:List Vq}(h:Row w g e xs)(o:Obj):Row (w.alloc o) g e xs:=h.same (Below.heap_alloc w o g h.lt)
theorem Row.set{w:W}{g:Nat}{e:TypeId}{xs:List Vq}(h:Row w g e xs)(i:Nat)(u:Vq):Row (w.setCell ⟨g,i,z⟩ u) g e (xs.set i u):=by have:=heap_setCell_same w g i xs.toArray e u h;unfold Row;rw[this];simp
theorem Row.a7{w:W}{g:Nat}{e:TypeId}{xs:List Vq}(h:Row w g e xs){a:Addr}(b:g≠a.block)(u:Vq):Row (w.setCell a u) g e xs:=h.same (Below.heap_setCell _ _ _ _ b)
theorem cQ(l:List Vq)(n:Nat):(iC l n).length=n*l.length:=by induction n with|zero=>simp[iC]|succ n a=>simp[iC,a,Nat.add_mul]
theorem zG(l:List Vq)(n i:Nat)(a:i<n*l.length):(iC l n)[i]?=l[i%l.length]?:=by
 induction n with
  |zero=>omega
  |succ n b=>
   have c:=cQ l n;rw[iC];by_cases h:i<n*l.length;·rw[List.getElem?_append_left (by omega),b h]
   ·rw[List.getElem?_append_right (by omega),c];have d:i<n*l.length+l.length:=by rw[Nat.add_mul,Nat.one_mul]at a;exact a
    have e:i%l.length=i-n*l.length:=by
     have:i=(i-n*l.length)+l.length*n:=by rw[Nat.mul_comm l.length n];omega
     rw[this,Nat.add_mul_mod_self_left,Nat.mod_eq_of_lt (by omega)];rw[Nat.mul_comm l.length n];omega
    rw[e]
theorem nA(l:List Vq)(n:Nat):iC l (n+1)=l++iC l n:=by induction n with|zero=>simp[iC]|succ n a=>rw[iC,a,List.append_assoc,←a,iC]
theorem Cc(l:List Vq)(n:Nat)(b:0<l.length):madeCells l.toArray (n*l.length)=(iC l n).toArray:=by
 apply Array.ext';apply List.ext_getElem?;intro i;by_cases a:i<n*l.length;·have c:i%l.length<l.length:=Nat.mod_lt _ b;show _=(iC l n)[i]?;rw[zG l n i a];simp[madeCells,a,c]
 ·have d:(iC l n).length≤i:=by rw[cQ];omega
  show _=(iC l n)[i]?;rw[List.getElem?_eq_none d];simp[madeCells];omega
section
variable{P:Program}(w:World)
theorem db{ops:Array Oper}{f:List Oper}{o:Oper}{a:Act}{g:Exit→Act→W→Prop}(q:o.guard=z)(l c:Operand)(t:TypeId)(r:o.op=Op.makeSlice t l c)(e:TypeId)(i:TypeInfo)(d:Vq)(b:List Vq)(s:P.underlying t=y (.slice e))(u:P.info? e=y i)(v:i.zero=y d)(x:i.size=b.length)(hz:d.cells=b.toArray)(A:0<b.length)(j k:IntKind)(m C:Int)(n:Nat)(B:a.eval l=N j m)(hc:a.eval c=N k C)(E:m=(n:Int))(F:C=(n:Int))(b2:i.bytes*n≤281474976710656)(H:n≤maxLen)(I:∀w',Row w' w.heap.size e (iC b n)→G w.heap.size w w'→Hid (w'.heap.size=w.heap.size+1)→wpList P ops g f (a.put o.dst (L (y ⟨w.heap.size,0,z⟩) n n)) w'):wpList P ops g (o::f) a w:=by
 refine wpList_plain q fun K J=>?_;have M:(n:Int)≤9223372036854775807:=by have h:=H;simp[maxLen]at h;omega
 have O:(i.bytes:Int)*(n:Int)≤281474976710656:=by
  have h:((i.bytes*n:Nat):Int)≤281474976710656:=by omega
  rwa[Int.natCast_mul]at h
 have p:=run_make (P:=P) w t e i d s u v j k n n (by omega) (Int.le_refl _) O M;simp only[Int.toNat_natCast]at p;subst E;subst F;unfold Oper.wp;simp[execOp,r,B,hc,p,Result.andThen];refine J _ _ (I _ ?_ ((Below.refl _ _).alloc (Rq _) _) (by show _=_;simp));unfold Row;rw[heap_alloc_new,x,hz,Cc b n A]
theorem dR{ops:Array Oper}{p:List Oper}{o:Oper}{a:Act}{q:Exit→Act→W→Prop}(B:o.guard=z)(d s:Operand)(t:TypeId)(ho:o.op=.call {callee:=.builtin .copy,args:=#[d,s],argTypes:=#[t,t]})(e:TypeId)(i:TypeInfo)(r:P.underlying t=y (.slice e))(u:P.info? e=y i)(size:Nat)(C:i.size=size)(g f x:Nat)(h:Option Addr)(c m:Nat)(E:a.eval d=L (y ⟨g,0,z⟩) f x)(hs:a.eval s=L h c m)(xs:List Vq)(n:Row w g e xs)(b:List Vq)(F:b.length=Nat.min c f*size)(aU:h=z→b=[])(H:∀l,h=y l→∀j v,b[j]?=y v→w.cell? (l.add j)=y v)(I:b.length≤xs.length)(J:∀v∈b,v.oneCell'=true)(M:∀w',Row w' g e (b++xs.drop b.length)→Es g w w'→wpList P ops q p (a.put o.dst (goInt (Nat.min c f))) w'):wpList P ops q (o::p) a w:=by
 refine wpList_plain B fun K O=>?_;have A:=run_storeCells_at P g 0 e b 0 xs.toArray w n (by simpa using I) J;have Q:(Builtin.copy_ #[t,t] o.type #[L (y ⟨g,0,z⟩) f x,L h c m]).run P w=.ok (goInt (Nat.min c f)) (w.setRow g (b++xs.drop b.length).toArray):=by cases h with|none=>have hc:=aU rfl;subst hc;have R:w.setRow g xs.toArray=w:=setRow_self w g xs.toArray e (0,0) n;simp[Builtin.copy_,run_underlying r,Builtin.lenOf,Builtin.firstCells,sizeOf,typeInfo,u,storeCells,R]|some l=>have S:=run_firstCells_some (P:=P) w size (Nat.min c f) l c m b F (H l rfl);simp only[Nat.zero_add,List.take_zero,List.nil_append]at A;simp[Builtin.copy_,run_underlying r,Builtin.lenOf,sizeOf,typeInfo,u,C,S,A]
 unfold Oper.wp;simp[execOp,ho,resolve,invoke,builtin,E,hs,Q,Result.andThen];refine O _ _ (M _ ?_ ⟨rfl,rfl,rfl,by simp,fun k T=>setRow_other w g k _ T⟩);exact setRow_heap w g _ _ e _ n
end
def mQ(w:W)(a:List (aL×Vq)):Prop:=∀x∈a,∃p,x.2=L (y ⟨p,0,z⟩) x.1.br.length (x.1.br.length+1)∧Row w p 38 (bf x.1.br++[N Z 77,N Z 0])
def pe:List Vq:=[N Z 0,L z 0 0]
def o_:List Vq:=[N Z 0,N Z 0]
def qP(a:List (aL×Vq))(n:Nat):List Vq:=bt a++iC pe (n-a.length)
theorem sg:(Value.agg #[N Z 0,L z 0 0]).cells=pe.toArray:=rfl
theorem zo:(Value.agg #[N Z 0,N Z 0]).cells=o_.toArray:=rfl
theorem qQ{a:List (aL×Vq)}{n:Nat}(h:a.length<n):(qP a n)[a.length*2]?=y (N Z 0)∧(qP a n)[a.length*2+1]?=y (L z 0 0):=by
 have b:=cr a;unfold qP;obtain⟨c,d⟩:∃c,n-a.length=c+1:=⟨n-a.length-1,by omega⟩;rw[d,nA];constructor;·rw[List.getElem?_append_right (by omega),b,Nat.sub_self];rfl
 ·rw[List.getElem?_append_right (by omega),b,Nat.add_sub_cancel_left];rfl
theorem B9{a:List (aL×Vq)}{n:Nat}(h:a.length<n)(x:aL)(sv:Vq):((qP a n).set (a.length*2) (N Z x.src)).set (a.length*2+1) sv=qP (a++[(x,sv)]) n:=by
 have c:=cr a;unfold qP;obtain⟨b,d⟩:∃b,n-a.length=b+1:=⟨n-a.length-1,by omega⟩;have e:n-(a++[(x,sv)]).length=b:=by simp;omega
 rw[e,d,nA,lE];rw[List.set_append_right _ _ (by omega),c,Nat.sub_self];rw[List.set_append_right _ _ (by omega),c,Nat.add_sub_cancel_left];simp[pe]
theorem Ck(ps:List bM):(bf ps++o_).set (ps.length*2) (N Z 77)=bf ps++[N Z 77,N Z 0]:=by have a:=bZ ps;rw[List.set_append_right _ _ (by omega),a,Nat.sub_self];rfl
theorem AG(ps:List bM):bf ps++(iC o_ (ps.length+1)).drop (bf ps).length=bf ps++o_:=by have b:=bZ ps;have a:=cQ o_ ps.length;congr 1;rw[iC,b,List.drop_append];have e1:o_.length=2:=rfl;rw[e1]at a;rw[List.drop_of_length_le (by omega),a,Nat.sub_self];rfl
theorem Dj{w:W}{n c:Nat}{ps:List bM}{a:Option Addr}(h:dH w (L a n c) ps):a=z→bf ps=[]:=by obtain⟨f,cap,e,_,hc⟩:=h;simp only[Value.slice.injEq]at e;obtain⟨rfl,rfl,rfl⟩:=e;intro d;cases ps with|nil=>rfl|cons p g=>obtain⟨b,i,e,_⟩:=hc 0 (by simp);rw[d]at e;cases e
theorem Cr{w:W}{n g:Nat}{ps:List bM}{f:Option Addr}(h:dH w (L f n g) ps):∀c,f=y c→∀j u,(bf ps)[j]?=y u→w.cell? (c.add j)=y u:=by
 obtain⟨l,cap,e,_,hc⟩:=h;simp only[Value.slice.injEq]at e;obtain⟨rfl,rfl,rfl⟩:=e;intro c i j u d;have m:=bZ ps;have o:j<(bf ps).length:=(List.getElem?_eq_some_iff.1 d).1;obtain⟨b,p,e,c1,c2⟩:=hc (j/2) (by omega);rw[i]at e;obtain rfl:=Option.some.inj e;obtain⟨g1,g2⟩:=iD ps (j/2) (by omega);rw[Addr.add_lit];rcases Nat.mod_two_eq_zero_or_one j with k|k
 ·have a:j/2*2=j:=by omega
  rw[a]at g1 c1;rw[c1,←g1,d]
 ·have a:j/2*2+1=j:=by omega
  rw[a]at g2;rw[Nat.add_assoc,a]at c2;rw[c2,←g2,d]
theorem B7(ps:List bM):∀u∈bf ps,u.oneCell'=true:=by intro u a;simp only[bf,List.mem_flatMap]at a;obtain⟨p,_,b⟩:=a;simp at b;rcases b with rfl|rfl<;>rfl
theorem ir{w w':W}{a:List (aL×Vq)}(h:mQ w a)(hs:∀p xs,Row w p 38 xs→Row w' p 38 xs):mQ w' a:=fun x b=>let⟨p,e,c⟩:=h x b;⟨p,e,hs p _ c⟩
theorem j_{w:W}{g b:Nat}{e e':TypeId}{xs c:List Vq}(h:Row w g e xs)(a:Row w b e' c)(d:e≠e'):g≠b:=by intro f;subst f;unfold Row at h a;rw[h]at a;simp at a;exact d a.2
theorem mh(v:Vq)(h:List aL)(w:W)(ak:cj w v h)(bs:h.length≤4398046511104)(a2:∀k,k<h.length→(aq h k).length≤8796093022208)(al:Ending→W→Prop)(am:∀w' d c q,da d=h→mQ w' d→Row w' c 33 (bt d++[N Z 77,L z 0 0])→Row w' q 33 (bt d)→G w.heap.size w w'→al (Xq (Uq #[Aq #[L (y ⟨c,0,z⟩) d.length (d.length+1)],L (y ⟨q,0,z⟩) d.length d.length])) w'):Calls Tryz.prog 43 #[Aq #[v]] w al:=by
 obtain⟨R,S,an,T,ao⟩:=info_parts Tryz.nj;obtain⟨ap,ar,a3,au,a4⟩:=info_parts Tryz.ni;have bu:=ak;obtain⟨U,cap,rfl,av,hc⟩:=ak;go_enter Tryz.func43,Tryz.ntmps43;go_wp2_with(at_make;refine db _ rfl _ _ 28 rfl 33 R _ pe Tryz.underlying28 S an T sg (by decide) _ _ _ _ (h.length+1) rfl rfl (by simp) (by simp) ?c1 ?c2 ?_);case c1=>first|omega|(rw[ao];omega)
 case c2=>unfold maxLen;omega
 intro w1 g I aw;go_wp2;have V:=aw.out;try simp only[World.size_alloc]at I g V
 have bv:Hid (w.heap.size+1+1=w.heap.size+2):=rfl;clear aw;obtain⟨c,X⟩:∃c,c=w.heap.size+1+1:=⟨_,rfl⟩;rw[←X]at g I V⊢;have bw:Hid (c=w.heap.size+2):=X;have bx:w.heap.size+1<c:=by omega
 have ax:G (w.heap.size+2) ((w.alloc (Y #[L U h.length cap] 30)).alloc (Y #[L z 0 0] 30)) w1:=I.mono (by omega);clear X;go_loopw[6](fun i wr=>∃(k:Nat)(d:List (aL×Vq)),k≤h.length∧i=N Z k∧Hid (d.length=k)∧Hid (da d=h.take k)∧mQ wr d∧Row wr c 33 (qP d (h.length+1))∧G (w.heap.size+2) ((w.alloc (Y #[L U h.length cap] 30)).alloc (Y #[L z 0 0] 30)) wr)(fun i _=>h.length-(intOf i).toNat);case atStart=>exact⟨0,[],Nat.zero_le _,rfl,rfl,rfl,fun x r=>by simp at r,by simpa[qP,bt]using g,ax⟩
 case round=>
  clear g I V ax w1;obtain⟨k,d,bz,rfl,m,ay,C,g,B⟩:=hrel;have J:G w.heap.size w wr:=(((Below.refl w.heap.size w).alloc (Rq _) _).alloc (by simp) _).trans (B.mono (by omega));have ab:wr.cell? ⟨w.heap.size,0,z⟩=y (L U h.length cap):=(B.cell (by simp)).trans (by simp);have az:wr.cell? ⟨w.heap.size+1,0,z⟩=y (L z 0 0):=(B.cell (by simp)).trans (by simp);have aA:wr.frozen? ⟨w.heap.size+1,0,z⟩=false:=(B.frozen (by simp)).trans (by simp);have hz:=B.size;simp at hz;have a5:=g.lt;by_cases ac:k<h.length;case neg=>
   obtain rfl:k=h.length:=by omega
   have E:d.length<h.length+1:=by have:=m.out;omega
   have K:=g.cell (qQ E).1;rw[m.out]at K;have aB:=g.frozen (h.length*2);have ad:=g.set (d.length*2) (N Z 77);have a6:(qP d (h.length+1)).set (d.length*2) (N Z 77)=bt d++[N Z 77,L z 0 0]:=by
    have av:=cr d;have f:h.length+1-d.length=1:=by have:=m.out;omega
    unfold qP;rw[f,List.set_append_right _ _ (by omega),av,Nat.sub_self];rfl
   rw[a6,m.out]at ad;have aC:mQ (wr.setCell ⟨c,h.length*2,z⟩ (N Z 77)) d:=ir C fun p xs f=>f.a7 (a:=⟨c,_,z⟩) (j_ f g (by decide)) _;have n:=B.setCell (p:=⟨c,h.length*2,z⟩) (by show _≤c;omega) (N Z 77);have aD:(wr.setCell ⟨c,h.length*2,z⟩ (N Z 77)).cell? ⟨w.heap.size+1,0,z⟩=y (L z 0 0):=ba (by simp) az;have aE:(wr.setCell ⟨c,h.length*2,z⟩ (N Z 77)).frozen? ⟨w.heap.size+1,0,z⟩=false:=by simpa using aA
   have M:(wr.setCell ⟨c,h.length*2,z⟩ (N Z 77)).heap.size=wr.heap.size:=by simp
   have aF:∀u∈bt d,u.oneCell'=true:=by
    intro u aG;simp only[bt,List.mem_flatMap]at aG;obtain⟨x,r,f⟩:=aG;obtain⟨p,e,_⟩:=C x r;simp at f;rcases f with rfl|rfl;·rfl
    ·rw[e];rfl
   have a7:Hid (da d=h):=by have:=ay.out;rw[List.take_length]at this;exact this
   go_wp2_with(at_make;refine db _ rfl _ _ 28 rfl 33 R _ pe Tryz.underlying28 S an T sg (by decide) _ _ _ _ h.length rfl rfl (by simp) (by simp) ?k1 ?k2 ?_);case k1=>first|omega|(rw[ao];omega)
   case k2=>unfold maxLen;omega
   intro O F s a8;try rw[M]at F
   try rw[M]at s
   generalize a9:wr.setCell ⟨c,h.length*2,z⟩ (N Z 77)=a_ at*;have bb:wr.heap.size=a_.heap.size:=M.symm;obtain⟨q,aH⟩:∃q,q=wr.heap.size:=⟨_,rfl⟩;have bA:c<q:=by omega
   have bB:w.heap.size+1<q:=by omega
   have bc:q≠w.heap.size+1:=by omega
   have t:=ad.below s (by omega);have aI:mQ O d:=ir aC fun p xs f=>f.below s (by have:=f.lt;omega);have bd:=(s.cell (p:=⟨w.heap.size+1,0,z⟩) (by show w.heap.size+1<_;omega)).trans aD;have be:=(s.frozen (p:=⟨w.heap.size+1,0,z⟩) (by show w.heap.size+1<_;omega)).trans aE;have aJ:=n.trans (s.mono (by omega));rw[←aH]at F⊢;clear a9 M bb s a8 aH ab az aA K aB J C aC g ad n aD aE B hz a5;have aU:∀ae,y (⟨c,0,z⟩:Addr)=y ae→∀j u,(bt d)[j]?=y u→O.cell? (ae.add j)=y u:=by intro ae bg j u aK;obtain rfl:=Option.some.inj bg;rw[Addr.add_lit,Nat.zero_add];exact t.cell (by rw[List.getElem?_append_left (List.getElem?_eq_some_iff.1 aK).1];exact aK)
   go_wp2_with(refine dR _ rfl (.tmp 66) (.tmp 67) 28 rfl 33 R Tryz.underlying28 S 2 T q _ _ (y ⟨c,0,z⟩) _ _ rfl rfl _ F (bt d) ?m1 (by intro h;cases h) aU ?m2 aF ?_);case m1=>rw[cr,m.out,show(h.length+1).min h.length=h.length from Nat.min_eq_right (by omega)]
   case m2=>rw[cr,cQ,m.out];simp[pe]
   intro A af l;have bh:bt d++(iC pe h.length).drop (bt d).length=bt d:=by rw[List.drop_of_length_le (by rw[cQ,cr,m.out];simp[pe]),List.append_nil]
   rw[bh]at af;have aM:=t.same (l.block c (by omega));have aN:mQ A d:=ir aI fun p xs f=>f.same (l.block p (j_ f F (by decide)));have bi:=(l.cell (b:=w.heap.size+1) (o:=0) (by omega)).trans bd;have bC:A.frozen? ⟨w.heap.size+1,0,z⟩=false:=(World.frozen?_of_block (w:=O) (l.block (w.heap.size+1) (by omega))).trans be;have ag:=l.below aJ (by omega);have aO:G w.heap.size w A:=(((Below.refl w.heap.size w).alloc (Rq _) _).alloc (by simp) _).trans (ag.mono (by omega));have aP:Row A (w.heap.size+1) 30 [L z 0 0]:=(ag.block (w.heap.size+1) (by omega)).trans (heap_alloc2_new w _ _);have aQ:=am (A.setCell ⟨w.heap.size+1,0,z⟩ (L (y ⟨c,0,z⟩) h.length (h.length+1))) d c q a7.out (ir aN fun p xs f=>f.a7 (a:=⟨w.heap.size+1,0,z⟩) (j_ f aP (by decide)) _) (aM.a7 (a:=⟨w.heap.size+1,0,z⟩) (by show c≠w.heap.size+1;omega) _) (af.a7 (a:=⟨w.heap.size+1,0,z⟩) bc _) (aO.setCell (by simp) _);rw[m.out]at aQ;clear am aN aM af aO ag aP l F t aI aU aF aJ;go_wp2;refine bodyPost_ret (v:=Uq #[Aq #[L (y ⟨c,0,z⟩) h.length (h.length+1)],L (y ⟨q,0,z⟩) h.length h.length]) (by simp[results,Tryz.results43,go_sem,bi]) rfl ?_;exact aQ
  obtain⟨b,H,sv,rfl,c1,c2,c3⟩:=hc k ac;have d1:=aa J c1;have d2:=aa J c2;have d3:=c3.ab J;have bD:b<w.heap.size:=World.block_lt_of_cell? _ _ c1;have bE:=a2 k ac;obtain⟨bj,bF,e3,_,_⟩:=id d3;subst e3;go_wp2_with(first|(at_make;refine db _ rfl _ _ 31 rfl 38 ap _ o_ Tryz.underlying31 ar a3 au zo (by decide) _ _ _ _ ((aq h k).length+1) rfl rfl (by simp) (by simp) ?e1 ?e2 ?_));case e1=>first|omega|(rw[a4];omega)
  case e2=>unfold maxLen;omega
  intro O aR n aS;obtain⟨P,ah⟩:∃P,P=wr.heap.size:=⟨_,rfl⟩;have bk:=aS.out;have aT:=n;rw[←ah]at aR n bk⊢;clear aS;have bl:c<P:=by omega
  have bG:w.heap.size+1<P:=by omega
  have bH:b<P:=by omega
  have bI:b<c:=by omega
  have bm:Hid (P=wr.heap.size):=ah;clear ah;have aV:=(n.cell (p:=⟨w.heap.size,0,z⟩) (by show w.heap.size<P;omega)).trans ab;have aW:=(n.cell (p:=⟨b,H+k*2,z⟩) (by show b<P;omega)).trans d1;have aX:=(n.cell (p:=⟨b,H+k*2+1,z⟩) (by show b<P;omega)).trans d2;have ai:=d3.ab aT;go_wp2_with(refine dR _ rfl (.tmp 31) (.tmp 37) 31 rfl 38 ap Tryz.underlying31 ar 2 au P _ _ bj _ _ rfl rfl _ aR (bf (aq h k)) ?g1 (Dj ai) (Cr ai) ?g2 (B7 _) ?_);case g1=>rw[bZ,show(aq h k).length.min ((aq h k).length+1)=(aq h k).length from Nat.min_eq_left (by omega)]
  case g2=>rw[bZ,cQ];simp[o_];omega
  intro A Q l;rw[AG]at Q;have t:Row A c 33 (qP d (h.length+1)):=(g.below n bl).same (l.block c (by omega));have bJ:=Q.cell (i:=(aq h k).length*2) (u:=N Z 0) (by rw[List.getElem?_append_right (by rw[bZ];omega),bZ,Nat.sub_self];rfl);have bK:=Q.frozen ((aq h k).length*2);have E:d.length<h.length+1:=by have:=m.out;omega
  have K:=t.cell (qQ E).1;have bn:=t.cell (qQ E).2;rw[m.out]at K bn;have aB:=t.frozen (k*2);have bL:=t.frozen (k*2+1);have bM:=(l.cell (b:=w.heap.size) (o:=0) (by omega)).trans aV;have bN:=(l.cell (b:=b) (o:=H+k*2) (by omega)).trans aW;have bO:=(l.cell (b:=b) (o:=H+k*2+1) (by omega)).trans aX;have s:G (w.heap.size+2) ((w.alloc (Y #[L (y ⟨b,H,z⟩) h.length cap] 30)).alloc (Y #[L z 0 0] 30)) A:=l.below (B.trans (n.mono (by omega))) (by omega);have aY:P≠c:=by omega
  have bo:c≠P:=by omega
  clear aT aV aW aX ai ab d1 d2;have aj:=Q.set ((aq h k).length*2) (N Z 77);rw[Ck]at aj;have aZ:=(aj.a7 (a:=⟨c,k*2,z⟩) aY (N Z (aU h k))).a7 (a:=⟨c,k*2+1,z⟩) aY (L (y ⟨P,0,z⟩) (aq h k).length ((aq h k).length+1));have a0:=((t.a7 (a:=⟨P,(aq h k).length*2,z⟩) bo (N Z 77)).set (d.length*2) (N Z (aU h k))).set (d.length*2+1) (L (y ⟨P,0,z⟩) (aq h k).length ((aq h k).length+1));rw[B9 E ⟨aU h k,aq h k⟩,m.out]at a0;have bp:mQ (((A.setCell ⟨P,(aq h k).length*2,z⟩ (N Z 77)).setCell ⟨c,k*2,z⟩ (N Z (aU h k))).setCell ⟨c,k*2+1,z⟩ (L (y ⟨P,0,z⟩) (aq h k).length ((aq h k).length+1))) (d++[(⟨aU h k,aq h k⟩,L (y ⟨P,0,z⟩) (aq h k).length ((aq h k).length+1))]):=by
   intro x r;rcases List.mem_append.1 r with r|r
   ·refine ir C ?_ x r;intro p xs f;have bq:p<P:=by have:=f.lt;rw[bm.out];exact this
    have a1:p≠c:=j_ f g (by decide);exact((((f.same (n.block p bq)).same (l.block p (by omega))).a7 (a:=⟨P,_,z⟩) (by show p≠P;omega) _).a7 (a:=⟨c,_,z⟩) a1 _).a7 (a:=⟨c,_,z⟩) a1 _
   ·simp at r;subst r;exact⟨P,rfl,aZ⟩
  have br:=((s.setCell (p:=⟨P,(aq h k).length*2,z⟩) (by show _≤P;omega) (N Z 77)).setCell (p:=⟨c,k*2,z⟩) (by show _≤c;omega) (N Z (aU h k))).setCell (p:=⟨c,k*2+1,z⟩) (by show _≤c;omega) (L (y ⟨P,0,z⟩) (aq h k).length ((aq h k).length+1));clear aj aZ s C g n;go_wp2;go_roundw;case rel=>
   refine⟨k+1,_,by omega,by go_num,?_,?_,bp,a0,br⟩;·show List.length _=_;have:=m.out;simp;exact this
   ·show da _=_;have e:=ay.out;rw[dn h Go.Proofs.YtblhmeidbjigaabGreatDoor.hz k ac,←e];simp[da,aU,aq]
  case measure=>simp[intOf];omega
theorem pU{w:W}{a:List (aL×Vq)}{c cap:Nat}{t:List Vq}(f:mQ w a)(d:Row w c 33 (bt a++t))(g:a.length≤9223372036854775807)(h:∀x∈a,x.1.br.length≤9223372036854775807):cj w (L (y ⟨c,0,z⟩) a.length cap) (da a):=by
 refine⟨_,_,by rw[dh],by rw[dh];exact g,fun i b=>?_⟩;rw[dh]at b;have m:=cr a;obtain⟨g1,g2⟩:=iE a i b;obtain⟨e1,e2⟩:=gN a b;obtain⟨p,k,e⟩:=f _ (List.getElem_mem b);refine⟨c,0,a[i].2,rfl,?_,?_,?_⟩;·rw[Nat.zero_add,e1];exact d.cell (by rw[List.getElem?_append_left (by omega)];exact g1)
 ·rw[Nat.zero_add];exact d.cell (by rw[List.getElem?_append_left (by omega)];exact g2)
 ·rw[e2,k];refine⟨_,_,rfl,h _ (List.getElem_mem b),fun j l=>?_⟩;have n:=bZ a[i].1.br;obtain⟨k1,k2⟩:=iD a[i].1.br j l;refine⟨p,0,rfl,?_,?_⟩;·rw[Nat.zero_add];exact e.cell (by rw[List.getElem?_append_left (by omega)];exact k1)
  ·rw[Nat.zero_add];exact e.cell (by rw[List.getElem?_append_left (by omega)];exact k2)
theorem mQ.ab{w w':W}{a:List (aL×Vq)}(h:mQ w a)(b:G w.heap.size w w'):mQ w' a:=ir h fun _ _ c=>c.ab b
theorem sO(a:List (aL×Vq))(c o:Nat)(u:Vq)(w:W)(d:mQ w a)(f:Row w c 33 (bt a++[N Z 77,L z 0 0]))(g:Row w o 33 (bt a))(h:cj w u (da a))(V:a.length≤4398046511104)(q:∀x∈a,x.1.br.length≤8796093022208):Calls Tryz.prog 75 #[Aq #[L (y ⟨c,0,z⟩) a.length (a.length+1)],L (y ⟨o,0,z⟩) a.length a.length,Aq #[u]] w fun e w'=>e=Xq (Bq true)∧G w.heap.size w w':=by
 have r:a.length≤9223372036854775807:=by omega
 have s:∀x∈a,x.1.br.length≤9223372036854775807:=fun x O=>by have:=q x O;omega
 have v:=pU (cap:=a.length+1) d f r s;have A:=pU (t:=[]) (cap:=a.length) d (by simpa using g) r s;obtain⟨B,C,Q,_,_⟩:=id h;subst Q;rw[dh]at h⊢;have X:=fun(w:W)=>run_neq_slice_nil_any (P:=Tryz.prog) w 31 38 z 0 0 0 0 Tryz.underlying31;have ab:=f.lt;have ac:=g.lt;go_enter Tryz.func75,Tryz.ntmps75;go_wp2_with fail;refine(e_ _ _ _ _ (v.ab (((Below.refl _ _).alloc (Rq _) _).alloc (by simp) _)) (h.ab (((Below.refl _ _).alloc (Rq _) _).alloc (by simp) _))).mono ?_;rintro e w1⟨rfl,E⟩;have b:G (w.heap.size+2) ((w.alloc (Y #[L (y ⟨c,0,z⟩) a.length (a.length+1)] 30)).alloc (Y #[L B a.length C] 30)) w1:=by simpa using E
 clear E;have j:G w.heap.size w w1:=(((Below.refl w.heap.size w).alloc (Rq _) _).alloc (by simp) _).trans (b.mono (by omega));have F:w1.cell? ⟨w.heap.size,0,z⟩=y (L (y ⟨c,0,z⟩) a.length (a.length+1)):=(b.cell (by simp)).trans (by simp);have R:w1.cell? ⟨w.heap.size+1,0,z⟩=y (L B a.length C):=(b.cell (by simp)).trans (by simp);go_wp2_with fail;refine(e_ _ _ _ _ (A.ab j) (h.ab j)).mono ?_;rintro e ad⟨rfl,m⟩;have S:=b.size;simp at S;have l:=j.trans (m.mono (by omega));have ae:=aa m F;have H:=f.ab l;have T:=g.ab l;have U:=d.ab l;have I:=cr a;have af:=H.cell (i:=a.length*2) (u:=N Z 77) (by rw[List.getElem?_append_right (by omega),I,Nat.sub_self];rfl);have ag:=H.cell (i:=a.length*2+1) (u:=L z 0 0) (by rw[List.getElem?_append_right (by omega),I,Nat.add_sub_cancel_left];rfl);clear F R v A b j m f g d;go_wp2;go_loop[11](fun i=>∃(k:Nat),k≤a.length∧i=N Z k)(fun i=>a.length-(intOf i).toNat);case atStart=>exact⟨0,Nat.zero_le _,rfl⟩
 case round=>
  obtain⟨k,ah,rfl⟩:=hrel;by_cases n:k<a.length
  ·obtain⟨g1,g2⟩:=iE a k n;obtain⟨p,J,K⟩:=U _ (List.getElem_mem n);have ai:=q _ (List.getElem_mem n);have d2:=T.cell g2;rw[J]at d2;have M:=bZ a[k].1.br;have aj:=K.cell (i:=a[k].1.br.length*2) (u:=N Z 77) (by rw[List.getElem?_append_right (by omega),M,Nat.sub_self];rfl);clear J g1 g2 M K;generalize a[k].1.br.length=ak at*;go_wp2;go_round;case rel=>exact⟨k+1,by omega,by go_num⟩
   case measure=>simp[intOf];omega
  ·go_wp2;go_ret;exact⟨rfl,l⟩
theorem pJ(v:Vq)(h:List aL)(w:W)(c:cj w v h):Calls Tryz.prog 56 #[Aq #[v]] w fun e w'=>e=Xq (Uq (if aO h then#[Tq (ay (aQ h)),N Z 0]else#[Tq ⟨#[]⟩,N Z 2]))∧G w.heap.size w w':=by
 obtain⟨d,cap,f,_,_⟩:=id c;subst f;have hc:=pD _ h (w.alloc (Y #[L d h.length cap] 30)) (c.ab ((Below.refl _ _).alloc (Rq _) _));cases a:aO h;·simp only[a]at hc;go_enter Tryz.func56,Tryz.ntmps56;go_wp2_with fail;refine hc.mono ?_;rintro e w1⟨rfl,b⟩;clear hc;go_wp2;go_ret2;exact⟨by simp[a],((Below.refl _ _).alloc (Rq _) _).trans (b.mono (by simp))⟩
 ·simp only[a]at hc;go_enter Tryz.func56,Tryz.ntmps56;go_wp2_with fail;refine hc.mono ?_;rintro e w1⟨rfl,b⟩;clear hc;go_wp2;go_ret2;exact⟨by simp[a],((Below.refl _ _).alloc (Rq _) _).trans (b.mono (by simp))⟩
theorem pI(s:ByteArray)(w:W)(hs:s.size≤maxLen):Calls Tryz.prog 57 #[Tq s] w fun e w'=>((∃v a,e=Xq (Uq #[Aq #[v],N Z 0])∧aP w' w.heap.size v a∧aO (da a)=true∧ay (aQ (da a))=s)∨((∀h,aO h=true→ay (aQ h)≠s)∧e=Xq (Uq #[Aq #[L z 0 0],N Z 2])))∧G w.heap.size w w':=by
 obtain⟨b,g⟩:∃b:Ending→W→Prop,b=fun e w'=>((∃v a,e=Xq (Uq #[Aq #[v],N Z 0])∧aP w' w.heap.size v a∧aO (da a)=true∧ay (aQ (da a))=s)∨((∀h,aO h=true→ay (aQ h)≠s)∧e=Xq (Uq #[Aq #[L z 0 0],N Z 2])))∧G w.heap.size w w':=⟨_,rfl⟩;rw[←g];have c:Hid (b=fun e w'=>((∃v a,e=Xq (Uq #[Aq #[v],N Z 0])∧aP w' w.heap.size v a∧aO (da a)=true∧ay (aQ (da a))=s)∨((∀h,aO h=true→ay (aQ h)≠s)∧e=Xq (Uq #[Aq #[L z 0 0],N Z 2])))∧G w.heap.size w w'):=g;clear g;have hc:=kT s (w.alloc (Y #[L z 0 0] 30)) hs;go_enter Tryz.func57,Tryz.ntmps57;go_wp2_with fail;refine hc.mono ?_;clear hc;rintro e w1⟨p,d⟩;have q:=d.size;simp at q;have j:w1.cell? ⟨w.heap.size,0,z⟩=y (L z 0 0):=(d.cell (by simp)).trans (by simp);have r:w1.frozen? ⟨w.heap.size,0,z⟩=false:=(d.frozen (by simp)).trans (by simp);have k:G w.heap.size w w1:=((Below.refl _ _).alloc (Rq _) _).trans (d.mono (by simp));rcases p with⟨v,a,rfl,ho,l,m⟩|⟨n,rfl⟩
 ·obtain⟨f,cap,rfl⟩:=af ho.row;have o:aP w1 (w.heap.size+1) (L f a.length cap) a:=by simpa using ho
  have i:b (Xq (Uq #[Aq #[L f a.length cap],N Z 0])) (w1.setCell ⟨w.heap.size,0,z⟩ (L f a.length cap)):=by rw[c.out];exact⟨.inl ⟨_,a,rfl,(o.set (by simp) _).base (by omega),l,m⟩,k.setCell (by simp) _⟩
  clear c ho o l m;go_wp2;exact bodyPost_ret (v:=Uq #[Aq #[L f a.length cap],N Z 0]) (by simp[results,Tryz.results57,go_sem,j]) rfl i
 ·have i:b (Xq (Uq #[Aq #[L z 0 0],N Z 2])) (w1.setCell ⟨w.heap.size,0,z⟩ (L z 0 0)):=by rw[c.out];exact⟨.inr ⟨n,rfl⟩,k.setCell (by simp) _⟩
  clear c n;go_wp2;exact bodyPost_ret (v:=Uq #[Aq #[L z 0 0],N Z 2]) (by simp[results,Tryz.results57,go_sem,j]) rfl i
theorem k6(v:Vq)(a:List (aL×Vq))(w:W)(base:Nat)(A:aP w base v a)(aA:base≤w.heap.size)(aB:a.length≤1000)(U:∀x∈a,x.1.br.length≤1000)(S:Nat→Prop)(V:∀g,v.ownBlock=y g→S g)(X:∀x∈a,∀g,x.2.ownBlock=y g→S g):Calls Tryz.prog 79 #[Aq #[v]] w fun e w'=>e=Xq (Uq #[])∧aP w' base v a∧aH S w w':=by
 obtain⟨aa,ab,ac,ad,ae⟩:=info_parts Tryz.nj;obtain⟨ag,ah,ai,aj,ak⟩:=info_parts Tryz.ni;obtain⟨E,cap,rfl⟩:=af A.row;have aC:=A.rd;go_enter Tryz.func79,Tryz.ntmps79;go_wp2;go_loopw[2](fun i wr=>∃(k:Nat),k≤a.length∧i=N Z k∧aP wr base (L E a.length cap) a∧wr.cell? ⟨w.heap.size,0,z⟩=y (L E a.length cap)∧aH S w wr∧w.heap.size+1≤wr.heap.size)(fun i _=>a.length-(intOf i).toNat);case atStart=>exact⟨0,Nat.zero_le _,rfl,A.alloc _,by simp,(aH.refl _ _).alloc _,by simp⟩
 case round=>
  obtain⟨k,aD,rfl,ho,al,P,hz⟩:=hrel;by_cases p:k<a.length;case neg=>
   obtain⟨r,F⟩:∃r,r=wr:=⟨_,rfl⟩;subst F;go_wp2;go_loopw[5,6](fun l i c=>∃(j:Nat),j≤9∧i=N Z j∧aP c base (L E a.length cap) a∧c.ownsRow base 33 2 l (a.length+j) (bt a++iC [N Z 0,L z 0 0] j)∧Hid (∀g,l.ownBlock=y g→S g∨w.heap.size≤g)∧aH S w c∧w.heap.size+1≤c.heap.size)(fun _ i _=>9-(intOf i).toNat);case atStart=>exact⟨0,Nat.zero_le _,rfl,ho,by simpa[iC]using ho.row,fun g d=>.inl (V g d),P,hz⟩
   case round=>
    obtain⟨j,am,rfl,n,h,Q,o,R⟩:=hrel;obtain⟨an,ao,rfl⟩:=af h;by_cases ap:j<9
    ·have B:Hid (iC [N Z 0,L z 0 0] (j+1)=iC [N Z 0,L z 0 0] j++[N Z 0,L z 0 0]):=rfl;go_wp2_with(at_builtin;refine ev _ rfl _ _ 28 rfl base 33 aa (Aq #[N Z 0,L z 0 0]) 2 32 Tryz.underlying28 ab ac ad ae rfl (by decide) _ _ _ rfl (h.alloc _) ⟨wr.heap.size,0,z⟩ 1 1 [N Z 0,L z 0 0] rfl rfl (kR wr _ _ _) ?d2 ?d3 ?d4 ?d5 (by decide) ?_);case d2=>first|exact⟨rfl,rfl⟩|(intro u s;simp at s;rcases s with rfl|rfl<;>rfl)
     case d3=>unfold maxLen;omega
     case d4=>omega
     case d5=>first|omega|(simp;omega)
     intro H c m f t q;try rw[List.append_assoc]at m
     rw[←B.out]at m;have I:=(n.alloc _).xL (h.alloc _) (fun g _ _=>⟨_,rfl⟩) f t;have J:=(o.alloc _).grown f Q.out;have aq:Hid (∀g,H.ownBlock=y g→S g∨w.heap.size≤g):=fun g d=>by
      rcases q g d with e|e;·exact Q.out g e
      ·exact .inr (by omega)
     have K:=f.size;simp at K;obtain⟨ar,au,rfl⟩:=af m;clear f t q h n o;go_wp2;go_roundw;case rel=>exact⟨j+1,by omega,by go_num,I,m,aq,J,by omega⟩
     case measure=>simp[intOf];omega
    ·go_wp2;go_end0;exact⟨rfl,n,o⟩
  obtain⟨r,F⟩:∃r,r=wr:=⟨_,rfl⟩;subst F;obtain⟨b,rfl,aE,c1,c2,aF⟩:=kI ho p;have aG:=U _ (List.getElem_mem p);have av:=ho.each _ (List.getElem_mem p);have aw:=ur.start ho p;have ax:Hid (∀g,a[k].2.ownBlock=y g→S g∧g<w.heap.size∨w.heap.size+1≤g):=fun g d=>.inl ⟨X _ (List.getElem_mem p) g d,((A.each _ (List.getElem_mem p)).lt g d).2⟩;generalize a[k].1.br=ps at*;generalize a[k].2=sv at*;go_wp2;go_loopw[3,4](fun l i c=>∃(j:Nat),j≤9∧i=N Z j∧aP c base (L (y ⟨b,0,z⟩) a.length cap) a∧c.ownsRow base 38 2 l (ps.length+j) (bf ps++iC [N Z 77,N Z 0] j)∧ur a l (bf ps++iC [N Z 77,N Z 0] j)∧Hid (∀g,l.ownBlock=y g→S g∧g<w.heap.size∨w.heap.size+1≤g)∧c.cell? ⟨w.heap.size,0,z⟩=y (L (y ⟨b,0,z⟩) a.length cap)∧aH S w c∧w.heap.size+1≤c.heap.size)(fun _ i _=>9-(intOf i).toNat);case atStart=>exact⟨0,Nat.zero_le _,rfl,ho,by simpa[iC]using av,by simpa[iC]using aw,ax,al,P,hz⟩
  case round=>
   obtain⟨j,am,rfl,n,h,M,C,O,o,R⟩:=hrel;obtain⟨an,ao,rfl⟩:=af h;by_cases ap:j<9
   ·have B:Hid (iC [N Z 77,N Z 0] (j+1)=iC [N Z 77,N Z 0] j++[N Z 77,N Z 0]):=rfl;go_wp2_with(at_builtin;refine ev _ rfl _ _ 31 rfl base 38 ag (Aq #[N Z 0,N Z 0]) 2 16 Tryz.underlying31 ah ai aj ak rfl (by decide) _ _ _ rfl (h.alloc _) ⟨wr.heap.size,0,z⟩ 1 1 [N Z 77,N Z 0] rfl rfl (kR wr _ _ _) ?e2 ?e3 ?e4 ?e5 (by decide) ?_);case e2=>first|exact⟨rfl,rfl⟩|(intro u s;simp at s;rcases s with rfl|rfl<;>rfl)
    case e3=>unfold maxLen;omega
    case e4=>omega
    case e5=>first|omega|(simp;omega)
    intro H c m f t q;have T:=ur.step (news:=[N Z 77,N Z 0]) n M (fun g d=>by rcases q g d with e|e;exact .inl e;exact .inr (by omega));try rw[List.append_assoc]at m
    rw[←B.out]at m;rw[List.append_assoc,←B.out]at T;have I:=(n.alloc _).app (h.alloc _) M f t;have J:=(o.alloc _).grown f (fun g d=>by
     rcases C.out g d with e|e;·exact .inl e.1
     ·exact .inr (by omega));have ay:c.cell? ⟨w.heap.size,0,z⟩=y (L (y ⟨b,0,z⟩) a.length cap):=f.cell (by rw[World.cell?_alloc_lt _ _ _ (by show w.heap.size<_;omega)];exact O) (fun e=>by rcases C.out _ e.symm with e1|e1;exact absurd e1.2 (Nat.lt_irrefl _);exact absurd e1 (by simp));have az:Hid (∀g,H.ownBlock=y g→S g∧g<w.heap.size∨w.heap.size+1≤g):=fun g d=>by
     rcases q g d with e|e;·exact C.out g e
     ·exact .inr (by omega)
    have K:=f.size;simp at K;obtain⟨ar,au,rfl⟩:=af m;clear f t q h n o M O C;go_wp2;go_roundw;case rel=>exact⟨j+1,by omega,by go_num,I,m,T,az,ay,J,by omega⟩
    case measure=>simp[intOf];omega
   ·go_wp2;go_roundw;case rel=>exact⟨k+1,by omega,by go_num,n,O,o,R⟩
    case measure=>simp[intOf];omega
def DC(mark:Int)(k:Nat)(a:List (aL×Vq)):Prop:=∀i(b:i<a.length),i<k→a[i].1.src=mark+i∧∀j,j<a[i].1.br.length→bP a[i].1.br j=mark+i
theorem DC.set{mark:Int}{k:Nat}{a:List (aL×Vq)}(h:DC mark k a)(x:aL×Vq):DC mark k (a.set k x):=by
 intro i b c;have e:(a.set k x)[i]=a[i]'(by simpa using b):=by rw[List.getElem_set,if_neg (by omega)]
 rw[e];exact h i _ c
theorem o8(a:ByteArray):(a.toList==a.toList)=true:=by simp
theorem ye(u:Vq)(h:List aL)(w:W)(c:cj w u h)(F:h.length≤4398046511104)(H:∀k,k<h.length→(aq h k).length≤8796093022208):Calls Tryz.prog 41 #[Aq #[u]] w fun e w'=>e=Xq (Bq true)∧G w.heap.size w w':=by
 obtain⟨l,m,Q,_,_⟩:=id c;subst Q;have R:=c.ab ((Below.refl w.heap.size w).alloc (Rq _) (Y #[L l h.length m] 30));go_enter Tryz.func41,Tryz.ntmps41;go_wp2_with fail;refine mh _ h _ R F H _ ?_;intro w1 a n S d o f t I;have v:G (w.heap.size+1) (w.alloc (Y #[L l h.length m] 30)) w1:=by simpa using I
 have T:=v.size;simp at T;have U:=Below.under v;have V:w1.cell? ⟨w.heap.size,0,z⟩=y (L l h.length m):=(v.cell (by simp)).trans (by simp);have J:a.length=h.length:=by rw[←d,dh]
 have K:∀x∈a,x.1.br.length≤8796093022208:=by intro x A;obtain⟨k,X,rfl⟩:=List.getElem_of_mem A;have:=H k (by omega);rw[←d,(gN a X).2]at this;exact this
 have ak:=f.lt;have ab:Hid (a.length=h.length):=J;have rg:=pU (cap:=a.length+1) o f (by omega) (fun x A=>by have:=K x A;omega);rw[d]at rg;have ac:Hid (da a=h):=d;clear I J d;have al:w.heap.size<w1.heap.size:=by omega
 have hc:=pJ _ h (w1.alloc (Y #[L (y ⟨n,0,z⟩) a.length (a.length+1)] 30)) (rg.ab ((Below.refl _ _).alloc (Rq _) _));go_wp2_with fail;refine hc.mono ?_;clear hc;rintro e p⟨rfl,M⟩;have q:G (w1.heap.size+1) (w1.alloc (Y #[L (y ⟨n,0,z⟩) a.length (a.length+1)] 30)) p:=by simpa using M
 have g:=Below.under q;have ad:=q.size;simp at ad;have O:=aa g V;have am:p.cell? ⟨w1.heap.size,0,z⟩=y (L (y ⟨n,0,z⟩) a.length (a.length+1)):=(q.cell (by simp)).trans (by simp);have B:=U.trans (g.mono (by omega));have C:=c.ab B;have E:cj p (L l h.length m) (da a):=by rw[ac.out];exact C
 have r:=sO a n S _ p (o.ab g) (f.ab g) (t.ab g) E (by rw[ab.out];exact F) K;clear M q;cases ae:aO h;·simp only[Bool.false_eq_true,if_false];go_wp2_with fail;refine r.mono ?_;clear r;rintro e af⟨rfl,b⟩;have P:=aa b O;have i:=B.trans (b.mono (by omega));have ag:=b.size;go_wp2_with fail;refine(iF _ h _ (c.ab i)).mono ?_;rintro e ah⟨rfl,j⟩;have s:=i.trans (j.mono (by omega));clear o f t rg C E;go_wp2;go_ret;exact⟨by simp,s⟩
 ·simp only[if_true];go_wp2_with fail;refine r.mono ?_;clear r;rintro e af⟨rfl,b⟩;have P:=aa b O;have i:=B.trans (b.mono (by omega));have ag:=b.size;go_wp2_with fail;refine(iF _ h _ (c.ab i)).mono ?_;rintro e ah⟨rfl,j⟩;have s:=i.trans (j.mono (by omega));have an:=aa j P;have ao:=j.size;clear o f t rg C E;go_wp2_with fail;refine(jS _ h _ (c.ab s) ae).mono ?_;rintro e ap⟨rfl,ai⟩;have aj:=s.trans (ai.mono (by omega));have hs:=o8 (ay (aQ h));go_wp2;go_ret;exact⟨by simp,aj⟩
theorem aP.jX{S:Nat→Prop}{w w':W}{base:Nat}{v:Vq}{c:List (aL×Vq)}(h:aP w base v c)(i:aH S w w')(j:∀g,S g→g<base):aP w' base v c:=by
 have d:∀(e:TypeId)(a:Nat)(u:Vq)(n:Nat)(xs:List Vq),w.ownsRow base e a u n xs→w'.ownsRow base e a u n xs:=by intro e a u n xs b;refine d_ b fun g f=>i.block g (b.lt g f).2 (fun hs=>?_);have:=j g hs;have:=(b.lt g f).1;omega
 exact⟨d _ _ _ _ _ h.row,fun x k=>d _ _ _ _ _ (h.each x k),h.apart⟩
theorem aP.fA{w w':W}{base:Nat}{v:Vq}{a:List (aL×Vq)}(h:aP w base v a)(b:G w.heap.size w w'):aP w' base v a:=h.below b (Rq _)
def jE(v:Vq)(a:List (aL×Vq))(g:Nat):Prop:=v.ownBlock=y g∨∃x∈a,x.2.ownBlock=y g
theorem zB{w:W}{base:Nat}{v:Vq}{b:List (aL×Vq)}(h:aP w base v b):∀g,jE v b g→base≤g∧g<w.heap.size:=by
 rintro g(a|⟨x,c,a⟩);·exact h.row.lt g a
 ·exact(h.each x c).lt g a
theorem ya{a:List (aL×Vq)}(b:aO (da a)=true):a.length≤1000∧∀x∈a,x.1.br.length≤1000:=by have c:=gM b;rw[dh]at c;refine⟨by omega,fun x d=>?_⟩;have:=iy b x.1 (List.mem_map.2 ⟨x,d,rfl⟩);simp[cX]at this;omega
structure dr where
 kind:Int
 a:Int
 b:Int
 c:Int
structure fw where
 kind:Int
 r:Int
 x:Int
 y:Int
structure aN where
 ops:List dr
 fin:fw
structure a8 where
 args:Int
 regs:Int
 data:Int
 slots:Int
 blocks:List aN
def oz:dr:=⟨0,0,0,0⟩
def ez:fw:=⟨0,0,0,0⟩
def bz:aN:=⟨[],ez⟩
def cD(l:List dr)(k:Nat):Int:=(l.getD k oz).kind
def oa(l:List dr)(k:Nat):Int:=(l.getD k oz).a
def ob(l:List dr)(k:Nat):Int:=(l.getD k oz).b
def oc(l:List dr)(k:Nat):Int:=(l.getD k oz).c
def aj(l:List aN)(k:Nat):List dr:=(l.getD k bz).ops
def b_(l:List aN)(k:Nat):fw:=(l.getD k bz).fin
def fX(l:List aN)(k:Nat):Int:=(b_ l k).kind
def gJ(l:List aN)(k:Nat):Int:=(b_ l k).r
def iT(l:List aN)(k:Nat):Int:=(b_ l k).x
def ja(l:List aN)(k:Nat):Int:=(b_ l k).y
def aw(regs slots:Int)(o:dr):Bool:=if o.kind=1 then below o.a regs&&below o.b 256&&below o.c 256 else if 3≤o.kind∧o.kind≤11 then below o.a regs&&below o.b regs&&below o.c regs else if o.kind=2∨o.kind=12∨o.kind=13 then below o.a regs&&below o.b regs&&decide (o.c=0)else if o.kind=14 then below o.a slots&&below o.b regs&&decide (o.c=0)else if o.kind=15 then below o.a regs&&below o.b slots&&decide (o.c=0)else false
def bw(regs n:Int)(e:fw):Bool:=if e.kind=1 then decide (e.r=0)&&below e.x n&&decide (e.y=0)else if e.kind=2 then below e.r regs&&below e.x n&&below e.y n else if e.kind=3 then below e.r regs&&decide (e.x=0)&&decide (e.y=0)else false
def fQ(regs slots:Int)(l:List dr):Bool:=l.all (aw regs slots)
def cI(regs slots n:Int)(b:aN):Bool:=decide (b.ops.length≤12)&&fQ regs slots b.ops&&bw regs n b.fin
def ie(regs slots n:Int)(l:List aN):Bool:=l.all (cI regs slots n)
def aB(p:a8):Bool:=decide (1≤p.regs∧p.regs≤8)&&decide (0≤p.args∧p.args≤p.regs)&&decide (0≤p.data∧p.data≤8)&&decide (0≤p.slots∧p.slots≤8)&&decide (1≤p.blocks.length∧p.blocks.length≤6)&&ie p.regs p.slots p.blocks.length p.blocks
def fF(regs slots:Int)(l:List dr)(k:Nat):Bool:=fQ regs slots (l.drop k)
def eW(regs slots n:Int)(l:List aN)(k:Nat):Bool:=ie regs slots n (l.drop k)
theorem qY{regs slots:Int}{l:List dr}{k:Nat}(h:l.length≤k):fF regs slots l k=true:=by unfold fF;rw[List.drop_of_length_le h];rfl
theorem oT{regs slots:Int}{l:List dr}{k:Nat}(h:k<l.length):fF regs slots l k=(aw regs slots ⟨cD l k,oa l k,ob l k,oc l k⟩&&fF regs slots l (k+1)):=by unfold fF;rw[je l oz k h];rfl
theorem pZ{regs slots n:Int}{l:List aN}{k:Nat}(h:l.length≤k):eW regs slots n l k=true:=by unfold eW;rw[List.drop_of_length_le h];rfl
theorem oF{regs slots n:Int}{l:List aN}{k:Nat}(h:k<l.length):eW regs slots n l k=(cI regs slots n ⟨aj l k,⟨fX l k,gJ l k,iT l k,ja l k⟩⟩&&eW regs slots n l (k+1)):=by unfold eW;rw[je l bz k h];rfl
def iH(w:W)(v:Vq)(l:List dr):Prop:=∃c cap,v=L c l.length cap∧l.length≤9223372036854775807∧∀i,i<l.length→∃b a,c=y ⟨b,a,z⟩∧w.cell? ⟨b,a+i*4,z⟩=y (N Z (cD l i))∧w.cell? ⟨b,a+i*4+1,z⟩=y (N Z (oa l i))∧w.cell? ⟨b,a+i*4+2,z⟩=y (N Z (ob l i))∧w.cell? ⟨b,a+i*4+3,z⟩=y (N Z (oc l i))
def bm(w:W)(v:Vq)(l:List aN):Prop:=∃c cap,v=L c l.length cap∧l.length≤9223372036854775807∧∀i,i<l.length→∃b a sv,c=y ⟨b,a,z⟩∧w.cell? ⟨b,a+i*5,z⟩=y sv∧w.cell? ⟨b,a+i*5+1,z⟩=y (N Z (fX l i))∧w.cell? ⟨b,a+i*5+2,z⟩=y (N Z (gJ l i))∧w.cell? ⟨b,a+i*5+3,z⟩=y (N Z (iT l i))∧w.cell? ⟨b,a+i*5+4,z⟩=y (N Z (ja l i))∧iH w sv (aj l i)
theorem iH.ab{w w':W}{v:Vq}{l:List dr}(h:iH w v l)(a:G w.heap.size w w'):iH w' v l:=by obtain⟨c,cap,rfl,d,hc⟩:=h;exact⟨c,cap,rfl,d,fun i f=>let⟨b,g,e,j,k,m,n⟩:=hc i f;⟨b,g,e,aa a j,aa a k,aa a m,aa a n⟩⟩
theorem bm.ab{w w':W}{v:Vq}{l:List aN}(h:bm w v l)(a:G w.heap.size w w'):bm w' v l:=by obtain⟨c,cap,rfl,d,hc⟩:=h;exact⟨c,cap,rfl,d,fun i f=>let⟨b,g,sv,e,j,k,m,n,o,p⟩:=hc i f;⟨b,g,sv,e,aa a j,aa a k,aa a m,aa a n,aa a o,p.ab a⟩⟩
def dy(p:a8)(v:Vq):Vq:=Aq #[N Z p.args,N Z p.regs,N Z p.data,N Z p.slots,v]
def yq(o:dr):List UInt8:=[cx o.kind,cx o.a,cx o.b,cx o.c]
def eU(l:List dr):List UInt8:=l.flatMap yq
def lN(e:fw):List UInt8:=[cx e.kind,cx e.r,cx e.x,cx e.y]
def bx(b:aN):List UInt8:=[cx b.ops.length]++eU b.ops++lN b.fin
def fj(p:a8):List UInt8:=[84,87,cx p.args,cx p.regs,cx p.data,cx p.slots,cx p.blocks.length]
def aK(p:a8):List UInt8:=fj p++p.blocks.flatMap bx
theorem jt(l:List dr):(eU l).length=4*l.length:=by induction l with|nil=>rfl|cons p a b=>simp only[eU,List.flatMap_cons,List.length_append,List.length_cons,yq,List.length_nil]at*;omega
theorem fL(b:aN):(bx b).length=5+4*b.ops.length:=by simp[bx,jt,lN];omega
def fM(l:List dr)(k:Nat):ByteArray:=ay ([cx l.length]++eU (l.take k))
theorem mU{l:List dr}{k:Nat}(h:k<l.length):fM l (k+1)=fM l k++⟨#[cx (cD l k),cx (oa l k),cx (ob l k),cx (oc l k)]⟩:=by show _=ay _++ay [_,_,_,_];rw[cE];simp[fM,eU,dn l oz k h,cD,oa,ob,oc,yq]
theorem oG{l:List dr}{k:Nat}(e:fw)(h:l.length≤k):fM l k++⟨#[cx e.kind,cx e.r,cx e.x,cx e.y]⟩=ay (bx ⟨l,e⟩):=by show ay _++ay [_,_,_,_]=_;rw[cE];simp[bx,lN,List.take_of_length_le h]
theorem mT(l:List dr)(k:Nat)(h:k≤l.length):(fM l k).size=1+4*k:=by simp[fM,ay,ByteArray.size,jt,List.length_take,Nat.min_eq_left h];omega
def dP(p:a8)(k:Nat):ByteArray:=ay (fj p++(p.blocks.take k).flatMap bx)
theorem oW{p:a8}{k:Nat}(h:k<p.blocks.length):dP p (k+1)=dP p k++ay (bx ⟨aj p.blocks k,⟨fX p.blocks k,gJ p.blocks k,iT p.blocks k,ja p.blocks k⟩⟩):=by unfold dP;rw[cE,dn p.blocks bz k h,List.flatMap_append,List.append_assoc];simp[aj,fX,gJ,iT,ja,b_]
theorem rH{p:a8}{k:Nat}(h:p.blocks.length≤k):dP p k=ay (aK p):=by simp[dP,aK,List.take_of_length_le h]
theorem dw{p:a8}(a:aB p=true):1≤p.blocks.length∧p.blocks.length≤6:=by simp[aB]at a;omega
theorem eX{p:a8}(a:aB p=true)(x:aN)(b:x∈p.blocks):cI p.regs p.slots p.blocks.length x=true:=by simp[aB,ie]at a;exact a.2 x b
theorem i_{p:a8}(a:aB p=true){k:Nat}(b:k<p.blocks.length):(aj p.blocks k).length≤12:=by have:=eX a (p.blocks.getD k bz) (cm b);simp[cI]at this;exact this.1.1
theorem Bz{l:List aN}(h:∀x∈l,x.ops.length≤12):(l.flatMap bx).length≤53*l.length:=by induction l with|nil=>simp|cons x d a=>have e:=h x (by simp);have f:=a (fun b c=>h b (by simp[c]));simp only[List.flatMap_cons,List.length_append,fL,List.length_cons];omega
theorem lG{p:a8}(a:aB p=true)(k:Nat):(dP p k).size≤330:=by
 have b:=dw a;have d:=Bz (l:=p.blocks.take k) (fun x c=>by have:=eX a x (List.mem_of_mem_take c);simp[cI]at this;exact this.1.1);have f:(p.blocks.take k).length≤6:=Nat.le_trans (List.length_take_le' _ _) b.2;have e:(dP p k).size=7+((p.blocks.take k).flatMap bx).length:=by simp[dP,ay,ByteArray.size,fj];omega
 omega
end Go.Proofs.YtblhmeidbjigaabGreatDoor
