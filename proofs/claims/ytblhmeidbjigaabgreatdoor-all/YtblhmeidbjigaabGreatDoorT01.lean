/- Texts that the proof of All stands on, printed tight (no blank that Lean does not need, short names); all_card lies in the last text. -/
import Derived.Test.YtblhmeidbjigaabGreatDoorRows
import Derived.WalkKit
import Derived.WalkSpells
import Derived.WalkLawsBesides
import Derived.Laws.BytesArg
import Derived.Deep.QuietTactic
import Derived.BigQuiet
import Derived.Deep.RegionHeld3
set_option linter.unusedSimpArgs false
set_option linter.unusedVariables false
set_option maxRecDepth 100000
set_option maxHeartbeats 8000000
namespace Go.Proofs.YtblhmeidbjigaabGreatDoor
open Go.RowKit
open Go.Value renaming int→N,slice→L,string→Tq,agg→Aq,bool→Bq,tuple→Uq
open Go.IntKind renaming i64→Z
open Go.Obj renaming cells→Y
open Go.Ending renaming returned→Xq
open Option renaming none→z,some→y
open Nat renaming le_refl→Rq
open Go renaming World→W,Value→Vq
open Go.RowKit renaming Below→G
def below(a b:Int):Bool:=decide (0≤a∧a<b)
def ah(d:Int)(s:ByteArray)(i:Int):Int:=if 0≤i∧i<s.size then(s[i.toNat]!).toNat else d
def cx(n:Int):UInt8:=UInt8.ofNat (n%256).toNat
theorem um(b:UInt8):wrap64 (b.toNat:Int)=b.toNat:=IntWalk.wrap64_in _ (by have:=b.toNat_lt;omega)
theorem Ew(w:W)(x:Int):(convert 192 9 (L (y ⟨w.heap.size,0,z⟩) 1 1)).run Tryz.prog (w.alloc (Y #[N .u8 x] 5))=.ok (Tq ⟨#[UInt8.ofNat x.toNat]⟩) (w.alloc (Y #[N .u8 x] 5)):=by
 refine run_convert_bytes_arg _ 192 5 Tryz.underlying192 Tryz.underlying5 _ 0 1 1 [x] rfl ?_ _ Tryz.underlying9;intro i a;obtain rfl:i=0:=by omega
 simp
theorem Ex(w:W)(x a:Int):(convert 192 9 (L (y ⟨w.heap.size,0,z⟩) 2 2)).run Tryz.prog (w.alloc (Y #[N .u8 x,N .u8 a] 5))=.ok (Tq ⟨#[UInt8.ofNat x.toNat,UInt8.ofNat a.toNat]⟩) (w.alloc (Y #[N .u8 x,N .u8 a] 5)):=by
 refine run_convert_bytes_arg _ 192 5 Tryz.underlying192 Tryz.underlying5 _ 0 2 2 [x,a] rfl ?_ _ Tryz.underlying9;intro i b;obtain rfl|rfl:i=0∨i=1:=by omega
 all_goals simp
theorem Ey(w:W)(x a b u:Int):(convert 192 9 (L (y ⟨w.heap.size,0,z⟩) 4 4)).run Tryz.prog (w.alloc (Y #[N .u8 x,N .u8 a,N .u8 b,N .u8 u] 5))=.ok (Tq ⟨#[UInt8.ofNat x.toNat,UInt8.ofNat a.toNat,UInt8.ofNat b.toNat,UInt8.ofNat u.toNat]⟩) (w.alloc (Y #[N .u8 x,N .u8 a,N .u8 b,N .u8 u] 5)):=by
 refine run_convert_bytes_arg _ 192 5 Tryz.underlying192 Tryz.underlying5 _ 0 4 4 [x,a,b,u] rfl ?_ _ Tryz.underlying9;intro i c;obtain rfl|rfl|rfl|rfl:i=0∨i=1∨i=2∨i=3:=by omega
 all_goals simp
theorem aE(a b:Int)(w:W):Calls Tryz.prog 103 #[N Z a,N Z b] w fun e w'=>e=Xq (Bq (below a b))∧w=w':=by
 by_cases h:0≤a;·go_enter Tryz.func103,Tryz.ntmps103;go_wp2;go_ret;exact⟨by simp[below,h],rfl⟩
 ·have c:below a b=false:=by simp only[below,h,false_and,decide_false]
  go_enter Tryz.func103,Tryz.ntmps103;go_wp2;go_ret;exact⟨rfl,rfl⟩
theorem ed(s:ByteArray)(i:Int)(w:W)(hs:s.size≤maxLen):Calls Tryz.prog 63 #[Tq s,N Z i] w fun e w'=>e=Xq (N Z (ah (-1) s i))∧w=w':=by
 unfold maxLen at hs;by_cases h:0≤i∧i<s.size
 ·have b:below i s.size=true:=by simp[below,h]
  obtain⟨a,c⟩:=h;obtain⟨n,rfl⟩:=Int.eq_ofNat_of_zero_le a;go_enter Tryz.func63,Tryz.ntmps63;go_wp2_with(go_at_call 103;refine(aE _ _ _).mono ?_;rintro e w'⟨rfl,rfl⟩);go_ret;refine⟨?_,rfl⟩;simp[ah,a,c,getElem!_pos,show n<s.size by omega,um]
 ·have b:below i s.size=false:=by simp only[below,h,decide_false]
  have hc:ah (-1) s i=-1:=by simp only[ah,h,if_false]
  go_enter Tryz.func63,Tryz.ntmps63;go_wp2_with(go_at_call 103;refine(aE _ _ _).mono ?_;rintro e w'⟨rfl,rfl⟩);go_ret;exact⟨by simp[hc],rfl⟩
theorem ly(a:Int)(w:W):Calls Tryz.prog 127 #[N Z a] w fun e w'=>e=Xq (Tq ⟨#[cx a]⟩)∧G w.heap.size w w':=by have b:=Ew w;go_enter Tryz.func127,Tryz.ntmps127;go_wp2;go_ret;exact⟨rfl,(Below.refl _ _).alloc (Rq _) _⟩
theorem nI(a b:Int)(w:W):Calls Tryz.prog 160 #[N Z a,N Z b] w fun e w'=>e=Xq (Tq ⟨#[cx a,cx b]⟩)∧G w.heap.size w w':=by have c:=Ex w;go_enter Tryz.func160,Tryz.ntmps160;go_wp2;go_ret;exact⟨rfl,(Below.refl _ _).alloc (Rq _) _⟩
theorem jP(a b c d:Int)(w:W):Calls Tryz.prog 126 #[N Z a,N Z b,N Z c,N Z d] w fun e w'=>e=Xq (Tq ⟨#[cx a,cx b,cx c,cx d]⟩)∧G w.heap.size w w':=by have f:=Ey w;go_enter Tryz.func126,Tryz.ntmps126;go_wp2;go_ret;exact⟨rfl,(Below.refl _ _).alloc (Rq _) _⟩
theorem Tryz.DL:(Tryz.prog.info? 5).map (fun i=>(i.zero,i.size,i.bytes))=y (y (N .u8 0),1,1):=by kernel_rfl
theorem kZ(s:ByteArray)(i:Int)(w:W)(hs:s.size≤maxLen):Calls Tryz.prog 111 #[Tq s,N Z i] w fun e w'=>e=Xq (N Z (ah 0 s i))∧w=w':=by
 unfold maxLen at hs;by_cases a:0≤i
 ·obtain⟨n,rfl⟩:=Int.eq_ofNat_of_zero_le a;by_cases b:(n:Int)<s.size;·go_enter Tryz.func111,Tryz.ntmps111;go_wp2;go_ret;refine⟨?_,rfl⟩;simp[ah,a,b,getElem!_pos,show n<s.size by omega,um]
  ·have hc:ah 0 s n=0:=by simp only[ah,b,and_false,if_false]
   go_enter Tryz.func111,Tryz.ntmps111;go_wp2;go_ret;exact⟨rfl,rfl⟩
 ·have hc:ah 0 s i=0:=by simp only[ah,a,false_and,if_false]
  go_enter Tryz.func111,Tryz.ntmps111;go_wp2;go_ret;exact⟨rfl,rfl⟩
def el(xs:List Int)(k:Nat):Int:=xs.getD k 0
def A_(xs:List Int)(k:Nat):List Vq:=(xs.take k).map fun n=>Value.int .u8 (n%256)
theorem Ba{xs:List Int}{k:Nat}(h:k<xs.length):A_ xs (k+1)=A_ xs k++[N .u8 (el xs k%256)]:=by unfold A_ el;rw[List.take_succ_eq_append_getElem h,List.map_append,show xs.getD k 0=xs[k]from by simp[h]];rfl
theorem Eb(xs:List Int):strOfNums (xs.map (·%256))=⟨(xs.map cx).toArray⟩:=by simp[strOfNums,cx,Function.comp_def]
theorem BO{w wr:W}{B:Nat}{v:Vq}{xs:List Int}(h:wr.ownsRow B 5 1 v xs.length (A_ xs xs.length)):(convert 192 9 v).run Tryz.prog wr=.ok (Tq ⟨(xs.map cx).toArray⟩) wr:=by
 rcases h.2 with⟨rfl,a⟩|⟨g,cap,c,rfl,_,d,_,_,hs,e⟩;·have:xs=[]:=List.eq_nil_of_length_eq_zero a;subst this;exact run_convert_bytes_nil _ 192 5 Tryz.underlying192 Tryz.underlying5 _ _ _ Tryz.underlying9
 ·rw[←Eb];refine run_convert_bytes_arg _ 192 5 Tryz.underlying192 Tryz.underlying5 _ 0 _ _ _ (by simp) ?_ _ Tryz.underlying9;intro i b;have hc:=h.cells (g:=g) rfl i (N .u8 ((xs.map (·%256)).getD i 0)) (by simp[A_,b]);rw[Addr.add_lit]at hc;simpa using hc
theorem lL(b d cap:Nat)(xs:List Int)(w:W)(o:b<w.heap.size)(F:xs.length≤1000)(hc:∀i,i<xs.length→w.cell? ⟨b,d+i,z⟩=y (N Z (el xs i))):Calls Tryz.prog 110 #[L (y ⟨b,d,z⟩) xs.length cap] w fun e w'=>e=Xq (Tq ⟨(xs.map cx).toArray⟩)∧G w.heap.size w w':=by
 obtain⟨p,q,r,s,t⟩:=info_parts Tryz.DL;obtain⟨f,h⟩:∃f:ByteArray,f=⟨(xs.map cx).toArray⟩:=⟨_,rfl⟩;rw[←h];have x:Hid (f=⟨(xs.map cx).toArray⟩):=h;clear h;go_enter Tryz.func110,Tryz.ntmps110;go_wp2;go_loopw[3,4](fun v i wr=>∃k:Nat,k≤xs.length∧i=N Z k∧wr.ownsRow w.heap.size 5 1 v k (A_ xs k)∧G w.heap.size w wr)(fun _ i _=>xs.length-(intOf i).toNat);case atStart=>exact⟨0,Nat.zero_le _,rfl,World.ownsRow_nil _ _ _ _,Below.refl _ _⟩
 case round=>
  obtain⟨k,H,rfl,a,c⟩:=hrel;by_cases j:k<xs.length
  ·have A:wr.cell? ⟨b,d+k,z⟩=y (N Z (el xs k)):=(c.cell o).trans (hc k j);have hz:=c.size;go_wp2_with(at_builtin;refine wpList_append_own _ rfl _ _ 192 rfl w.heap.size 5 p (N .u8 0) 1 1 Tryz.underlying192 q r s t rfl (by decide) _ _ _ rfl (a.alloc _) ⟨wr.heap.size,0,z⟩ 1 1 [N .u8 (el xs k%256)] rfl rfl (cell_one_new _ _ _) ?c2 ?c3 ?c4 ?c5 ?_);case c2=>intro u l;simp at l;subst l;rfl
   case c3=>unfold maxLen;omega
   case c4=>omega
   case c5=>simp;omega
   intro I w1 m n _;rw[←Ba j]at m;have B:=(c.alloc hz (Obj.cells #[N .u8 (el xs k%256)] 5)).grown n (by simp;omega) (fun g C=>(a.lt g C).1);clear n a A;go_wp2;go_roundw;case rel=>exact⟨k+1,by omega,by go_num,m,B⟩
   case measure=>simp[intOf];omega
  ·obtain rfl:k=xs.length:=by omega
   have E:=BO (w:=w) a;rw[←x.out]at E;go_wp2;go_ret;exact⟨rfl,c⟩
structure bM where
 cT:Int
 place:Int
structure aL where
 src:Int
 br:List bM
def pz:bM:=⟨0,0⟩
def hz:aL:=⟨0,[]⟩
def bP(ps:List bM)(k:Nat):Int:=(ps.getD k pz).cT
def aG(ps:List bM)(k:Nat):Int:=(ps.getD k pz).place
def aU(h:List aL)(k:Nat):Int:=(h.getD k hz).src
def aq(h:List aL)(k:Nat):List bM:=(h.getD k hz).br
def fP:Int→List bM→Bool|_,[]=>true|a,p::b=>below p.cT 8&&below p.place 16&&decide (a<p.place)&&fP p.place b
def cX(x:aL):Bool:=below x.src 6&&decide (x.br.length≤16)&&fP (-1) x.br
def j6(h:List aL):Bool:=h.all cX
def aO(h:List aL):Bool:=decide (1≤h.length∧h.length≤6)&&j6 h
def gL(ps:List bM)(a:Int)(k:Nat):Bool:=fP a (ps.drop k)
theorem je{a:Type}(l:List a)(d:a)(k:Nat)(h:k<l.length):l.drop k=l.getD k d::l.drop (k+1):=by rw[List.drop_eq_getElem_cons h];simp[h]
theorem tw{ps:List bM}{a:Int}{k:Nat}(h:ps.length≤k):gL ps a k=true:=by unfold gL;rw[List.drop_of_length_le h];rfl
theorem qH{ps:List bM}{a:Int}{k:Nat}(h:k<ps.length):gL ps a k=(below (bP ps k) 8&&below (aG ps k) 16&&decide (a<aG ps k)&&gL ps (aG ps k) (k+1)):=by unfold gL;rw[je ps pz k h];rfl
def eG(h:List aL)(k:Nat):Bool:=j6 (h.drop k)
theorem qI{h:List aL}{k:Nat}(a:h.length≤k):eG h k=true:=by unfold eG;rw[List.drop_of_length_le a];rfl
theorem oO{h:List aL}{k:Nat}(a:k<h.length):eG h k=(cX ⟨aU h k,aq h k⟩&&eG h (k+1)):=by unfold eG;rw[je h hz k a];rfl
def dH(w:W)(v:Vq)(ps:List bM):Prop:=∃c cap,v=L c ps.length cap∧ps.length≤9223372036854775807∧∀i,i<ps.length→∃b a,c=y ⟨b,a,z⟩∧w.cell? ⟨b,a+i*2,z⟩=y (N Z (bP ps i))∧w.cell? ⟨b,a+i*2+1,z⟩=y (N Z (aG ps i))
def cj(w:W)(v:Vq)(h:List aL):Prop:=∃c cap,v=L c h.length cap∧h.length≤9223372036854775807∧∀i,i<h.length→∃b a sv,c=y ⟨b,a,z⟩∧w.cell? ⟨b,a+i*2,z⟩=y (N Z (aU h i))∧w.cell? ⟨b,a+i*2+1,z⟩=y sv∧dH w sv (aq h i)
theorem aa{w w':W}(b:G w.heap.size w w'){a:Addr}{v:Vq}(h:w.cell? a=y v):w'.cell? a=y v:=(b.cell (World.block_lt_of_cell? w a h)).trans h
theorem dH.ab{w w':W}{v:Vq}{ps:List bM}(h:dH w v ps)(a:G w.heap.size w w'):dH w' v ps:=by obtain⟨c,cap,rfl,d,hc⟩:=h;exact⟨c,cap,rfl,d,fun i f=>let⟨b,g,e,j,k⟩:=hc i f;⟨b,g,e,aa a j,aa a k⟩⟩
theorem cj.ab{w w':W}{v:Vq}{h:List aL}(c:cj w v h)(a:G w.heap.size w w'):cj w' v h:=by obtain⟨d,cap,rfl,f,hc⟩:=c;exact⟨d,cap,rfl,f,fun i g=>let⟨b,j,sv,e,k,l,m⟩:=hc i g;⟨b,j,sv,e,aa a k,aa a l,m.ab a⟩⟩
theorem Below.under{w w':W}{o:Obj}(h:G (w.heap.size+1) (w.alloc o) w'):G w.heap.size w w':=((Below.refl w.heap.size w).alloc (Rq _) o).trans (h.mono (by omega))
structure cJ(B:Nat)(w:World)where
 wd:World
 ok:Below B w wd
theorem eA{P:Program}{id:Nat}{b:Exit→Act→W→Prop}{a:Act}{w:W}{l:List Oper}(B:Nat)(c:P.follows .mixedOrders=true)(d:Region.lexB .any l.toArray=true)(h:wpQuiet P l.toArray (fun w'=>∃x:cJ B w,w'=x.wd) (fun e=>∀w',(∃x:cJ B w,w'=x.wd)→b .normal e w') l a):(Code.region id l.toArray true).wp P b a w:=wp_region_quiet (C:=fun w'=>∃x:cJ B w,w'=x.wd) c d ⟨⟨w.drew,(Below.refl B w).drew⟩,rfl⟩ (by simpa using h)
theorem Calls.kJ{P:Program}{f:FuncId}{args:Array Vq}{w:W}{B:Nat}{x:cJ B w}{v:Vq}(a:B≤w.heap.size)(h:Calls P f args x.wd fun e w'=>e=Xq v∧G x.wd.heap.size x.wd w'):Calls P f args x.wd fun e b=>e=Xq v∧∃c:cJ B w,b=c.wd:=h.mono fun _ w'⟨d,g⟩=>⟨d,⟨w',x.ok.trans (g.mono (Nat.le_trans a x.ok.size))⟩,rfl⟩
theorem cJ.any(B:Nat)(w:W):Nonempty (cJ B w):=⟨⟨w,Below.refl B w⟩⟩
theorem cJ.cell{w:W}(x:cJ w.heap.size w){a:Addr}{v:Vq}(h:w.cell? a=y v):x.wd.cell? a=y v:=aa x.ok h
theorem af{w:W}{base:Nat}{e:TypeId}{size:Nat}{v:Vq}{n:Nat}{xs:List Vq}(h:w.ownsRow base e size v n xs):∃a cap,v=L a n cap:=by
 rcases h.2 with⟨rfl,rfl⟩|⟨g,cap,b,rfl,_⟩;·exact⟨_,_,rfl⟩
 ·exact⟨_,_,rfl⟩
theorem a_{w:W}{base base':Nat}{e:TypeId}{size:Nat}{v:Vq}{n:Nat}{xs:List Vq}(h:w.ownsRow base e size v n xs)(a:base'≤base):w.ownsRow base' e size v n xs:=by
 refine⟨h.1,?_⟩;rcases h.2 with b|⟨g,cap,c,d,f,i⟩;·exact .inl b
 ·exact .inr ⟨g,cap,c,d,Nat.le_trans a f,i⟩
theorem fZ{w:W}{a:Addr}{u v:Vq}(h:w.cell? a=y u):(w.setCell a v).cell? a=y v:=World.cell?_setCell_same _ _ _ h
theorem ba{w:W}{a b:Addr}{u v:Vq}(c:a≠b)(h:w.cell? b=y u):(w.setCell a v).cell? b=y u:=(World.cell?_setCell_other _ _ _ _ c).trans h
def eI(ps:List bM):List UInt8:=ps.flatMap fun p=>[cx p.cT,cx p.place]
def cG(x:aL):List UInt8:=[cx x.src,cx x.br.length]++eI x.br
def aQ(h:List aL):List UInt8:=[84,72,cx h.length]++h.flatMap cG
def ay(l:List UInt8):ByteArray:=⟨l.toArray⟩
theorem cE(a b:List UInt8):ay a++ay b=ay (a++b):=by apply ByteArray.ext;simp[ay]
def gX(a:Int)(ps:List bM)(k:Nat):ByteArray:=ay ([cx a,cx ps.length]++eI (ps.take k))
theorem dn{a:Type}(l:List a)(d:a)(k:Nat)(h:k<l.length):l.take (k+1)=l.take k++[l.getD k d]:=by rw[List.take_succ_eq_append_getElem h];simp[h]
theorem oV{a:Int}{ps:List bM}{k:Nat}(h:k<ps.length):gX a ps (k+1)=gX a ps k++⟨#[cx (bP ps k),cx (aG ps k)]⟩:=by show _=ay _++ay [_,_];rw[cE];simp[gX,eI,dn ps pz k h,bP,aG]
theorem rj{a:Int}{ps:List bM}{k:Nat}(h:ps.length≤k):gX a ps k=ay (cG ⟨a,ps⟩):=by simp[gX,cG,List.take_of_length_le h]
def eR(h:List aL)(k:Nat):ByteArray:=ay ([84,72,cx h.length]++(h.take k).flatMap cG)
theorem oP{h:List aL}{k:Nat}(a:k<h.length):eR h (k+1)=eR h k++ay (cG ⟨aU h k,aq h k⟩):=by unfold eR;rw[cE,dn h hz k a,List.flatMap_append,List.append_assoc];simp[aU,aq]
theorem qJ{h:List aL}{k:Nat}(a:h.length≤k):eR h k=ay (aQ h):=by simp[eR,aQ,List.take_of_length_le a]
theorem j9(ps:List bM):(eI ps).length=2*ps.length:=by induction ps with|nil=>rfl|cons p a b=>simp only[eI,List.flatMap_cons,List.length_append,List.length_cons,List.length_nil]at*;omega
theorem oU(a:Int)(ps:List bM)(k:Nat)(h:k≤ps.length):(gX a ps k).size=2+2*k:=by simp[gX,ay,ByteArray.size,j9,List.length_take,Nat.min_eq_left h];omega
theorem gM{h:List aL}(a:aO h=true):1≤h.length∧h.length≤6:=by simp[aO]at a;omega
theorem iy{h:List aL}(a:aO h=true)(x:aL)(b:x∈h):cX x=true:=by simp[aO,j6]at a;exact a.2 x b
theorem cm{a:Type}{l:List a}{d:a}{k:Nat}(h:k<l.length):l.getD k d∈l:=by simp[h]
theorem jo{h:List aL}(a:aO h=true){k:Nat}(b:k<h.length):(aq h k).length≤16:=by have:=iy a (h.getD k hz) (cm b);simp[cX]at this;exact this.1.2
theorem gi(x:aL):(cG x).length=2+2*x.br.length:=by simp[cG,j9];omega
theorem C6{l:List aL}(h:∀x∈l,x.br.length≤16):(l.flatMap cG).length≤34*l.length:=by induction l with|nil=>simp|cons x d a=>have e:=h x (by simp);have f:=a (fun b c=>h b (by simp[c]));simp only[List.flatMap_cons,List.length_append,gi,List.length_cons];omega
theorem lk{h:List aL}(a:aO h=true)(k:Nat):(eR h k).size≤210:=by
 have b:=gM a;have d:=C6 (l:=h.take k) (fun x c=>by have:=iy a x (List.mem_of_mem_take c);simp[cX]at this;exact this.1.2);have f:(h.take k).length≤6:=Nat.le_trans (List.length_take_le' _ _) b.2;have e:(eR h k).size=3+((h.take k).flatMap cG).length:=by simp[eR,ay,ByteArray.size];omega
 omega
theorem ic{a b:Int}(c:0≤a)(d:a<b):below a b=true:=by simp[below,c,d]
theorem gI{a b:Int}(h:a<0):below a b=false:=by simp only[below,decide_eq_false_iff_not];omega
theorem jY{a b:Int}(h:b≤a):below a b=false:=by simp only[below,decide_eq_false_iff_not];omega
def im(ps:List bM)(j:Nat):Int:=if j=0 then-1 else aG ps (j-1)
theorem lu(ps:List bM)(j:Nat):im ps (j+1)=aG ps j:=by simp[im]
theorem iF(v:Vq)(h:List aL)(w:W)(t:cj w v h):Calls Tryz.prog 76 #[Aq #[v]] w fun e w'=>e=Xq (Bq (aO h))∧G w.heap.size w w':=by
 have aj:=t;obtain⟨u,cap,rfl,ak,hc⟩:=t;obtain⟨a,n⟩:∃a,aO h=a:=⟨_,rfl⟩;rw[n];by_cases al:(h.length:Int)<1
 ·have d:a=false:=by rw[←n];simp[aO];omega
  subst d;clear n;go_enter Tryz.func76,Tryz.ntmps76;go_wp2;go_ret;exact⟨rfl,(Below.refl _ _).alloc (Rq _) _⟩
 by_cases am:(6:Int)<h.length
 ·have d:a=false:=by rw[←n];simp[aO];omega
  subst d;clear n;go_enter Tryz.func76,Tryz.ntmps76;go_wp2;go_ret;exact⟨rfl,(Below.refl _ _).alloc (Rq _) _⟩
 have l:Hid (a=eG h 0):=by show a=_;rw[←n];simp[aO,eG,show 1≤h.length∧h.length≤6 by omega]
 clear n;go_enter Tryz.func76,Tryz.ntmps76;go_wp2;go_loopw[3](fun i wr=>∃(k:Nat),k≤h.length∧i=N Z k∧Hid (a=eG h k)∧G (w.heap.size+1) (w.alloc (Y #[L u h.length cap] 30)) wr)(fun i _=>h.length-(intOf i).toNat);case atStart=>exact⟨0,Nat.zero_le _,rfl,l,Below.refl _ _⟩
 case round=>
  obtain⟨k,an,rfl,c,g⟩:=hrel;have ao:wr.cell? ⟨w.heap.size,0,z⟩=y (L u h.length cap):=(g.cell (by simp)).trans (by simp);have hz:=g.size;clear l;by_cases x:k<h.length;case neg=>
   have O:a=true:=by rw[c.out,qI (by omega)]
   subst O;clear c;go_wp2;go_ret;exact⟨rfl,Below.under g⟩
  obtain⟨b,ap,sv,rfl,A,B,C⟩:=hc k x;have E:=aa (Below.under g) A;have F:=aa (Below.under g) B;have r:=C.ab (Below.under g);obtain⟨H,I,rfl,ar,J⟩:=r;have f:Hid (eG h k=(cX ⟨aU h k,aq h k⟩&&eG h (k+1))):=oO x;simp at hz;by_cases P:aU h k<0
  ·have d:a=false:=by rw[c.out,f.out];simp[cX,gI P]
   subst d;clear c f;go_wp2;go_ret;exact⟨rfl,(Below.under g).alloc (by omega) _⟩
  by_cases Q:6≤aU h k
  ·have d:a=false:=by rw[c.out,f.out];simp[cX,jY Q]
   subst d;clear c f;go_wp2;go_ret;exact⟨rfl,(Below.under g).alloc (by omega) _⟩
  by_cases au:(16:Int)<(aq h k).length
  ·have d:a=false:=by rw[c.out,f.out];simp[cX,show¬(aq h k).length≤16 by omega]
   subst d;clear c f;go_wp2;go_ret;exact⟨rfl,(Below.under g).alloc (by omega) _⟩
  have K:Hid (a=(gL (aq h k) (im (aq h k) 0) 0&&eG h (k+1))):=by show a=_;rw[c.out,f.out];simp[cX,ic (show 0≤aU h k by omega) (show aU h k<6 by omega),show(aq h k).length≤16 by omega,gL,im]
  clear c f;generalize aq h k=ps at*;generalize aU h k=R at*;obtain⟨o,S⟩:∃o,o=wr:=⟨_,rfl⟩;subst S;have T:=(Below.under g);go_wp2;clear A B C E F;go_loopw[5](fun i U=>∃(j:Nat),j≤ps.length∧i=N Z j∧Hid (a=(gL ps (im ps j) j&&eG h (k+1)))∧G (o.heap.size+1) (o.alloc (Y #[N Z R,L H ps.length I] 33)) U)(fun i _=>ps.length-(intOf i).toNat);case atStart=>exact⟨0,Nat.zero_le _,rfl,K,Below.refl _ _⟩
  case round=>
   obtain⟨j,av,rfl,c,m⟩:=hrel;clear K;have aw:wr.cell? ⟨o.heap.size,1,z⟩=y (L H ps.length I):=(m.cell (by simp)).trans (by simp);have V:=m.size;simp at V;have ax:o.heap.size<wr.heap.size:=by omega
   have p:=T.trans ((Below.under m).mono (by omega));by_cases M:j<ps.length;case neg=>
    have q:Hid (a=eG h (k+1)):=by show a=_;rw[c.out,tw (by omega)];rfl
    clear c;have X:=g.trans ((Below.under m).mono (by omega));go_wp2;go_roundw;case rel=>exact⟨k+1,by omega,by go_num,q,X⟩
    case measure=>simp[intOf];omega
   obtain⟨b2,ab,rfl,e1,e2⟩:=J j M;have E:=aa (Below.under m) e1;have F:=aa (Below.under m) e2;have f:Hid (gL ps (im ps j) j=(below (bP ps j) 8&&below (aG ps j) 16&&decide (im ps j<aG ps j)&&gL ps (aG ps j) (j+1))):=qH M;by_cases ac:bP ps j<0
   ·have d:a=false:=by rw[c.out,f.out,gI ac];rfl
    subst d;clear c f;go_wp2;go_ret;exact⟨rfl,p.alloc (by omega) _⟩
   by_cases ad:8≤bP ps j
   ·have d:a=false:=by rw[c.out,f.out,jY ad];rfl
    subst d;clear c f;go_wp2;go_ret;exact⟨rfl,p.alloc (by omega) _⟩
   by_cases ae:aG ps j<0
   ·have d:a=false:=by rw[c.out,f.out,gI ae];simp
    subst d;clear c f;go_wp2;go_ret;exact⟨rfl,p.alloc (by omega) _⟩
   by_cases af:16≤aG ps j
   ·have d:a=false:=by rw[c.out,f.out,jY af];simp
    subst d;clear c f;go_wp2;go_ret;exact⟨rfl,p.alloc (by omega) _⟩
   have l:Hid (a=(decide (im ps j<aG ps j)&&gL ps (im ps (j+1)) (j+1)&&eG h (k+1))):=by show a=_;rw[c.out,f.out,ic (show 0≤bP ps j by omega) (by omega),ic (show 0≤aG ps j by omega) (by omega),lu];rfl
   clear c f;by_cases s:j=0
   ·have q:Hid (a=(gL ps (im ps (j+1)) (j+1)&&eG h (k+1))):=by show a=_;rw[l.out,show im ps j=-1 by simp[im,s],show decide ((-1:Int)<aG ps j)=true by simp;omega];rfl
    clear l;have ag:decide ((0:Int)<(j:Int))=false:=by simp;omega
    have ay:decide (0<j)=false:=by simp;omega
    have az:(0<j)=False:=by simp;omega
    clear s;go_wp2;go_quiet(fail);go_wp2;go_roundw;case rel=>exact⟨j+1,by omega,by go_num,q,below_drewN (m.alloc (by omega) _) _⟩
    case measure=>simp[intOf];omega
   obtain⟨i,rfl⟩:∃i,j=i+1:=⟨j-1,by omega⟩;clear s;have ag:(0:Int)<((i+1:Nat):Int):=by omega
   obtain⟨ah,ai,e3,e4,e5⟩:=J i (by omega);obtain⟨rfl,rfl⟩:b2=ah∧ab=ai:=by simpa using e3
   have r:=aa (Below.under m) e5;have aA:b2<wr.heap.size:=World.block_lt_of_cell? _ _ r;have aB:((i:Int)+1-1)=(i:Int):=by omega
   have aC:(i:Int)<ps.length:=by omega
   have aD:(0:Int)≤i:=by omega
   rw[lu]at l;by_cases aE:aG ps (i+1)≤aG ps i
   ·have d:a=false:=by rw[l.out,show decide (aG ps i<aG ps (i+1))=false by simp;omega];rfl
    subst d;clear l;go_wp2;go_quiet(fail);go_wp2;go_ret;exact⟨rfl,below_drewN (p.alloc (by omega) _) _⟩
   have q:Hid (a=(gL ps (im ps (i+1+1)) (i+1+1)&&eG h (k+1))):=by show a=_;rw[l.out,show decide (aG ps i<aG ps (i+1))=true by simp;omega,lu];rfl
   clear l;go_wp2;go_quiet(fail);go_wp2;go_roundw;case rel=>exact⟨i+1+1,by omega,by go_num,q,below_drewN (m.alloc (by omega) _) _⟩
   case measure=>simp[intOf];omega
theorem mj(j:Int)(sv:Vq)(ps:List bM)(w:W)(u:dH w sv ps):Calls Tryz.prog 130 #[Aq #[N Z j,sv]] w fun e w'=>e=Xq (Bq (cX ⟨j,ps⟩))∧G w.heap.size w w':=by
 obtain⟨r,cap,rfl,C,hc⟩:=u;obtain⟨a,h⟩:∃a,cX ⟨j,ps⟩=a:=⟨_,rfl⟩;rw[h];cases p:below j 6
 ·have f:a=false:=by rw[←h];simp[cX,p]
  subst f;clear h;go_enter Tryz.func130,Tryz.ntmps130;go_wp2_with(go_at_call 103;refine(aE _ _ _).mono ?_;rintro e w'⟨rfl,rfl⟩);go_ret;exact⟨rfl,(Below.refl _ _).alloc (Rq _) _⟩
 by_cases E:(16:Int)<ps.length
 ·have f:a=false:=by rw[←h];simp[cX,p];omega
  subst f;clear h;go_enter Tryz.func130,Tryz.ntmps130;go_wp2_with(go_at_call 103;refine(aE _ _ _).mono ?_;rintro e w'⟨rfl,rfl⟩);go_ret;exact⟨rfl,(Below.refl _ _).alloc (Rq _) _⟩
 have m:Hid (a=gL ps (-1) 0):=by show a=_;rw[←h];simp[cX,p,gL,show ps.length≤16 by omega]
 clear h;go_enter Tryz.func130,Tryz.ntmps130;go_wp2_with(go_at_call 103;refine(aE _ _ _).mono ?_;rintro e w'⟨rfl,rfl⟩);go_loopw[3,4](fun l i wr=>∃(k:Nat)(n:Int),k≤ps.length∧i=N Z k∧l=N Z n∧Hid (a=gL ps n k)∧G (w.heap.size+1) (w.alloc (Y #[N Z j,L r ps.length cap] 33)) wr)(fun _ i _=>ps.length-(intOf i).toNat);case atStart=>exact⟨0,-1,Nat.zero_le _,rfl,rfl,m,Below.refl _ _⟩
 case round=>
  obtain⟨k,n,F,rfl,rfl,c,d⟩:=hrel;have H:wr.cell? ⟨w.heap.size,0,z⟩=y (N Z j):=(d.cell (by simp)).trans (by simp);have I:wr.cell? ⟨w.heap.size,1,z⟩=y (L r ps.length cap):=(d.cell (by simp)).trans (by simp);have hz:=d.size;by_cases s:k<ps.length
  ·obtain⟨b,J,rfl,v,x⟩:=hc k s;have K:=aa (Below.under d) v;have M:=aa (Below.under d) x;have g:Hid (gL ps n k=(below (bP ps k) 8&&below (aG ps k) 16&&decide (n<aG ps k)&&gL ps (aG ps k) (k+1))):=qH s;cases o:below (bP ps k) 8
   ·have f:a=false:=by rw[c.out,g.out,o];rfl
    subst f;clear c g m;go_wp2_with(go_at_call 103;refine(aE _ _ _).mono ?_;rintro e w'⟨rfl,rfl⟩);go_ret;exact⟨rfl,(Below.under d).alloc (by simp at hz;omega) _⟩
   cases q:below (aG ps k) 16
   ·have f:a=false:=by rw[c.out,g.out,o,q];rfl
    subst f;clear c g m;go_wp2_with(go_at_call 103;refine(aE _ _ _).mono ?_;rintro e w'⟨rfl,rfl⟩);go_ret;exact⟨rfl,(Below.under d).alloc (by simp at hz;omega) _⟩
   by_cases t:n<aG ps k
   ·have A:Hid (a=gL ps (aG ps k) (k+1)):=by show a=_;rw[c.out,g.out,o,q];simp[t]
    clear c g m;go_wp2_with(go_at_call 103;refine(aE _ _ _).mono ?_;rintro e w'⟨rfl,rfl⟩);go_roundw;case rel=>exact⟨k+1,_,by omega,by go_num,rfl,A,d.alloc (by simp at hz;omega) _⟩
    case measure=>simp[intOf];omega
   ·have f:a=false:=by rw[c.out,g.out,o,q];simp[t]
    subst f;clear c g m;go_wp2_with(go_at_call 103;refine(aE _ _ _).mono ?_;rintro e w'⟨rfl,rfl⟩);go_ret;exact⟨rfl,(Below.under d).alloc (by simp at hz;omega) _⟩
  ·have B:a=true:=by rw[c.out,tw (by omega)]
   subst B;clear c m;go_wp2;go_ret;exact⟨rfl,Below.under d⟩
theorem kS(v:Vq)(h:List aL)(w:W)(n:cj w v h):Calls Tryz.prog 99 #[Aq #[v]] w fun e w'=>e=Xq (Bq (aO h))∧G w.heap.size w w':=by
 have B:=n;obtain⟨o,cap,rfl,C,hc⟩:=n;obtain⟨a,d⟩:∃a,aO h=a:=⟨_,rfl⟩;rw[d];by_cases E:(h.length:Int)<1
 ·have g:a=false:=by rw[←d];simp[aO];omega
  subst g;clear d;go_enter Tryz.func99,Tryz.ntmps99;go_wp2;go_ret;exact⟨rfl,(Below.refl _ _).alloc (Rq _) _⟩
 by_cases F:(6:Int)<h.length
 ·have g:a=false:=by rw[←d];simp[aO];omega
  subst g;clear d;go_enter Tryz.func99,Tryz.ntmps99;go_wp2;go_ret;exact⟨rfl,(Below.refl _ _).alloc (Rq _) _⟩
 have j:Hid (a=eG h 0):=by show a=_;rw[←d];simp[aO,eG,show 1≤h.length∧h.length≤6 by omega]
 clear d;go_enter Tryz.func99,Tryz.ntmps99;go_wp2;go_loopw[3](fun i wr=>∃(k:Nat),k≤h.length∧i=N Z k∧Hid (a=eG h k)∧G (w.heap.size+1) (w.alloc (Y #[L o h.length cap] 30)) wr)(fun i _=>h.length-(intOf i).toNat);case atStart=>exact⟨0,Nat.zero_le _,rfl,j,Below.refl _ _⟩
 case round=>
  obtain⟨k,H,rfl,f,c⟩:=hrel;have I:wr.cell? ⟨w.heap.size,0,z⟩=y (L o h.length cap):=(c.cell (by simp)).trans (by simp);have hz:=c.size;by_cases p:k<h.length
  ·obtain⟨b,J,sv,rfl,s,t,u⟩:=hc k p;have K:=aa (Below.under c) s;have M:=aa (Below.under c) t;have q:=u.ab (Below.under c);have l:Hid (eG h k=(cX ⟨aU h k,aq h k⟩&&eG h (k+1))):=oO p;cases r:cX ⟨aU h k,aq h k⟩
   ·have g:a=false:=by rw[f.out,l.out,r];rfl
    subst g;clear f l j;go_wp2_with fail;refine(mj _ _ _ _ q).mono ?_;rintro e w'⟨rfl,m⟩;go_wp2;go_ret;exact⟨rfl,(Below.under c).trans (m.mono (by simp at hz;omega))⟩
   ·have x:Hid (a=eG h (k+1)):=by show a=_;rw[f.out,l.out,r];rfl
    clear f l j;go_wp2_with fail;refine(mj _ _ _ _ q).mono ?_;rintro e w'⟨rfl,m⟩;go_wp2;go_roundw;case rel=>exact⟨k+1,by omega,by go_num,x,c.trans (m.mono (by simp at hz;omega))⟩
    case measure=>simp[intOf];omega
  ·have A:a=true:=by rw[f.out,qI (by omega)]
   subst A;clear f j;go_wp2;go_ret;exact⟨rfl,Below.under c⟩
theorem pG(a:Int)(sv:Vq)(ps:List bM)(w:W)(q:dH w sv ps)(I:ps.length≤16):Calls Tryz.prog 129 #[Aq #[N Z a,sv]] w fun e w'=>e=Xq (Tq (ay (cG ⟨a,ps⟩)))∧G w.heap.size w w':=by
 obtain⟨f,cap,rfl,J,hc⟩:=q;obtain⟨d,g⟩:∃d,ay (cG ⟨a,ps⟩)=d:=⟨_,rfl⟩;rw[g];have r:Hid (ay (cG ⟨a,ps⟩)=d):=g;clear g;go_enter Tryz.func129,Tryz.ntmps129;go_wp2_with fail;refine(nI _ _ _).mono ?_;rintro e w1⟨rfl,h⟩;have j:(⟨#[cx a,cx ps.length]⟩:ByteArray)=gX a ps 0:=rfl;rw[j];have s:G (w.heap.size+1) (w.alloc (Y #[N Z a,L f ps.length cap] 33)) w1:=by simpa using h
 clear h j;go_wp2;go_loopw[3,4](fun l i wr=>∃(k:Nat),k≤ps.length∧i=N Z k∧l=Tq (gX a ps k)∧G (w.heap.size+1) (w.alloc (Y #[N Z a,L f ps.length cap] 33)) wr)(fun _ i _=>ps.length-(intOf i).toNat);case atStart=>exact⟨0,Nat.zero_le _,rfl,rfl,s⟩
 case round=>
  obtain⟨k,t,rfl,rfl,c⟩:=hrel;have m:wr.cell? ⟨w.heap.size,1,z⟩=y (L f ps.length cap):=(c.cell (by simp)).trans (by simp);have hz:=c.size;by_cases n:k<ps.length
  ·obtain⟨b,K,rfl,u,v⟩:=hc k n;have o:=aa (Below.under c) u;have p:=aa (Below.under c) v;have A:=fun x:cJ wr.heap.size wr=>x.cell m;have B:=fun x:cJ wr.heap.size wr=>x.cell o;have C:=fun x:cJ wr.heap.size wr=>x.cell p;have M:(gX a ps k).size≤100:=by rw[oU _ _ _ t];omega
   have np:=cJ.any wr.heap.size wr;go_wp2;refine eA wr.heap.size (by kernel_rfl) (by kernel_rfl) ?_;repeat(go_big_quiet_step(exact Calls.kJ (Rq _) (nI _ _ _)))
   refine wpQuiet_nil ?_;rintro _⟨x,rfl⟩;have E:=c.trans (x.ok.mono (by simp at hz;omega));clear A B C np o p m;have F:Hid (gX a ps (k+1)=gX a ps k++⟨#[cx (bP ps k),cx (aG ps k)]⟩):=oV n;go_wp2;go_roundw;case rel=>exact⟨k+1,by omega,by go_num,by rw[F.out],E⟩
   case measure=>simp[intOf];omega
  ·have H:gX a ps k=d:=(rj (by omega)).trans r.out;go_wp2;go_ret;exact⟨by simp[H],Below.under c⟩
theorem pD(v:Vq)(h:List aL)(w:W)(o:cj w v h):Calls Tryz.prog 96 #[Aq #[v]] w fun e w'=>e=Xq (Uq (if aO h then#[Tq (ay (aQ h)),N Z 0]else#[Tq ⟨#[]⟩,N Z 2]))∧G w.heap.size w w':=by
 have p:=o;obtain⟨c,cap,rfl,M,hc⟩:=o;cases d:aO h;·go_enter Tryz.func96,Tryz.ntmps96;go_wp2_with fail;refine(kS _ _ _ (p.ab ((Below.refl _ _).alloc (Rq _) _))).mono ?_;rintro e w1⟨rfl,f⟩;go_wp2;go_ret2;exact⟨by simp[d],((Below.refl _ _).alloc (Rq _) _).trans (f.mono (by simp))⟩
 ·obtain⟨g,m⟩:∃g,ay (aQ h)=g:=⟨_,rfl⟩;rw[m];have u:Hid (ay (aQ h)=g):=m;clear m;have O:=(gM d).2;go_enter Tryz.func96,Tryz.ntmps96;go_wp2_with fail;refine(kS _ _ _ (p.ab ((Below.refl _ _).alloc (Rq _) _))).mono ?_;rintro e w1⟨rfl,f⟩;have j:G (w.heap.size+1) (w.alloc (Y #[L c h.length cap] 30)) w1:=by simpa using f
  clear f;have q:w1.cell? ⟨w.heap.size,0,z⟩=y (L c h.length cap):=(j.cell (by simp)).trans (by simp);go_wp2_with fail;refine(ly _ _).mono ?_;rintro e P⟨rfl,r⟩;have s:=j.size;have x:=j.trans (r.mono (by simpa using s));clear q j r s;have t:(⟨#[84,72]⟩:ByteArray)++⟨#[cx h.length]⟩=eR h 0:=by show ay [84,72]++ay [cx h.length]=_;rw[cE];rfl
  go_wp2;go_loopw[4,5](fun l i wr=>∃(k:Nat),k≤h.length∧i=N Z k∧l=Tq (eR h k)∧G (w.heap.size+1) (w.alloc (Y #[L c h.length cap] 30)) wr)(fun _ i _=>h.length-(intOf i).toNat);case atStart=>exact⟨0,Nat.zero_le _,rfl,by rw[←t],x⟩
  case round=>
   obtain⟨k,Q,rfl,rfl,a⟩:=hrel;clear t;have q:wr.cell? ⟨w.heap.size,0,z⟩=y (L c h.length cap):=(a.cell (by simp)).trans (by simp);have hz:=a.size;by_cases n:k<h.length
   ·obtain⟨b,R,sv,rfl,A,B,C⟩:=hc k n;have S:=aa (Below.under a) A;have T:=aa (Below.under a) B;have E:=C.ab (Below.under a);have U:=lk d k;have F:=jo d n;have V:(ay (cG ⟨aU h k,aq h k⟩)).size≤100:=by simp[ay,ByteArray.size,gi];omega
    have H:Hid (eR h (k+1)=eR h k++ay (cG ⟨aU h k,aq h k⟩)):=oP n;go_wp2_with fail;refine(pG _ _ _ _ E F).mono ?_;rintro e X⟨rfl,I⟩;have J:=a.trans (I.mono (by simpa using hz));go_wp2;go_roundw;case rel=>exact⟨k+1,by omega,by go_num,by rw[H.out],J⟩
    case measure=>simp[intOf];omega
   ·have K:eR h k=g:=(qJ (by omega)).trans u.out;go_wp2;go_ret2;exact⟨by simp[K],Below.under a⟩
theorem Tryz.ni:(Tryz.prog.info? 38).map (fun i=>(i.zero,i.size,i.bytes))=y (y (Aq #[N Z 0,N Z 0]),2,16):=by kernel_rfl
theorem Tryz.nj:(Tryz.prog.info? 33).map (fun i=>(i.zero,i.size,i.bytes))=y (y (Aq #[N Z 0,L z 0 0]),2,32):=by kernel_rfl
def dz(d:Int)(s:ByteArray)(a:Int):Nat→List bM|0=>[]|k+1=>dz d s a k++[⟨ah d s (a+2*k),ah d s (a+2*k+1)⟩]
def bf(ps:List bM):List Vq:=ps.flatMap fun p=>[N Z p.cT,N Z p.place]
theorem lD(ps:List bM)(a b:Int):bf (ps++[⟨a,b⟩])=bf ps++[N Z a,N Z b]:=by simp[bf]
theorem ju(d:Int)(s:ByteArray)(a:Int)(k:Nat):(dz d s a k).length=k:=by induction k with|zero=>rfl|succ k b=>simp[dz,b]
theorem kR(w:W)(x b:Vq)(t:TypeId):∀j u,[x,b][j]?=y u→(w.alloc (Y #[x,b] t)).cell? ((⟨w.heap.size,0,z⟩:Addr).add j)=y u:=by intro j u a;match j,a with|0,a=>simp at a;subst a;simp[Addr.add]|1,a=>simp at a;subst a;simp[Addr.add]
theorem gu(d:Int)(s:ByteArray)(i:Int)(a:-1≤d∧d≤255):-1≤ah d s i∧ah d s i≤255:=by
 unfold ah;split;·have:=(s[i.toNat]!).toNat_lt;omega
 ·exact a
theorem sH(s:ByteArray)(at_:Int)(w:W)(hs:s.size≤maxLen)(U:0≤at_)(V:at_≤1000000):Calls Tryz.prog 97 #[Tq s,N Z at_] w fun e w'=>∃sv,e=Xq (Aq #[N Z (ah (-1) s at_),sv])∧w'.ownsRow w.heap.size 38 2 sv (ah (-1) s (at_+1)).toNat (bf (dz (-1) s (at_+2) (ah (-1) s (at_+1)).toNat))∧G w.heap.size w w':=by
 obtain⟨x,A,B,C,h⟩:=info_parts Tryz.ni;have X:=gu (-1) s (at_+1) (by omega);generalize E:ah (-1) s (at_+1)=c at*;generalize F:ah (-1) s at_=j at*;go_enter Tryz.func97,Tryz.ntmps97;go_wp2_with(go_at_call 63;refine(ed _ _ _ hs).mono ?_;rintro e w'⟨rfl,rfl⟩);clear E F;go_loopw[7,8](fun H i wr=>∃(k:Nat)(sv:Vq),k≤c.toNat∧i=N Z k∧H=N Z (at_+2+2*k)∧wr.cell? ⟨w.heap.size+1,0,z⟩=y (N Z j)∧wr.cell? ⟨w.heap.size+1,1,z⟩=y sv∧wr.frozen? ⟨w.heap.size+1,1,z⟩=false∧wr.ownsRow (w.heap.size+2) 38 2 sv k (bf (dz (-1) s (at_+2) k))∧G (w.heap.size+1) (w.alloc (Y #[N Z 0,L z 0 0] 33)) wr∧w.heap.size+2≤wr.heap.size)(fun _ i _=>c.toNat-(intOf i).toNat);case atStart=>refine⟨0,L z 0 0,Nat.zero_le _,rfl,by simp,by simp,by simp,by simp,World.ownsRow_nil _ _ _ _,?_,by simp⟩;exact(Below.refl _ _).alloc (by simp) _
 case round=>
  obtain⟨k,sv,aa,rfl,rfl,l,m,n,d,a,hz⟩:=hrel;obtain⟨I,J,rfl⟩:=af d;have ab:w.heap.size+1<wr.heap.size:=by omega
  have ac:w.heap.size<wr.heap.size:=by omega
  have o:wr.cell? ⟨w.heap.size,0,z⟩=y (N Z 0):=(a.cell (by simp)).trans (by simp);have q:wr.cell? ⟨w.heap.size,1,z⟩=y (L z 0 0):=(a.cell (by simp)).trans (by simp);have K:wr.frozen? ⟨w.heap.size,0,z⟩=false:=(a.frozen (by simp)).trans (by simp);have M:wr.frozen? ⟨w.heap.size,1,z⟩=false:=(a.frozen (by simp)).trans (by simp);by_cases ad:(k:Int)<c
  ·have O:Hid (dz (-1) s (at_+2) (k+1)=dz (-1) s (at_+2) k++[⟨ah (-1) s (at_+2+2*k),ah (-1) s (at_+2+2*k+1)⟩]):=rfl;go_wp2_with(first|(go_at_call 63;refine(ed _ _ _ hs).mono ?_;rintro e w'⟨rfl,rfl⟩)|(at_builtin;refine wpList_append_own _ rfl _ _ 31 rfl (w.heap.size+2) 38 x (Aq #[N Z 0,N Z 0]) 2 16 Tryz.underlying31 A B C h rfl (by decide) _ _ _ rfl ((d.alloc _).alloc _) ⟨wr.heap.size+1,0,z⟩ 1 1 [N Z (ah (-1) s (at_+2+2*k)),N Z (ah (-1) s (at_+2+2*k+1))] rfl rfl ?c1 ?c2 ?c3 ?c4 ?c5 ?_));case c1=>simpa using kR (wr.alloc _) _ _ _
   case c2=>intro u r;simp at r;rcases r with rfl|rfl<;>rfl
   case c3=>unfold maxLen;omega
   case c4=>omega
   case c5=>simp;omega
   intro ae w1 f t _;rw[←lD,←O.out]at f;have b:=((((Below.refl (w.heap.size+2) wr).alloc hz _).alloc (by simp;omega) _).grown t (by simp;omega) (fun g P=>(d.lt g P).1));have Q:=(b.cell (p:=⟨w.heap.size+1,0,z⟩) (by simp)).trans l;have R:=(b.cell (p:=⟨w.heap.size+1,1,z⟩) (by simp)).trans m;have S:=(b.frozen (p:=⟨w.heap.size+1,1,z⟩) (by simp)).trans n;have h:=b.size;have T:=(a.trans (b.mono (by omega)));obtain⟨ag,ai,rfl⟩:=af f;clear t d l m n o q K M b a;go_wp2;go_roundw;case rel=>
    refine⟨k+1,_,by omega,by go_num,by go_num,?_,?_,?_,ownsRow_setCell_below f (by simp) _,T.setCell (by simp) _,by simp;omega⟩;·exact ba (by simp) Q
    ·exact fZ R
    ·simp[S]
   case measure=>simp[intOf];omega
  ·obtain rfl:k=c.toNat:=by omega
   go_wp2;refine bodyPost_ret (v:=Aq #[N Z j,L I c.toNat J]) (by simp[results,Tryz.results97,go_sem,o,q]) rfl ⟨_,rfl,?_,?_⟩;·exact a_ (ownsRow_setCell_below (ownsRow_setCell_below d (by simp) _) (by simp) _) (by omega)
   ·exact((Below.under a).setCell (by simp) _).setCell (by simp) _
section
variable{w w':World}{base base':Nat}{e:TypeId}{size:Nat}{v:Value}{n:Nat}{xs:List Value}
theorem d_(h:w.ownsRow base e size v n xs)(a:∀g,v.ownBlock=y g→w'.heap[g]?=w.heap[g]?):w'.ownsRow base e size v n xs:=by
 refine⟨h.1,?_⟩;rcases h.2 with b|⟨g,cap,c,rfl,d,f,i⟩;·exact .inl b
 ·exact .inr ⟨g,cap,c,rfl,d,(a g rfl).trans f,i⟩
theorem aV{B:Nat}(h:w.ownsRow base e size v n xs)(a:G B w w')(b:w.heap.size≤B):w'.ownsRow base e size v n xs:=d_ h fun g c=>a.block g (Nat.lt_of_lt_of_le (h.lt g c).2 b)
theorem eS{e':TypeId}{f:Nat}{d:Vq}{i:Nat}{j:List Vq}(h:w.ownsRow base e size v n xs)(l:w.ownsRow base' e' f d i j)(m:e≠e'):∀g,v.ownBlock=y g→d.ownBlock≠y g:=by
 intro g a b;rcases h.2 with⟨rfl,_⟩|⟨k,cap,p,rfl,_,o,_⟩;·simp[Value.ownBlock]at a
 rcases l.2 with⟨rfl,_⟩|⟨q,r,s,rfl,_,c,_⟩;·simp[Value.ownBlock]at b
 simp[Value.ownBlock]at a b;subst a;subst b;rw[o]at c;simp at c;exact m c.2
theorem cg(h:w.ownsRow base e size v n xs){c:Option Addr}{cap:Nat}(d:v=L c n cap){i:Nat}(f:i<xs.length):∃b,c=y ⟨b,0,z⟩∧base≤b∧v.ownBlock=y b∧w.cell? ⟨b,i,z⟩=y xs[i]:=by
 rcases h.2 with⟨a,j⟩|⟨g,l,m,a,k,o,p⟩;·have:=h.1;simp[j]at this;simp[this]at f
 ·subst d;simp at a;obtain⟨rfl,rfl⟩:=a;refine⟨g,rfl,k,rfl,?_⟩;have:=h.cells (g:=g) rfl i xs[i] (by simp);rwa[Addr.add_lit,Nat.zero_add]at this
theorem iZ(h:w.ownsRow base e size v n xs):n≤9223372036854775807:=by
 rcases h.2 with⟨a,c⟩|⟨g,d,f,a,i,j,k,b,l⟩;·omega
 ·unfold maxLen at b;omega
end
theorem bZ(ps:List bM):(bf ps).length=ps.length*2:=by induction ps with|nil=>rfl|cons p a b=>simp only[bf,List.flatMap_cons,List.length_append,List.length_cons,List.length_nil]at*;omega
theorem iD(ps:List bM)(i:Nat)(a:i<ps.length):(bf ps)[i*2]?=y (N Z (bP ps i))∧(bf ps)[i*2+1]?=y (N Z (aG ps i)):=by
 induction ps generalizing i with
  |nil=>simp at a
  |cons p c b=>
   cases i with
    |zero=>exact⟨rfl,rfl⟩
    |succ i=>
     have h:=b i (by simpa using a);have e1:(i+1)*2=i*2+1+1:=by omega
     rw[e1];exact h
def bt(a:List (aL×Vq)):List Vq:=a.flatMap fun x=>[N Z x.1.src,x.2]
theorem lE(a:List (aL×Vq))(x:aL)(sv:Vq):bt (a++[(x,sv)])=bt a++[N Z x.src,sv]:=by simp[bt]
theorem cr(a:List (aL×Vq)):(bt a).length=a.length*2:=by induction a with|nil=>rfl|cons p b c=>simp only[bt,List.flatMap_cons,List.length_append,List.length_cons,List.length_nil]at*;omega
theorem iE(a:List (aL×Vq))(i:Nat)(b:i<a.length):(bt a)[i*2]?=y (N Z a[i].1.src)∧(bt a)[i*2+1]?=y a[i].2:=by
 induction a generalizing i with
  |nil=>simp at b
  |cons p d c=>
   cases i with
    |zero=>exact⟨rfl,rfl⟩
    |succ i=>
     have h:=c i (by simpa using b);have e1:(i+1)*2=i*2+1+1:=by omega
     rw[e1];exact h
structure aP(w:World)(base:Nat)(v:Value)(hv:List (aL×Value)):Prop where
 row:w.ownsRow base 33 2 v hv.length (bt hv)
 each:∀x∈hv,w.ownsRow base 38 2 x.2 x.1.br.length (bf x.1.br)
 apart:hv.Pairwise fun x y=>∀g,x.2.ownBlock=some g→y.2.ownBlock≠some g
def da(a:List (aL×Vq)):List aL:=a.map (·.1)
theorem jH(w:W)(base:Nat):aP w base (L z 0 0) []:=⟨World.ownsRow_nil _ _ _ _,fun x a=>by simp at a,List.Pairwise.nil⟩
theorem aP.below{w w':W}{base:Nat}{v:Vq}{a:List (aL×Vq)}(h:aP w base v a){B:Nat}(b:G B w w')(c:w.heap.size≤B):aP w' base v a:=⟨aV h.row b c,fun x d=>aV (h.each x d) b c,h.apart⟩
theorem aP.alloc{w:W}{base:Nat}{v:Vq}{a:List (aL×Vq)}(h:aP w base v a)(o:Obj):aP (w.alloc o) base v a:=⟨h.row.alloc o,fun x b=>(h.each x b).alloc o,h.apart⟩
theorem aP.set{w:W}{base:Nat}{v:Vq}{b:List (aL×Vq)}(h:aP w base v b){a:Addr}(c:a.block<base)(u:Vq):aP (w.setCell a u) base v b:=⟨ownsRow_setCell_below h.row c u,fun x d=>ownsRow_setCell_below (h.each x d) c u,h.apart⟩
theorem aP.base{w:W}{base base':Nat}{v:Vq}{a:List (aL×Vq)}(h:aP w base v a)(b:base'≤base):aP w base' v a:=⟨a_ h.row b,fun x c=>a_ (h.each x c) b,h.apart⟩
theorem aP.snoc{w w':W}{base:Nat}{v j:Vq}{d:List (aL×Vq)}(h:aP w base v d){x:aL}{sv:Vq}(m:w.ownsRow base 38 2 sv x.br.length (bf x.br))(n:∀i∈d,∀g,i.2.ownBlock=y g→sv.ownBlock≠y g)(o:w.grownBy w' v.ownBlock)(p:w'.ownsRow base 33 2 j (d.length+1) (bt d++[N Z x.src,sv])):aP w' base j (d++[(x,sv)]):=by
 have k:∀(u:Vq)(ps:List bM),w.ownsRow base 38 2 u ps.length (bf ps)→w'.ownsRow base 38 2 u ps.length (bf ps):=by intro u ps l;refine l.kept o ?_;cases f:u.ownBlock with|none=>exact .inl rfl|some g=>exact .inr (fun e=>eS l h.row (by decide) g f e.symm)
 refine⟨by rw[lE];simpa using p,?_,?_⟩
 ·intro i c;rcases List.mem_append.1 c with c|c;·exact k _ _ (h.each i c)
  ·simp at c;subst c;exact k _ _ m
 ·rw[List.pairwise_append];refine⟨h.apart,by simp,?_⟩;intro a q b f;simp at f;subst f;exact n a q
theorem u_{w:W}{base:Nat}{v:Vq}{ps:List bM}(h:w.ownsRow base 38 2 v ps.length (bf ps)):dH w v ps:=by
 obtain⟨d,cap,a⟩:=af h;refine⟨d,cap,a,iZ h,fun i e=>?_⟩;have l:=bZ ps;obtain⟨b,f,_,g,hc⟩:=cg h a (i:=i*2) (by omega);obtain⟨j,m,_,c,k⟩:=cg h a (i:=i*2+1) (by omega);have:b=j:=by rw[g]at c;simpa using c
 subst this;obtain⟨g1,g2⟩:=iD ps i e;refine⟨b,0,f,?_,?_⟩;·rw[Nat.zero_add,hc];rw[List.getElem?_eq_getElem (by omega)]at g1;exact g1
 ·rw[Nat.zero_add,k];rw[List.getElem?_eq_getElem (by omega)]at g2;exact g2
theorem gN(a:List (aL×Vq)){i:Nat}(b:i<a.length):aU (da a) i=a[i].1.src∧aq (da a) i=a[i].1.br:=by constructor<;>simp[aU,aq,da,b]
theorem dh(a:List (aL×Vq)):(da a).length=a.length:=by simp[da]
theorem aP.rd{w:W}{base:Nat}{v:Vq}{a:List (aL×Vq)}(h:aP w base v a):cj w v (da a):=by
 obtain⟨f,cap,c⟩:=af h.row;refine⟨f,cap,by rw[dh];exact c,by rw[dh];exact iZ h.row,fun i d=>?_⟩;rw[dh]at d;have m:=cr a;obtain⟨b,g,_,j,hc⟩:=cg h.row c (i:=i*2) (by omega);obtain⟨k,n,_,e,l⟩:=cg h.row c (i:=i*2+1) (by omega);have:b=k:=by rw[j]at e;simpa using e
 subst this;obtain⟨g1,g2⟩:=iE a i d;obtain⟨e1,e2⟩:=gN a d;refine⟨b,0,a[i].2,g,?_,?_,?_⟩;·rw[Nat.zero_add,hc,e1];rw[List.getElem?_eq_getElem (by omega)]at g1;exact g1
 ·rw[Nat.zero_add,l];rw[List.getElem?_eq_getElem (by omega)]at g2;exact g2
 ·rw[e2];exact u_ (h.each _ (by simp))
theorem pF(a:Int)(b:Option Addr)(n cap:Nat)(w:W)(c:n≤1000):Calls Tryz.prog 98 #[Aq #[N Z a,L b n cap]] w fun e w'=>e=Xq (N Z (2+2*n))∧G w.heap.size w w':=by go_enter Tryz.func98,Tryz.ntmps98;go_wp2;go_ret;exact⟨by simp,(Below.refl _ _).alloc (Rq _) _⟩
def yF(d:Int)(s:ByteArray)(p:Int):aL:=⟨ah d s p,dz d s (p+2) (ah d s (p+1)).toNat⟩
def eC(s:ByteArray):Nat→Int|0=>3|k+1=>eC s k+(2+2*(ah (-1) s (eC s k+1)).toNat)
def eP(s:ByteArray):Nat→List aL|0=>[]|k+1=>eP s k++[yF (-1) s (eC s k)]
theorem uw(s:ByteArray)(k:Nat):3≤eC s k∧eC s k≤3+512*k:=by induction k with|zero=>simp[eC]|succ k a=>have:=gu (-1) s (eC s k+1) (by omega);simp only[eC];omega
def dx(s:ByteArray):Bool:=decide (ah (-1) s 0=84)&&decide (ah (-1) s 1=72)&&decide (eC s (ah (-1) s 2).toNat=s.size)&&aO (eP s (ah (-1) s 2).toNat)
theorem pB(s:ByteArray)(w:W)(hs:s.size≤maxLen)(M:Ending→W→Prop)(t:∀v d w',dx s=true→aP w' w.heap.size v d→da d=eP s (ah (-1) s 2).toNat→G w.heap.size w w'→M (Xq (Uq #[Aq #[v],N Z 0])) w')(h:∀w',dx s=false→G w.heap.size w w'→M (Xq (Uq #[Aq #[L z 0 0],N Z 2])) w'):Calls Tryz.prog 59 #[Tq s] w M:=by
 obtain⟨av,aw,ax,ay,az⟩:=info_parts Tryz.nj;have aV:=gu (-1) s 2 (by omega);have aA:=hs;unfold maxLen at aA;by_cases O:ah (-1) s 0=84;case neg=>
  have f:dx s=false:=by simp[dx,O]
  have n:=fun w'=>h w' f;clear h t f;have ac:(ah (-1) s 0 !=84)=true:=by simp[O]
  go_enter Tryz.func59,Tryz.ntmps59;go_wp2_with(go_at_call 63;refine(ed _ _ _ hs).mono ?_;rintro e w'⟨rfl,rfl⟩);exact bodyPost_ret (v:=Uq #[Aq #[L z 0 0],N Z 2]) (by simp[results,Tryz.results59,go_sem]) rfl (n _ ((Below.refl _ _).alloc (Rq _) _))
 by_cases P:ah (-1) s 1=72;case neg=>
  have f:dx s=false:=by simp[dx,P]
  have n:=fun w'=>h w' f;clear h t f;have ac:(ah (-1) s 1 !=72)=true:=by simp[P]
  go_enter Tryz.func59,Tryz.ntmps59;go_wp2_with(go_at_call 63;refine(ed _ _ _ hs).mono ?_;rintro e w'⟨rfl,rfl⟩);exact bodyPost_ret (v:=Uq #[Aq #[L z 0 0],N Z 2]) (by simp[results,Tryz.results59,go_sem]) rfl (n _ ((Below.refl _ _).alloc (Rq _) _))
 have A:Hid (dx s=(decide (eC s (ah (-1) s 2).toNat=s.size)&&aO (eP s (ah (-1) s 2).toNat))):=by show _=_;simp[dx,O,P]
 generalize aB:ah (-1) s 2=c at*;have Q:=Hid.out (p:=∀v d w',dx s=true→aP w' w.heap.size v d→da d=eP s c.toNat→G w.heap.size w w'→M (Xq (Uq #[Aq #[v],N Z 0])) w') t;go_enter Tryz.func59,Tryz.ntmps59;go_wp2_with(go_at_call 63;refine(ed _ _ _ hs).mono ?_;rintro e w'⟨rfl,rfl⟩);clear aB O P;go_loopw[6,7](fun p i wr=>∃(k:Nat)(v:Vq)(d:List (aL×Vq)),k≤c.toNat∧i=N Z k∧p=N Z (eC s k)∧wr.cell? ⟨w.heap.size+1,0,z⟩=y v∧wr.frozen? ⟨w.heap.size+1,0,z⟩=false∧aP wr (w.heap.size+2) v d∧Hid (da d=eP s k)∧Hid (d.length=k)∧G (w.heap.size+1) (w.alloc (Y #[L z 0 0] 30)) wr∧w.heap.size+2≤wr.heap.size)(fun _ i _=>c.toNat-(intOf i).toNat);case atStart=>refine⟨0,L z 0 0,[],Nat.zero_le _,rfl,rfl,by simp,by simp,jH _ _,rfl,rfl,?_,by simp⟩;exact(Below.refl _ _).alloc (by simp) _
 case round=>
  obtain⟨k,v,d,aW,rfl,rfl,H,R,l,S,ad,o,hz⟩:=hrel;obtain⟨ae,ag,rfl⟩:=af l.row;have ai:w.heap.size+1<wr.heap.size:=by omega
  have T:w.heap.size<wr.heap.size:=by omega
  have B:wr.cell? ⟨w.heap.size,0,z⟩=y (L z 0 0):=(o.cell (by simp)).trans (by simp);have I:wr.frozen? ⟨w.heap.size,0,z⟩=false:=(o.frozen (by simp)).trans (by simp);have aX:=uw s k;by_cases aY:(k:Int)<c
  ·go_wp2_with fail;refine(sH s _ _ hs (by omega) (by omega)).mono ?_;rintro e w1⟨sv,rfl,U,b⟩;have aC:Hid (eP s (k+1)=eP s k++[⟨ah (-1) s (eC s k),dz (-1) s (eC s k+2) (ah (-1) s (eC s k+1)).toNat⟩]):=rfl;have aD:Hid (eC s (k+1)=eC s k+(2+2*(ah (-1) s (eC s k+1)).toNat)):=rfl;have aE:=gu (-1) s (eC s k+1) (by omega);have aF:=ju (-1) s (eC s k+2) (ah (-1) s (eC s k+1)).toNat;have aZ:(ah (-1) s (eC s k+1)).toNat≤255:=by omega
   clear aE;generalize(ah (-1) s (eC s k+1)).toNat=aG at*;generalize ah (-1) s (eC s k)=J at*;generalize dz (-1) s (eC s k+2) aG=ps at*;subst aF;obtain⟨V,X,rfl⟩:=af U;have m:=l.below b (Rq _);have C:=(b.cell (p:=⟨w.heap.size+1,0,z⟩) ai).trans H;have aa:=(b.frozen (p:=⟨w.heap.size+1,0,z⟩) ai).trans R;have a0:=b.size;have a1:w.heap.size+1<w1.heap.size:=by omega
   go_wp2_with(at_builtin;refine wpList_append_own _ rfl _ _ 28 rfl (w.heap.size+2) 33 av (Aq #[N Z 0,L z 0 0]) 2 32 Tryz.underlying28 aw ax ay az rfl (by decide) _ _ _ rfl ((m.row.alloc _).alloc _) ⟨w1.heap.size+1,0,z⟩ 1 1 [N Z J,L V ps.length X] rfl rfl ?c1 ?c2 ?c3 ?c4 ?c5 ?_);case c1=>simpa using kR (w1.alloc _) _ _ _
   case c2=>intro u an;simp at an;rcases an with rfl|rfl<;>rfl
   case c3=>have:=ad.out;unfold maxLen;omega
   case c4=>have:=ad.out;omega
   case c5=>simp;omega
   intro aH E ao K _;have aj:∀g,w1.heap.size≤g→y g≠(Value.slice ae d.length ag).ownBlock:=fun g q e=>by have:=(m.row.lt _ e.symm).2;omega
   have ak:aP E (w.heap.size+2) aH (d++[(⟨J,ps⟩,L V ps.length X)]):=by refine((m.alloc _).alloc _).snoc (x:=⟨J,ps⟩) ((a_ U (by omega)).alloc _|>.alloc _) ?_ K ao;intro aI aJ g q e;have e1:=((l.each aI aJ).lt g q).2;have e2:=(U.lt g e).1;omega
   have j:=((((Below.refl (w.heap.size+2) w1).alloc (by omega) _).alloc (by simp;omega) _).grown K (by simp;omega) (fun g q=>(m.row.lt g q).1));have al:=(j.cell (p:=⟨w.heap.size+1,0,z⟩) (by simp)).trans C;have ap:=(j.frozen (p:=⟨w.heap.size+1,0,z⟩) (by simp)).trans aa;have aq:E.cell? ⟨w1.heap.size,0,z⟩=y (N Z J):=K.cell (by simp) (aj _ (Rq _));have ar:E.cell? ⟨w1.heap.size,1,z⟩=y (L V ps.length X):=K.cell (by simp) (aj _ (Rq _));have a2:=j.size;have a3:w.heap.size+1<E.heap.size:=by omega
   have a4:w1.heap.size≠w.heap.size+1:=by omega
   have au:=(o.trans (b.mono (by omega))).trans (j.mono (by omega));obtain⟨a5,a6,am⟩:=af ak.row;rw[List.length_append]at am;simp only[List.length_cons,List.length_nil,Nat.zero_add]at am;subst am;have aK:∀u,(E.setCell ⟨w.heap.size+1,0,z⟩ u).cell? ⟨w1.heap.size,0,z⟩=y (N Z J):=fun u=>ba (by simp) aq;have aM:∀u,(E.setCell ⟨w.heap.size+1,0,z⟩ u).cell? ⟨w1.heap.size,1,z⟩=y (L V ps.length X):=fun u=>ba (by simp) ar;clear K l ao m U H R C aa B I j o aj;go_wp2_with fail;refine(pF _ _ _ _ _ (by omega)).mono ?_;rintro e a7⟨rfl,F⟩;have aN:=(ak.set (a:=⟨w.heap.size+1,0,z⟩) (by simp) _).below F (Rq _);have aQ:=F.size;have aR:=(F.cell (p:=⟨w.heap.size+1,0,z⟩) (by simp;omega)).trans (fZ al);have aS:=(F.frozen (p:=⟨w.heap.size+1,0,z⟩) (by simp;omega)).trans (by simpa using ap);have aT:=(au.setCell (p:=⟨w.heap.size+1,0,z⟩) (by simp) _).trans (F.mono (by simp;omega));simp at aQ;clear F ak au al ap aq ar aK aM;go_wp2;go_roundw;case rel=>
    refine⟨k+1,_,_,by omega,by go_num,by rw[aD.out],aR,aS,aN,?_,?_,aT,by omega⟩;·show da _=_;rw[aC.out,←S.out];simp[da]
    ·show List.length _=_;have:=ad.out;simp;exact this
   case measure=>simp[intOf];omega
  ·obtain rfl:k=c.toNat:=by omega
   by_cases ab:eC s c.toNat=s.size;case neg=>
    have f:dx s=false:=by rw[A.out];simp[ab]
    have n:=fun w'=>h w' f;clear h t Q f A;have ac:(eC s c.toNat !=(s.size:Int))=true:=by simp[ab]
    go_wp2;refine bodyPost_ret (v:=Uq #[Aq #[L z 0 0],N Z 2]) (by simp[results,Tryz.results59,go_sem,B]) rfl (n _ ?_);exact(Below.under o).setCell (by simp) _
   have ac:(eC s c.toNat !=(s.size:Int))=false:=by simp[ab]
   cases q:aO (eP s c.toNat)
   ·have f:dx s=false:=by rw[A.out];simp[q]
    have n:=fun w'=>h w' f;clear h t Q f A;have r:=l.rd;rw[S.out]at r;go_wp2_with fail;refine(kS _ _ _ r).mono ?_;rintro e w1⟨rfl,b⟩;have C:=(b.cell (p:=⟨w.heap.size,0,z⟩) T).trans B;have aa:=(b.frozen (p:=⟨w.heap.size,0,z⟩) T).trans I;have j:=(Below.under o).trans (b.mono (by omega));clear B I H R r;go_wp2;refine bodyPost_ret (v:=Uq #[Aq #[L z 0 0],N Z 2]) (by simp[results,Tryz.results59,go_sem,C]) rfl (n _ ?_);exact j.setCell (by simp) _
   ·have f:dx s=true:=by rw[A.out];simp[q,ab]
    have r:=l.rd;rw[S.out]at r;go_wp2_with fail;refine(kS _ _ _ r).mono ?_;rintro e w1⟨rfl,b⟩;have C:=(b.cell (p:=⟨w.heap.size,0,z⟩) T).trans B;have aa:=(b.frozen (p:=⟨w.heap.size,0,z⟩) T).trans I;have al:=(b.cell (p:=⟨w.heap.size+1,0,z⟩) ai).trans H;have j:=(Below.under o).trans (b.mono (by omega));have m:=(l.below b (Rq _)).set (a:=⟨w.heap.size,0,z⟩) (by simp) (L ae d.length ag)|>.base (base':=w.heap.size) (by omega);have aU:=Q _ _ _ f m S.out (j.setCell (by simp) _);clear B I H R r h t Q A l m;go_wp2;exact bodyPost_ret (v:=Uq #[Aq #[L ae d.length ag],N Z 0]) (by simp[results,Tryz.results59,go_sem,C]) rfl aU
end Go.Proofs.YtblhmeidbjigaabGreatDoor
