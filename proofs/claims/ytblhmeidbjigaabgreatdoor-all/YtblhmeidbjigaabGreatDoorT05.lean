import Derived.Test.YtblhmeidbjigaabGreatDoorT03
set_option linter.unusedSimpArgs false
set_option linter.unusedVariables false
set_option maxRecDepth 100000
set_option maxHeartbeats 8000000
namespace Go.Proofs.YtblhmeidbjigaabGreatDoor
open Go.RowKit
open Go.Value renaming int→N,slice→L,string→Tq,agg→Aq,bool→Bq,tuple→Uq
open Go.IntKind renaming i64→Z
open Go.Obj renaming cells→Y
open Go.Ending renaming returned→Xq
open Option renaming none→z,some→y
open Nat renaming le_refl→Rq
open Go renaming World→W,Value→Vq
open Go.RowKit renaming Below→G
theorem aF(args regs data slots:Int)(a:Option Addr)(b c:Nat)(n:Int)(w:W):Calls Tryz.prog 142 #[Aq #[N Z args,N Z regs,N Z data,N Z slots,L a b c],N Z n] w fun e w'=>e=Xq (Bq (below n regs))∧w.alloc (Y #[N Z args,N Z regs,N Z data,N Z slots,L a b c] 25)=w':=by
 by_cases h:0≤n;·go_enter Tryz.func142,Tryz.ntmps142;go_wp2;go_ret;exact⟨by simp[below,h],rfl⟩
 ·have d:below n regs=false:=by simp only[below,h,false_and,decide_false]
  go_enter Tryz.func142,Tryz.ntmps142;go_wp2;go_ret;exact⟨by simp[d],rfl⟩
theorem be(args regs data slots:Int)(a:Option Addr)(b c:Nat)(n:Int)(w:W):Calls Tryz.prog 144 #[Aq #[N Z args,N Z regs,N Z data,N Z slots,L a b c],N Z n] w fun e w'=>e=Xq (Bq (below n slots))∧w.alloc (Y #[N Z args,N Z regs,N Z data,N Z slots,L a b c] 25)=w':=by
 by_cases h:0≤n;·go_enter Tryz.func144,Tryz.ntmps144;go_wp2;go_ret;exact⟨by simp[below,h],rfl⟩
 ·have d:below n slots=false:=by simp only[below,h,false_and,decide_false]
  go_enter Tryz.func144,Tryz.ntmps144;go_wp2;go_ret;exact⟨by simp[d],rfl⟩
theorem aR(n:Int)(w:W):Calls Tryz.prog 143 #[N Z n] w fun e w'=>e=Xq (Bq (below n 256))∧w=w':=by
 by_cases h:0≤n
 ·go_enter Tryz.func143,Tryz.ntmps143;go_wp2;go_ret;refine⟨?_,rfl⟩;have:decide (n≤255)=below n 256:=by simp only[below,h,true_and];exact decide_eq_decide.2 (by omega)
  simp[←this]
 ·have a:below n 256=false:=by simp only[below,h,false_and,decide_false]
  go_enter Tryz.func143,Tryz.ntmps143;go_wp2;go_ret;exact⟨by simp[a],rfl⟩
theorem Below.al{B:Nat}{a w:W}{o:Obj}(h:G B a w)(b:B≤a.heap.size):G B a (w.alloc o):=h.alloc (Nat.le_trans b h.size) o
theorem di(c:Int):(c==0)=decide (c=0):=by by_cases h:c=0<;>simp[h]
theorem Fh(args regs data slots:Int)(g:Option Addr)(h i:Nat)(a b c:Int)(w:W):Calls Tryz.prog 109 #[Aq #[N Z args,N Z regs,N Z data,N Z slots,L g h i],Aq #[N Z 1,N Z a,N Z b,N Z c]] w fun e w'=>e=Xq (Bq (aw regs slots ⟨1,a,b,c⟩))∧G w.heap.size w w':=by
 cases d:below a regs;·go_enter Tryz.func109,Tryz.ntmps109;go_wp2_with(first|(go_at_call 142;refine(aF _ _ _ _ _ _ _ _ _).mono ?_;rintro e w'⟨rfl,rfl⟩)|(go_at_call 144;refine(be _ _ _ _ _ _ _ _ _).mono ?_;rintro e w'⟨rfl,rfl⟩)|(go_at_call 143;refine(aR _ _).mono ?_;rintro e w'⟨rfl,rfl⟩));go_ret;exact⟨by simp[aw,d],(by(repeat refine Below.al ?_ (Rq _));exact Below.refl _ _)⟩
 cases f:below b 256;·go_enter Tryz.func109,Tryz.ntmps109;go_wp2_with(first|(go_at_call 142;refine(aF _ _ _ _ _ _ _ _ _).mono ?_;rintro e w'⟨rfl,rfl⟩)|(go_at_call 144;refine(be _ _ _ _ _ _ _ _ _).mono ?_;rintro e w'⟨rfl,rfl⟩)|(go_at_call 143;refine(aR _ _).mono ?_;rintro e w'⟨rfl,rfl⟩));go_ret;exact⟨by simp[aw,d,f],(by(repeat refine Below.al ?_ (Rq _));exact Below.refl _ _)⟩
 ·go_enter Tryz.func109,Tryz.ntmps109;go_wp2_with(first|(go_at_call 142;refine(aF _ _ _ _ _ _ _ _ _).mono ?_;rintro e w'⟨rfl,rfl⟩)|(go_at_call 144;refine(be _ _ _ _ _ _ _ _ _).mono ?_;rintro e w'⟨rfl,rfl⟩)|(go_at_call 143;refine(aR _ _).mono ?_;rintro e w'⟨rfl,rfl⟩));go_ret;exact⟨by simp[aw,d,f,di],(by(repeat refine Below.al ?_ (Rq _));exact Below.refl _ _)⟩
theorem Fi(args regs data slots:Int)(g:Option Addr)(h i:Nat)(a b c:Int)(w:W):Calls Tryz.prog 109 #[Aq #[N Z args,N Z regs,N Z data,N Z slots,L g h i],Aq #[N Z 2,N Z a,N Z b,N Z c]] w fun e w'=>e=Xq (Bq (aw regs slots ⟨2,a,b,c⟩))∧G w.heap.size w w':=by
 cases d:below a regs;·go_enter Tryz.func109,Tryz.ntmps109;go_wp2_with(first|(go_at_call 142;refine(aF _ _ _ _ _ _ _ _ _).mono ?_;rintro e w'⟨rfl,rfl⟩)|(go_at_call 144;refine(be _ _ _ _ _ _ _ _ _).mono ?_;rintro e w'⟨rfl,rfl⟩)|(go_at_call 143;refine(aR _ _).mono ?_;rintro e w'⟨rfl,rfl⟩));go_ret;exact⟨by simp[aw,d],(by(repeat refine Below.al ?_ (Rq _));exact Below.refl _ _)⟩
 cases f:below b regs;·go_enter Tryz.func109,Tryz.ntmps109;go_wp2_with(first|(go_at_call 142;refine(aF _ _ _ _ _ _ _ _ _).mono ?_;rintro e w'⟨rfl,rfl⟩)|(go_at_call 144;refine(be _ _ _ _ _ _ _ _ _).mono ?_;rintro e w'⟨rfl,rfl⟩)|(go_at_call 143;refine(aR _ _).mono ?_;rintro e w'⟨rfl,rfl⟩));go_ret;exact⟨by simp[aw,d,f],(by(repeat refine Below.al ?_ (Rq _));exact Below.refl _ _)⟩
 ·go_enter Tryz.func109,Tryz.ntmps109;go_wp2_with(first|(go_at_call 142;refine(aF _ _ _ _ _ _ _ _ _).mono ?_;rintro e w'⟨rfl,rfl⟩)|(go_at_call 144;refine(be _ _ _ _ _ _ _ _ _).mono ?_;rintro e w'⟨rfl,rfl⟩)|(go_at_call 143;refine(aR _ _).mono ?_;rintro e w'⟨rfl,rfl⟩));go_ret;exact⟨by simp[aw,d,f,di],(by(repeat refine Below.al ?_ (Rq _));exact Below.refl _ _)⟩
theorem Fj(args regs data slots:Int)(g:Option Addr)(h i:Nat)(a b c:Int)(w:W):Calls Tryz.prog 109 #[Aq #[N Z args,N Z regs,N Z data,N Z slots,L g h i],Aq #[N Z 3,N Z a,N Z b,N Z c]] w fun e w'=>e=Xq (Bq (aw regs slots ⟨3,a,b,c⟩))∧G w.heap.size w w':=by
 cases d:below a regs;·go_enter Tryz.func109,Tryz.ntmps109;go_wp2_with(first|(go_at_call 142;refine(aF _ _ _ _ _ _ _ _ _).mono ?_;rintro e w'⟨rfl,rfl⟩)|(go_at_call 144;refine(be _ _ _ _ _ _ _ _ _).mono ?_;rintro e w'⟨rfl,rfl⟩)|(go_at_call 143;refine(aR _ _).mono ?_;rintro e w'⟨rfl,rfl⟩));go_ret;exact⟨by simp[aw,d],(by(repeat refine Below.al ?_ (Rq _));exact Below.refl _ _)⟩
 cases f:below b regs;·go_enter Tryz.func109,Tryz.ntmps109;go_wp2_with(first|(go_at_call 142;refine(aF _ _ _ _ _ _ _ _ _).mono ?_;rintro e w'⟨rfl,rfl⟩)|(go_at_call 144;refine(be _ _ _ _ _ _ _ _ _).mono ?_;rintro e w'⟨rfl,rfl⟩)|(go_at_call 143;refine(aR _ _).mono ?_;rintro e w'⟨rfl,rfl⟩));go_ret;exact⟨by simp[aw,d,f],(by(repeat refine Below.al ?_ (Rq _));exact Below.refl _ _)⟩
 ·go_enter Tryz.func109,Tryz.ntmps109;go_wp2_with(first|(go_at_call 142;refine(aF _ _ _ _ _ _ _ _ _).mono ?_;rintro e w'⟨rfl,rfl⟩)|(go_at_call 144;refine(be _ _ _ _ _ _ _ _ _).mono ?_;rintro e w'⟨rfl,rfl⟩)|(go_at_call 143;refine(aR _ _).mono ?_;rintro e w'⟨rfl,rfl⟩));go_ret;exact⟨by simp[aw,d,f,di],(by(repeat refine Below.al ?_ (Rq _));exact Below.refl _ _)⟩
theorem Fk(args regs data slots:Int)(g:Option Addr)(h i:Nat)(a b c:Int)(w:W):Calls Tryz.prog 109 #[Aq #[N Z args,N Z regs,N Z data,N Z slots,L g h i],Aq #[N Z 4,N Z a,N Z b,N Z c]] w fun e w'=>e=Xq (Bq (aw regs slots ⟨4,a,b,c⟩))∧G w.heap.size w w':=by
 cases d:below a regs;·go_enter Tryz.func109,Tryz.ntmps109;go_wp2_with(first|(go_at_call 142;refine(aF _ _ _ _ _ _ _ _ _).mono ?_;rintro e w'⟨rfl,rfl⟩)|(go_at_call 144;refine(be _ _ _ _ _ _ _ _ _).mono ?_;rintro e w'⟨rfl,rfl⟩)|(go_at_call 143;refine(aR _ _).mono ?_;rintro e w'⟨rfl,rfl⟩));go_ret;exact⟨by simp[aw,d],(by(repeat refine Below.al ?_ (Rq _));exact Below.refl _ _)⟩
 cases f:below b regs;·go_enter Tryz.func109,Tryz.ntmps109;go_wp2_with(first|(go_at_call 142;refine(aF _ _ _ _ _ _ _ _ _).mono ?_;rintro e w'⟨rfl,rfl⟩)|(go_at_call 144;refine(be _ _ _ _ _ _ _ _ _).mono ?_;rintro e w'⟨rfl,rfl⟩)|(go_at_call 143;refine(aR _ _).mono ?_;rintro e w'⟨rfl,rfl⟩));go_ret;exact⟨by simp[aw,d,f],(by(repeat refine Below.al ?_ (Rq _));exact Below.refl _ _)⟩
 ·go_enter Tryz.func109,Tryz.ntmps109;go_wp2_with(first|(go_at_call 142;refine(aF _ _ _ _ _ _ _ _ _).mono ?_;rintro e w'⟨rfl,rfl⟩)|(go_at_call 144;refine(be _ _ _ _ _ _ _ _ _).mono ?_;rintro e w'⟨rfl,rfl⟩)|(go_at_call 143;refine(aR _ _).mono ?_;rintro e w'⟨rfl,rfl⟩));go_ret;exact⟨by simp[aw,d,f,di],(by(repeat refine Below.al ?_ (Rq _));exact Below.refl _ _)⟩
theorem Fl(args regs data slots:Int)(g:Option Addr)(h i:Nat)(a b c:Int)(w:W):Calls Tryz.prog 109 #[Aq #[N Z args,N Z regs,N Z data,N Z slots,L g h i],Aq #[N Z 5,N Z a,N Z b,N Z c]] w fun e w'=>e=Xq (Bq (aw regs slots ⟨5,a,b,c⟩))∧G w.heap.size w w':=by
 cases d:below a regs;·go_enter Tryz.func109,Tryz.ntmps109;go_wp2_with(first|(go_at_call 142;refine(aF _ _ _ _ _ _ _ _ _).mono ?_;rintro e w'⟨rfl,rfl⟩)|(go_at_call 144;refine(be _ _ _ _ _ _ _ _ _).mono ?_;rintro e w'⟨rfl,rfl⟩)|(go_at_call 143;refine(aR _ _).mono ?_;rintro e w'⟨rfl,rfl⟩));go_ret;exact⟨by simp[aw,d],(by(repeat refine Below.al ?_ (Rq _));exact Below.refl _ _)⟩
 cases f:below b regs;·go_enter Tryz.func109,Tryz.ntmps109;go_wp2_with(first|(go_at_call 142;refine(aF _ _ _ _ _ _ _ _ _).mono ?_;rintro e w'⟨rfl,rfl⟩)|(go_at_call 144;refine(be _ _ _ _ _ _ _ _ _).mono ?_;rintro e w'⟨rfl,rfl⟩)|(go_at_call 143;refine(aR _ _).mono ?_;rintro e w'⟨rfl,rfl⟩));go_ret;exact⟨by simp[aw,d,f],(by(repeat refine Below.al ?_ (Rq _));exact Below.refl _ _)⟩
 ·go_enter Tryz.func109,Tryz.ntmps109;go_wp2_with(first|(go_at_call 142;refine(aF _ _ _ _ _ _ _ _ _).mono ?_;rintro e w'⟨rfl,rfl⟩)|(go_at_call 144;refine(be _ _ _ _ _ _ _ _ _).mono ?_;rintro e w'⟨rfl,rfl⟩)|(go_at_call 143;refine(aR _ _).mono ?_;rintro e w'⟨rfl,rfl⟩));go_ret;exact⟨by simp[aw,d,f,di],(by(repeat refine Below.al ?_ (Rq _));exact Below.refl _ _)⟩
theorem Fm(args regs data slots:Int)(g:Option Addr)(h i:Nat)(a b c:Int)(w:W):Calls Tryz.prog 109 #[Aq #[N Z args,N Z regs,N Z data,N Z slots,L g h i],Aq #[N Z 6,N Z a,N Z b,N Z c]] w fun e w'=>e=Xq (Bq (aw regs slots ⟨6,a,b,c⟩))∧G w.heap.size w w':=by
 cases d:below a regs;·go_enter Tryz.func109,Tryz.ntmps109;go_wp2_with(first|(go_at_call 142;refine(aF _ _ _ _ _ _ _ _ _).mono ?_;rintro e w'⟨rfl,rfl⟩)|(go_at_call 144;refine(be _ _ _ _ _ _ _ _ _).mono ?_;rintro e w'⟨rfl,rfl⟩)|(go_at_call 143;refine(aR _ _).mono ?_;rintro e w'⟨rfl,rfl⟩));go_ret;exact⟨by simp[aw,d],(by(repeat refine Below.al ?_ (Rq _));exact Below.refl _ _)⟩
 cases f:below b regs;·go_enter Tryz.func109,Tryz.ntmps109;go_wp2_with(first|(go_at_call 142;refine(aF _ _ _ _ _ _ _ _ _).mono ?_;rintro e w'⟨rfl,rfl⟩)|(go_at_call 144;refine(be _ _ _ _ _ _ _ _ _).mono ?_;rintro e w'⟨rfl,rfl⟩)|(go_at_call 143;refine(aR _ _).mono ?_;rintro e w'⟨rfl,rfl⟩));go_ret;exact⟨by simp[aw,d,f],(by(repeat refine Below.al ?_ (Rq _));exact Below.refl _ _)⟩
 ·go_enter Tryz.func109,Tryz.ntmps109;go_wp2_with(first|(go_at_call 142;refine(aF _ _ _ _ _ _ _ _ _).mono ?_;rintro e w'⟨rfl,rfl⟩)|(go_at_call 144;refine(be _ _ _ _ _ _ _ _ _).mono ?_;rintro e w'⟨rfl,rfl⟩)|(go_at_call 143;refine(aR _ _).mono ?_;rintro e w'⟨rfl,rfl⟩));go_ret;exact⟨by simp[aw,d,f,di],(by(repeat refine Below.al ?_ (Rq _));exact Below.refl _ _)⟩
theorem Fo(args regs data slots:Int)(g:Option Addr)(h i:Nat)(a b c:Int)(w:W):Calls Tryz.prog 109 #[Aq #[N Z args,N Z regs,N Z data,N Z slots,L g h i],Aq #[N Z 7,N Z a,N Z b,N Z c]] w fun e w'=>e=Xq (Bq (aw regs slots ⟨7,a,b,c⟩))∧G w.heap.size w w':=by
 cases d:below a regs;·go_enter Tryz.func109,Tryz.ntmps109;go_wp2_with(first|(go_at_call 142;refine(aF _ _ _ _ _ _ _ _ _).mono ?_;rintro e w'⟨rfl,rfl⟩)|(go_at_call 144;refine(be _ _ _ _ _ _ _ _ _).mono ?_;rintro e w'⟨rfl,rfl⟩)|(go_at_call 143;refine(aR _ _).mono ?_;rintro e w'⟨rfl,rfl⟩));go_ret;exact⟨by simp[aw,d],(by(repeat refine Below.al ?_ (Rq _));exact Below.refl _ _)⟩
 cases f:below b regs;·go_enter Tryz.func109,Tryz.ntmps109;go_wp2_with(first|(go_at_call 142;refine(aF _ _ _ _ _ _ _ _ _).mono ?_;rintro e w'⟨rfl,rfl⟩)|(go_at_call 144;refine(be _ _ _ _ _ _ _ _ _).mono ?_;rintro e w'⟨rfl,rfl⟩)|(go_at_call 143;refine(aR _ _).mono ?_;rintro e w'⟨rfl,rfl⟩));go_ret;exact⟨by simp[aw,d,f],(by(repeat refine Below.al ?_ (Rq _));exact Below.refl _ _)⟩
 ·go_enter Tryz.func109,Tryz.ntmps109;go_wp2_with(first|(go_at_call 142;refine(aF _ _ _ _ _ _ _ _ _).mono ?_;rintro e w'⟨rfl,rfl⟩)|(go_at_call 144;refine(be _ _ _ _ _ _ _ _ _).mono ?_;rintro e w'⟨rfl,rfl⟩)|(go_at_call 143;refine(aR _ _).mono ?_;rintro e w'⟨rfl,rfl⟩));go_ret;exact⟨by simp[aw,d,f,di],(by(repeat refine Below.al ?_ (Rq _));exact Below.refl _ _)⟩
theorem Fp(args regs data slots:Int)(g:Option Addr)(h i:Nat)(a b c:Int)(w:W):Calls Tryz.prog 109 #[Aq #[N Z args,N Z regs,N Z data,N Z slots,L g h i],Aq #[N Z 8,N Z a,N Z b,N Z c]] w fun e w'=>e=Xq (Bq (aw regs slots ⟨8,a,b,c⟩))∧G w.heap.size w w':=by
 cases d:below a regs;·go_enter Tryz.func109,Tryz.ntmps109;go_wp2_with(first|(go_at_call 142;refine(aF _ _ _ _ _ _ _ _ _).mono ?_;rintro e w'⟨rfl,rfl⟩)|(go_at_call 144;refine(be _ _ _ _ _ _ _ _ _).mono ?_;rintro e w'⟨rfl,rfl⟩)|(go_at_call 143;refine(aR _ _).mono ?_;rintro e w'⟨rfl,rfl⟩));go_ret;exact⟨by simp[aw,d],(by(repeat refine Below.al ?_ (Rq _));exact Below.refl _ _)⟩
 cases f:below b regs;·go_enter Tryz.func109,Tryz.ntmps109;go_wp2_with(first|(go_at_call 142;refine(aF _ _ _ _ _ _ _ _ _).mono ?_;rintro e w'⟨rfl,rfl⟩)|(go_at_call 144;refine(be _ _ _ _ _ _ _ _ _).mono ?_;rintro e w'⟨rfl,rfl⟩)|(go_at_call 143;refine(aR _ _).mono ?_;rintro e w'⟨rfl,rfl⟩));go_ret;exact⟨by simp[aw,d,f],(by(repeat refine Below.al ?_ (Rq _));exact Below.refl _ _)⟩
 ·go_enter Tryz.func109,Tryz.ntmps109;go_wp2_with(first|(go_at_call 142;refine(aF _ _ _ _ _ _ _ _ _).mono ?_;rintro e w'⟨rfl,rfl⟩)|(go_at_call 144;refine(be _ _ _ _ _ _ _ _ _).mono ?_;rintro e w'⟨rfl,rfl⟩)|(go_at_call 143;refine(aR _ _).mono ?_;rintro e w'⟨rfl,rfl⟩));go_ret;exact⟨by simp[aw,d,f,di],(by(repeat refine Below.al ?_ (Rq _));exact Below.refl _ _)⟩
theorem bR(c:Int):(c==0)=decide (c=0):=by by_cases h:c=0<;>simp[h]
theorem EX(args regs data slots:Int)(g:Option Addr)(h i:Nat)(a b c:Int)(w:W):Calls Tryz.prog 138 #[Aq #[N Z args,N Z regs,N Z data,N Z slots,L g h i],Aq #[N Z 1,N Z a,N Z b,N Z c]] w fun e w'=>e=Xq (Bq (aw regs slots ⟨1,a,b,c⟩))∧G w.heap.size w w':=by
 cases d:below a regs;·go_enter Tryz.func138,Tryz.ntmps138;go_wp2_with(go_at_call 103;refine(aE _ _ _).mono ?_;rintro e w'⟨rfl,rfl⟩);go_ret;exact⟨by simp[aw,d],((Below.refl _ _).alloc (Rq _) _).alloc (by simp) _⟩
 cases f:below b 256;·go_enter Tryz.func138,Tryz.ntmps138;go_wp2_with(go_at_call 103;refine(aE _ _ _).mono ?_;rintro e w'⟨rfl,rfl⟩);go_ret;exact⟨by simp[aw,d,f,bR],((Below.refl _ _).alloc (Rq _) _).alloc (by simp) _⟩
 ·go_enter Tryz.func138,Tryz.ntmps138;go_wp2_with(go_at_call 103;refine(aE _ _ _).mono ?_;rintro e w'⟨rfl,rfl⟩);go_ret;exact⟨by simp[aw,d,f,bR],((Below.refl _ _).alloc (Rq _) _).alloc (by simp) _⟩
theorem EY(args regs data slots:Int)(g:Option Addr)(h i:Nat)(a b c:Int)(w:W):Calls Tryz.prog 138 #[Aq #[N Z args,N Z regs,N Z data,N Z slots,L g h i],Aq #[N Z 2,N Z a,N Z b,N Z c]] w fun e w'=>e=Xq (Bq (aw regs slots ⟨2,a,b,c⟩))∧G w.heap.size w w':=by
 cases d:below a regs;·go_enter Tryz.func138,Tryz.ntmps138;go_wp2_with(go_at_call 103;refine(aE _ _ _).mono ?_;rintro e w'⟨rfl,rfl⟩);go_ret;exact⟨by simp[aw,d],((Below.refl _ _).alloc (Rq _) _).alloc (by simp) _⟩
 cases f:below b regs;·go_enter Tryz.func138,Tryz.ntmps138;go_wp2_with(go_at_call 103;refine(aE _ _ _).mono ?_;rintro e w'⟨rfl,rfl⟩);go_ret;exact⟨by simp[aw,d,f,bR],((Below.refl _ _).alloc (Rq _) _).alloc (by simp) _⟩
 ·go_enter Tryz.func138,Tryz.ntmps138;go_wp2_with(go_at_call 103;refine(aE _ _ _).mono ?_;rintro e w'⟨rfl,rfl⟩);go_ret;exact⟨by simp[aw,d,f,bR],((Below.refl _ _).alloc (Rq _) _).alloc (by simp) _⟩
theorem EZ(args regs data slots:Int)(g:Option Addr)(h i:Nat)(a b c:Int)(w:W):Calls Tryz.prog 138 #[Aq #[N Z args,N Z regs,N Z data,N Z slots,L g h i],Aq #[N Z 3,N Z a,N Z b,N Z c]] w fun e w'=>e=Xq (Bq (aw regs slots ⟨3,a,b,c⟩))∧G w.heap.size w w':=by
 cases d:below a regs;·go_enter Tryz.func138,Tryz.ntmps138;go_wp2_with(go_at_call 103;refine(aE _ _ _).mono ?_;rintro e w'⟨rfl,rfl⟩);go_ret;exact⟨by simp[aw,d],((Below.refl _ _).alloc (Rq _) _).alloc (by simp) _⟩
 cases f:below b regs;·go_enter Tryz.func138,Tryz.ntmps138;go_wp2_with(go_at_call 103;refine(aE _ _ _).mono ?_;rintro e w'⟨rfl,rfl⟩);go_ret;exact⟨by simp[aw,d,f,bR],((Below.refl _ _).alloc (Rq _) _).alloc (by simp) _⟩
 ·go_enter Tryz.func138,Tryz.ntmps138;go_wp2_with(go_at_call 103;refine(aE _ _ _).mono ?_;rintro e w'⟨rfl,rfl⟩);go_ret;exact⟨by simp[aw,d,f,bR],((Below.refl _ _).alloc (Rq _) _).alloc (by simp) _⟩
theorem E0(args regs data slots:Int)(g:Option Addr)(h i:Nat)(a b c:Int)(w:W):Calls Tryz.prog 138 #[Aq #[N Z args,N Z regs,N Z data,N Z slots,L g h i],Aq #[N Z 4,N Z a,N Z b,N Z c]] w fun e w'=>e=Xq (Bq (aw regs slots ⟨4,a,b,c⟩))∧G w.heap.size w w':=by
 cases d:below a regs;·go_enter Tryz.func138,Tryz.ntmps138;go_wp2_with(go_at_call 103;refine(aE _ _ _).mono ?_;rintro e w'⟨rfl,rfl⟩);go_ret;exact⟨by simp[aw,d],((Below.refl _ _).alloc (Rq _) _).alloc (by simp) _⟩
 cases f:below b regs;·go_enter Tryz.func138,Tryz.ntmps138;go_wp2_with(go_at_call 103;refine(aE _ _ _).mono ?_;rintro e w'⟨rfl,rfl⟩);go_ret;exact⟨by simp[aw,d,f,bR],((Below.refl _ _).alloc (Rq _) _).alloc (by simp) _⟩
 ·go_enter Tryz.func138,Tryz.ntmps138;go_wp2_with(go_at_call 103;refine(aE _ _ _).mono ?_;rintro e w'⟨rfl,rfl⟩);go_ret;exact⟨by simp[aw,d,f,bR],((Below.refl _ _).alloc (Rq _) _).alloc (by simp) _⟩
theorem E1(args regs data slots:Int)(g:Option Addr)(h i:Nat)(a b c:Int)(w:W):Calls Tryz.prog 138 #[Aq #[N Z args,N Z regs,N Z data,N Z slots,L g h i],Aq #[N Z 5,N Z a,N Z b,N Z c]] w fun e w'=>e=Xq (Bq (aw regs slots ⟨5,a,b,c⟩))∧G w.heap.size w w':=by
 cases d:below a regs;·go_enter Tryz.func138,Tryz.ntmps138;go_wp2_with(go_at_call 103;refine(aE _ _ _).mono ?_;rintro e w'⟨rfl,rfl⟩);go_ret;exact⟨by simp[aw,d],((Below.refl _ _).alloc (Rq _) _).alloc (by simp) _⟩
 cases f:below b regs;·go_enter Tryz.func138,Tryz.ntmps138;go_wp2_with(go_at_call 103;refine(aE _ _ _).mono ?_;rintro e w'⟨rfl,rfl⟩);go_ret;exact⟨by simp[aw,d,f,bR],((Below.refl _ _).alloc (Rq _) _).alloc (by simp) _⟩
 ·go_enter Tryz.func138,Tryz.ntmps138;go_wp2_with(go_at_call 103;refine(aE _ _ _).mono ?_;rintro e w'⟨rfl,rfl⟩);go_ret;exact⟨by simp[aw,d,f,bR],((Below.refl _ _).alloc (Rq _) _).alloc (by simp) _⟩
theorem E2(args regs data slots:Int)(g:Option Addr)(h i:Nat)(a b c:Int)(w:W):Calls Tryz.prog 138 #[Aq #[N Z args,N Z regs,N Z data,N Z slots,L g h i],Aq #[N Z 6,N Z a,N Z b,N Z c]] w fun e w'=>e=Xq (Bq (aw regs slots ⟨6,a,b,c⟩))∧G w.heap.size w w':=by
 cases d:below a regs;·go_enter Tryz.func138,Tryz.ntmps138;go_wp2_with(go_at_call 103;refine(aE _ _ _).mono ?_;rintro e w'⟨rfl,rfl⟩);go_ret;exact⟨by simp[aw,d],((Below.refl _ _).alloc (Rq _) _).alloc (by simp) _⟩
 cases f:below b regs;·go_enter Tryz.func138,Tryz.ntmps138;go_wp2_with(go_at_call 103;refine(aE _ _ _).mono ?_;rintro e w'⟨rfl,rfl⟩);go_ret;exact⟨by simp[aw,d,f,bR],((Below.refl _ _).alloc (Rq _) _).alloc (by simp) _⟩
 ·go_enter Tryz.func138,Tryz.ntmps138;go_wp2_with(go_at_call 103;refine(aE _ _ _).mono ?_;rintro e w'⟨rfl,rfl⟩);go_ret;exact⟨by simp[aw,d,f,bR],((Below.refl _ _).alloc (Rq _) _).alloc (by simp) _⟩
theorem E3(args regs data slots:Int)(g:Option Addr)(h i:Nat)(a b c:Int)(w:W):Calls Tryz.prog 138 #[Aq #[N Z args,N Z regs,N Z data,N Z slots,L g h i],Aq #[N Z 7,N Z a,N Z b,N Z c]] w fun e w'=>e=Xq (Bq (aw regs slots ⟨7,a,b,c⟩))∧G w.heap.size w w':=by
 cases d:below a regs;·go_enter Tryz.func138,Tryz.ntmps138;go_wp2_with(go_at_call 103;refine(aE _ _ _).mono ?_;rintro e w'⟨rfl,rfl⟩);go_ret;exact⟨by simp[aw,d],((Below.refl _ _).alloc (Rq _) _).alloc (by simp) _⟩
 cases f:below b regs;·go_enter Tryz.func138,Tryz.ntmps138;go_wp2_with(go_at_call 103;refine(aE _ _ _).mono ?_;rintro e w'⟨rfl,rfl⟩);go_ret;exact⟨by simp[aw,d,f,bR],((Below.refl _ _).alloc (Rq _) _).alloc (by simp) _⟩
 ·go_enter Tryz.func138,Tryz.ntmps138;go_wp2_with(go_at_call 103;refine(aE _ _ _).mono ?_;rintro e w'⟨rfl,rfl⟩);go_ret;exact⟨by simp[aw,d,f,bR],((Below.refl _ _).alloc (Rq _) _).alloc (by simp) _⟩
theorem E4(args regs data slots:Int)(g:Option Addr)(h i:Nat)(a b c:Int)(w:W):Calls Tryz.prog 138 #[Aq #[N Z args,N Z regs,N Z data,N Z slots,L g h i],Aq #[N Z 8,N Z a,N Z b,N Z c]] w fun e w'=>e=Xq (Bq (aw regs slots ⟨8,a,b,c⟩))∧G w.heap.size w w':=by
 cases d:below a regs;·go_enter Tryz.func138,Tryz.ntmps138;go_wp2_with(go_at_call 103;refine(aE _ _ _).mono ?_;rintro e w'⟨rfl,rfl⟩);go_ret;exact⟨by simp[aw,d],((Below.refl _ _).alloc (Rq _) _).alloc (by simp) _⟩
 cases f:below b regs;·go_enter Tryz.func138,Tryz.ntmps138;go_wp2_with(go_at_call 103;refine(aE _ _ _).mono ?_;rintro e w'⟨rfl,rfl⟩);go_ret;exact⟨by simp[aw,d,f,bR],((Below.refl _ _).alloc (Rq _) _).alloc (by simp) _⟩
 ·go_enter Tryz.func138,Tryz.ntmps138;go_wp2_with(go_at_call 103;refine(aE _ _ _).mono ?_;rintro e w'⟨rfl,rfl⟩);go_ret;exact⟨by simp[aw,d,f,bR],((Below.refl _ _).alloc (Rq _) _).alloc (by simp) _⟩
theorem E5(args regs data slots:Int)(g:Option Addr)(h i:Nat)(a b c:Int)(w:W):Calls Tryz.prog 138 #[Aq #[N Z args,N Z regs,N Z data,N Z slots,L g h i],Aq #[N Z 9,N Z a,N Z b,N Z c]] w fun e w'=>e=Xq (Bq (aw regs slots ⟨9,a,b,c⟩))∧G w.heap.size w w':=by
 cases d:below a regs;·go_enter Tryz.func138,Tryz.ntmps138;go_wp2_with(go_at_call 103;refine(aE _ _ _).mono ?_;rintro e w'⟨rfl,rfl⟩);go_ret;exact⟨by simp[aw,d],((Below.refl _ _).alloc (Rq _) _).alloc (by simp) _⟩
 cases f:below b regs;·go_enter Tryz.func138,Tryz.ntmps138;go_wp2_with(go_at_call 103;refine(aE _ _ _).mono ?_;rintro e w'⟨rfl,rfl⟩);go_ret;exact⟨by simp[aw,d,f,bR],((Below.refl _ _).alloc (Rq _) _).alloc (by simp) _⟩
 ·go_enter Tryz.func138,Tryz.ntmps138;go_wp2_with(go_at_call 103;refine(aE _ _ _).mono ?_;rintro e w'⟨rfl,rfl⟩);go_ret;exact⟨by simp[aw,d,f,bR],((Below.refl _ _).alloc (Rq _) _).alloc (by simp) _⟩
theorem Eg(args regs data slots:Int)(g:Option Addr)(h i:Nat)(a b c:Int)(w:W):Calls Tryz.prog 138 #[Aq #[N Z args,N Z regs,N Z data,N Z slots,L g h i],Aq #[N Z 10,N Z a,N Z b,N Z c]] w fun e w'=>e=Xq (Bq (aw regs slots ⟨10,a,b,c⟩))∧G w.heap.size w w':=by
 cases d:below a regs;·go_enter Tryz.func138,Tryz.ntmps138;go_wp2_with(go_at_call 103;refine(aE _ _ _).mono ?_;rintro e w'⟨rfl,rfl⟩);go_ret;exact⟨by simp[aw,d],((Below.refl _ _).alloc (Rq _) _).alloc (by simp) _⟩
 cases f:below b regs;·go_enter Tryz.func138,Tryz.ntmps138;go_wp2_with(go_at_call 103;refine(aE _ _ _).mono ?_;rintro e w'⟨rfl,rfl⟩);go_ret;exact⟨by simp[aw,d,f,bR],((Below.refl _ _).alloc (Rq _) _).alloc (by simp) _⟩
 ·go_enter Tryz.func138,Tryz.ntmps138;go_wp2_with(go_at_call 103;refine(aE _ _ _).mono ?_;rintro e w'⟨rfl,rfl⟩);go_ret;exact⟨by simp[aw,d,f,bR],((Below.refl _ _).alloc (Rq _) _).alloc (by simp) _⟩
theorem Eh(args regs data slots:Int)(g:Option Addr)(h i:Nat)(a b c:Int)(w:W):Calls Tryz.prog 138 #[Aq #[N Z args,N Z regs,N Z data,N Z slots,L g h i],Aq #[N Z 11,N Z a,N Z b,N Z c]] w fun e w'=>e=Xq (Bq (aw regs slots ⟨11,a,b,c⟩))∧G w.heap.size w w':=by
 cases d:below a regs;·go_enter Tryz.func138,Tryz.ntmps138;go_wp2_with(go_at_call 103;refine(aE _ _ _).mono ?_;rintro e w'⟨rfl,rfl⟩);go_ret;exact⟨by simp[aw,d],((Below.refl _ _).alloc (Rq _) _).alloc (by simp) _⟩
 cases f:below b regs;·go_enter Tryz.func138,Tryz.ntmps138;go_wp2_with(go_at_call 103;refine(aE _ _ _).mono ?_;rintro e w'⟨rfl,rfl⟩);go_ret;exact⟨by simp[aw,d,f,bR],((Below.refl _ _).alloc (Rq _) _).alloc (by simp) _⟩
 ·go_enter Tryz.func138,Tryz.ntmps138;go_wp2_with(go_at_call 103;refine(aE _ _ _).mono ?_;rintro e w'⟨rfl,rfl⟩);go_ret;exact⟨by simp[aw,d,f,bR],((Below.refl _ _).alloc (Rq _) _).alloc (by simp) _⟩
theorem Ei(args regs data slots:Int)(g:Option Addr)(h i:Nat)(a b c:Int)(w:W):Calls Tryz.prog 138 #[Aq #[N Z args,N Z regs,N Z data,N Z slots,L g h i],Aq #[N Z 12,N Z a,N Z b,N Z c]] w fun e w'=>e=Xq (Bq (aw regs slots ⟨12,a,b,c⟩))∧G w.heap.size w w':=by
 cases d:below a regs;·go_enter Tryz.func138,Tryz.ntmps138;go_wp2_with(go_at_call 103;refine(aE _ _ _).mono ?_;rintro e w'⟨rfl,rfl⟩);go_ret;exact⟨by simp[aw,d],((Below.refl _ _).alloc (Rq _) _).alloc (by simp) _⟩
 cases f:below b regs;·go_enter Tryz.func138,Tryz.ntmps138;go_wp2_with(go_at_call 103;refine(aE _ _ _).mono ?_;rintro e w'⟨rfl,rfl⟩);go_ret;exact⟨by simp[aw,d,f,bR],((Below.refl _ _).alloc (Rq _) _).alloc (by simp) _⟩
 ·go_enter Tryz.func138,Tryz.ntmps138;go_wp2_with(go_at_call 103;refine(aE _ _ _).mono ?_;rintro e w'⟨rfl,rfl⟩);go_ret;exact⟨by simp[aw,d,f,bR],((Below.refl _ _).alloc (Rq _) _).alloc (by simp) _⟩
theorem Ej(args regs data slots:Int)(g:Option Addr)(h i:Nat)(a b c:Int)(w:W):Calls Tryz.prog 138 #[Aq #[N Z args,N Z regs,N Z data,N Z slots,L g h i],Aq #[N Z 13,N Z a,N Z b,N Z c]] w fun e w'=>e=Xq (Bq (aw regs slots ⟨13,a,b,c⟩))∧G w.heap.size w w':=by
 cases d:below a regs;·go_enter Tryz.func138,Tryz.ntmps138;go_wp2_with(go_at_call 103;refine(aE _ _ _).mono ?_;rintro e w'⟨rfl,rfl⟩);go_ret;exact⟨by simp[aw,d],((Below.refl _ _).alloc (Rq _) _).alloc (by simp) _⟩
 cases f:below b regs;·go_enter Tryz.func138,Tryz.ntmps138;go_wp2_with(go_at_call 103;refine(aE _ _ _).mono ?_;rintro e w'⟨rfl,rfl⟩);go_ret;exact⟨by simp[aw,d,f,bR],((Below.refl _ _).alloc (Rq _) _).alloc (by simp) _⟩
 ·go_enter Tryz.func138,Tryz.ntmps138;go_wp2_with(go_at_call 103;refine(aE _ _ _).mono ?_;rintro e w'⟨rfl,rfl⟩);go_ret;exact⟨by simp[aw,d,f,bR],((Below.refl _ _).alloc (Rq _) _).alloc (by simp) _⟩
theorem Ek(args regs data slots:Int)(g:Option Addr)(h i:Nat)(a b c:Int)(w:W):Calls Tryz.prog 138 #[Aq #[N Z args,N Z regs,N Z data,N Z slots,L g h i],Aq #[N Z 14,N Z a,N Z b,N Z c]] w fun e w'=>e=Xq (Bq (aw regs slots ⟨14,a,b,c⟩))∧G w.heap.size w w':=by
 cases d:below a slots;·go_enter Tryz.func138,Tryz.ntmps138;go_wp2_with(go_at_call 103;refine(aE _ _ _).mono ?_;rintro e w'⟨rfl,rfl⟩);go_ret;exact⟨by simp[aw,d],((Below.refl _ _).alloc (Rq _) _).alloc (by simp) _⟩
 cases f:below b regs;·go_enter Tryz.func138,Tryz.ntmps138;go_wp2_with(go_at_call 103;refine(aE _ _ _).mono ?_;rintro e w'⟨rfl,rfl⟩);go_ret;exact⟨by simp[aw,d,f,bR],((Below.refl _ _).alloc (Rq _) _).alloc (by simp) _⟩
 ·go_enter Tryz.func138,Tryz.ntmps138;go_wp2_with(go_at_call 103;refine(aE _ _ _).mono ?_;rintro e w'⟨rfl,rfl⟩);go_ret;exact⟨by simp[aw,d,f,bR],((Below.refl _ _).alloc (Rq _) _).alloc (by simp) _⟩
theorem El(args regs data slots:Int)(g:Option Addr)(h i:Nat)(a b c:Int)(w:W):Calls Tryz.prog 138 #[Aq #[N Z args,N Z regs,N Z data,N Z slots,L g h i],Aq #[N Z 15,N Z a,N Z b,N Z c]] w fun e w'=>e=Xq (Bq (aw regs slots ⟨15,a,b,c⟩))∧G w.heap.size w w':=by
 cases d:below a regs;·go_enter Tryz.func138,Tryz.ntmps138;go_wp2_with(go_at_call 103;refine(aE _ _ _).mono ?_;rintro e w'⟨rfl,rfl⟩);go_ret;exact⟨by simp[aw,d],((Below.refl _ _).alloc (Rq _) _).alloc (by simp) _⟩
 cases f:below b slots;·go_enter Tryz.func138,Tryz.ntmps138;go_wp2_with(go_at_call 103;refine(aE _ _ _).mono ?_;rintro e w'⟨rfl,rfl⟩);go_ret;exact⟨by simp[aw,d,f,bR],((Below.refl _ _).alloc (Rq _) _).alloc (by simp) _⟩
 ·go_enter Tryz.func138,Tryz.ntmps138;go_wp2_with(go_at_call 103;refine(aE _ _ _).mono ?_;rintro e w'⟨rfl,rfl⟩);go_ret;exact⟨by simp[aw,d,f,bR],((Below.refl _ _).alloc (Rq _) _).alloc (by simp) _⟩
theorem Em(args regs data slots:Int)(d:Option Addr)(f g:Nat)(k a b c:Int)(w:W)(i:¬(1≤k∧k≤15)):Calls Tryz.prog 138 #[Aq #[N Z args,N Z regs,N Z data,N Z slots,L d f g],Aq #[N Z k,N Z a,N Z b,N Z c]] w fun e w'=>e=Xq (Bq (aw regs slots ⟨k,a,b,c⟩))∧G w.heap.size w w':=by
 have h:aw regs slots ⟨k,a,b,c⟩=false:=by unfold aw;rw[if_neg (by simp only[];omega),if_neg (by simp only[];omega),if_neg (by simp only[];omega),if_neg (by simp only[];omega),if_neg (by simp only[];omega)]
 have j:(k==1)=false:=by rw[beq_eq_false_iff_ne];omega
 have l:(k==2)=false:=by rw[beq_eq_false_iff_ne];omega
 have m:(k==3)=false:=by rw[beq_eq_false_iff_ne];omega
 have n:(k==4)=false:=by rw[beq_eq_false_iff_ne];omega
 have o:(k==5)=false:=by rw[beq_eq_false_iff_ne];omega
 have p:(k==6)=false:=by rw[beq_eq_false_iff_ne];omega
 have q:(k==7)=false:=by rw[beq_eq_false_iff_ne];omega
 have r:(k==8)=false:=by rw[beq_eq_false_iff_ne];omega
 have s:(k==9)=false:=by rw[beq_eq_false_iff_ne];omega
 have t:(k==10)=false:=by rw[beq_eq_false_iff_ne];omega
 have u:(k==11)=false:=by rw[beq_eq_false_iff_ne];omega
 have v:(k==12)=false:=by rw[beq_eq_false_iff_ne];omega
 have x:(k==13)=false:=by rw[beq_eq_false_iff_ne];omega
 have A:(k==14)=false:=by rw[beq_eq_false_iff_ne];omega
 have B:(k==15)=false:=by rw[beq_eq_false_iff_ne];omega
 go_enter Tryz.func138,Tryz.ntmps138;go_wp2;go_ret;exact⟨by simp[h],((Below.refl _ _).alloc (Rq _) _).alloc (by simp) _⟩
theorem CJ(args regs data slots:Int)(d:Option Addr)(f g:Nat)(k a b c:Int)(w:W):Calls Tryz.prog 138 #[Aq #[N Z args,N Z regs,N Z data,N Z slots,L d f g],Aq #[N Z k,N Z a,N Z b,N Z c]] w fun e w'=>e=Xq (Bq (aw regs slots ⟨k,a,b,c⟩))∧G w.heap.size w w':=by
 by_cases h:1≤k∧k≤15
 ·have:k=1∨k=2∨k=3∨k=4∨k=5∨k=6∨k=7∨k=8∨k=9∨k=10∨k=11∨k=12∨k=13∨k=14∨k=15:=by omega
  rcases this with rfl|rfl|rfl|rfl|rfl|rfl|rfl|rfl|rfl|rfl|rfl|rfl|rfl|rfl|rfl;·exact EX args regs data slots d f g a b c w
  ·exact EY args regs data slots d f g a b c w
  ·exact EZ args regs data slots d f g a b c w
  ·exact E0 args regs data slots d f g a b c w
  ·exact E1 args regs data slots d f g a b c w
  ·exact E2 args regs data slots d f g a b c w
  ·exact E3 args regs data slots d f g a b c w
  ·exact E4 args regs data slots d f g a b c w
  ·exact E5 args regs data slots d f g a b c w
  ·exact Eg args regs data slots d f g a b c w
  ·exact Eh args regs data slots d f g a b c w
  ·exact Ei args regs data slots d f g a b c w
  ·exact Ej args regs data slots d f g a b c w
  ·exact Ek args regs data slots d f g a b c w
  ·exact El args regs data slots d f g a b c w
 ·exact Em args regs data slots d f g k a b c w h
theorem gO(c:Int):(c==0)=decide (c=0):=by by_cases h:c=0<;>simp[h]
theorem Ed(args regs data slots:Int)(g:Option Addr)(b h:Nat)(a x d:Int)(w:W):Calls Tryz.prog 139 #[Aq #[N Z args,N Z regs,N Z data,N Z slots,L g b h],Aq #[N Z 1,N Z a,N Z x,N Z d]] w fun e w'=>e=Xq (Bq (bw regs b ⟨1,a,x,d⟩))∧G w.heap.size w w':=by
 by_cases c:a=0;case neg=>
  have i:(a==0)=false:=by simp[c]
  go_enter Tryz.func139,Tryz.ntmps139;go_wp2_with(go_at_call 103;refine(aE _ _ _).mono ?_;rintro e w'⟨rfl,rfl⟩);go_ret;exact⟨by simp[bw,gO,c,i],((Below.refl _ _).alloc (Rq _) _).alloc (by simp) _⟩
 subst c;cases f:below x b;·go_enter Tryz.func139,Tryz.ntmps139;go_wp2_with(go_at_call 103;refine(aE _ _ _).mono ?_;rintro e w'⟨rfl,rfl⟩);go_ret;exact⟨by simp[bw,gO,f],((Below.refl _ _).alloc (Rq _) _).alloc (by simp) _⟩
 ·go_enter Tryz.func139,Tryz.ntmps139;go_wp2_with(go_at_call 103;refine(aE _ _ _).mono ?_;rintro e w'⟨rfl,rfl⟩);go_ret;exact⟨by simp[bw,gO,f],((Below.refl _ _).alloc (Rq _) _).alloc (by simp) _⟩
theorem Ee(args regs data slots:Int)(g:Option Addr)(a h:Nat)(b x d:Int)(w:W):Calls Tryz.prog 139 #[Aq #[N Z args,N Z regs,N Z data,N Z slots,L g a h],Aq #[N Z 2,N Z b,N Z x,N Z d]] w fun e w'=>e=Xq (Bq (bw regs a ⟨2,b,x,d⟩))∧G w.heap.size w w':=by
 cases c:below b regs;·go_enter Tryz.func139,Tryz.ntmps139;go_wp2_with(go_at_call 103;refine(aE _ _ _).mono ?_;rintro e w'⟨rfl,rfl⟩);go_ret;exact⟨by simp[bw,gO,c],((Below.refl _ _).alloc (Rq _) _).alloc (by simp) _⟩
 cases f:below x a;·go_enter Tryz.func139,Tryz.ntmps139;go_wp2_with(go_at_call 103;refine(aE _ _ _).mono ?_;rintro e w'⟨rfl,rfl⟩);go_ret;exact⟨by simp[bw,gO,c,f],((Below.refl _ _).alloc (Rq _) _).alloc (by simp) _⟩
 ·go_enter Tryz.func139,Tryz.ntmps139;go_wp2_with(go_at_call 103;refine(aE _ _ _).mono ?_;rintro e w'⟨rfl,rfl⟩);go_ret;exact⟨by simp[bw,gO,c,f],((Below.refl _ _).alloc (Rq _) _).alloc (by simp) _⟩
theorem Ef(args regs data slots:Int)(g:Option Addr)(d h:Nat)(a x f:Int)(w:W):Calls Tryz.prog 139 #[Aq #[N Z args,N Z regs,N Z data,N Z slots,L g d h],Aq #[N Z 3,N Z a,N Z x,N Z f]] w fun e w'=>e=Xq (Bq (bw regs d ⟨3,a,x,f⟩))∧G w.heap.size w w':=by
 cases b:below a regs;·go_enter Tryz.func139,Tryz.ntmps139;go_wp2_with(go_at_call 103;refine(aE _ _ _).mono ?_;rintro e w'⟨rfl,rfl⟩);go_ret;exact⟨by simp[bw,gO,b],((Below.refl _ _).alloc (Rq _) _).alloc (by simp) _⟩
 by_cases c:x=0;case neg=>
  have i:(x==0)=false:=by simp[c]
  go_enter Tryz.func139,Tryz.ntmps139;go_wp2_with(go_at_call 103;refine(aE _ _ _).mono ?_;rintro e w'⟨rfl,rfl⟩);go_ret;exact⟨by simp[bw,gO,b,c,i],((Below.refl _ _).alloc (Rq _) _).alloc (by simp) _⟩
 subst c;·go_enter Tryz.func139,Tryz.ntmps139;go_wp2_with(go_at_call 103;refine(aE _ _ _).mono ?_;rintro e w'⟨rfl,rfl⟩);go_ret;exact⟨by simp[bw,gO,b],((Below.refl _ _).alloc (Rq _) _).alloc (by simp) _⟩
theorem Dr(args regs data slots:Int)(d:Option Addr)(a f:Nat)(k b x c:Int)(w:W)(h:¬(1≤k∧k≤3)):Calls Tryz.prog 139 #[Aq #[N Z args,N Z regs,N Z data,N Z slots,L d a f],Aq #[N Z k,N Z b,N Z x,N Z c]] w fun e w'=>e=Xq (Bq (bw regs a ⟨k,b,x,c⟩))∧G w.heap.size w w':=by
 have g:bw regs a ⟨k,b,x,c⟩=false:=by unfold bw;rw[if_neg (by simp only[];omega),if_neg (by simp only[];omega),if_neg (by simp only[];omega)]
 have i:(k==1)=false:=by rw[beq_eq_false_iff_ne];omega
 have j:(k==2)=false:=by rw[beq_eq_false_iff_ne];omega
 have l:(k==3)=false:=by rw[beq_eq_false_iff_ne];omega
 go_enter Tryz.func139,Tryz.ntmps139;go_wp2;go_ret;exact⟨by simp[g],((Below.refl _ _).alloc (Rq _) _).alloc (by simp) _⟩
theorem Bo(args regs data slots:Int)(d:Option Addr)(a f:Nat)(k b x c:Int)(w:W):Calls Tryz.prog 139 #[Aq #[N Z args,N Z regs,N Z data,N Z slots,L d a f],Aq #[N Z k,N Z b,N Z x,N Z c]] w fun e w'=>e=Xq (Bq (bw regs a ⟨k,b,x,c⟩))∧G w.heap.size w w':=by
 by_cases g:1≤k∧k≤3
 ·have:k=1∨k=2∨k=3:=by omega
  rcases this with rfl|rfl|rfl;·exact Ed args regs data slots d a f b x c w
  ·exact Ee args regs data slots d a f b x c w
  ·exact Ef args regs data slots d a f b x c w
 ·exact Dr args regs data slots d a f k b x c w g
theorem xC(args regs data slots:Int)(q:Option Addr)(f r:Nat)(sv:Vq)(l:List dr)(k g x h:Int)(w:W)(O:iH w sv l):Calls Tryz.prog 104 #[Aq #[N Z args,N Z regs,N Z data,N Z slots,L q f r],Aq #[sv,N Z k,N Z g,N Z x,N Z h]] w fun e w'=>e=Xq (Bq (cI regs slots f ⟨l,⟨k,g,x,h⟩⟩))∧G w.heap.size w w':=by
 obtain⟨v,cap,rfl,ae,hc⟩:=O;obtain⟨d,o⟩:∃d,cI regs slots f ⟨l,⟨k,g,x,h⟩⟩=d:=⟨_,rfl⟩;rw[o];by_cases af:(12:Int)<l.length
 ·have s:d=false:=by rw[←o];simp only[cI];rw[show decide (l.length≤12)=false by simp;omega];rfl
  subst s;clear o;go_enter Tryz.func104,Tryz.ntmps104;go_wp2;go_ret;exact⟨rfl,((Below.refl _ _).alloc (Rq _) _).alloc (by simp) _⟩
 have A:Hid (d=(fF regs slots l 0&&bw regs f ⟨k,g,x,h⟩)):=by show d=_;rw[←o];simp[cI,fF,show l.length≤12 by omega]
 clear o;go_enter Tryz.func104,Tryz.ntmps104;go_wp2;go_loopw[5](fun i wr=>∃(j:Nat),j≤l.length∧i=N Z j∧Hid (d=(fF regs slots l j&&bw regs f ⟨k,g,x,h⟩))∧G (w.heap.size+2) ((w.alloc (Y #[N Z args,N Z regs,N Z data,N Z slots,L q f r] 25)).alloc (Y #[L v l.length cap,N Z k,N Z g,N Z x,N Z h] 42)) wr)(fun i _=>l.length-(intOf i).toNat);case atStart=>exact⟨0,Nat.zero_le _,rfl,A,Below.refl _ _⟩
 case round=>
  obtain⟨j,ag,rfl,m,c⟩:=hrel;clear A;have n:G w.heap.size w wr:=(((Below.refl w.heap.size w).alloc (Rq _) _).alloc (by simp) _).trans (c.mono (by omega));have B:wr.cell? ⟨w.heap.size,0,z⟩=y (N Z args):=(c.cell (by simp)).trans (by simp);have C:wr.cell? ⟨w.heap.size,1,z⟩=y (N Z regs):=(c.cell (by simp)).trans (by simp);have E:wr.cell? ⟨w.heap.size,2,z⟩=y (N Z data):=(c.cell (by simp)).trans (by simp);have F:wr.cell? ⟨w.heap.size,3,z⟩=y (N Z slots):=(c.cell (by simp)).trans (by simp);have H:wr.cell? ⟨w.heap.size,4,z⟩=y (L q f r):=(c.cell (by simp)).trans (by simp);have I:wr.cell? ⟨w.heap.size+1,0,z⟩=y (L v l.length cap):=(c.cell (by simp)).trans (by simp);have P:wr.cell? ⟨w.heap.size+1,1,z⟩=y (N Z k):=(c.cell (by simp)).trans (by simp);have Q:wr.cell? ⟨w.heap.size+1,2,z⟩=y (N Z g):=(c.cell (by simp)).trans (by simp);have R:wr.cell? ⟨w.heap.size+1,3,z⟩=y (N Z x):=(c.cell (by simp)).trans (by simp);have S:wr.cell? ⟨w.heap.size+1,4,z⟩=y (N Z h):=(c.cell (by simp)).trans (by simp);have hz:=c.size;simp at hz;by_cases J:j<l.length
  ·obtain⟨b,ah,rfl,c1,c2,c3,c4⟩:=hc j J;have e1:=aa n c1;have e2:=aa n c2;have e3:=aa n c3;have e4:=aa n c4;have u0:=fun a:cJ wr.heap.size wr=>a.cell B;have u1:=fun a:cJ wr.heap.size wr=>a.cell C;have u2:=fun a:cJ wr.heap.size wr=>a.cell E;have u3:=fun a:cJ wr.heap.size wr=>a.cell F;have u4:=fun a:cJ wr.heap.size wr=>a.cell H;have T:=fun a:cJ wr.heap.size wr=>a.cell I;have U:=fun a:cJ wr.heap.size wr=>a.cell e1;have V:=fun a:cJ wr.heap.size wr=>a.cell e2;have X:=fun a:cJ wr.heap.size wr=>a.cell e3;have ab:=fun a:cJ wr.heap.size wr=>a.cell e4;have np:=cJ.any wr.heap.size wr;have p:Hid (fF regs slots l j=(aw regs slots ⟨cD l j,oa l j,ob l j,oc l j⟩&&fF regs slots l (j+1))):=oT J;go_wp2;refine eA wr.heap.size (by kernel_rfl) (by kernel_rfl) ?_;repeat(go_big_quiet_step(exact Calls.kJ (Rq _) (CJ _ _ _ _ _ _ _ _ _ _ _ _)))
   refine wpQuiet_nil ?_;rintro _⟨a,rfl⟩;have t:=c.trans (a.ok.mono (by omega));have u:=n.trans (a.ok.mono (by omega));clear u0 u1 u2 u3 u4 T U V X ab np B C E F H I P Q R S e1 e2 e3 e4;cases K:aw regs slots ⟨cD l j,oa l j,ob l j,oc l j⟩
   ·have s:d=false:=by rw[m.out,p.out,K];rfl
    subst s;clear m p;go_wp2;go_ret;exact⟨rfl,u⟩
   ·have ac:Hid (d=(fF regs slots l (j+1)&&bw regs f ⟨k,g,x,h⟩)):=by show d=_;rw[m.out,p.out,K];rfl
    clear m p;go_wp2;go_roundw;case rel=>exact⟨j+1,by omega,by go_num,ac,t⟩
    case measure=>simp[intOf];omega
  ·have M:d=bw regs f ⟨k,g,x,h⟩:=by rw[m.out,qY (by omega)];rfl
   have ad:Hid (d=bw regs f ⟨k,g,x,h⟩):=M;clear m M;go_wp2_with fail;refine(Bo _ _ _ _ _ _ _ _ _ _ _ _).mono ?_;rintro e w1⟨rfl,t⟩;have u:=n.trans (t.mono (by omega));go_wp2;go_ret;exact⟨by rw[ad.out];rfl,u⟩
theorem sd(args regs data slots:Int)(v:Vq)(l:List aN)(w:W)(H:bm w v l):Calls Tryz.prog 66 #[Aq #[N Z args,N Z regs,N Z data,N Z slots,v]] w fun e w'=>e=Xq (Bq (aB ⟨args,regs,data,slots,l⟩))∧G w.heap.size w w':=by
 obtain⟨p,cap,rfl,X,hc⟩:=H;obtain⟨f,g⟩:∃f,aB ⟨args,regs,data,slots,l⟩=f:=⟨_,rfl⟩;rw[g];have c:¬(1≤regs∧regs≤8∧0≤args∧args≤regs∧0≤data∧data≤8∧0≤slots∧slots≤8∧1≤l.length∧l.length≤6)→f=false:=by intro h;rw[←g];apply Bool.eq_false_iff.2;intro I;simp[aB]at I;exact h (by omega)
 have r:G w.heap.size w (w.alloc (Y #[N Z args,N Z regs,N Z data,N Z slots,L p l.length cap] 25)):=(Below.refl _ _).alloc (Rq _) _;have j:Hid (G w.heap.size w (w.alloc (Y #[N Z args,N Z regs,N Z data,N Z slots,L p l.length cap] 25))):=r;clear r;by_cases ab:regs<1;·have d:f=false:=c (by omega);subst d;clear g c;go_enter Tryz.func66,Tryz.ntmps66;go_wp2;go_ret;exact⟨rfl,j.out⟩
 by_cases ac:8<regs;·have d:f=false:=c (by omega);subst d;clear g c;go_enter Tryz.func66,Tryz.ntmps66;go_wp2;go_ret;exact⟨rfl,j.out⟩
 by_cases ad:args<0;·have d:f=false:=c (by omega);subst d;clear g c;go_enter Tryz.func66,Tryz.ntmps66;go_wp2;go_ret;exact⟨rfl,j.out⟩
 by_cases ae:regs<args;·have d:f=false:=c (by omega);subst d;clear g c;go_enter Tryz.func66,Tryz.ntmps66;go_wp2;go_ret;exact⟨rfl,j.out⟩
 by_cases af:data<0;·have d:f=false:=c (by omega);subst d;clear g c;go_enter Tryz.func66,Tryz.ntmps66;go_wp2;go_ret;exact⟨rfl,j.out⟩
 by_cases ag:8<data;·have d:f=false:=c (by omega);subst d;clear g c;go_enter Tryz.func66,Tryz.ntmps66;go_wp2;go_ret;exact⟨rfl,j.out⟩
 by_cases ah:slots<0;·have d:f=false:=c (by omega);subst d;clear g c;go_enter Tryz.func66,Tryz.ntmps66;go_wp2;go_ret;exact⟨rfl,j.out⟩
 by_cases ai:8<slots;·have d:f=false:=c (by omega);subst d;clear g c;go_enter Tryz.func66,Tryz.ntmps66;go_wp2;go_ret;exact⟨rfl,j.out⟩
 by_cases ak:(l.length:Int)<1;·have d:f=false:=c (by omega);subst d;clear g c;go_enter Tryz.func66,Tryz.ntmps66;go_wp2;go_ret;exact⟨rfl,j.out⟩
 by_cases al:(6:Int)<l.length;·have d:f=false:=c (by omega);subst d;clear g c;go_enter Tryz.func66,Tryz.ntmps66;go_wp2;go_ret;exact⟨rfl,j.out⟩
 have s:Hid (f=eW regs slots l.length l 0):=by show f=_;rw[←g];simp only[aB,eW,List.drop_zero];rw[show decide (1≤regs∧regs≤8)=true by simp;omega,show decide (0≤args∧args≤regs)=true by simp;omega,show decide (0≤data∧data≤8)=true by simp;omega,show decide (0≤slots∧slots≤8)=true by simp;omega,show decide (1≤l.length∧l.length≤6)=true by simp;omega];rfl
 clear g c j;go_enter Tryz.func66,Tryz.ntmps66;go_wp2;go_loopw[3](fun i wr=>∃(k:Nat),k≤l.length∧i=N Z k∧Hid (f=eW regs slots l.length l k)∧G (w.heap.size+1) (w.alloc (Y #[N Z args,N Z regs,N Z data,N Z slots,L p l.length cap] 25)) wr)(fun i _=>l.length-(intOf i).toNat);case atStart=>exact⟨0,Nat.zero_le _,rfl,s,Below.refl _ _⟩
 case round=>
  obtain⟨k,am,rfl,o,m⟩:=hrel;clear s;have n:=Below.under m;have t:wr.cell? ⟨w.heap.size,0,z⟩=y (N Z args):=(m.cell (by simp)).trans (by simp);have u:wr.cell? ⟨w.heap.size,1,z⟩=y (N Z regs):=(m.cell (by simp)).trans (by simp);have x:wr.cell? ⟨w.heap.size,2,z⟩=y (N Z data):=(m.cell (by simp)).trans (by simp);have A:wr.cell? ⟨w.heap.size,3,z⟩=y (N Z slots):=(m.cell (by simp)).trans (by simp);have B:wr.cell? ⟨w.heap.size,4,z⟩=y (L p l.length cap):=(m.cell (by simp)).trans (by simp);have hz:=m.size;simp at hz;by_cases C:k<l.length
  ·obtain⟨b,an,sv,rfl,c1,c2,c3,c4,c5,J⟩:=hc k C;have e1:=aa n c1;have e2:=aa n c2;have e3:=aa n c3;have e4:=aa n c4;have e5:=aa n c5;have E:=J.ab n;obtain⟨ao,ap,K,_,_⟩:=id E;subst K;have u0:=fun a:cJ wr.heap.size wr=>a.cell t;have u1:=fun a:cJ wr.heap.size wr=>a.cell u;have u2:=fun a:cJ wr.heap.size wr=>a.cell x;have u3:=fun a:cJ wr.heap.size wr=>a.cell A;have u4:=fun a:cJ wr.heap.size wr=>a.cell B;have M:=fun a:cJ wr.heap.size wr=>a.cell e1;have O:=fun a:cJ wr.heap.size wr=>a.cell e2;have P:=fun a:cJ wr.heap.size wr=>a.cell e3;have Q:=fun a:cJ wr.heap.size wr=>a.cell e4;have R:=fun a:cJ wr.heap.size wr=>a.cell e5;have np:=cJ.any wr.heap.size wr;have q:Hid (eW regs slots l.length l k=(cI regs slots l.length ⟨aj l k,⟨fX l k,gJ l k,iT l k,ja l k⟩⟩&&eW regs slots l.length l (k+1))):=oF C;go_wp2;refine eA wr.heap.size (by kernel_rfl) (by kernel_rfl) ?_;repeat(go_big_quiet_step(exact Calls.kJ (Rq _) (xC _ _ _ _ _ _ _ _ _ _ _ _ _ _ (E.ab (cJ.ok _)))))
   refine wpQuiet_nil ?_;rintro _⟨a,rfl⟩;have S:=m.trans (a.ok.mono (by omega));have T:=n.trans (a.ok.mono (by omega));clear u0 u1 u2 u3 u4 M O P Q R np t u x A B e1 e2 e3 e4 e5;cases F:cI regs slots l.length ⟨aj l k,⟨fX l k,gJ l k,iT l k,ja l k⟩⟩
   ·have d:f=false:=by rw[o.out,q.out,F];rfl
    subst d;clear o q;go_wp2;go_ret;exact⟨rfl,T⟩
   ·have U:Hid (f=eW regs slots l.length l (k+1)):=by show f=_;rw[o.out,q.out,F];rfl
    clear o q;go_wp2;go_roundw;case rel=>exact⟨k+1,by omega,by go_num,U,S⟩
    case measure=>simp[intOf];omega
  ·have V:f=true:=by rw[o.out,pZ (by omega)]
   subst V;clear o;go_wp2;go_ret;exact⟨rfl,n⟩
theorem qh(sv:Vq)(l:List dr)(k a x c:Int)(w:W)(E:iH w sv l)(O:l.length≤12):Calls Tryz.prog 128 #[Aq #[sv,N Z k,N Z a,N Z x,N Z c]] w fun e w'=>e=Xq (Tq (ay (bx ⟨l,⟨k,a,x,c⟩⟩)))∧G w.heap.size w w':=by
 obtain⟨m,cap,rfl,P,hc⟩:=E;obtain⟨g,n⟩:∃g,ay (bx ⟨l,⟨k,a,x,c⟩⟩)=g:=⟨_,rfl⟩;rw[n];have F:Hid (ay (bx ⟨l,⟨k,a,x,c⟩⟩)=g):=n;clear n;go_enter Tryz.func128,Tryz.ntmps128;go_wp2_with fail;refine(ly _ _).mono ?_;rintro e w1⟨rfl,p⟩;have q:(⟨#[cx l.length]⟩:ByteArray)=fM l 0:=rfl;rw[q];have r:G (w.heap.size+1) (w.alloc (Y #[L m l.length cap,N Z k,N Z a,N Z x,N Z c] 42)) w1:=by simpa using p
 clear p q;go_wp2;go_loopw[3,4](fun s i wr=>∃(j:Nat),j≤l.length∧i=N Z j∧s=Tq (fM l j)∧G (w.heap.size+1) (w.alloc (Y #[L m l.length cap,N Z k,N Z a,N Z x,N Z c] 42)) wr)(fun _ i _=>l.length-(intOf i).toNat);case atStart=>exact⟨0,Nat.zero_le _,rfl,rfl,r⟩
 case round=>
  obtain⟨j,H,rfl,rfl,d⟩:=hrel;clear r w1;have f:=Below.under d;have t:wr.cell? ⟨w.heap.size,0,z⟩=y (L m l.length cap):=(d.cell (by simp)).trans (by simp);have u:wr.cell? ⟨w.heap.size,1,z⟩=y (N Z k):=(d.cell (by simp)).trans (by simp);have v:wr.cell? ⟨w.heap.size,2,z⟩=y (N Z a):=(d.cell (by simp)).trans (by simp);have A:wr.cell? ⟨w.heap.size,3,z⟩=y (N Z x):=(d.cell (by simp)).trans (by simp);have B:wr.cell? ⟨w.heap.size,4,z⟩=y (N Z c):=(d.cell (by simp)).trans (by simp);have hz:=d.size;simp at hz;have Q:(fM l j).size≤100:=by rw[mT _ _ H];omega
  by_cases C:j<l.length
  ·obtain⟨b,R,rfl,c1,c2,c3,c4⟩:=hc j C;have e1:=aa f c1;have e2:=aa f c2;have e3:=aa f c3;have e4:=aa f c4;have I:Hid (fM l (j+1)=fM l j++⟨#[cx (cD l j),cx (oa l j),cx (ob l j),cx (oc l j)]⟩):=mU C;go_wp2_with fail;refine(jP _ _ _ _ _).mono ?_;rintro e J⟨rfl,h⟩;have o:=(d.alloc (by omega) (Y #[N Z (cD l j),N Z (oa l j),N Z (ob l j),N Z (oc l j)] 36)).trans (h.mono (by simp;omega));clear h t u v A B e1 e2 e3 e4;go_wp2;go_roundw;case rel=>exact⟨j+1,by omega,by go_num,by rw[I.out],o⟩
   case measure=>simp[intOf];omega
  ·have K:Hid (fM l j++⟨#[cx k,cx a,cx x,cx c]⟩=g):=(oG ⟨k,a,x,c⟩ (by omega)).trans F.out;go_wp2_with fail;refine(jP _ _ _ _ _).mono ?_;rintro e J⟨rfl,h⟩;have o:=f.trans (h.mono (by omega));have M:=K.out;clear t u v A B;go_wp2;go_ret;exact⟨by simp[M],o⟩
theorem vN(args regs data slots:Int)(v:Vq)(l:List aN)(w:W)(C:bm w v l):Calls Tryz.prog 94 #[Aq #[N Z args,N Z regs,N Z data,N Z slots,v]] w fun e w'=>e=Xq (Uq (if aB ⟨args,regs,data,slots,l⟩then#[Tq (ay (aK ⟨args,regs,data,slots,l⟩)),N Z 0]else#[Tq ⟨#[]⟩,N Z 1]))∧G w.heap.size w w':=by
 have K:=C;obtain⟨g,cap,rfl,ak,hc⟩:=C;have m:=sd args regs data slots _ l _ (K.ab ((Below.refl w.heap.size w).alloc (Rq _) (Y #[N Z args,N Z regs,N Z data,N Z slots,L g l.length cap] 25)));cases n:aB ⟨args,regs,data,slots,l⟩;·go_enter Tryz.func94,Tryz.ntmps94;go_wp2_with fail;refine m.mono ?_;clear m;rintro e w1⟨rfl,f⟩;rw[n];go_wp2;go_ret2;exact⟨by simp[n],((Below.refl _ _).alloc (Rq _) _).trans (f.mono (by simp))⟩
 ·obtain⟨p,h⟩:∃p:a8,p=⟨args,regs,data,slots,l⟩:=⟨_,rfl⟩;have o:aB p=true:=by rw[h];exact n
  obtain⟨q,j⟩:∃q,ay (aK ⟨args,regs,data,slots,l⟩)=q:=⟨_,rfl⟩;rw[j];rw[←h]at j;have a:p.blocks=l:=by rw[h]
  have al:Hid (ay (aK p)=q):=j;have am:Hid (p.blocks=l):=a;have E:(⟨#[84,87]⟩:ByteArray)++⟨#[cx args,cx regs,cx data,cx slots]⟩++⟨#[cx l.length]⟩=dP p 0:=by show ay [84,87]++ay [_,_,_,_]++ay [_]=_;rw[cE,cE,h];rfl
  have an:l.length≤6:=by have:=(dw o).2;rw[a]at this;exact this
  have M:Hid (∀k,k<l.length→(aj l k).length≤12):=by intro k r;have:=i_ o (k:=k) (by rw[a];exact r);rw[a]at this;exact this
  have O:Hid (∀k,(dP p k).size≤330):=fun k=>lG o k;have P:Hid (∀k,k<l.length→dP p (k+1)=dP p k++ay (bx ⟨aj l k,⟨fX l k,gJ l k,iT l k,ja l k⟩⟩)):=by intro k r;have:=oW (p:=p) (k:=k) (by rw[a];exact r);rw[a]at this;exact this
  have Q:Hid (dP p l.length=q):=by show _=_;rw[←j];exact rH (by rw[a];exact Rq _)
  clear j o a h;go_enter Tryz.func94,Tryz.ntmps94;go_wp2_with fail;refine m.mono ?_;clear m;rintro e w1⟨rfl,f⟩;rw[n];have c:G (w.heap.size+1) (w.alloc (Y #[N Z args,N Z regs,N Z data,N Z slots,L g l.length cap] 25)) w1:=by simpa using f
  clear f;have R:w1.cell? ⟨w.heap.size,0,z⟩=y (N Z args):=(c.cell (by simp)).trans (by simp);have S:w1.cell? ⟨w.heap.size,1,z⟩=y (N Z regs):=(c.cell (by simp)).trans (by simp);have T:w1.cell? ⟨w.heap.size,2,z⟩=y (N Z data):=(c.cell (by simp)).trans (by simp);have U:w1.cell? ⟨w.heap.size,3,z⟩=y (N Z slots):=(c.cell (by simp)).trans (by simp);have t:w1.cell? ⟨w.heap.size,4,z⟩=y (L g l.length cap):=(c.cell (by simp)).trans (by simp);have F:=c.size;simp at F;go_wp2_with fail;refine(jP _ _ _ _ _).mono ?_;rintro e V⟨rfl,u⟩;have H:=c.trans (u.mono (by omega));have X:=aa u t;have ab:=u.size;clear R S T U t;go_wp2_with fail;refine(ly _ _).mono ?_;rintro e ac⟨rfl,I⟩;have J:=H.trans (I.mono (by omega));clear X u I c H;go_wp2;go_loopw[4,5](fun s i wr=>∃(k:Nat),k≤l.length∧i=N Z k∧s=Tq (dP p k)∧G (w.heap.size+1) (w.alloc (Y #[N Z args,N Z regs,N Z data,N Z slots,L g l.length cap] 25)) wr)(fun _ i _=>l.length-(intOf i).toNat);case atStart=>exact⟨0,Nat.zero_le _,rfl,by rw[←E],J⟩
  case round=>
   clear E J F ab w1 V ac;obtain⟨k,r,rfl,rfl,x⟩:=hrel;have d:=Below.under x;have t:wr.cell? ⟨w.heap.size,4,z⟩=y (L g l.length cap):=(x.cell (by simp)).trans (by simp);have hz:=x.size;simp at hz;have ao:=O.out k;by_cases A:k<l.length
   ·obtain⟨b,ap,sv,rfl,c1,c2,c3,c4,c5,ad⟩:=hc k A;have e1:=aa d c1;have e2:=aa d c2;have e3:=aa d c3;have e4:=aa d c4;have e5:=aa d c5;have B:=ad.ab d;have ae:=M.out k A;have af:Hid (dP p (k+1)=dP p k++ay (bx ⟨aj l k,⟨fX l k,gJ l k,iT l k,ja l k⟩⟩)):=P.out k A;have aq:(ay (bx ⟨aj l k,⟨fX l k,gJ l k,iT l k,ja l k⟩⟩)).size≤100:=by rw[gZ,fL];simp only[];omega
    obtain⟨ar,au,ag,_,_⟩:=id B;subst ag;go_wp2_with fail;refine(qh _ _ _ _ _ _ _ B ae).mono ?_;rintro e w1⟨rfl,f⟩;have ah:=x.trans (f.mono (by omega));clear e1 e2 e3 e4 e5 B t;go_wp2;go_roundw;case rel=>exact⟨k+1,by omega,by go_num,by rw[af.out],ah⟩
    case measure=>simp[intOf];omega
   ·obtain rfl:k=l.length:=by omega
    have ai:=Q.out;go_wp2;go_ret2;exact⟨by simp[ai],d⟩
end Go.Proofs.YtblhmeidbjigaabGreatDoor
