import Derived.Test.YtblhmeidbjigaabGreatDoorT05
import Derived.Test.YtblhmeidbjigaabGreatDoorT06
set_option linter.unusedSimpArgs false
set_option linter.unusedVariables false
set_option maxRecDepth 100000
set_option maxHeartbeats 8000000
namespace Go.Proofs.YtblhmeidbjigaabGreatDoor
open Go.RowKit
open Go.Value renaming int→N,slice→L,string→Tq,agg→Aq,bool→Bq,tuple→Uq
open Go.IntKind renaming i64→Z
open Go.Obj renaming cells→Y
open Go.Ending renaming returned→Xq
open Option renaming none→z,some→y
open Nat renaming le_refl→Rq
open Go renaming World→W,Value→Vq
open Go.RowKit renaming Below→G
theorem Fq(args regs data slots:Int)(g:Option Addr)(h i:Nat)(a b c:Int)(w:W):Calls Tryz.prog 109 #[Aq #[N Z args,N Z regs,N Z data,N Z slots,L g h i],Aq #[N Z 9,N Z a,N Z b,N Z c]] w fun e w'=>e=Xq (Bq (aw regs slots ⟨9,a,b,c⟩))∧G w.heap.size w w':=by
 cases d:below a regs;·go_enter Tryz.func109,Tryz.ntmps109;go_wp2_with(first|(go_at_call 142;refine(aF _ _ _ _ _ _ _ _ _).mono ?_;rintro e w'⟨rfl,rfl⟩)|(go_at_call 144;refine(be _ _ _ _ _ _ _ _ _).mono ?_;rintro e w'⟨rfl,rfl⟩)|(go_at_call 143;refine(aR _ _).mono ?_;rintro e w'⟨rfl,rfl⟩));go_ret;exact⟨by simp[aw,d],(by(repeat refine Below.al ?_ (Rq _));exact Below.refl _ _)⟩
 cases f:below b regs;·go_enter Tryz.func109,Tryz.ntmps109;go_wp2_with(first|(go_at_call 142;refine(aF _ _ _ _ _ _ _ _ _).mono ?_;rintro e w'⟨rfl,rfl⟩)|(go_at_call 144;refine(be _ _ _ _ _ _ _ _ _).mono ?_;rintro e w'⟨rfl,rfl⟩)|(go_at_call 143;refine(aR _ _).mono ?_;rintro e w'⟨rfl,rfl⟩));go_ret;exact⟨by simp[aw,d,f],(by(repeat refine Below.al ?_ (Rq _));exact Below.refl _ _)⟩
 ·go_enter Tryz.func109,Tryz.ntmps109;go_wp2_with(first|(go_at_call 142;refine(aF _ _ _ _ _ _ _ _ _).mono ?_;rintro e w'⟨rfl,rfl⟩)|(go_at_call 144;refine(be _ _ _ _ _ _ _ _ _).mono ?_;rintro e w'⟨rfl,rfl⟩)|(go_at_call 143;refine(aR _ _).mono ?_;rintro e w'⟨rfl,rfl⟩));go_ret;exact⟨by simp[aw,d,f,di],(by(repeat refine Below.al ?_ (Rq _));exact Below.refl _ _)⟩
theorem EG(args regs data slots:Int)(g:Option Addr)(h i:Nat)(a b c:Int)(w:W):Calls Tryz.prog 109 #[Aq #[N Z args,N Z regs,N Z data,N Z slots,L g h i],Aq #[N Z 10,N Z a,N Z b,N Z c]] w fun e w'=>e=Xq (Bq (aw regs slots ⟨10,a,b,c⟩))∧G w.heap.size w w':=by
 cases d:below a regs;·go_enter Tryz.func109,Tryz.ntmps109;go_wp2_with(first|(go_at_call 142;refine(aF _ _ _ _ _ _ _ _ _).mono ?_;rintro e w'⟨rfl,rfl⟩)|(go_at_call 144;refine(be _ _ _ _ _ _ _ _ _).mono ?_;rintro e w'⟨rfl,rfl⟩)|(go_at_call 143;refine(aR _ _).mono ?_;rintro e w'⟨rfl,rfl⟩));go_ret;exact⟨by simp[aw,d],(by(repeat refine Below.al ?_ (Rq _));exact Below.refl _ _)⟩
 cases f:below b regs;·go_enter Tryz.func109,Tryz.ntmps109;go_wp2_with(first|(go_at_call 142;refine(aF _ _ _ _ _ _ _ _ _).mono ?_;rintro e w'⟨rfl,rfl⟩)|(go_at_call 144;refine(be _ _ _ _ _ _ _ _ _).mono ?_;rintro e w'⟨rfl,rfl⟩)|(go_at_call 143;refine(aR _ _).mono ?_;rintro e w'⟨rfl,rfl⟩));go_ret;exact⟨by simp[aw,d,f],(by(repeat refine Below.al ?_ (Rq _));exact Below.refl _ _)⟩
 ·go_enter Tryz.func109,Tryz.ntmps109;go_wp2_with(first|(go_at_call 142;refine(aF _ _ _ _ _ _ _ _ _).mono ?_;rintro e w'⟨rfl,rfl⟩)|(go_at_call 144;refine(be _ _ _ _ _ _ _ _ _).mono ?_;rintro e w'⟨rfl,rfl⟩)|(go_at_call 143;refine(aR _ _).mono ?_;rintro e w'⟨rfl,rfl⟩));go_ret;exact⟨by simp[aw,d,f,di],(by(repeat refine Below.al ?_ (Rq _));exact Below.refl _ _)⟩
theorem EH(args regs data slots:Int)(g:Option Addr)(h i:Nat)(a b c:Int)(w:W):Calls Tryz.prog 109 #[Aq #[N Z args,N Z regs,N Z data,N Z slots,L g h i],Aq #[N Z 11,N Z a,N Z b,N Z c]] w fun e w'=>e=Xq (Bq (aw regs slots ⟨11,a,b,c⟩))∧G w.heap.size w w':=by
 cases d:below a regs;·go_enter Tryz.func109,Tryz.ntmps109;go_wp2_with(first|(go_at_call 142;refine(aF _ _ _ _ _ _ _ _ _).mono ?_;rintro e w'⟨rfl,rfl⟩)|(go_at_call 144;refine(be _ _ _ _ _ _ _ _ _).mono ?_;rintro e w'⟨rfl,rfl⟩)|(go_at_call 143;refine(aR _ _).mono ?_;rintro e w'⟨rfl,rfl⟩));go_ret;exact⟨by simp[aw,d],(by(repeat refine Below.al ?_ (Rq _));exact Below.refl _ _)⟩
 cases f:below b regs;·go_enter Tryz.func109,Tryz.ntmps109;go_wp2_with(first|(go_at_call 142;refine(aF _ _ _ _ _ _ _ _ _).mono ?_;rintro e w'⟨rfl,rfl⟩)|(go_at_call 144;refine(be _ _ _ _ _ _ _ _ _).mono ?_;rintro e w'⟨rfl,rfl⟩)|(go_at_call 143;refine(aR _ _).mono ?_;rintro e w'⟨rfl,rfl⟩));go_ret;exact⟨by simp[aw,d,f],(by(repeat refine Below.al ?_ (Rq _));exact Below.refl _ _)⟩
 ·go_enter Tryz.func109,Tryz.ntmps109;go_wp2_with(first|(go_at_call 142;refine(aF _ _ _ _ _ _ _ _ _).mono ?_;rintro e w'⟨rfl,rfl⟩)|(go_at_call 144;refine(be _ _ _ _ _ _ _ _ _).mono ?_;rintro e w'⟨rfl,rfl⟩)|(go_at_call 143;refine(aR _ _).mono ?_;rintro e w'⟨rfl,rfl⟩));go_ret;exact⟨by simp[aw,d,f,di],(by(repeat refine Below.al ?_ (Rq _));exact Below.refl _ _)⟩
theorem EI(args regs data slots:Int)(g:Option Addr)(h i:Nat)(a b c:Int)(w:W):Calls Tryz.prog 109 #[Aq #[N Z args,N Z regs,N Z data,N Z slots,L g h i],Aq #[N Z 12,N Z a,N Z b,N Z c]] w fun e w'=>e=Xq (Bq (aw regs slots ⟨12,a,b,c⟩))∧G w.heap.size w w':=by
 cases d:below a regs;·go_enter Tryz.func109,Tryz.ntmps109;go_wp2_with(first|(go_at_call 142;refine(aF _ _ _ _ _ _ _ _ _).mono ?_;rintro e w'⟨rfl,rfl⟩)|(go_at_call 144;refine(be _ _ _ _ _ _ _ _ _).mono ?_;rintro e w'⟨rfl,rfl⟩)|(go_at_call 143;refine(aR _ _).mono ?_;rintro e w'⟨rfl,rfl⟩));go_ret;exact⟨by simp[aw,d],(by(repeat refine Below.al ?_ (Rq _));exact Below.refl _ _)⟩
 cases f:below b regs;·go_enter Tryz.func109,Tryz.ntmps109;go_wp2_with(first|(go_at_call 142;refine(aF _ _ _ _ _ _ _ _ _).mono ?_;rintro e w'⟨rfl,rfl⟩)|(go_at_call 144;refine(be _ _ _ _ _ _ _ _ _).mono ?_;rintro e w'⟨rfl,rfl⟩)|(go_at_call 143;refine(aR _ _).mono ?_;rintro e w'⟨rfl,rfl⟩));go_ret;exact⟨by simp[aw,d,f],(by(repeat refine Below.al ?_ (Rq _));exact Below.refl _ _)⟩
 ·go_enter Tryz.func109,Tryz.ntmps109;go_wp2_with(first|(go_at_call 142;refine(aF _ _ _ _ _ _ _ _ _).mono ?_;rintro e w'⟨rfl,rfl⟩)|(go_at_call 144;refine(be _ _ _ _ _ _ _ _ _).mono ?_;rintro e w'⟨rfl,rfl⟩)|(go_at_call 143;refine(aR _ _).mono ?_;rintro e w'⟨rfl,rfl⟩));go_ret;exact⟨by simp[aw,d,f,di],(by(repeat refine Below.al ?_ (Rq _));exact Below.refl _ _)⟩
theorem EJ(args regs data slots:Int)(g:Option Addr)(h i:Nat)(a b c:Int)(w:W):Calls Tryz.prog 109 #[Aq #[N Z args,N Z regs,N Z data,N Z slots,L g h i],Aq #[N Z 13,N Z a,N Z b,N Z c]] w fun e w'=>e=Xq (Bq (aw regs slots ⟨13,a,b,c⟩))∧G w.heap.size w w':=by
 cases d:below a regs;·go_enter Tryz.func109,Tryz.ntmps109;go_wp2_with(first|(go_at_call 142;refine(aF _ _ _ _ _ _ _ _ _).mono ?_;rintro e w'⟨rfl,rfl⟩)|(go_at_call 144;refine(be _ _ _ _ _ _ _ _ _).mono ?_;rintro e w'⟨rfl,rfl⟩)|(go_at_call 143;refine(aR _ _).mono ?_;rintro e w'⟨rfl,rfl⟩));go_ret;exact⟨by simp[aw,d],(by(repeat refine Below.al ?_ (Rq _));exact Below.refl _ _)⟩
 cases f:below b regs;·go_enter Tryz.func109,Tryz.ntmps109;go_wp2_with(first|(go_at_call 142;refine(aF _ _ _ _ _ _ _ _ _).mono ?_;rintro e w'⟨rfl,rfl⟩)|(go_at_call 144;refine(be _ _ _ _ _ _ _ _ _).mono ?_;rintro e w'⟨rfl,rfl⟩)|(go_at_call 143;refine(aR _ _).mono ?_;rintro e w'⟨rfl,rfl⟩));go_ret;exact⟨by simp[aw,d,f],(by(repeat refine Below.al ?_ (Rq _));exact Below.refl _ _)⟩
 ·go_enter Tryz.func109,Tryz.ntmps109;go_wp2_with(first|(go_at_call 142;refine(aF _ _ _ _ _ _ _ _ _).mono ?_;rintro e w'⟨rfl,rfl⟩)|(go_at_call 144;refine(be _ _ _ _ _ _ _ _ _).mono ?_;rintro e w'⟨rfl,rfl⟩)|(go_at_call 143;refine(aR _ _).mono ?_;rintro e w'⟨rfl,rfl⟩));go_ret;exact⟨by simp[aw,d,f,di],(by(repeat refine Below.al ?_ (Rq _));exact Below.refl _ _)⟩
theorem EK(args regs data slots:Int)(g:Option Addr)(h i:Nat)(a b c:Int)(w:W):Calls Tryz.prog 109 #[Aq #[N Z args,N Z regs,N Z data,N Z slots,L g h i],Aq #[N Z 14,N Z a,N Z b,N Z c]] w fun e w'=>e=Xq (Bq (aw regs slots ⟨14,a,b,c⟩))∧G w.heap.size w w':=by
 cases d:below a slots;·go_enter Tryz.func109,Tryz.ntmps109;go_wp2_with(first|(go_at_call 142;refine(aF _ _ _ _ _ _ _ _ _).mono ?_;rintro e w'⟨rfl,rfl⟩)|(go_at_call 144;refine(be _ _ _ _ _ _ _ _ _).mono ?_;rintro e w'⟨rfl,rfl⟩)|(go_at_call 143;refine(aR _ _).mono ?_;rintro e w'⟨rfl,rfl⟩));go_ret;exact⟨by simp[aw,d],(by(repeat refine Below.al ?_ (Rq _));exact Below.refl _ _)⟩
 cases f:below b regs;·go_enter Tryz.func109,Tryz.ntmps109;go_wp2_with(first|(go_at_call 142;refine(aF _ _ _ _ _ _ _ _ _).mono ?_;rintro e w'⟨rfl,rfl⟩)|(go_at_call 144;refine(be _ _ _ _ _ _ _ _ _).mono ?_;rintro e w'⟨rfl,rfl⟩)|(go_at_call 143;refine(aR _ _).mono ?_;rintro e w'⟨rfl,rfl⟩));go_ret;exact⟨by simp[aw,d,f],(by(repeat refine Below.al ?_ (Rq _));exact Below.refl _ _)⟩
 ·go_enter Tryz.func109,Tryz.ntmps109;go_wp2_with(first|(go_at_call 142;refine(aF _ _ _ _ _ _ _ _ _).mono ?_;rintro e w'⟨rfl,rfl⟩)|(go_at_call 144;refine(be _ _ _ _ _ _ _ _ _).mono ?_;rintro e w'⟨rfl,rfl⟩)|(go_at_call 143;refine(aR _ _).mono ?_;rintro e w'⟨rfl,rfl⟩));go_ret;exact⟨by simp[aw,d,f,di],(by(repeat refine Below.al ?_ (Rq _));exact Below.refl _ _)⟩
theorem EL(args regs data slots:Int)(g:Option Addr)(h i:Nat)(a b c:Int)(w:W):Calls Tryz.prog 109 #[Aq #[N Z args,N Z regs,N Z data,N Z slots,L g h i],Aq #[N Z 15,N Z a,N Z b,N Z c]] w fun e w'=>e=Xq (Bq (aw regs slots ⟨15,a,b,c⟩))∧G w.heap.size w w':=by
 cases d:below a regs;·go_enter Tryz.func109,Tryz.ntmps109;go_wp2_with(first|(go_at_call 142;refine(aF _ _ _ _ _ _ _ _ _).mono ?_;rintro e w'⟨rfl,rfl⟩)|(go_at_call 144;refine(be _ _ _ _ _ _ _ _ _).mono ?_;rintro e w'⟨rfl,rfl⟩)|(go_at_call 143;refine(aR _ _).mono ?_;rintro e w'⟨rfl,rfl⟩));go_ret;exact⟨by simp[aw,d],(by(repeat refine Below.al ?_ (Rq _));exact Below.refl _ _)⟩
 cases f:below b slots;·go_enter Tryz.func109,Tryz.ntmps109;go_wp2_with(first|(go_at_call 142;refine(aF _ _ _ _ _ _ _ _ _).mono ?_;rintro e w'⟨rfl,rfl⟩)|(go_at_call 144;refine(be _ _ _ _ _ _ _ _ _).mono ?_;rintro e w'⟨rfl,rfl⟩)|(go_at_call 143;refine(aR _ _).mono ?_;rintro e w'⟨rfl,rfl⟩));go_ret;exact⟨by simp[aw,d,f],(by(repeat refine Below.al ?_ (Rq _));exact Below.refl _ _)⟩
 ·go_enter Tryz.func109,Tryz.ntmps109;go_wp2_with(first|(go_at_call 142;refine(aF _ _ _ _ _ _ _ _ _).mono ?_;rintro e w'⟨rfl,rfl⟩)|(go_at_call 144;refine(be _ _ _ _ _ _ _ _ _).mono ?_;rintro e w'⟨rfl,rfl⟩)|(go_at_call 143;refine(aR _ _).mono ?_;rintro e w'⟨rfl,rfl⟩));go_ret;exact⟨by simp[aw,d,f,di],(by(repeat refine Below.al ?_ (Rq _));exact Below.refl _ _)⟩
theorem EM(args regs data slots:Int)(g:Option Addr)(h i:Nat)(k a b c:Int)(w:W)(d:k<1∨15<k):Calls Tryz.prog 109 #[Aq #[N Z args,N Z regs,N Z data,N Z slots,L g h i],Aq #[N Z k,N Z a,N Z b,N Z c]] w fun e w'=>e=Xq (Bq (aw regs slots ⟨k,a,b,c⟩))∧G w.heap.size w w':=by
 have f:aw regs slots ⟨k,a,b,c⟩=false:=by unfold aw;rw[if_neg (by simp only[];omega),if_neg (by simp only[];omega),if_neg (by simp only[];omega),if_neg (by simp only[];omega),if_neg (by simp only[];omega)]
 have j:(k==1)=false:=by rw[beq_eq_false_iff_ne];omega
 have l:(k==2)=false:=by rw[beq_eq_false_iff_ne];omega
 have m:(k==12)=false:=by rw[beq_eq_false_iff_ne];omega
 have n:(k==13)=false:=by rw[beq_eq_false_iff_ne];omega
 have o:(k==14)=false:=by rw[beq_eq_false_iff_ne];omega
 have p:(k==15)=false:=by rw[beq_eq_false_iff_ne];omega
 rcases d with d|d
 ·have m1:¬(3≤k):=by omega
  go_enter Tryz.func109,Tryz.ntmps109;go_wp2_with(first|(go_at_call 142;refine(aF _ _ _ _ _ _ _ _ _).mono ?_;rintro e w'⟨rfl,rfl⟩)|(go_at_call 144;refine(be _ _ _ _ _ _ _ _ _).mono ?_;rintro e w'⟨rfl,rfl⟩)|(go_at_call 143;refine(aR _ _).mono ?_;rintro e w'⟨rfl,rfl⟩));go_ret;exact⟨by simp[f],(by(repeat refine Below.al ?_ (Rq _));exact Below.refl _ _)⟩
 ·have m1:3≤k:=by omega
  have m2:¬(k≤11):=by omega
  go_enter Tryz.func109,Tryz.ntmps109;go_wp2_with(first|(go_at_call 142;refine(aF _ _ _ _ _ _ _ _ _).mono ?_;rintro e w'⟨rfl,rfl⟩)|(go_at_call 144;refine(be _ _ _ _ _ _ _ _ _).mono ?_;rintro e w'⟨rfl,rfl⟩)|(go_at_call 143;refine(aR _ _).mono ?_;rintro e w'⟨rfl,rfl⟩));go_ret;exact⟨by simp[f],(by(repeat refine Below.al ?_ (Rq _));exact Below.refl _ _)⟩
theorem C7(args regs data slots:Int)(d:Option Addr)(f g:Nat)(k a b c:Int)(w:W):Calls Tryz.prog 109 #[Aq #[N Z args,N Z regs,N Z data,N Z slots,L d f g],Aq #[N Z k,N Z a,N Z b,N Z c]] w fun e w'=>e=Xq (Bq (aw regs slots ⟨k,a,b,c⟩))∧G w.heap.size w w':=by
 by_cases h:1≤k∧k≤15
 ·have:k=1∨k=2∨k=3∨k=4∨k=5∨k=6∨k=7∨k=8∨k=9∨k=10∨k=11∨k=12∨k=13∨k=14∨k=15:=by omega
  rcases this with rfl|rfl|rfl|rfl|rfl|rfl|rfl|rfl|rfl|rfl|rfl|rfl|rfl|rfl|rfl;·exact Fh args regs data slots d f g a b c w
  ·exact Fi args regs data slots d f g a b c w
  ·exact Fj args regs data slots d f g a b c w
  ·exact Fk args regs data slots d f g a b c w
  ·exact Fl args regs data slots d f g a b c w
  ·exact Fm args regs data slots d f g a b c w
  ·exact Fo args regs data slots d f g a b c w
  ·exact Fp args regs data slots d f g a b c w
  ·exact Fq args regs data slots d f g a b c w
  ·exact EG args regs data slots d f g a b c w
  ·exact EH args regs data slots d f g a b c w
  ·exact EI args regs data slots d f g a b c w
  ·exact EJ args regs data slots d f g a b c w
  ·exact EK args regs data slots d f g a b c w
  ·exact EL args regs data slots d f g a b c w
 ·exact EM args regs data slots d f g k a b c w (by omega)
theorem ki{x n:Int}(h:0≤x):below x n=decide (x<n):=by simp[below,h]
theorem ED(args regs data slots:Int)(o:Option Addr)(a p:Nat)(g x b:Int)(w:W):Calls Tryz.prog 108 #[Aq #[N Z args,N Z regs,N Z data,N Z slots,L o a p],Aq #[N Z 1,N Z g,N Z x,N Z b]] w fun e w'=>e=Xq (Bq (bw regs a ⟨1,g,x,b⟩))∧G w.heap.size w w':=by
 have m:(x<0∧below x a=false)∨(0≤x∧x<a∧below x a=true)∨(0≤x∧¬x<a∧below x a=false):=by
  by_cases d:x<0;·exact .inl ⟨d,gI d⟩
  ·by_cases h:x<a;·exact .inr (.inl ⟨by omega,h,ic (by omega) h⟩)
   ·exact .inr (.inr ⟨by omega,h,jY (by omega)⟩)
 have n:(b<0∧below b a=false)∨(0≤b∧below b a=decide (b<a)):=by
  by_cases d:b<0;·exact .inl ⟨d,gI d⟩
  ·exact .inr ⟨by omega,ki (by omega)⟩
 by_cases i:g=0;case neg=>
  have q:(g==0)=false:=by simp[i]
  rcases m with⟨f,c⟩|⟨f,j,c⟩|⟨f,j,c⟩<;>rcases n with⟨k,l⟩|⟨k,l⟩;all_goals go_enter Tryz.func108,Tryz.ntmps108;go_wp2_with(go_at_call 142;refine(aF _ _ _ _ _ _ _ _ _).mono ?_;rintro e w'⟨rfl,rfl⟩);go_ret;exact⟨by simp[bw,i],(by(repeat refine Below.al ?_ (Rq _));exact Below.refl _ _)⟩
 subst i;rcases m with⟨f,c⟩|⟨f,j,c⟩|⟨f,j,c⟩<;>rcases n with⟨k,l⟩|⟨k,l⟩;all_goals go_enter Tryz.func108,Tryz.ntmps108;go_wp2_with(go_at_call 142;refine(aF _ _ _ _ _ _ _ _ _).mono ?_;rintro e w'⟨rfl,rfl⟩);go_ret;exact⟨by simp[bw,c,di],(by(repeat refine Below.al ?_ (Rq _));exact Below.refl _ _)⟩
theorem EE(args regs data slots:Int)(j:Option Addr)(a k:Nat)(d x b:Int)(w:W):Calls Tryz.prog 108 #[Aq #[N Z args,N Z regs,N Z data,N Z slots,L j a k],Aq #[N Z 2,N Z d,N Z x,N Z b]] w fun e w'=>e=Xq (Bq (bw regs a ⟨2,d,x,b⟩))∧G w.heap.size w w':=by
 have l:(x<0∧below x a=false)∨(0≤x∧x<a∧below x a=true)∨(0≤x∧¬x<a∧below x a=false):=by
  by_cases c:x<0;·exact .inl ⟨c,gI c⟩
  ·by_cases f:x<a;·exact .inr (.inl ⟨by omega,f,ic (by omega) f⟩)
   ·exact .inr (.inr ⟨by omega,f,jY (by omega)⟩)
 have m:(b<0∧below b a=false)∨(0≤b∧below b a=decide (b<a)):=by
  by_cases c:b<0;·exact .inl ⟨c,gI c⟩
  ·exact .inr ⟨by omega,ki (by omega)⟩
 cases n:below d regs<;>rcases l with⟨h,g⟩|⟨h,o,g⟩|⟨h,o,g⟩<;>rcases m with⟨p,i⟩|⟨p,i⟩;all_goals go_enter Tryz.func108,Tryz.ntmps108;go_wp2_with(go_at_call 142;refine(aF _ _ _ _ _ _ _ _ _).mono ?_;rintro e w'⟨rfl,rfl⟩);go_ret;exact⟨by simp[bw,n,g,i],(by(repeat refine Below.al ?_ (Rq _));exact Below.refl _ _)⟩
theorem EF(args regs data slots:Int)(q:Option Addr)(a r:Nat)(h x b:Int)(w:W):Calls Tryz.prog 108 #[Aq #[N Z args,N Z regs,N Z data,N Z slots,L q a r],Aq #[N Z 3,N Z h,N Z x,N Z b]] w fun e w'=>e=Xq (Bq (bw regs a ⟨3,h,x,b⟩))∧G w.heap.size w w':=by
 have n:(x<0∧below x a=false)∨(0≤x∧x<a∧below x a=true)∨(0≤x∧¬x<a∧below x a=false):=by
  by_cases d:x<0;·exact .inl ⟨d,gI d⟩
  ·by_cases i:x<a;·exact .inr (.inl ⟨by omega,i,ic (by omega) i⟩)
   ·exact .inr (.inr ⟨by omega,i,jY (by omega)⟩)
 have o:(b<0∧below b a=false)∨(0≤b∧below b a=decide (b<a)):=by
  by_cases d:b<0;·exact .inl ⟨d,gI d⟩
  ·exact .inr ⟨by omega,ki (by omega)⟩
 by_cases c:x=0
 ·have p:(x==0)=true:=by simp[c]
  cases j:below h regs<;>rcases n with⟨f,g⟩|⟨f,k,g⟩|⟨f,k,g⟩<;>rcases o with⟨l,m⟩|⟨l,m⟩;all_goals
   clear c;go_enter Tryz.func108,Tryz.ntmps108;go_wp2_with(go_at_call 142;refine(aF _ _ _ _ _ _ _ _ _).mono ?_;rintro e w'⟨rfl,rfl⟩);go_ret;exact⟨by
    have c:x=0:=by simpa using p
    simp[bw,j,c,di],(by(repeat refine Below.al ?_ (Rq _));exact Below.refl _ _)⟩
 ·have p:(x==0)=false:=by simp[c]
  cases j:below h regs<;>rcases n with⟨f,g⟩|⟨f,k,g⟩|⟨f,k,g⟩<;>rcases o with⟨l,m⟩|⟨l,m⟩;all_goals go_enter Tryz.func108,Tryz.ntmps108;go_wp2_with(go_at_call 142;refine(aF _ _ _ _ _ _ _ _ _).mono ?_;rintro e w'⟨rfl,rfl⟩);go_ret;exact⟨by simp[bw,j,c],(by(repeat refine Below.al ?_ (Rq _));exact Below.refl _ _)⟩
theorem DJ(args regs data slots:Int)(d:Option Addr)(b f:Nat)(k c x a:Int)(w:W)(h:¬(1≤k∧k≤3)):Calls Tryz.prog 108 #[Aq #[N Z args,N Z regs,N Z data,N Z slots,L d b f],Aq #[N Z k,N Z c,N Z x,N Z a]] w fun e w'=>e=Xq (Bq (bw regs b ⟨k,c,x,a⟩))∧G w.heap.size w w':=by
 have g:bw regs b ⟨k,c,x,a⟩=false:=by unfold bw;rw[if_neg (by simp only[];omega),if_neg (by simp only[];omega),if_neg (by simp only[];omega)]
 have i:(k==1)=false:=by rw[beq_eq_false_iff_ne];omega
 have j:(k==2)=false:=by rw[beq_eq_false_iff_ne];omega
 have l:(k==3)=false:=by rw[beq_eq_false_iff_ne];omega
 by_cases m:0≤x<;>by_cases n:0≤a;all_goals go_enter Tryz.func108,Tryz.ntmps108;go_wp2_with(go_at_call 142;refine(aF _ _ _ _ _ _ _ _ _).mono ?_;rintro e w'⟨rfl,rfl⟩);go_ret;exact⟨by simp[g],(by(repeat refine Below.al ?_ (Rq _));exact Below.refl _ _)⟩
theorem BX(args regs data slots:Int)(d:Option Addr)(a f:Nat)(k b x c:Int)(w:W):Calls Tryz.prog 108 #[Aq #[N Z args,N Z regs,N Z data,N Z slots,L d a f],Aq #[N Z k,N Z b,N Z x,N Z c]] w fun e w'=>e=Xq (Bq (bw regs a ⟨k,b,x,c⟩))∧G w.heap.size w w':=by
 by_cases g:1≤k∧k≤3
 ·have:k=1∨k=2∨k=3:=by omega
  rcases this with rfl|rfl|rfl;·exact ED args regs data slots d a f b x c w
  ·exact EE args regs data slots d a f b x c w
  ·exact EF args regs data slots d a f b x c w
 ·exact DJ args regs data slots d a f k b x c w g
theorem nX(args regs data slots:Int)(v:Vq)(l:List aN)(w:W)(ah:bm w v l):Calls Tryz.prog 70 #[Aq #[N Z args,N Z regs,N Z data,N Z slots,v]] w fun e w'=>e=Xq (Bq (aB ⟨args,regs,data,slots,l⟩))∧G w.heap.size w w':=by
 obtain⟨t,cap,rfl,aE,hc⟩:=ah;obtain⟨c,m⟩:∃c,aB ⟨args,regs,data,slots,l⟩=c:=⟨_,rfl⟩;rw[m];have f:¬(1≤regs∧regs≤8∧0≤args∧args≤regs∧0≤data∧data≤8∧0≤slots∧slots≤8∧1≤l.length∧l.length≤6)→c=false:=by intro h;rw[←m];apply Bool.eq_false_iff.2;intro ai;simp[aB]at ai;exact h (by omega)
 have n:Hid (G w.heap.size w (w.alloc (Y #[N Z args,N Z regs,N Z data,N Z slots,L t l.length cap] 25))):=(Below.refl _ _).alloc (Rq _) _;by_cases aF:regs<1;·have d:c=false:=f (by omega);subst d;clear m f;go_enter Tryz.func70,Tryz.ntmps70;go_wp2;go_ret;exact⟨rfl,n.out⟩
 by_cases aG:8<regs;·have d:c=false:=f (by omega);subst d;clear m f;go_enter Tryz.func70,Tryz.ntmps70;go_wp2;go_ret;exact⟨rfl,n.out⟩
 by_cases aH:args<0;·have d:c=false:=f (by omega);subst d;clear m f;go_enter Tryz.func70,Tryz.ntmps70;go_wp2;go_ret;exact⟨rfl,n.out⟩
 by_cases aI:regs<args;·have d:c=false:=f (by omega);subst d;clear m f;go_enter Tryz.func70,Tryz.ntmps70;go_wp2;go_ret;exact⟨rfl,n.out⟩
 by_cases aJ:data<0;·have d:c=false:=f (by omega);subst d;clear m f;go_enter Tryz.func70,Tryz.ntmps70;go_wp2;go_ret;exact⟨rfl,n.out⟩
 by_cases aK:8<data;·have d:c=false:=f (by omega);subst d;clear m f;go_enter Tryz.func70,Tryz.ntmps70;go_wp2;go_ret;exact⟨rfl,n.out⟩
 by_cases aL:slots<0;·have d:c=false:=f (by omega);subst d;clear m f;go_enter Tryz.func70,Tryz.ntmps70;go_wp2;go_ret;exact⟨rfl,n.out⟩
 by_cases aM:8<slots;·have d:c=false:=f (by omega);subst d;clear m f;go_enter Tryz.func70,Tryz.ntmps70;go_wp2;go_ret;exact⟨rfl,n.out⟩
 by_cases aO:(l.length:Int)<1;·have d:c=false:=f (by omega);subst d;clear m f;go_enter Tryz.func70,Tryz.ntmps70;go_wp2;go_ret;exact⟨rfl,n.out⟩
 by_cases aP:(6:Int)<l.length;·have d:c=false:=f (by omega);subst d;clear m f;go_enter Tryz.func70,Tryz.ntmps70;go_wp2;go_ret;exact⟨rfl,n.out⟩
 have Q:Hid (c=eW regs slots l.length l 0):=by show c=_;rw[←m];simp only[aB,eW,List.drop_zero];rw[show decide (1≤regs∧regs≤8)=true by simp;omega,show decide (0≤args∧args≤regs)=true by simp;omega,show decide (0≤data∧data≤8)=true by simp;omega,show decide (0≤slots∧slots≤8)=true by simp;omega,show decide (1≤l.length∧l.length≤6)=true by simp;omega];rfl
 clear m f n;go_enter Tryz.func70,Tryz.ntmps70;go_wp2;go_loopw[3](fun i wr=>∃(k:Nat),k≤l.length∧i=N Z k∧Hid (c=eW regs slots l.length l k)∧G (w.heap.size+1) (w.alloc (Y #[N Z args,N Z regs,N Z data,N Z slots,L t l.length cap] 25)) wr)(fun i _=>l.length-(intOf i).toNat);case atStart=>exact⟨0,Nat.zero_le _,rfl,Q,Below.refl _ _⟩
 case round=>
  obtain⟨k,aQ,rfl,g,q⟩:=hrel;clear Q;have r:=Below.under q;have u:wr.cell? ⟨w.heap.size,0,z⟩=y (N Z args):=(q.cell (by simp)).trans (by simp);have x:wr.cell? ⟨w.heap.size,1,z⟩=y (N Z regs):=(q.cell (by simp)).trans (by simp);have A:wr.cell? ⟨w.heap.size,2,z⟩=y (N Z data):=(q.cell (by simp)).trans (by simp);have B:wr.cell? ⟨w.heap.size,3,z⟩=y (N Z slots):=(q.cell (by simp)).trans (by simp);have C:wr.cell? ⟨w.heap.size,4,z⟩=y (L t l.length cap):=(q.cell (by simp)).trans (by simp);have hz:=q.size;simp at hz;by_cases R:k<l.length;case neg=>
   have ak:c=true:=by rw[g.out,pZ (by omega)]
   subst ak;clear g;go_wp2;go_ret;exact⟨rfl,r⟩
  obtain⟨b,aR,sv,rfl,c1,c2,c3,c4,c5,al⟩:=hc k R;have e1:=aa r c1;have e2:=aa r c2;have e3:=aa r c3;have e4:=aa r c4;have e5:=aa r c5;have E:=al.ab r;obtain⟨aS,aT,s,_,F⟩:=id E;subst s;have u0:=fun a:cJ wr.heap.size wr=>a.cell u;have u1:=fun a:cJ wr.heap.size wr=>a.cell x;have u2:=fun a:cJ wr.heap.size wr=>a.cell A;have u3:=fun a:cJ wr.heap.size wr=>a.cell B;have u4:=fun a:cJ wr.heap.size wr=>a.cell C;have H:=fun a:cJ wr.heap.size wr=>a.cell e2;have I:=fun a:cJ wr.heap.size wr=>a.cell e3;have J:=fun a:cJ wr.heap.size wr=>a.cell e4;have am:=fun a:cJ wr.heap.size wr=>a.cell e5;have np:=cJ.any wr.heap.size wr;have o:Hid (eW regs slots l.length l k=(cI regs slots l.length ⟨aj l k,⟨fX l k,gJ l k,iT l k,ja l k⟩⟩&&eW regs slots l.length l (k+1))):=oF R;obtain⟨K,an⟩:∃K,K=wr:=⟨_,rfl⟩;subst an;go_wp2;refine eA K.heap.size (by kernel_rfl) (by kernel_rfl) ?_;repeat(go_big_quiet_step(exact Calls.kJ (Rq _) (BX _ _ _ _ _ _ _ _ _ _ _ _)))
  refine wpQuiet_nil ?_;rintro _⟨a,rfl⟩;have ao:=q.trans (a.ok.mono (by omega));have M:=r.trans (a.ok.mono (by omega));have aU:=a.ok.size;have g1:=a.cell e1;have ap:=a.cell u;have aq:=a.cell x;have ar:=a.cell A;have au:=a.cell B;have av:=a.cell C;have ax:=E.ab a.ok;generalize a.wd=w1 at*;clear u0 u1 u2 u3 u4 H I J am np u x A B C e1 e2 e3 e4 e5 F q E r;cases O:bw regs l.length ⟨fX l k,gJ l k,iT l k,ja l k⟩
  ·have d:c=false:=by rw[g.out,o.out];simp[cI,O]
   subst d;clear g o;go_wp2;go_ret;exact⟨rfl,M⟩
  by_cases aV:(12:Int)<(aj l k).length
  ·have d:c=false:=by rw[g.out,o.out];simp[cI,show¬(aj l k).length≤12 by omega]
   subst d;clear g o;go_wp2;go_ret;exact⟨rfl,M⟩
  have S:Hid (c=(fF regs slots (aj l k) 0&&eW regs slots l.length l (k+1))):=by show c=_;rw[g.out,o.out];simp[cI,O,show(aj l k).length≤12 by omega,fF]
  clear g o O;generalize aj l k=os at*;go_wp2;go_loopw[4,5](fun ay i T=>∃(j:Nat),j≤os.length∧i=N Z j∧ay=Bq true∧Hid (c=(fF regs slots os j&&eW regs slots l.length l (k+1)))∧G w1.heap.size w1 T)(fun _ i _=>os.length-(intOf i).toNat);case atStart=>exact⟨0,Nat.zero_le _,rfl,rfl,S,Below.refl _ _⟩
  case round=>
   obtain⟨j,aW,rfl,rfl,g,p⟩:=hrel;clear S;have U:=aa p ap;have V:=aa p aq;have X:=aa p ar;have ab:=aa p au;have ac:=aa p av;have ad:=aa p g1;have aX:=p.size;by_cases ae:j<os.length;case neg=>
    have P:Hid (c=eW regs slots l.length l (k+1)):=by show c=_;rw[g.out,qY (by omega)];rfl
    have az:=ao.trans (p.mono (by omega));clear g;go_wp2;go_roundw;case rel=>exact⟨k+1,by omega,by go_num,P,az⟩
    case measure=>simp[intOf];omega
   obtain⟨aY,aZ,s,_,F⟩:=ax.ab p;simp only[Value.slice.injEq,true_and]at s;obtain⟨rfl,rfl⟩:=s;obtain⟨b2,a0,rfl,d1,d2,d3,d4⟩:=F j ae;have u0:=fun a:cJ wr.heap.size wr=>a.cell U;have u1:=fun a:cJ wr.heap.size wr=>a.cell V;have u2:=fun a:cJ wr.heap.size wr=>a.cell X;have u3:=fun a:cJ wr.heap.size wr=>a.cell ab;have u4:=fun a:cJ wr.heap.size wr=>a.cell ac;have aA:=fun a:cJ wr.heap.size wr=>a.cell ad;have aC:=fun a:cJ wr.heap.size wr=>a.cell d1;have H:=fun a:cJ wr.heap.size wr=>a.cell d2;have I:=fun a:cJ wr.heap.size wr=>a.cell d3;have J:=fun a:cJ wr.heap.size wr=>a.cell d4;have np:=cJ.any wr.heap.size wr;have o:Hid (fF regs slots os j=(aw regs slots ⟨cD os j,oa os j,ob os j,oc os j⟩&&fF regs slots os (j+1))):=oT ae;go_wp2;refine eA wr.heap.size (by kernel_rfl) (by kernel_rfl) ?_;repeat(go_big_quiet_step(exact Calls.kJ (Rq _) (C7 _ _ _ _ _ _ _ _ _ _ _ _)))
   refine wpQuiet_nil ?_;rintro _⟨a,rfl⟩;have af:=p.trans (a.ok.mono (by omega));have aD:=M.trans (af.mono (by omega));generalize a.wd=T at*;clear u0 u1 u2 u3 u4 aA aC H I J np U V X ab ac ad d1 d2 d3 d4;cases ag:aw regs slots ⟨cD os j,oa os j,ob os j,oc os j⟩
   ·have d:c=false:=by rw[g.out,o.out,ag];rfl
    subst d;clear g o;go_wp2;go_ret;exact⟨rfl,aD⟩
   ·have P:Hid (c=(fF regs slots os (j+1)&&eW regs slots l.length l (k+1))):=by show c=_;rw[g.out,o.out,ag];rfl
    clear g o;go_wp2;go_roundw;case rel=>exact⟨j+1,by omega,by go_num,rfl,P,af⟩
    case measure=>simp[intOf];omega
theorem Tryz.uU:(Tryz.prog.info? 36).map (fun i=>(i.zero,i.size,i.bytes))=y (y (Aq #[N Z 0,N Z 0,N Z 0,N Z 0]),4,32):=by kernel_rfl
theorem Tryz.pP:(Tryz.prog.info? 42).map (fun i=>(i.zero,i.size,i.bytes))=y (y (Aq #[L z 0 0,N Z 0,N Z 0,N Z 0,N Z 0]),5,56):=by kernel_rfl
def f_(d:Int)(s:ByteArray)(a:Int):Nat→List dr|0=>[]|k+1=>f_ d s a k++[⟨ah d s (a+4*k),ah d s (a+4*k+1),ah d s (a+4*k+2),ah d s (a+4*k+3)⟩]
theorem kG(d:Int)(s:ByteArray)(a:Int)(k:Nat):(f_ d s a k).length=k:=by induction k with|zero=>rfl|succ k b=>simp[f_,b]
def BV(d:Int)(s:ByteArray)(a:Int):fw:=⟨ah d s a,ah d s (a+1),ah d s (a+2),ah d s (a+3)⟩
theorem qE(w:W)(a b c d:Vq)(t:TypeId):∀j u,[a,b,c,d][j]?=y u→(w.alloc (Y #[a,b,c,d] t)).cell? ((⟨w.heap.size,0,z⟩:Addr).add j)=y u:=by intro j u e;match j,e with|0,e=>simp at e;subst e;simp[Addr.add]|1,e=>simp at e;subst e;simp[Addr.add]|2,e=>simp at e;subst e;simp[Addr.add]|3,e=>simp at e;subst e;simp[Addr.add]
theorem ld(w:W)(a b c d e:Vq)(t:TypeId):∀j u,[a,b,c,d,e][j]?=y u→(w.alloc (Y #[a,b,c,d,e] t)).cell? ((⟨w.heap.size,0,z⟩:Addr).add j)=y u:=by intro j u f;match j,f with|0,f=>simp at f;subst f;simp[Addr.add]|1,f=>simp at f;subst f;simp[Addr.add]|2,f=>simp at f;subst f;simp[Addr.add]|3,f=>simp at f;subst f;simp[Addr.add]|4,f=>simp at f;subst f;simp[Addr.add]
theorem qG{a b c d:Int}:∀u∈[Value.int Z a,N Z b,N Z c,N Z d],u.oneCell'=true:=by intro u e;simp at e;rcases e with rfl|rfl|rfl|rfl<;>rfl
theorem mZ{f:Option Addr}{n g:Nat}{a b c d:Int}:∀u∈[Value.slice f n g,N Z a,N Z b,N Z c,N Z d],u.oneCell'=true:=by intro u e;simp at e;rcases e with rfl|rfl|rfl|rfl|rfl<;>rfl
theorem vK(s:ByteArray)(at_:Int)(w:W)(hs:s.size≤maxLen)(an:0≤at_)(ao:at_≤1000000)(h:Ending→W→Prop)(m:∀sv w',w'.ownsRow w.heap.size 36 4 sv (ah (-1) s at_).toNat (bB (f_ (-1) s (at_+1) (ah (-1) s at_).toNat))→G w.heap.size w w'→h (Xq (Aq #[sv,N Z (ah (-1) s (at_+1+4*(ah (-1) s at_).toNat)),N Z (ah (-1) s (at_+1+4*(ah (-1) s at_).toNat+1)),N Z (ah (-1) s (at_+1+4*(ah (-1) s at_).toNat+2)),N Z (ah (-1) s (at_+1+4*(ah (-1) s at_).toNat+3))])) w'):Calls Tryz.prog 64 #[Tq s,N Z at_] w h:=by
 obtain⟨A,B,C,E,F⟩:=info_parts Tryz.uU;have ap:=gu (-1) s at_ (by omega);generalize H:ah (-1) s at_=c at*;go_enter Tryz.func64,Tryz.ntmps64;go_wp2_with(go_at_call 63;refine(ed _ _ _ hs).mono ?_;rintro e w'⟨rfl,rfl⟩);clear H;go_loopw[7,8](fun I i wr=>∃(k:Nat)(sv:Vq),k≤c.toNat∧i=N Z k∧I=N Z (at_+1+4*k)∧wr.cell? ⟨w.heap.size+1,0,z⟩=y sv∧wr.cell? ⟨w.heap.size+1,1,z⟩=y (N Z 0)∧wr.cell? ⟨w.heap.size+1,2,z⟩=y (N Z 0)∧wr.cell? ⟨w.heap.size+1,3,z⟩=y (N Z 0)∧wr.cell? ⟨w.heap.size+1,4,z⟩=y (N Z 0)∧(∀o,wr.frozen? ⟨w.heap.size+1,o,z⟩=false)∧wr.ownsRow (w.heap.size+2) 36 4 sv k (bB (f_ (-1) s (at_+1) k))∧G (w.heap.size+1) (w.alloc (Y #[L z 0 0,N Z 0,N Z 0,N Z 0,N Z 0] 42)) wr∧w.heap.size+2≤wr.heap.size)(fun _ i _=>c.toNat-(intOf i).toNat);case atStart=>refine⟨0,L z 0 0,Nat.zero_le _,rfl,by simp,by simp,by simp,by simp,by simp,by simp,by simp,World.ownsRow_nil _ _ _ _,?_,by simp⟩;exact(Below.refl _ _).alloc (by simp) _
 case round=>
  obtain⟨k,sv,aq,rfl,rfl,n,q,r,t,u,d,f,a,hz⟩:=hrel;obtain⟨J,K,rfl⟩:=af f;have ar:w.heap.size+1<wr.heap.size:=by omega
  have au:w.heap.size<wr.heap.size:=by omega
  have M:=d 0;have O:=d 1;have P:=d 2;have Q:=d 3;have R:=d 4;by_cases av:(k:Int)<c
  ·have S:Hid (f_ (-1) s (at_+1) (k+1)=f_ (-1) s (at_+1) k++[⟨ah (-1) s (at_+1+4*k),ah (-1) s (at_+1+4*k+1),ah (-1) s (at_+1+4*k+2),ah (-1) s (at_+1+4*k+3)⟩]):=rfl;go_wp2_with(first|(go_at_call 63;refine(ed _ _ _ hs).mono ?_;rintro e w'⟨rfl,rfl⟩)|(at_builtin;refine wpList_append_own _ rfl _ _ 34 rfl (w.heap.size+2) 36 A (Aq #[N Z 0,N Z 0,N Z 0,N Z 0]) 4 32 Tryz.underlying34 B C E F rfl (by decide) _ _ _ rfl ((f.alloc _).alloc _) ⟨wr.heap.size+1,0,z⟩ 1 1 [N Z (ah (-1) s (at_+1+4*k)),N Z (ah (-1) s (at_+1+4*k+1)),N Z (ah (-1) s (at_+1+4*k+2)),N Z (ah (-1) s (at_+1+4*k+3))] rfl rfl ?c1 qG ?c3 ?c4 ?c5 ?_));case c1=>simpa using qE (wr.alloc _) _ _ _ _ _
   case c3=>unfold maxLen;omega
   case c4=>omega
   case c5=>first|omega|(simp;omega)
   intro aw w1 j x _;rw[←nt,←S.out]at j;have b:=((((Below.refl (w.heap.size+2) wr).alloc hz _).alloc (by simp;omega) _).grown x (by simp;omega) (fun g T=>(f.lt g T).1));have U:=(b.cell (p:=⟨w.heap.size+1,0,z⟩) (by simp)).trans n;have V:=(b.cell (p:=⟨w.heap.size+1,1,z⟩) (by simp)).trans q;have X:=(b.cell (p:=⟨w.heap.size+1,2,z⟩) (by simp)).trans r;have aa:=(b.cell (p:=⟨w.heap.size+1,3,z⟩) (by simp)).trans t;have ab:=(b.cell (p:=⟨w.heap.size+1,4,z⟩) (by simp)).trans u;have l:∀o,w1.frozen? ⟨w.heap.size+1,o,z⟩=false:=fun o=>(b.frozen (p:=⟨w.heap.size+1,o,z⟩) (by simp)).trans (d o);have ax:=l 0;have ay:=b.size;have ac:=(a.trans (b.mono (by omega)));obtain⟨az,aA,rfl⟩:=af j;clear x f n q r t u d M O P Q R b a;have ad:Hid (∀o,w1.frozen? ⟨w.heap.size+1,o,z⟩=false):=l;clear l;go_wp2;go_roundw;case rel=>refine⟨k+1,_,by omega,by go_num,by go_num,fZ U,ba (by simp) V,ba (by simp) X,ba (by simp) aa,ba (by simp) ab,fun o=>by simp[ad.out o],ownsRow_setCell_below j (by simp) _,ac.setCell (by simp) _,by simp;omega⟩
   case measure=>simp[intOf];omega
  ·obtain rfl:k=c.toNat:=by omega
   have ae:wr.cell? ⟨w.heap.size,0,z⟩=y (L z 0 0):=(a.cell (by simp)).trans (by simp);have ag:wr.cell? ⟨w.heap.size,1,z⟩=y (N Z 0):=(a.cell (by simp)).trans (by simp);have ai:wr.cell? ⟨w.heap.size,2,z⟩=y (N Z 0):=(a.cell (by simp)).trans (by simp);have aj:wr.cell? ⟨w.heap.size,3,z⟩=y (N Z 0):=(a.cell (by simp)).trans (by simp);have ak:wr.cell? ⟨w.heap.size,4,z⟩=y (N Z 0):=(a.cell (by simp)).trans (by simp);have aB:wr.frozen? ⟨w.heap.size,0,z⟩=false:=(a.frozen (by simp)).trans (by simp);have g1:wr.frozen? ⟨w.heap.size,1,z⟩=false:=(a.frozen (by simp)).trans (by simp);have g2:wr.frozen? ⟨w.heap.size,2,z⟩=false:=(a.frozen (by simp)).trans (by simp);have aC:wr.frozen? ⟨w.heap.size,3,z⟩=false:=(a.frozen (by simp)).trans (by simp);have aD:wr.frozen? ⟨w.heap.size,4,z⟩=false:=(a.frozen (by simp)).trans (by simp);have al:Hid (∀sv w',w'.ownsRow w.heap.size 36 4 sv c.toNat (bB (f_ (-1) s (at_+1) c.toNat))→G w.heap.size w w'→h (Xq (Aq #[sv,N Z (ah (-1) s (at_+1+4*c.toNat)),N Z (ah (-1) s (at_+1+4*c.toNat+1)),N Z (ah (-1) s (at_+1+4*c.toNat+2)),N Z (ah (-1) s (at_+1+4*c.toNat+3))])) w'):=m;clear m;have am:=Below.under a;go_wp2_with(go_at_call 63;refine(ed _ _ _ hs).mono ?_;rintro e w'⟨rfl,rfl⟩);refine bodyPost_ret (v:=Aq #[L J c.toNat K,N Z (ah (-1) s (at_+1+4*c.toNat)),N Z (ah (-1) s (at_+1+4*c.toNat+1)),N Z (ah (-1) s (at_+1+4*c.toNat+2)),N Z (ah (-1) s (at_+1+4*c.toNat+3))]) (by simp[results,Tryz.results64,go_sem,ae,ag,ai,aj,ak]) rfl (al.out _ _ ?_ ?_)
   ·refine a_ (base:=w.heap.size+2) ?_ (by omega);repeat(refine ownsRow_setCell_below ?_ (by simp) _)
    exact f
   ·repeat(refine Below.setCell ?_ (by simp) _)
    exact am
theorem sq(a:Option Addr)(n b:Nat)(k c x d:Int)(w:W)(f:n≤1000):Calls Tryz.prog 65 #[Aq #[L a n b,N Z k,N Z c,N Z x,N Z d]] w fun e w'=>e=Xq (N Z (1+4*n+4))∧G w.heap.size w w':=by go_enter Tryz.func65,Tryz.ntmps65;go_wp2;go_ret;exact⟨by simp,(Below.refl _ _).alloc (Rq _) _⟩
def cw(s:ByteArray):Nat→Int|0=>7|k+1=>cw s k+(1+4*(ah (-1) s (cw s k)).toNat+4)
def sY(d:Int)(s:ByteArray)(p:Int)(n:Nat):aN:=⟨f_ d s (p+1) n,BV d s (p+1+4*n)⟩
def dU(s:ByteArray):Nat→List aN|0=>[]|k+1=>dU s k++[sY (-1) s (cw s k) (ah (-1) s (cw s k)).toNat]
theorem ri(s:ByteArray)(k:Nat):7≤cw s k∧cw s k≤7+1025*k:=by induction k with|zero=>simp[cw]|succ k a=>have:=gu (-1) s (cw s k) (by omega);simp only[cw];omega
def jw(s:ByteArray):a8:=⟨ah (-1) s 2,ah (-1) s 3,ah (-1) s 4,ah (-1) s 5,dU s (ah (-1) s 6).toNat⟩
def dj(s:ByteArray):Bool:=decide (ah (-1) s 0=84)&&decide (ah (-1) s 1=87)&&decide (cw s (ah (-1) s 6).toNat=s.size)&&aB (jw s)
theorem vM(s:ByteArray)(w:W)(hs:s.size≤maxLen)(J:Ending→W→Prop)(ae:∀v d w',dj s=true→aC w' w.heap.size v d→dT d=(jw s).blocks→G w.heap.size w w'→J (Xq (Uq #[Aq #[N Z (ah (-1) s 2),N Z (ah (-1) s 3),N Z (ah (-1) s 4),N Z (ah (-1) s 5),v],N Z 0])) w')(K:∀w',dj s=false→G w.heap.size w w'→J (Xq (Uq #[Aq #[N Z 0,N Z 0,N Z 0,N Z 0,L z 0 0],N Z 1])) w'):Calls Tryz.prog 35 #[Tq s] w J:=by
 obtain⟨a0,a1,a2,a3,a4⟩:=info_parts Tryz.pP;have bI:=gu (-1) s 6 (by omega);have a5:=hs;unfold maxLen at a5;by_cases ag:ah (-1) s 0=84;case neg=>
  have f:dj s=false:=by simp[dj,ag]
  have t:=fun w'=>K w' f;clear K ae f;have aw:(ah (-1) s 0 !=84)=true:=by simp[ag]
  go_enter Tryz.func35,Tryz.ntmps35;go_wp2_with(go_at_call 63;refine(ed _ _ _ hs).mono ?_;rintro e w'⟨rfl,rfl⟩);exact bodyPost_ret (v:=Uq #[Aq #[N Z 0,N Z 0,N Z 0,N Z 0,L z 0 0],N Z 1]) (by simp[results,Tryz.results35,go_sem]) rfl (t _ ((Below.refl _ _).alloc (Rq _) _))
 by_cases M:ah (-1) s 1=87;case neg=>
  have f:dj s=false:=by simp[dj,M]
  have t:=fun w'=>K w' f;clear K ae f;have aw:(ah (-1) s 1 !=87)=true:=by simp[M]
  go_enter Tryz.func35,Tryz.ntmps35;go_wp2_with(go_at_call 63;refine(ed _ _ _ hs).mono ?_;rintro e w'⟨rfl,rfl⟩);exact bodyPost_ret (v:=Uq #[Aq #[N Z 0,N Z 0,N Z 0,N Z 0,L z 0 0],N Z 1]) (by simp[results,Tryz.results35,go_sem]) rfl (t _ ((Below.refl _ _).alloc (Rq _) _))
 have O:Hid (dj s=(decide (cw s (ah (-1) s 6).toNat=s.size)&&aB (jw s))):=by show _=_;simp[dj,ag,M]
 have R:Hid (jw s=⟨ah (-1) s 2,ah (-1) s 3,ah (-1) s 4,ah (-1) s 5,dU s (ah (-1) s 6).toNat⟩):=rfl;generalize a6:ah (-1) s 6=c at*;generalize a7:ah (-1) s 2=x at*;generalize a8:ah (-1) s 3=A at*;generalize a9:ah (-1) s 4=B at*;generalize bb:ah (-1) s 5=C at*;have ai:Hid (∀v d w',dj s=true→aC w' w.heap.size v d→dT d=(jw s).blocks→G w.heap.size w w'→J (Xq (Uq #[Aq #[N Z x,N Z A,N Z B,N Z C,v],N Z 0])) w'):=ae;have S:Hid (∀w',dj s=false→G w.heap.size w w'→J (Xq (Uq #[Aq #[N Z 0,N Z 0,N Z 0,N Z 0,L z 0 0],N Z 1])) w'):=K;clear ae K;go_enter Tryz.func35,Tryz.ntmps35;go_wp2_with(go_at_call 63;refine(ed _ _ _ hs).mono ?_;rintro e w'⟨rfl,rfl⟩);clear a6 ag M a7 a8 a9 bb;go_loopw[6,7](fun p i wr=>∃(k:Nat)(v:Vq)(d:List (aN×Vq)),k≤c.toNat∧i=N Z k∧p=N Z (cw s k)∧wr.cell? ⟨w.heap.size+1,0,z⟩=y (N Z x)∧wr.cell? ⟨w.heap.size+1,1,z⟩=y (N Z A)∧wr.cell? ⟨w.heap.size+1,2,z⟩=y (N Z B)∧wr.cell? ⟨w.heap.size+1,3,z⟩=y (N Z C)∧wr.cell? ⟨w.heap.size+1,4,z⟩=y v∧wr.frozen? ⟨w.heap.size+1,4,z⟩=false∧aC wr (w.heap.size+2) v d∧Hid (dT d=dU s k)∧Hid (d.length=k)∧G (w.heap.size+1) (w.alloc (Y #[N Z 0,N Z 0,N Z 0,N Z 0,L z 0 0] 25)) wr∧w.heap.size+2≤wr.heap.size)(fun _ i _=>c.toNat-(intOf i).toNat);case atStart=>refine⟨0,L z 0 0,[],Nat.zero_le _,rfl,rfl,by simp,by simp,by simp,by simp,by simp,by simp,iA _ _,rfl,rfl,?_,by simp⟩;exact(Below.refl _ _).alloc (by simp) _
 case round=>
  obtain⟨k,v,d,bJ,rfl,rfl,aj,ak,al,am,an,ax,E,ay,az,m,hz⟩:=hrel;obtain⟨ao,ap,rfl⟩:=af E.row;have P:w.heap.size+1<wr.heap.size:=by omega
  have bc:w.heap.size<wr.heap.size:=by omega
  have bK:=ri s k;by_cases bL:(k:Int)<c
  ·go_wp2_with fail;refine vK s _ _ hs (by omega) (by omega) _ ?_;intro sv w1 aq b;have bd:Hid (dU s (k+1)=dU s k++[⟨f_ (-1) s (cw s k+1) (ah (-1) s (cw s k)).toNat,⟨ah (-1) s (cw s k+1+4*(ah (-1) s (cw s k)).toNat),ah (-1) s (cw s k+1+4*(ah (-1) s (cw s k)).toNat+1),ah (-1) s (cw s k+1+4*(ah (-1) s (cw s k)).toNat+2),ah (-1) s (cw s k+1+4*(ah (-1) s (cw s k)).toNat+3)⟩⟩]):=rfl;have be:Hid (cw s (k+1)=cw s k+(1+4*(ah (-1) s (cw s k)).toNat+4)):=rfl;have bf:=gu (-1) s (cw s k) (by omega);have bg:=kG (-1) s (cw s k+1) (ah (-1) s (cw s k)).toNat;have bM:(ah (-1) s (cw s k)).toNat≤255:=by omega
   clear bf;generalize(ah (-1) s (cw s k)).toNat=T at*;generalize ah (-1) s (cw s k+1+4*T)=e1 at*;generalize ah (-1) s (cw s k+1+4*T+1)=e2 at*;generalize ah (-1) s (cw s k+1+4*T+2)=e3 at*;generalize ah (-1) s (cw s k+1+4*T+3)=e4 at*;generalize f_ (-1) s (cw s k+1) T=ps at*;subst bg;obtain⟨ar,au,rfl⟩:=af aq;have F:=E.below b (Rq _);have U:=(b.cell (p:=⟨w.heap.size+1,0,z⟩) P).trans aj;have V:=(b.cell (p:=⟨w.heap.size+1,1,z⟩) P).trans ak;have X:=(b.cell (p:=⟨w.heap.size+1,2,z⟩) P).trans al;have ab:=(b.cell (p:=⟨w.heap.size+1,3,z⟩) P).trans am;have ac:=(b.cell (p:=⟨w.heap.size+1,4,z⟩) P).trans an;have n:=(b.frozen (p:=⟨w.heap.size+1,4,z⟩) P).trans ax;have bN:=b.size;have bO:w.heap.size+1<w1.heap.size:=by omega
   go_wp2_with(at_builtin;refine wpList_append_own _ rfl _ _ 23 rfl (w.heap.size+2) 42 a0 (Aq #[L z 0 0,N Z 0,N Z 0,N Z 0,N Z 0]) 5 56 Tryz.underlying23 a1 a2 a3 a4 rfl (by decide) _ _ _ rfl ((F.row.alloc _).alloc _) ⟨w1.heap.size+1,0,z⟩ 1 1 [L ar ps.length au,N Z e1,N Z e2,N Z e3,N Z e4] rfl rfl ?c1 mZ ?c3 ?c4 ?c5 ?_);case c1=>simpa using ld (w1.alloc _) _ _ _ _ _ _
   case c3=>have:=az.out;unfold maxLen;omega
   case c4=>have:=az.out;omega
   case c5=>first|omega|(simp;omega)
   intro bh h aR q _;have Q:∀g,w1.heap.size≤g→y g≠(Value.slice ao d.length ap).ownBlock:=fun g H e=>by have:=(F.row.lt _ e.symm).2;omega
   have aA:aC h (w.heap.size+2) bh (d++[(⟨ps,⟨e1,e2,e3,e4⟩⟩,L ar ps.length au)]):=by refine((F.alloc _).alloc _).snoc ((a_ aq (by omega)).alloc _|>.alloc _) ?_ q aR;intro bi bj g H e;have bP:=((E.each bi bj).lt g H).2;have bQ:=(aq.lt g e).1;omega
   have j:=((((Below.refl (w.heap.size+2) w1).alloc (by omega) _).alloc (by simp;omega) _).grown q (by simp;omega) (fun g H=>(F.row.lt g H).1));have aD:=(j.cell (p:=⟨w.heap.size+1,0,z⟩) (by simp)).trans U;have aE:=(j.cell (p:=⟨w.heap.size+1,1,z⟩) (by simp)).trans V;have aF:=(j.cell (p:=⟨w.heap.size+1,2,z⟩) (by simp)).trans X;have aG:=(j.cell (p:=⟨w.heap.size+1,3,z⟩) (by simp)).trans ab;have aH:=(j.cell (p:=⟨w.heap.size+1,4,z⟩) (by simp)).trans ac;have aS:=(j.frozen (p:=⟨w.heap.size+1,4,z⟩) (by simp)).trans n;have aT:h.cell? ⟨w1.heap.size,0,z⟩=y (L ar ps.length au):=q.cell (by simp) (Q _ (Rq _));have aU:h.cell? ⟨w1.heap.size,1,z⟩=y (N Z e1):=q.cell (by simp) (Q _ (Rq _));have aV:h.cell? ⟨w1.heap.size,2,z⟩=y (N Z e2):=q.cell (by simp) (Q _ (Rq _));have aW:h.cell? ⟨w1.heap.size,3,z⟩=y (N Z e3):=q.cell (by simp) (Q _ (Rq _));have aX:h.cell? ⟨w1.heap.size,4,z⟩=y (N Z e4):=q.cell (by simp) (Q _ (Rq _));have bR:=j.size;have bS:w.heap.size+1<h.heap.size:=by omega
   have bT:w1.heap.size≠w.heap.size+1:=by omega
   have aY:=(m.trans (b.mono (by omega))).trans (j.mono (by omega));obtain⟨bk,bl,aI⟩:=af aA.row;rw[List.length_append]at aI;simp only[List.length_cons,List.length_nil,Nat.zero_add]at aI;subst aI;have bm:∀u,(h.setCell ⟨w.heap.size+1,4,z⟩ u).cell? ⟨w1.heap.size,0,z⟩=y (L ar ps.length au):=fun u=>ba (by simp) aT;have bn:∀u,(h.setCell ⟨w.heap.size+1,4,z⟩ u).cell? ⟨w1.heap.size,1,z⟩=y (N Z e1):=fun u=>ba (by simp) aU;have bo:∀u,(h.setCell ⟨w.heap.size+1,4,z⟩ u).cell? ⟨w1.heap.size,2,z⟩=y (N Z e2):=fun u=>ba (by simp) aV;have bp:∀u,(h.setCell ⟨w.heap.size+1,4,z⟩ u).cell? ⟨w1.heap.size,3,z⟩=y (N Z e3):=fun u=>ba (by simp) aW;have bq:∀u,(h.setCell ⟨w.heap.size+1,4,z⟩ u).cell? ⟨w1.heap.size,4,z⟩=y (N Z e4):=fun u=>ba (by simp) aX;clear q E aR F aq aj ak al am an ax U V X ab ac n j m Q;go_wp2_with fail;refine(sq _ _ _ _ _ _ _ _ (by omega)).mono ?_;rintro e bU⟨rfl,l⟩;have br:=(aA.set (a:=⟨w.heap.size+1,4,z⟩) (by simp) _).below l (Rq _);have bs:=l.size;have I:w.heap.size+1<(h.setCell ⟨w.heap.size+1,4,z⟩ (L bk (d.length+1) bl)).heap.size:=by simp;omega
   have bt:=(l.cell (p:=⟨w.heap.size+1,0,z⟩) I).trans (ba (by simp) aD);have bu:=(l.cell (p:=⟨w.heap.size+1,1,z⟩) I).trans (ba (by simp) aE);have bv:=(l.cell (p:=⟨w.heap.size+1,2,z⟩) I).trans (ba (by simp) aF);have bw:=(l.cell (p:=⟨w.heap.size+1,3,z⟩) I).trans (ba (by simp) aG);have bx:=(l.cell (p:=⟨w.heap.size+1,4,z⟩) I).trans (fZ aH);have bz:=(l.frozen (p:=⟨w.heap.size+1,4,z⟩) I).trans (by simpa using aS);have bA:=(aY.setCell (p:=⟨w.heap.size+1,4,z⟩) (by simp) _).trans (l.mono (by simp;omega));simp at bs;clear l aA aY aD aE aF aG aH aS aT aU aV aW aX bm bn bo bp bq I;go_wp2;go_roundw;case rel=>
    refine⟨k+1,_,_,by omega,by go_num,by rw[be.out],bt,bu,bv,bw,bx,bz,br,?_,?_,bA,by omega⟩;·show dT _=_;rw[bd.out,←ay.out];simp[dT]
    ·show List.length _=_;have:=az.out;simp;exact this
   case measure=>simp[intOf];omega
  ·obtain rfl:k=c.toNat:=by omega
   have aJ:wr.cell? ⟨w.heap.size,0,z⟩=y (N Z 0):=(m.cell (by simp)).trans (by simp);have aK:wr.cell? ⟨w.heap.size,1,z⟩=y (N Z 0):=(m.cell (by simp)).trans (by simp);have aL:wr.cell? ⟨w.heap.size,2,z⟩=y (N Z 0):=(m.cell (by simp)).trans (by simp);have aM:wr.cell? ⟨w.heap.size,3,z⟩=y (N Z 0):=(m.cell (by simp)).trans (by simp);have aO:wr.cell? ⟨w.heap.size,4,z⟩=y (L z 0 0):=(m.cell (by simp)).trans (by simp);have r:∀o,wr.frozen? ⟨w.heap.size,o,z⟩=false:=fun o=>(m.frozen (by simp)).trans (by simp);have aZ:=Below.under m;have aP:=E.rd;rw[ay.out]at aP;have aQ:=sd x A B C _ _ wr aP;have ad:Hid (aB (jw s)=aB ⟨x,A,B,C,dU s c.toNat⟩):=by show _=_;rw[R.out]
   by_cases av:cw s c.toNat=s.size;case neg=>
    have f:dj s=false:=by rw[O.out];simp[av]
    have t:=fun w'=>S.out w' f;clear S ai f O ad R aQ;have aw:(cw s c.toNat !=(s.size:Int))=true:=by simp[av]
    have bB:=r 0;have bC:=r 1;have bD:=r 2;have bE:=r 3;have bF:=r 4;clear r;go_wp2;refine bodyPost_ret (v:=Uq #[Aq #[N Z 0,N Z 0,N Z 0,N Z 0,L z 0 0],N Z 1]) (by simp[results,Tryz.results35,go_sem,aJ,aK,aL,aM,aO]) rfl (t _ ?_);repeat(refine Below.setCell ?_ (by simp) _)
    exact aZ
   have aw:(cw s c.toNat !=(s.size:Int))=false:=by simp[av]
   go_wp2_with fail;refine aQ.mono ?_;clear aQ;rintro e w1⟨rfl,b⟩;have U:=aa b aJ;have V:=aa b aK;have X:=aa b aL;have ab:=aa b aM;have ac:=aa b aO;have n:∀o,w1.frozen? ⟨w.heap.size,o,z⟩=false:=fun o=>(b.frozen (p:=⟨w.heap.size,o,z⟩) bc).trans (r o);have bB:=n 0;have bC:=n 1;have bD:=n 2;have bE:=n 3;have bF:=n 4;have aD:=aa b aj;have aE:=aa b ak;have aF:=aa b al;have aG:=aa b am;have aH:=aa b an;have j:=aZ.trans (b.mono (by omega));have F:=E.below b (Rq _);clear r n aJ aK aL aM aO aj ak al am an ax aP E b;cases H:aB ⟨x,A,B,C,dU s c.toNat⟩
   ·have f:dj s=false:=by rw[O.out,ad.out,H];simp
    have t:=fun w'=>S.out w' f;clear S ai f O ad R;go_wp2;refine bodyPost_ret (v:=Uq #[Aq #[N Z 0,N Z 0,N Z 0,N Z 0,L z 0 0],N Z 1]) (by simp[results,Tryz.results35,go_sem,U,V,X,ab,ac]) rfl (t _ ?_);repeat(refine Below.setCell ?_ (by simp) _)
    exact j
   ·have f:dj s=true:=by rw[O.out,ad.out,H];simp[av]
    have bG:Hid (∀w',aC w' w.heap.size (L ao d.length ap) d→G w.heap.size w w'→J (Xq (Uq #[Aq #[N Z x,N Z A,N Z B,N Z C,L ao d.length ap],N Z 0])) w'):=fun w' M bH=>ai.out _ d w' f M (by rw[R.out];exact ay.out) bH;clear S ai f O ad R;go_wp2;refine bodyPost_ret (v:=Uq #[Aq #[N Z x,N Z A,N Z B,N Z C,L ao d.length ap],N Z 0]) (by simp[results,Tryz.results35,go_sem,U,V,X,ab,ac]) rfl (bG.out _ ?_ ?_)
    ·refine aC.base (base:=w.heap.size+2) ?_ (by omega);repeat(refine aC.set ?_ (by simp) _)
     exact F
    ·repeat(refine Below.setCell ?_ (by simp) _)
     exact j
end Go.Proofs.YtblhmeidbjigaabGreatDoor
