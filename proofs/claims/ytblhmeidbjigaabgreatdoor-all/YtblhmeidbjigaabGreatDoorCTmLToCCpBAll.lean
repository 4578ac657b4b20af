/- The code's terms: laid, Written. -/
import Derived.Test.YtblhmeidbjigaabGreatDoorRows
import Derived.WalkKit
import Derived.WalkSpells
import Derived.WalkLawsBesides
import Derived.Laws.BytesArg
import Derived.Deep.QuietTactic
import Derived.BigQuiet
import Derived.Deep.RegionHeld3
import Derived.Lib.ItoaNum
import Derived.Lib.ItoaLen
import Derived.OpenShut
import Derived.Maps.AppendAt
import Derived.Shelf.Strconv.Itoa3
import Derived.Shelf.Lay
import Derived.Ground.NamesProg
import Derived.Lib.SmallJoins
import Derived.Lib.Hide
import Derived.StillTailTactics
import Derived.Test.YtblhmeidbjigaabGreatDoorCTmJToCTmKAll

set_option linter.unusedSimpArgs false
set_option linter.unusedVariables false
namespace Go.Proofs.YtblhmeidbjigaabGreatDoor
open Go.RowKit

/-- Three terms in boxes, a box for what is handed back, and the three parts of a store in boxes. -/
structure BoxL (w W : World) (A B Y G C D E : Nat) (u v y c a x : TD) (pu pv py pc pa px : Value) : Prop where
  box : Box3 w W A B Y G u v y pu pv py
  rc : Row W C 179 (tcells c pc)
  ra : Row W D 179 (tcells a pa)
  rx : Row W E 179 (tcells x px)

theorem BoxL.next {w W W' : World} {A B Y G C D E : Nat} {u v y c a x : TD} {pu pv py pc pa px : Value} (h : BoxL w W A B Y G C D E u v y c a x pu pv py pc pa px) (hb : Below W.heap.size W W') : BoxL w W' A B Y G C D E u v y c a x pu pv py pc pa px :=
  ⟨h.box.next hb, h.rc.keep hb, h.ra.keep hb, h.rx.keep hb⟩

theorem BoxL.start {w w1 : World} {A B Y G : Nat} {u v y : TD} {pu pv py : Value} (h : Box3 w w1 A B Y G u v y pu pv py) (c a x : TD) (pc pa px : Value) :
    BoxL w (((w1.alloc (.cells #[.int .i64 (ckind c), .int .i64 (cval c), pc, .int .i64 c.size, .string (str (showT c))] 179)).alloc (.cells #[.int .i64 (ckind a), .int .i64 (cval a), pa, .int .i64 a.size, .string (str (showT a))] 179)).alloc (.cells #[.int .i64 (ckind x), .int .i64 (cval x), px, .int .i64 x.size, .string (str (showT x))] 179)) A B Y G w1.heap.size (w1.heap.size + 1) (w1.heap.size + 1 + 1) u v y c a x pu pv py pc pa px := by
  refine ⟨h.next (below_alloc3 _ _ _ _), Row.alloc (Row.alloc (heap_alloc_new w1 _) _) _, Row.alloc (heap_alloc2_new w1 _ _) _, ?_⟩
  have := heap_alloc_new ((w1.alloc (.cells #[.int .i64 (ckind c), .int .i64 (cval c), pc, .int .i64 c.size, .string (str (showT c))] 179)).alloc (.cells #[.int .i64 (ckind a), .int .i64 (cval a), pa, .int .i64 a.size, .string (str (showT a))] 179)) (.cells #[.int .i64 (ckind x), .int .i64 (cval x), px, .int .i64 x.size, .string (str (showT x))] 179)
  simp only [World.size_alloc] at this
  exact this

theorem grT_true {a v : TD} (h : grT a v = true) : ∃ n k, v.isNum = some n ∧ a.isNum = some k ∧ k > n := by
  unfold grT at h
  simp only [Bool.and_eq_true, decide_eq_true_eq] at h
  obtain ⟨k, hk⟩ := Option.isSome_iff_exists.1 h.1.1
  obtain ⟨n, hn⟩ := Option.isSome_iff_exists.1 h.1.2
  exact ⟨n, k, hn, hk, by have := h.2; simp [numOf, hk, hn] at this; omega⟩

theorem grT_false {a v : TD} (h : grT a v = false) {n k : Int} (hn : v.isNum = some n) (hk : a.isNum = some k) : ¬ (k > n) := by
  unfold grT at h
  simp [numOf, hk, hn] at h
  omega

set_option maxRecDepth 100000 in
set_option maxHeartbeats 2000000 in
theorem cLaid_off {Lo : Nat} (u v y : TD) (uo vo yo : Option Addr) (un uc vn vc yn yc : Nat) (w : World) (hu : PartsAt Lo w u (.slice uo un uc)) (hv : PartsAt Lo w v (.slice vo vn vc)) (hy : PartsAt Lo w y (.slice yo yn yc)) (fu : u.fine) (fv : v.fine) (fy : y.fine) (su : u.size ≤ 1000000000) (sv : v.size ≤ 1000000000) (sy : y.size ≤ 1000000000) (hk : u.kind ≠ 13) (Post : Ending → World → Prop)
    (hp : ∀ ps w', PartsAt Lo w' (laidT u v y) ps → Below w.heap.size w w' → Post (.returned (termV (laidT u v y) ps)) w') :
    Calls Tryz.prog 222 #[termV u (.slice uo un uc), termV v (.slice vo vn vc), termV y (.slice yo yn yc)] w Post := by
  have X0 := Box3.start w u v y (.slice uo un uc) (.slice vo vn vc) (.slice yo yn yc)
  have q1 := fun P h => cStore_off u (.slice uo un uc) ((((w.alloc (.cells #[.int .i64 (ckind u), .int .i64 (cval u), (.slice uo un uc), .int .i64 u.size, .string (str (showT u))] 179)).alloc (.cells #[.int .i64 (ckind v), .int .i64 (cval v), (.slice vo vn vc), .int .i64 v.size, .string (str (showT v))] 179)).alloc (.cells #[.int .i64 (ckind y), .int .i64 (cval y), (.slice yo yn yc), .int .i64 y.size, .string (str (showT y))] 179)).alloc (.cells #[.int .i64 0, .int .i64 0, .slice none 0 0, .int .i64 0, .string ⟨#[]⟩] 179)) (fun e => hk ((ckind_store fu).1 e)) P h
  rw [laid_else (by rintro ⟨c, a, x, n, k, e, _⟩; rw [e] at hk; exact hk rfl)] at hp
  have HX := Lib.hid X0
  have HU := Lib.hid hu
  have HV := Lib.hid hv
  have HY := Lib.hid hy
  have HP := Lib.hid hp
  unfold termV at q1 ⊢
  clear X0 hu hv hy hp
  go_enter Tryz.func222, Tryz.ntmps222
  go_wp2_with fail
  refine q1 _ ?_
  intro w1 b1
  have Y1 := HX.out.next b1
  have X := Y1.next (below_alloc3 w1 (.cells #[.int .i64 0, .int .i64 0, .slice none 0 0, .int .i64 0, .string ⟨#[]⟩] 179) (.cells #[.int .i64 0, .int .i64 0, .slice none 0 0, .int .i64 0, .string ⟨#[]⟩] 179) (.cells #[.int .i64 0, .int .i64 0, .slice none 0 0, .int .i64 0, .string ⟨#[]⟩] 179))
  have a0 := fun o1 o2 o3 => ((((Y1).ru.alloc o1).alloc o2).alloc o3).cell (i := 0) rfl
  have a1 := fun o1 o2 o3 => ((((Y1).ru.alloc o1).alloc o2).alloc o3).cell (i := 1) rfl
  have a2 := fun o1 o2 o3 => ((((Y1).ru.alloc o1).alloc o2).alloc o3).cell (i := 2) rfl
  have a3 := fun o1 o2 o3 => ((((Y1).ru.alloc o1).alloc o2).alloc o3).cell (i := 3) rfl
  have a4 := fun o1 o2 o3 => ((((Y1).ru.alloc o1).alloc o2).alloc o3).cell (i := 4) rfl
  have c0 := fun o1 o2 o3 => ((((Y1).rv.alloc o1).alloc o2).alloc o3).cell (i := 0) rfl
  have c1 := fun o1 o2 o3 => ((((Y1).rv.alloc o1).alloc o2).alloc o3).cell (i := 1) rfl
  have c2 := fun o1 o2 o3 => ((((Y1).rv.alloc o1).alloc o2).alloc o3).cell (i := 2) rfl
  have c3 := fun o1 o2 o3 => ((((Y1).rv.alloc o1).alloc o2).alloc o3).cell (i := 3) rfl
  have c4 := fun o1 o2 o3 => ((((Y1).rv.alloc o1).alloc o2).alloc o3).cell (i := 4) rfl
  have d0 := fun o1 o2 o3 => ((((Y1).rx.alloc o1).alloc o2).alloc o3).cell (i := 0) rfl
  have d1 := fun o1 o2 o3 => ((((Y1).rx.alloc o1).alloc o2).alloc o3).cell (i := 1) rfl
  have d2 := fun o1 o2 o3 => ((((Y1).rx.alloc o1).alloc o2).alloc o3).cell (i := 2) rfl
  have d3 := fun o1 o2 o3 => ((((Y1).rx.alloc o1).alloc o2).alloc o3).cell (i := 3) rfl
  have d4 := fun o1 o2 o3 => ((((Y1).rx.alloc o1).alloc o2).alloc o3).cell (i := 4) rfl
  have q2 := fun P => cOfThree_cps u v y (.slice uo un uc) (.slice vo vn vc) (.slice yo yn yc) (((w1.alloc (.cells #[.int .i64 0, .int .i64 0, .slice none 0 0, .int .i64 0, .string ⟨#[]⟩] 179)).alloc (.cells #[.int .i64 0, .int .i64 0, .slice none 0 0, .int .i64 0, .string ⟨#[]⟩] 179)).alloc (.cells #[.int .i64 0, .int .i64 0, .slice none 0 0, .int .i64 0, .string ⟨#[]⟩] 179)) (HU.out.keep X.keep) (HV.out.keep X.keep) (HY.out.keep X.keep) fu fv fy (by omega) (by omega) (by omega) P
  unfold termV at q2
  clear q1 b1 HX Y1
  go_wp2_with fail
  refine q2 _ ?_
  intro pt w2 p2 b2
  have X2 := X.next b2
  obtain ⟨to, tn, tc, rfl⟩ := p2.slice
  clear q2 X b2 a0 a1 a2 a3 a4 c0 c1 c2 c3 c4 d0 d1 d2 d3 d4
  have y9 := X2.fin p2
  have HF := Lib.hid (HP.out _ _ y9.1 y9.2)
  unfold termV set5 at HF
  have z0 := X2.rg.cell (i := 0) rfl
  have f0 := X2.rg.frozen 0
  have z1 := X2.rg.cell (i := 1) rfl
  have f1 := X2.rg.frozen 1
  have z2 := X2.rg.cell (i := 2) rfl
  have f2 := X2.rg.frozen 2
  have z3 := X2.rg.cell (i := 3) rfl
  have f3 := X2.rg.frozen 3
  have z4 := X2.rg.cell (i := 4) rfl
  have f4 := X2.rg.frozen 4
  clear y9
  go_wp2
  (try simp only [Exit.inBlock, Exit.then])
  refine bodyPost_ret (v := .agg #[.int .i64 (ckind (TD.three 13 u v y)), .int .i64 (cval (TD.three 13 u v y)), (.slice to tn tc), .int .i64 ((TD.three 13 u v y)).size, .string (str (showT (TD.three 13 u v y)))]) ?_ rfl ?_
  · simp [results, Tryz.results222, go_sem, z0, z1, z2, z3, z4]
  · exact HF.out

set_option maxRecDepth 100000 in
set_option maxHeartbeats 4000000 in
theorem cLaid_cps {Lo : Nat} (u : TD) : ∀ (v y : TD) (pu pv py : Value) (w : World) (Post : Ending → World → Prop), PartsAt Lo w u pu → PartsAt Lo w v pv → PartsAt Lo w y py → u.fine → v.fine → y.fine → u.size + v.size + y.size ≤ 100000000 →
    (∀ ps w', PartsAt Lo w' (laidT u v y) ps → Below w.heap.size w w' → Post (.returned (termV (laidT u v y) ps)) w') →
    Calls Tryz.prog 222 #[termV u pu, termV v pv, termV y py] w Post := by
  induction u with
  | leaf k n =>
    intro v y pu pv py w Post hu hv hy fu fv fy su hp
    obtain ⟨uo, un, uc, rfl⟩ := hu.slice
    obtain ⟨vo, vn, vc, rfl⟩ := hv.slice
    obtain ⟨yo, yn, yc, rfl⟩ := hy.slice
    exact cLaid_off _ v y uo vo yo un uc vn vc yn yc w hu hv hy fu fv fy (by omega) (by omega) (by omega) (by obtain ⟨q, _⟩ := fu; simp only [TD.kind]; omega) Post hp
  | two k a b iha ihb =>
    intro v y pu pv py w Post hu hv hy fu fv fy su hp
    obtain ⟨uo, un, uc, rfl⟩ := hu.slice
    obtain ⟨vo, vn, vc, rfl⟩ := hv.slice
    obtain ⟨yo, yn, yc, rfl⟩ := hy.slice
    exact cLaid_off _ v y uo vo yo un uc vn vc yn yc w hu hv hy fu fv fy (by omega) (by omega) (by omega) (by obtain ⟨q, q', _⟩ := fu; simp only [TD.kind]; omega) Post hp
  | three k c a x ihc iha ihx =>
    intro v y pu pv py w Post hu hv hy fu fv fy su hp
    obtain ⟨uo, un, uc, rfl⟩ := hu.slice
    obtain ⟨vo, vn, vc, rfl⟩ := hv.slice
    obtain ⟨yo, yn, yc, rfl⟩ := hy.slice
    obtain ⟨rfl, fc, fa, fx⟩ := id fu
    obtain ⟨u, he⟩ : ∃ u, u = TD.three 13 c a x := ⟨_, rfl⟩
    rw [← he] at hu hp fu su ⊢
    have HS : Hid (c.size + a.size + x.size + v.size + y.size ≤ 100000000) := by rw [he] at su; simp only [TD.size] at su; show _ ≤ _; omega
    have X0 := Box3.start w u v y (.slice uo un uc) (.slice vo vn vc) (.slice yo yn yc)
    have q1 := fun P h => cStore_three u c a x (.slice uo un uc) ((((w.alloc (.cells #[.int .i64 (ckind u), .int .i64 (cval u), (.slice uo un uc), .int .i64 u.size, .string (str (showT u))] 179)).alloc (.cells #[.int .i64 (ckind v), .int .i64 (cval v), (.slice vo vn vc), .int .i64 v.size, .string (str (showT v))] 179)).alloc (.cells #[.int .i64 (ckind y), .int .i64 (cval y), (.slice yo yn yc), .int .i64 y.size, .string (str (showT y))] 179)).alloc (.cells #[.int .i64 0, .int .i64 0, .slice none 0 0, .int .i64 0, .string ⟨#[]⟩] 179)) (hu.keep X0.keep) he P h
    have H1 : Hid (grT a v = true → laidT u v y = .three 13 (laidT c v y) a x) := fun e => by
      obtain ⟨n, k, hn, hk, hgt⟩ := grT_true e
      rw [he]; exact laid_over hn hk hgt
    have H2 : Hid (grT a v = false → laidT u v y = .three 13 u v y) := fun e => laid_else (by
      rintro ⟨c', a', x', n, k, e', hn, hk, hgt⟩
      rw [he] at e'; cases e'
      exact grT_false e hn hk hgt)
    have HX := Lib.hid X0
    have HU := Lib.hid hu
    have HV := Lib.hid hv
    have HY := Lib.hid hy
    have HP : Hid (∀ t, laidT u v y = t → ∀ ps w', PartsAt Lo w' t ps → Below w.heap.size w w' → Post (.returned (termV t ps)) w') := fun t e => by subst e; exact hp
    have HI := Lib.hid ihc
    have fl := laidT_fine c v y fc fv fy
    have sl := laidT_size c v y
    unfold termV at q1 ⊢
    clear X0 hu hv hy hp ihc iha ihx he
    go_enter Tryz.func222, Tryz.ntmps222
    go_wp2_with fail
    refine q1 _ ?_
    intro pc pa px w1 p1 p2 p3 b1
    obtain ⟨co, cn, cc, rfl⟩ := p1.slice
    obtain ⟨ao, an, ac, rfl⟩ := p2.slice
    obtain ⟨xo, xn, xc, rfl⟩ := p3.slice
    have Y1 := HX.out.next b1
    have X := BoxL.start Y1 c a x (.slice co cn cc) (.slice ao an ac) (.slice xo xn xc)
    have P3 := Lib.hid (And.intro (p1.keep (below_alloc3 w1 (.cells #[.int .i64 (ckind c), .int .i64 (cval c), (.slice co cn cc), .int .i64 c.size, .string (str (showT c))] 179) (.cells #[.int .i64 (ckind a), .int .i64 (cval a), (.slice ao an ac), .int .i64 a.size, .string (str (showT a))] 179) (.cells #[.int .i64 (ckind x), .int .i64 (cval x), (.slice xo xn xc), .int .i64 x.size, .string (str (showT x))] 179))) (And.intro (p2.keep (below_alloc3 w1 (.cells #[.int .i64 (ckind c), .int .i64 (cval c), (.slice co cn cc), .int .i64 c.size, .string (str (showT c))] 179) (.cells #[.int .i64 (ckind a), .int .i64 (cval a), (.slice ao an ac), .int .i64 a.size, .string (str (showT a))] 179) (.cells #[.int .i64 (ckind x), .int .i64 (cval x), (.slice xo xn xc), .int .i64 x.size, .string (str (showT x))] 179))) (p3.keep (below_alloc3 w1 (.cells #[.int .i64 (ckind c), .int .i64 (cval c), (.slice co cn cc), .int .i64 c.size, .string (str (showT c))] 179) (.cells #[.int .i64 (ckind a), .int .i64 (cval a), (.slice ao an ac), .int .i64 a.size, .string (str (showT a))] 179) (.cells #[.int .i64 (ckind x), .int .i64 (cval x), (.slice xo xn xc), .int .i64 x.size, .string (str (showT x))] 179)))))
    have c0 := fun o1 o2 o3 => ((((Y1).rv.alloc o1).alloc o2).alloc o3).cell (i := 0) rfl
    have c1 := fun o1 o2 o3 => ((((Y1).rv.alloc o1).alloc o2).alloc o3).cell (i := 1) rfl
    have c2 := fun o1 o2 o3 => ((((Y1).rv.alloc o1).alloc o2).alloc o3).cell (i := 2) rfl
    have c3 := fun o1 o2 o3 => ((((Y1).rv.alloc o1).alloc o2).alloc o3).cell (i := 3) rfl
    have c4 := fun o1 o2 o3 => ((((Y1).rv.alloc o1).alloc o2).alloc o3).cell (i := 4) rfl
    have q2 := cGreater_any a v (.slice ao an ac) (.slice vo vn vc) fa fv (((w1.alloc (.cells #[.int .i64 (ckind c), .int .i64 (cval c), (.slice co cn cc), .int .i64 c.size, .string (str (showT c))] 179)).alloc (.cells #[.int .i64 (ckind a), .int .i64 (cval a), (.slice ao an ac), .int .i64 a.size, .string (str (showT a))] 179)).alloc (.cells #[.int .i64 (ckind x), .int .i64 (cval x), (.slice xo xn xc), .int .i64 x.size, .string (str (showT x))] 179))
    unfold termV at q2
    clear q1 b1 HX Y1 p1 p2 p3
    go_wp2_with fail
    refine q2.mono ?_
    rintro e w2 ⟨rfl, b2⟩
    have X2 := X.next b2
    have P2 := Lib.hid (And.intro (P3.out.1.keep b2) (And.intro (P3.out.2.1.keep b2) (P3.out.2.2.keep b2)))
    clear q2 X b2 P3 c0 c1 c2 c3 c4
    generalize w1.heap.size + 1 + 1 = E at *
    generalize w1.heap.size + 1 = D at *
    generalize w1.heap.size = C at *
    cases e2 : grT a v with
    | true =>
      have HP' := Lib.hid (HP.out _ (H1.out e2))
      have q4 := fun P => HI.out v y (.slice co cn cc) (.slice vo vn vc) (.slice yo yn yc) w2 P P2.out.1 (HV.out.keep X2.box.keep) (HY.out.keep X2.box.keep) fc fv fy (by have := HS.out; omega)
      unfold termV at q4
      have d0 := X2.rc.cell (i := 0) rfl
      have d1 := X2.rc.cell (i := 1) rfl
      have d2 := X2.rc.cell (i := 2) rfl
      have d3 := X2.rc.cell (i := 3) rfl
      have d4 := X2.rc.cell (i := 4) rfl
      have c0 := X2.box.rv.cell (i := 0) rfl
      have c1 := X2.box.rv.cell (i := 1) rfl
      have c2 := X2.box.rv.cell (i := 2) rfl
      have c3 := X2.box.rv.cell (i := 3) rfl
      have c4 := X2.box.rv.cell (i := 4) rfl
      have k0 := X2.box.rx.cell (i := 0) rfl
      have k1 := X2.box.rx.cell (i := 1) rfl
      have k2 := X2.box.rx.cell (i := 2) rfl
      have k3 := X2.box.rx.cell (i := 3) rfl
      have k4 := X2.box.rx.cell (i := 4) rfl
      clear HP H1 H2 HI e2
      go_wp2_with fail
      refine q4 _ ?_
      intro pt w4 p4 b4
      have Y4 := X2.next b4
      obtain ⟨to, tn, tc, rfl⟩ := p4.slice
      have b5 : Below w4.heap.size w4 (w4.alloc (.cells #[.int .i64 (ckind (laidT c v y)), .int .i64 (cval (laidT c v y)), (.slice to tn tc), .int .i64 (laidT c v y).size, .string (str (showT (laidT c v y)))] 179)) := (Below.refl _ _).alloc (Nat.le_refl _) _
      have X5 := Y4.next b5
      have q5 := fun P => cOfThree_cps (laidT c v y) a x (.slice to tn tc) (.slice ao an ac) (.slice xo xn xc) (w4.alloc (.cells #[.int .i64 (ckind (laidT c v y)), .int .i64 (cval (laidT c v y)), (.slice to tn tc), .int .i64 (laidT c v y).size, .string (str (showT (laidT c v y)))] 179)) (p4.keep b5) ((P2.out.2.1.keep b4).keep b5) ((P2.out.2.2.keep b4).keep b5) fl fa fx (by have := HS.out; omega) (by have := HS.out; omega) (by have := HS.out; omega) P
      unfold termV at q5
      have g0 := fun o => (Y4.ra.alloc o).cell (i := 0) rfl
      have g1 := fun o => (Y4.ra.alloc o).cell (i := 1) rfl
      have g2 := fun o => (Y4.ra.alloc o).cell (i := 2) rfl
      have g3 := fun o => (Y4.ra.alloc o).cell (i := 3) rfl
      have g4 := fun o => (Y4.ra.alloc o).cell (i := 4) rfl
      have h0 := fun o => (Y4.rx.alloc o).cell (i := 0) rfl
      have h1 := fun o => (Y4.rx.alloc o).cell (i := 1) rfl
      have h2 := fun o => (Y4.rx.alloc o).cell (i := 2) rfl
      have h3 := fun o => (Y4.rx.alloc o).cell (i := 3) rfl
      have h4 := fun o => (Y4.rx.alloc o).cell (i := 4) rfl
      clear q4 X2 b4 Y4 b5 P2 p4 c0 c1 c2 c3 c4 d0 d1 d2 d3 d4 k0 k1 k2 k3 k4
      go_wp2_with fail
      refine q5 _ ?_
      intro ps w6 p6 b6
      have X6 := X5.box.next b6
      obtain ⟨so, sn, sc, rfl⟩ := p6.slice
      clear q5 X5 b6 g0 g1 g2 g3 g4 h0 h1 h2 h3 h4
      have y9 := X6.fin p6
      have HF := Lib.hid (HP'.out _ _ y9.1 y9.2)
      unfold termV set5 at HF
      have z0 := X6.rg.cell (i := 0) rfl
      have f0 := X6.rg.frozen 0
      have z1 := X6.rg.cell (i := 1) rfl
      have f1 := X6.rg.frozen 1
      have z2 := X6.rg.cell (i := 2) rfl
      have f2 := X6.rg.frozen 2
      have z3 := X6.rg.cell (i := 3) rfl
      have f3 := X6.rg.frozen 3
      have z4 := X6.rg.cell (i := 4) rfl
      have f4 := X6.rg.frozen 4
      clear y9
      go_wp2
      (try simp only [Exit.inBlock, Exit.then])
      refine bodyPost_ret (v := .agg #[.int .i64 (ckind (TD.three 13 (laidT c v y) a x)), .int .i64 (cval (TD.three 13 (laidT c v y) a x)), (.slice so sn sc), .int .i64 ((TD.three 13 (laidT c v y) a x)).size, .string (str (showT (TD.three 13 (laidT c v y) a x)))]) ?_ rfl ?_
      · simp [results, Tryz.results222, go_sem, z0, z1, z2, z3, z4]
      · exact HF.out
    | false =>
      have HP' := Lib.hid (HP.out _ (H2.out e2))
      have q5 := fun P => cOfThree_cps u v y (.slice uo un uc) (.slice vo vn vc) (.slice yo yn yc) w2 (HU.out.keep X2.box.keep) (HV.out.keep X2.box.keep) (HY.out.keep X2.box.keep) fu fv fy (by omega) (by omega) (by omega) P
      unfold termV at q5
      have d0 := X2.box.ru.cell (i := 0) rfl
      have d1 := X2.box.ru.cell (i := 1) rfl
      have d2 := X2.box.ru.cell (i := 2) rfl
      have d3 := X2.box.ru.cell (i := 3) rfl
      have d4 := X2.box.ru.cell (i := 4) rfl
      have c0 := X2.box.rv.cell (i := 0) rfl
      have c1 := X2.box.rv.cell (i := 1) rfl
      have c2 := X2.box.rv.cell (i := 2) rfl
      have c3 := X2.box.rv.cell (i := 3) rfl
      have c4 := X2.box.rv.cell (i := 4) rfl
      have k0 := X2.box.rx.cell (i := 0) rfl
      have k1 := X2.box.rx.cell (i := 1) rfl
      have k2 := X2.box.rx.cell (i := 2) rfl
      have k3 := X2.box.rx.cell (i := 3) rfl
      have k4 := X2.box.rx.cell (i := 4) rfl
      clear HP H1 H2 HI P2 e2
      go_wp2_with fail
      refine q5 _ ?_
      intro ps w6 p6 b6
      have X6 := X2.box.next b6
      obtain ⟨so, sn, sc, rfl⟩ := p6.slice
      clear q5 X2 b6 c0 c1 c2 c3 c4 d0 d1 d2 d3 d4 k0 k1 k2 k3 k4
      have y9 := X6.fin p6
      have HF := Lib.hid (HP'.out _ _ y9.1 y9.2)
      unfold termV set5 at HF
      have z0 := X6.rg.cell (i := 0) rfl
      have f0 := X6.rg.frozen 0
      have z1 := X6.rg.cell (i := 1) rfl
      have f1 := X6.rg.frozen 1
      have z2 := X6.rg.cell (i := 2) rfl
      have f2 := X6.rg.frozen 2
      have z3 := X6.rg.cell (i := 3) rfl
      have f3 := X6.rg.frozen 3
      have z4 := X6.rg.cell (i := 4) rfl
      have f4 := X6.rg.frozen 4
      clear y9
      go_wp2
      (try simp only [Exit.inBlock, Exit.then])
      refine bodyPost_ret (v := .agg #[.int .i64 (ckind (TD.three 13 u v y)), .int .i64 (cval (TD.three 13 u v y)), (.slice so sn sc), .int .i64 ((TD.three 13 u v y)).size, .string (str (showT (TD.three 13 u v y)))]) ?_ rfl ?_
      · simp [results, Tryz.results222, go_sem, z0, z1, z2, z3, z4]
      · exact HF.out


set_option maxRecDepth 100000 in
set_option maxHeartbeats 4000000 in
theorem cWritten_cps {Lo : Nat} (u v y : TD) (pu pv py : Value) (w : World) (hu : PartsAt Lo w u pu) (hv : PartsAt Lo w v pv) (hy : PartsAt Lo w y py) (fu : u.fine) (fv : v.fine) (fy : y.fine) (su : u.size + v.size + y.size ≤ 100000000) (Post : Ending → World → Prop)
    (hp : ∀ ps w', PartsAt Lo w' (writtenT u v y) ps → Below w.heap.size w w' → Post (.returned (termV (writtenT u v y) ps)) w') :
    Calls Tryz.prog 212 #[termV u pu, termV v pv, termV y py] w Post := by
  obtain ⟨uo, un, uc, rfl⟩ := hu.slice
  obtain ⟨vo, vn, vc, rfl⟩ := hv.slice
  obtain ⟨yo, yn, yc, rfl⟩ := hy.slice
  have X0 := Box3.start w u v y (.slice uo un uc) (.slice vo vn vc) (.slice yo yn yc)
  have hw1 : readT u v = y → writtenT u v y = u := fun e => by unfold writtenT; rw [if_pos e]
  have hw2 : readT u v ≠ y → writtenT u v y = laidT (leftT u v) v y := fun e => by unfold writtenT; rw [if_neg e]
  have HW := Lib.hid (And.intro hw1 hw2)
  have fr := readT_fine u v fu fv
  have fl := leftT_fine u v fu
  have sl := leftT_size u v
  have q1 := fun P h => cRead_cps u v (.slice uo un uc) (.slice vo vn vc) ((((w.alloc (.cells #[.int .i64 (ckind u), .int .i64 (cval u), (.slice uo un uc), .int .i64 u.size, .string (str (showT u))] 179)).alloc (.cells #[.int .i64 (ckind v), .int .i64 (cval v), (.slice vo vn vc), .int .i64 v.size, .string (str (showT v))] 179)).alloc (.cells #[.int .i64 (ckind y), .int .i64 (cval y), (.slice yo yn yc), .int .i64 y.size, .string (str (showT y))] 179)).alloc (.cells #[.int .i64 0, .int .i64 0, .slice none 0 0, .int .i64 0, .string ⟨#[]⟩] 179)) P (hu.keep X0.keep) (hv.keep X0.keep) fu fv (by omega) (by omega) h
  have HX := Lib.hid X0
  have HU := Lib.hid hu
  have HV := Lib.hid hv
  have HY := Lib.hid hy
  have HP : Hid (∀ t, writtenT u v y = t → ∀ ps w', PartsAt Lo w' t ps → Below w.heap.size w w' → Post (.returned (termV t ps)) w') := fun t e => by subst e; exact hp
  unfold termV at q1 ⊢
  clear X0 hu hv hy hp hw1 hw2
  go_enter Tryz.func212, Tryz.ntmps212
  go_wp2_with fail
  refine q1 _ ?_
  intro pr w1 p1 b1
  obtain ⟨ro, rn, rc, rfl⟩ := p1.slice
  have Y1 := HX.out.next b1
  have X := Y1.next ((Below.refl w1.heap.size w1).alloc (Nat.le_refl _) (.cells #[.int .i64 (ckind (readT u v)), .int .i64 (cval (readT u v)), (.slice ro rn rc), .int .i64 (readT u v).size, .string (str (showT (readT u v)))] 179))
  have q2 := cSame_any (readT u v) y (.slice ro rn rc) (.slice yo yn yc) fr fy (w1.alloc (.cells #[.int .i64 (ckind (readT u v)), .int .i64 (cval (readT u v)), (.slice ro rn rc), .int .i64 (readT u v).size, .string (str (showT (readT u v)))] 179))
  unfold termV at q2
  have d0 := fun o => (Y1.rx.alloc o).cell (i := 0) rfl
  have d1 := fun o => (Y1.rx.alloc o).cell (i := 1) rfl
  have d2 := fun o => (Y1.rx.alloc o).cell (i := 2) rfl
  have d3 := fun o => (Y1.rx.alloc o).cell (i := 3) rfl
  have d4 := fun o => (Y1.rx.alloc o).cell (i := 4) rfl
  clear q1 b1 HX Y1 p1
  go_wp2_with fail
  refine q2.mono ?_
  rintro e w2 ⟨rfl, b2⟩
  have X2 := X.next b2
  clear q2 X b2 d0 d1 d2 d3 d4
  by_cases e1 : readT u v = y
  · rw [(sameT_iff _ _).2 e1]
    have HP' := Lib.hid (HP.out _ (HW.out.1 e1))
    clear e1 HP HW
    have d0 := X2.ru.cell (i := 0) rfl
    have d1 := X2.ru.cell (i := 1) rfl
    have d2 := X2.ru.cell (i := 2) rfl
    have d3 := X2.ru.cell (i := 3) rfl
    have d4 := X2.ru.cell (i := 4) rfl
    have y9 := X2.fin (HU.out.keep X2.keep)
    have HF := Lib.hid (HP'.out _ _ y9.1 y9.2)
    unfold termV set5 at HF
    have z0 := X2.rg.cell (i := 0) rfl
    have f0 := X2.rg.frozen 0
    have z1 := X2.rg.cell (i := 1) rfl
    have f1 := X2.rg.frozen 1
    have z2 := X2.rg.cell (i := 2) rfl
    have f2 := X2.rg.frozen 2
    have z3 := X2.rg.cell (i := 3) rfl
    have f3 := X2.rg.frozen 3
    have z4 := X2.rg.cell (i := 4) rfl
    have f4 := X2.rg.frozen 4
    clear y9
    go_wp2
    (try simp only [Exit.inBlock, Exit.then])
    refine bodyPost_ret (v := .agg #[.int .i64 (ckind u), .int .i64 (cval u), (.slice uo un uc), .int .i64 (u).size, .string (str (showT u))]) ?_ rfl ?_
    · simp [results, Tryz.results212, go_sem, z0, z1, z2, z3, z4]
    · exact HF.out
  · rw [sameT_ne e1]
    have HP' := Lib.hid (HP.out _ (HW.out.2 e1))
    have q3 := fun P h => cWithout_cps u v (.slice uo un uc) (.slice vo vn vc) w2 P (HU.out.keep X2.keep) (HV.out.keep X2.keep) fu fv (by omega) h
    unfold termV at q3
    have d0 := X2.ru.cell (i := 0) rfl
    have d1 := X2.ru.cell (i := 1) rfl
    have d2 := X2.ru.cell (i := 2) rfl
    have d3 := X2.ru.cell (i := 3) rfl
    have d4 := X2.ru.cell (i := 4) rfl
    have c0 := X2.rv.cell (i := 0) rfl
    have c1 := X2.rv.cell (i := 1) rfl
    have c2 := X2.rv.cell (i := 2) rfl
    have c3 := X2.rv.cell (i := 3) rfl
    have c4 := X2.rv.cell (i := 4) rfl
    clear e1 HP HW
    go_wp2_with fail
    refine q3 _ ?_
    intro pl w3 p3 b3
    obtain ⟨lo, ln, lc, rfl⟩ := p3.slice
    have Y3 := X2.next b3
    have b4 : Below w3.heap.size w3 (w3.alloc (.cells #[.int .i64 (ckind (leftT u v)), .int .i64 (cval (leftT u v)), (.slice lo ln lc), .int .i64 (leftT u v).size, .string (str (showT (leftT u v)))] 179)) := (Below.refl _ _).alloc (Nat.le_refl _) _
    have X4 := Y3.next b4
    have q4 := fun P h => cLaid_cps (leftT u v) v y (.slice lo ln lc) (.slice vo vn vc) (.slice yo yn yc) (w3.alloc (.cells #[.int .i64 (ckind (leftT u v)), .int .i64 (cval (leftT u v)), (.slice lo ln lc), .int .i64 (leftT u v).size, .string (str (showT (leftT u v)))] 179)) P (p3.keep b4) (HV.out.keep X4.keep) (HY.out.keep X4.keep) fl fv fy (by omega) h
    unfold termV at q4
    have g0 := fun o => (Y3.rv.alloc o).cell (i := 0) rfl
    have g1 := fun o => (Y3.rv.alloc o).cell (i := 1) rfl
    have g2 := fun o => (Y3.rv.alloc o).cell (i := 2) rfl
    have g3 := fun o => (Y3.rv.alloc o).cell (i := 3) rfl
    have g4 := fun o => (Y3.rv.alloc o).cell (i := 4) rfl
    have h0 := fun o => (Y3.rx.alloc o).cell (i := 0) rfl
    have h1 := fun o => (Y3.rx.alloc o).cell (i := 1) rfl
    have h2 := fun o => (Y3.rx.alloc o).cell (i := 2) rfl
    have h3 := fun o => (Y3.rx.alloc o).cell (i := 3) rfl
    have h4 := fun o => (Y3.rx.alloc o).cell (i := 4) rfl
    clear q3 b3 b4 Y3 X2 p3 c0 c1 c2 c3 c4 d0 d1 d2 d3 d4
    go_wp2_with fail
    refine q4 _ ?_
    intro ps w6 p6 b6
    have X6 := X4.next b6
    obtain ⟨so, sn, sc, rfl⟩ := p6.slice
    clear q4 X4 b6 g0 g1 g2 g3 g4 h0 h1 h2 h3 h4
    have y9 := X6.fin p6
    have HF := Lib.hid (HP'.out _ _ y9.1 y9.2)
    unfold termV set5 at HF
    have z0 := X6.rg.cell (i := 0) rfl
    have f0 := X6.rg.frozen 0
    have z1 := X6.rg.cell (i := 1) rfl
    have f1 := X6.rg.frozen 1
    have z2 := X6.rg.cell (i := 2) rfl
    have f2 := X6.rg.frozen 2
    have z3 := X6.rg.cell (i := 3) rfl
    have f3 := X6.rg.frozen 3
    have z4 := X6.rg.cell (i := 4) rfl
    have f4 := X6.rg.frozen 4
    clear y9
    go_wp2
    (try simp only [Exit.inBlock, Exit.then])
    refine bodyPost_ret (v := .agg #[.int .i64 (ckind (laidT (leftT u v) v y)), .int .i64 (cval (laidT (leftT u v) v y)), (.slice so sn sc), .int .i64 ((laidT (leftT u v) v y)).size, .string (str (showT (laidT (leftT u v) v y)))]) ?_ rfl ?_
    · simp [results, Tryz.results212, go_sem, z0, z1, z2, z3, z4]
    · exact HF.out

end Go.Proofs.YtblhmeidbjigaabGreatDoor

/- The code's state of a block in memory: its terms, its marks; stores into it. -/
set_option linter.unusedSimpArgs false
set_option linter.unusedVariables false
namespace Go.Proofs.YtblhmeidbjigaabGreatDoor
open Go.RowKit

/-- All stays but the state's own blocks: what lies below B, and from Lo on every block that holds no texts. -/
structure Mv (B Lo : Nat) (w w' : World) : Prop where
  low : Below B w w'
  size : w.heap.size ≤ w'.heap.size
  row : ∀ g ty xs, Lo ≤ g → ty ≠ 9 → Row w g ty xs → Row w' g ty xs

theorem Mv.refl (B Lo : Nat) (w : World) : Mv B Lo w w := ⟨Below.refl _ _, Nat.le_refl _, fun _ _ _ _ _ r => r⟩

theorem Mv.trans {B Lo : Nat} {w a b : World} (h : Mv B Lo w a) (h2 : Mv B Lo a b) : Mv B Lo w b :=
  ⟨h.low.trans h2.low, Nat.le_trans h.size h2.size, fun g ty xs hg ht r => h2.row g ty xs hg ht (h.row g ty xs hg ht r)⟩

theorem Mv.of {B Lo : Nat} {w w' : World} (hb : Below w.heap.size w w') (hB : B ≤ w.heap.size) : Mv B Lo w w' := ⟨hb.mono hB, hb.size, fun _ _ _ _ _ r => r.keep hb⟩

theorem Mv.set {B Lo : Nat} {w a : World} (h : Mv B Lo w a) {g : Nat} (hB : B ≤ g) (hL : g < Lo) (i : Nat) (u : Value) : Mv B Lo w (a.setCell ⟨g, i, none⟩ u) :=
  ⟨⟨h.low.os, h.low.tape, h.low.output, by simpa using h.low.size, fun k hk => (Below.heap_setCell _ _ _ _ (by show k ≠ g; omega)).trans (h.low.block k hk)⟩, by simpa using h.size,
    fun g' ty xs hg ht r => (h.row g' ty xs hg ht r).unset (by show g' ≠ g; omega) u⟩

theorem PartsAt.mv {B Lo : Nat} {w w' : World} {t : TD} {ps : Value} (h : PartsAt Lo w t ps) (hm : Mv B Lo w w') : PartsAt Lo w' t ps := by
  induction t generalizing ps with
  | leaf k n => exact ⟨h.1, Nat.le_trans h.2 hm.size⟩
  | two k a b iha ihb => obtain ⟨g, pa, pb, e, lg, r, h1, h2⟩ := h; exact ⟨g, pa, pb, e, lg, hm.row _ _ _ lg (by decide) r, iha h1, ihb h2⟩
  | three k a b c iha ihb ihc => obtain ⟨g, pa, pb, pc, e, lg, r, h1, h2, h3⟩ := h; exact ⟨g, pa, pb, pc, e, lg, hm.row _ _ _ lg (by decide) r, iha h1, ihb h2, ihc h3⟩

/-- Terms side by side in a block. -/
def PlAt (w : World) (P n : Nat) (f : Nat → TD) (ps : Nat → Value) : Prop :=
  ∃ xs, Row w P 179 xs ∧ n * 5 ≤ xs.length ∧ ∀ i, i < n → ∀ j u, (tcells (f i) (ps i))[j]? = some u → xs[i * 5 + j]? = some u

theorem PlAt.keep {w w' : World} {P n : Nat} {f : Nat → TD} {ps : Nat → Value} (h : PlAt w P n f ps) (hb : Below w.heap.size w w') : PlAt w' P n f ps :=
  let ⟨xs, r, hl, hc⟩ := h
  ⟨xs, r.keep hb, hl, hc⟩

theorem PlAt.cell {w : World} {P n : Nat} {f : Nat → TD} {ps : Nat → Value} (h : PlAt w P n f ps) {i : Nat} (hi : i < n) {j : Nat} {u : Value} (hj : (tcells (f i) (ps i))[j]? = some u) : w.cell? ⟨P, i * 5 + j, none⟩ = some u :=
  let ⟨xs, r, hl, hc⟩ := h
  r.cell (hc i hi j u hj)

theorem PlAt.frozen {w : World} {P n : Nat} {f : Nat → TD} {ps : Nat → Value} (h : PlAt w P n f ps) (i : Nat) : w.frozen? ⟨P, i, none⟩ = false :=
  let ⟨xs, r, hl, hc⟩ := h
  r.frozen i

/-- Five cells of a block are set, from o on. -/
def put5 (w : World) (g o : Nat) (a b c d e : Value) : World :=
  ((((w.setCell ⟨g, o, none⟩ a).setCell ⟨g, o + 1, none⟩ b).setCell ⟨g, o + 2, none⟩ c).setCell ⟨g, o + 3, none⟩ d).setCell ⟨g, o + 4, none⟩ e

def upT (f : Nat → TD) (i : Nat) (t : TD) : Nat → TD := fun k => if k = i then t else f k
def upV (f : Nat → Value) (i : Nat) (t : Value) : Nat → Value := fun k => if k = i then t else f k

/-- A term is laid into a block. -/
def putT (w : World) (g o : Nat) (t : TD) (p : Value) : World := put5 w g o (.int .i64 (ckind t)) (.int .i64 (cval t)) p (.int .i64 t.size) (.string (str (showT t)))

theorem PlAt.put {w : World} {P n : Nat} {f : Nat → TD} {ps : Nat → Value} (h : PlAt w P n f ps) {i : Nat} (hi : i < n) (t : TD) (p : Value) : PlAt (putT w P (i * 5) t p) P n (upT f i t) (upV ps i p) := by
  obtain ⟨xs, r, hl, hc⟩ := h
  refine ⟨_, ((((r.set (i * 5) _).set (i * 5 + 1) _).set (i * 5 + 2) _).set (i * 5 + 3) _).set (i * 5 + 4) _, by simpa using hl, ?_⟩
  intro k hk j u hu
  have hj : j < 5 := by
    have := (List.getElem?_eq_some_iff.1 hu).1
    simpa [tcells] using this
  by_cases e : k = i
  · subst e
    simp only [upT, upV, if_true] at hu
    have h5 : j = 0 ∨ j = 1 ∨ j = 2 ∨ j = 3 ∨ j = 4 := by omega
    have hb : k * 5 + 5 ≤ xs.length := by omega
    rcases h5 with rfl | rfl | rfl | rfl | rfl <;> simp only [tcells, List.getElem?_cons_zero, List.getElem?_cons_succ] at hu <;> simp only [List.getElem?_set, List.length_set] <;>
      simp [hu, show k * 5 + 0 < xs.length by omega, show k * 5 < xs.length by omega, show k * 5 + 1 < xs.length by omega, show k * 5 + 2 < xs.length by omega, show k * 5 + 3 < xs.length by omega, show k * 5 + 4 < xs.length by omega]
  · have h0 := hc k hk j u (by simpa [upT, upV, e] using hu)
    simp only [List.getElem?_set]
    rw [if_neg (by omega), if_neg (by omega), if_neg (by omega), if_neg (by omega), if_neg (by omega)]
    exact h0

theorem PlAt.off {w : World} {P n : Nat} {f : Nat → TD} {ps : Nat → Value} (h : PlAt w P n f ps) {g : Nat} (hg : P ≠ g) (i : Nat) (u : Value) : PlAt (w.setCell ⟨g, i, none⟩ u) P n f ps :=
  let ⟨xs, r, hl, hc⟩ := h
  ⟨xs, r.unset (a := ⟨g, i, none⟩) hg u, hl, hc⟩

theorem row_owns_any {w : World} {H : Nat} {t e : TypeId} {xs ys : List Value} {v : Value} {B sz n : Nat} (hr : Row w H t xs) (h : w.ownsRow B e sz v n ys) (ht : t ≠ e) : v.ownBlock ≠ some H := by
  intro q
  rcases h.2 with ⟨rfl, _⟩ | ⟨k, cap, cur, rfl, _, hh, _⟩
  · simp [Value.ownBlock] at q
  · simp only [Value.ownBlock, Option.some.injEq] at q
    subst q
    unfold Row at hr
    rw [hr] at hh
    simp only [Option.some.injEq, Obj.cells.injEq] at hh
    exact ht hh.2.1

/-- What a state leads to: P its places' block. -/
structure StB (B Lo : Nat) (w : World) (P n : Nat) (f : Nat → TD) (ps : Nat → Value) (c : TD) (pc : Value) (ms : List (List UInt8)) (mv : Value) : Prop where
  pl : PlAt w P n f ps
  parts : ∀ i, i < n → PartsAt Lo w (f i) (ps i)
  pc : PartsAt Lo w c pc
  mrk : w.ownsRow Lo 9 1 mv ms.length (texts ms)
  hP : B ≤ P
  hP' : P < Lo

/-- A state: M its own block. -/
structure StU (B Lo : Nat) (w : World) (M P cap n : Nat) (f : Nat → TD) (ps : Nat → Value) (c : TD) (pc : Value) (ms : List (List UInt8)) (mv : Value) (big : Bool) (regs data : Int) : Prop where
  row : Row w M 181 [.slice (some ⟨P, 0, none⟩) n cap, .int .i64 (ckind c), .int .i64 (cval c), pc, .int .i64 c.size, .string (str (showT c)), mv, .bool big, .int .i64 regs, .int .i64 data]
  b : StB B Lo w P n f ps c pc ms mv
  hM : B ≤ M
  hM' : M < Lo
  ne : P ≠ M

def StAt (B Lo : Nat) (w : World) (M P cap n : Nat) (f : Nat → TD) (c : TD) (ms : List (List UInt8)) (big : Bool) (regs data : Int) : Prop :=
  ∃ ps pc mv, StU B Lo w M P cap n f ps c pc ms mv big regs data

section
variable {B Lo : Nat} {w w' : World} {M P cap n : Nat} {f : Nat → TD} {ps : Nat → Value} {c : TD} {pc : Value} {ms : List (List UInt8)} {mv : Value} {big : Bool} {regs data : Int}

theorem StU.at (h : StU B Lo w M P cap n f ps c pc ms mv big regs data) : StAt B Lo w M P cap n f c ms big regs data := ⟨_, _, _, h⟩

theorem StB.le (h : StB B Lo w P n f ps c pc ms mv) : B ≤ w.heap.size := by
  have := h.pc.lo; have := h.hP; have := h.hP'; omega

theorem StU.le (h : StU B Lo w M P cap n f ps c pc ms mv big regs data) : B ≤ w.heap.size := h.b.le

theorem StB.next (h : StB B Lo w P n f ps c pc ms mv) (hb : Below w.heap.size w w') : StB B Lo w' P n f ps c pc ms mv :=
  ⟨h.pl.keep hb, fun i hi => (h.parts i hi).keep hb, h.pc.keep hb, owns_below h.mrk hb (Nat.le_refl _), h.hP, h.hP'⟩

theorem StU.next (h : StU B Lo w M P cap n f ps c pc ms mv big regs data) (hb : Below w.heap.size w w') : StU B Lo w' M P cap n f ps c pc ms mv big regs data :=
  ⟨h.row.keep hb, h.b.next hb, h.hM, h.hM', h.ne⟩

theorem StAt.next (h : StAt B Lo w M P cap n f c ms big regs data) (hb : Below w.heap.size w w') : StAt B Lo w' M P cap n f c ms big regs data :=
  let ⟨_, _, _, u⟩ := h
  ⟨_, _, _, u.next hb⟩

theorem StB.congr (h : StB B Lo w P n f ps c pc ms mv) {g : Nat → TD} (hg : ∀ i, i < n → f i = g i) : StB B Lo w P n g ps c pc ms mv :=
  let ⟨xs, r, hl, hc⟩ := h.pl
  ⟨⟨xs, r, hl, fun i hi j u hj => hc i hi j u (by rw [hg i hi]; exact hj)⟩, fun i hi => by rw [← hg i hi]; exact h.parts i hi, h.pc, h.mrk, h.hP, h.hP'⟩

theorem StAt.congr (h : StAt B Lo w M P cap n f c ms big regs data) {g : Nat → TD} {c' : TD} {ms' : List (List UInt8)} {big' : Bool} (hg : ∀ i, i < n → f i = g i) (hc : c = c') (hm : ms = ms') (hb : big = big') : StAt B Lo w M P cap n g c' ms' big' regs data := by
  subst hc; subst hm; subst hb
  obtain ⟨ps, pc, mv, u⟩ := h
  exact ⟨ps, pc, mv, u.row, u.b.congr hg, u.hM, u.hM', u.ne⟩

theorem StB.mkne (h : StB B Lo w P n f ps c pc ms mv) {g : Nat} (hg : g < Lo) : mv.ownBlock ≠ some g := by
  intro e
  have := (h.mrk.lt g e).1
  omega

theorem PartsAt.putT {Lo : Nat} {w : World} {t : TD} {ps : Value} (h : PartsAt Lo w t ps) {g : Nat} (hg : g < Lo) (o : Nat) (t' : TD) (p : Value) : PartsAt Lo (putT w g o t' p) t ps :=
  ((((h.under hg _ _).under hg _ _).under hg _ _).under hg _ _).under hg _ _

/-- A term is laid into a place. -/
theorem StU.place (h : StU B Lo w M P cap n f ps c pc ms mv big regs data) {i : Nat} (hi : i < n) {t : TD} {p : Value} (hp : PartsAt Lo w t p) :
    StU B Lo (putT w P (i * 5) t p) M P cap n (upT f i t) (upV ps i p) c pc ms mv big regs data := by
  refine ⟨?_, ⟨h.b.pl.put hi t p, ?_, h.b.pc.putT h.b.hP' _ _ _, ?_, h.b.hP, h.b.hP'⟩, h.hM, h.hM', h.ne⟩
  · exact ((((h.row.unset (a := ⟨P, _, none⟩) (Ne.symm h.ne) _).unset (a := ⟨P, _, none⟩) (Ne.symm h.ne) _).unset (a := ⟨P, _, none⟩) (Ne.symm h.ne) _).unset (a := ⟨P, _, none⟩) (Ne.symm h.ne) _).unset (a := ⟨P, _, none⟩) (Ne.symm h.ne) _
  · intro k hk
    by_cases e : k = i
    · simp only [upT, upV, e, if_true]; exact hp.putT h.b.hP' _ _ _
    · simp only [upT, upV, e, if_false]; exact (h.b.parts k hk).putT h.b.hP' _ _ _
  · have q := h.b.mkne h.b.hP'
    exact owns_unset (owns_unset (owns_unset (owns_unset (owns_unset h.b.mrk q _) q _) q _) q _) q _

/-- The cells' term is laid. -/
theorem StU.cells (h : StU B Lo w M P cap n f ps c pc ms mv big regs data) {t : TD} {p : Value} (hp : PartsAt Lo w t p) :
    StU B Lo (putT w M 1 t p) M P cap n f ps t p ms mv big regs data := by
  refine ⟨((((h.row.set 1 _).set 2 _).set 3 _).set 4 _).set 5 _, ⟨((((h.b.pl.off h.ne _ _).off h.ne _ _).off h.ne _ _).off h.ne _ _).off h.ne _ _, fun i hi => (h.b.parts i hi).putT h.hM' _ _ _, hp.putT h.hM' _ _ _, ?_, h.b.hP, h.b.hP'⟩, h.hM, h.hM', h.ne⟩
  have q := h.b.mkne h.hM'
  exact owns_unset (owns_unset (owns_unset (owns_unset (owns_unset h.b.mrk q _) q _) q _) q _) q _

/-- Big is set. -/
theorem StU.flag (h : StU B Lo w M P cap n f ps c pc ms mv big regs data) (b : Bool) : StU B Lo (w.setCell ⟨M, 7, none⟩ (.bool b)) M P cap n f ps c pc ms mv b regs data :=
  ⟨h.row.set 7 _, ⟨h.b.pl.off h.ne _ _, fun i hi => (h.b.parts i hi).under h.hM' _ _, h.b.pc.under h.hM' _ _, owns_unset h.b.mrk (h.b.mkne h.hM') _, h.b.hP, h.b.hP'⟩, h.hM, h.hM', h.ne⟩

/-- A longer list of marks is set. -/
theorem StU.marks (h : StU B Lo w M P cap n f ps c pc ms mv big regs data) {ms' : List (List UInt8)} {mv' : Value} (hm : w'.ownsRow Lo 9 1 mv' ms'.length (texts ms')) (hg : w.grownBy w' mv.ownBlock) :
    StU B Lo (w'.setCell ⟨M, 6, none⟩ mv') M P cap n f ps c pc ms' mv' big regs data ∧ Mv B Lo w (w'.setCell ⟨M, 6, none⟩ mv') := by
  have hm0 : Mv B Lo w w' := by
    refine ⟨⟨hg.os, hg.tape, hg.output, hg.size, fun k hk => hg.block k (Nat.lt_of_lt_of_le hk h.le) (fun e => ?_)⟩, hg.size, fun g ty xs hl ht r => r.grown hg (fun e => ?_)⟩
    · have := h.b.mkne (g := k) (by have := h.hM; have := h.hM'; omega)
      exact this e.symm
    · exact row_owns_any r h.b.mrk ht e
  have h1 : Row w' M 181 _ := h.row.grown hg (h.b.mkne h.hM')
  have h2 : PlAt w' P n f ps := let ⟨xs, r, hl, hc⟩ := h.b.pl; ⟨xs, r.grown hg (h.b.mkne h.b.hP'), hl, hc⟩
  have q : mv'.ownBlock ≠ some M := fun e => by have := (hm.lt M e).1; have := h.hM'; omega
  exact ⟨⟨h1.set 6 _, ⟨h2.off h.ne _ _, fun i hi => ((h.b.parts i hi).mv hm0).under h.hM' _ _, (h.b.pc.mv hm0).under h.hM' _ _, owns_unset hm q _, h.b.hP, h.b.hP'⟩, h.hM, h.hM', h.ne⟩, hm0.set h.hM h.hM' _ _⟩

theorem Mv.putT {w a : World} (h : Mv B Lo w a) {g : Nat} (hB : B ≤ g) (hL : g < Lo) (o : Nat) (t : TD) (p : Value) : Mv B Lo w (putT a g o t p) :=
  ((((h.set hB hL _ _).set hB hL _ _).set hB hL _ _).set hB hL _ _).set hB hL _ _
end

end Go.Proofs.YtblhmeidbjigaabGreatDoor

/- A block's marks, step by step, as the code lays them; pure. -/
set_option linter.unusedSimpArgs false
set_option linter.unusedVariables false
noncomputable section
namespace Go.Proofs.YtblhmeidbjigaabGreatDoor
open Go.RowKit Classical

/-- The mark of a Load or Store at u; []: none is needed. -/
def cellText (data : Int) (u : TD) : List UInt8 :=
  match u.isNum with
  | some n => if 0 ≤ n ∧ n < data then [] else 64 :: 32 :: showT u
  | none => 64 :: 32 :: showT u

/-- The mark of a Div of u by v. -/
def divText (u v : TD) : List UInt8 :=
  match u.isNum, v.isNum with
  | some _, some y => if y ≠ 0 then [] else 47 :: 32 :: (showT u ++ 32 :: showT v)
  | _, _ => 47 :: 32 :: (showT u ++ 32 :: showT v)

def opMarkT (data : Int) (was : Int → TD) (o : OpD) : List UInt8 :=
  if o.kind = 11 then divText (was o.b) (was o.c) else if o.kind = 12 then cellText data (was o.b) else if o.kind = 13 then cellText data (was o.a) else []

def laidMark (ms : List (List UInt8)) (s : List UInt8) : List (List UInt8) := if s ≠ [] ∧ s ∉ ms then ms ++ [s] else ms

theorem laid_nil (ms : List (List UInt8)) : laidMark ms [] = ms := by simp [laidMark]
theorem laid_in {ms : List (List UInt8)} {s : List UInt8} (h : s ∈ ms) : laidMark ms s = ms := by simp [laidMark, h]
theorem laid_new {ms : List (List UInt8)} {s : List UInt8} (hn : s ≠ []) (h : s ∉ ms) : laidMark ms s = ms ++ [s] := by simp [laidMark, h, hn]
theorem marks_step (regs slots data : Int) (names : List Int) (ops : List OpD) (k : Nat) :
    marksT regs slots data names ops (k + 1) = laidMark (marksT regs slots data names ops k) (opMarkT data (behindT regs slots names ops k) (ops.getD k oz)) := by
  have e : markT regs slots data names ops k = opMarkT data (behindT regs slots names ops k) (ops.getD k oz) := by
    unfold markT opMarkT
    by_cases h1 : (ops.getD k oz).kind = 11
    · simp only [h1, if_true]; rfl
    · by_cases h2 : (ops.getD k oz).kind = 12
      · simp only [h2, if_true, if_neg (show ¬ ((12 : Int) = 11) by omega), true_or]; rfl
      · by_cases h3 : (ops.getD k oz).kind = 13
        · simp only [h3, if_true, if_neg (show ¬ ((13 : Int) = 11) by omega), if_neg (show ¬ ((13 : Int) = 12) by omega), or_true]; rfl
        · simp only [h1, h2, h3, if_false, or_self]
  show (if markT regs slots data names ops k ≠ [] ∧ markT regs slots data names ops k ∉ marksT regs slots data names ops k then _ else _) = _
  rw [e]
  rfl

end Go.Proofs.YtblhmeidbjigaabGreatDoor

/- The code's marks: mark, markCell, markDiv. -/
set_option linter.unusedSimpArgs false
set_option linter.unusedVariables false
namespace Go.Proofs.YtblhmeidbjigaabGreatDoor
open Go.RowKit

set_option maxRecDepth 100000 in
set_option maxHeartbeats 2000000 in
theorem cMark_cps {B Lo : Nat} {w : World} {M P cap n : Nat} {f : Nat → TD} {c : TD} {ms : List (List UInt8)} {big : Bool} {regs data : Int} (h : StAt B Lo w M P cap n f c ms big regs data) (t : List UInt8) (ht : t ≠ []) (hl : ms.length ≤ 1000) (Post : Ending → World → Prop)
    (hp : ∀ w', StAt B Lo w' M P cap n f c (laidMark ms t) big regs data → Mv B Lo w w' → Post (.returned (.tuple #[])) w') :
    Calls Tryz.prog 216 #[.pointer (some ⟨M, 0, none⟩), .string (str t)] w Post := by
  obtain ⟨ps, pc, mv, U⟩ := h
  obtain ⟨i0, ii, iz0, iz1, iz2⟩ := info_parts Tryz.infoStr
  obtain ⟨mo, mc, rfl⟩ := owns_slice U.b.mrk
  obtain ⟨ao, cp, e0, hll, hc⟩ := texts_rd U.b.mrk
  simp only [Value.slice.injEq, true_and] at e0
  obtain ⟨rfl, rfl⟩ := e0
  have m6 := U.row.cell (i := 6) rfl
  have hal := (Below.refl w.heap.size w).alloc (Nat.le_refl _) (.cells #[.string (str t)] 9)
  have U0 := U.next hal
  have m6' := U0.row.cell (i := 6) rfl
  have HU := Lib.hid U
  have HU0 := Lib.hid U0
  have HP := Lib.hid hp
  have HT := Lib.hid ht
  have hlo : Lo ≤ w.heap.size := U.b.pc.lo
  have HO := Lib.hid U0.b.mrk
  clear hp U U0 ht hal
  go_enter Tryz.func216, Tryz.ntmps216
  go_wp2
  go_loopw [4] (fun i wr => wr = w ∧ ∃ (k : Nat), k ≤ ms.length ∧ i = .int .i64 k ∧ Hid (∀ j, j < k → ms.getD j [] ≠ t))
    (fun i _ => ms.length - (intOf i).toNat)
  case atStart => exact ⟨rfl, 0, Nat.zero_le _, rfl, fun j hj => by omega⟩
  case round =>
    obtain ⟨rfl, k, hk, rfl, hno⟩ := hrel
    by_cases hlt : k < ms.length
    · obtain ⟨b, off, rfl, h1⟩ := hc k hlt
      have hki : (0 : Int) ≤ (k : Int) := by omega
      have hkj : (k : Int) < (ms.length : Int) := by omega
      by_cases he : ms.getD k [] = t
      · have h2 := (str_eq (ms.getD k []) t).2 he
        have hm : t ∈ ms := by rw [← he]; exact getD_mem' hlt
        have HF := Lib.hid (HP.out _ (by rw [laid_in hm]; exact HU.out.at) (Mv.refl _ _ _))
        have HE := Lib.hid he
        clear hno he hm HP HU HU0 HO
        generalize ms.getD k [] = x at *
        go_wp2
        go_end0
        exact HF.out
      · have h2 := str_ne he
        have hno2 : Hid (∀ j, j < k + 1 → ms.getD j [] ≠ t) := fun j hj => by
          by_cases e : j = k
          · subst e; exact he
          · exact hno.out j (by omega)
        clear hno he
        generalize ms.getD k [] = x at *
        go_wp2
        go_roundw
        case rel => exact ⟨by first | rfl | trivial, k + 1, by omega, by go_num, hno2⟩
        case measure => simp [intOf]; omega
    · obtain rfl : k = ms.length := by omega
      have hm : t ∉ ms := by
        intro hm
        obtain ⟨j, hj, e⟩ := List.getElem_of_mem hm
        exact hno.out j hj (by simp [List.getD, hj, e])
      have HQ := Lib.hid (fun w' => HP.out w')
      rw [laid_new HT.out hm] at HQ
      clear hno hc HP hm
      go_wp2_with (at_builtin; refine wpList_append_own _ rfl _ _ 105 rfl Lo 9 i0 (.string ⟨#[]⟩) 1 16 Tryz.underlying105 ii iz0 iz1 iz2 rfl (by decide) _ _ _ rfl HO.out ⟨wr.heap.size, 0, none⟩ 1 1 [.string (str t)] rfl rfl ?c1 (tx_one _) ?c3 ?c4 ?c5 ?_)
      case c1 => exact tx_new wr _ _
      case c3 => unfold maxLen; omega
      case c4 => omega
      case c5 => simp; omega
      intro v' w4 hown' hgrow _
      rw [← texts_snoc] at hown'
      obtain ⟨U5, v5⟩ := HU0.out.marks (ms' := ms ++ [t]) (by simpa using hown') hgrow
      have mv0 : Mv B Lo wr (wr.alloc (.cells #[.string (str t)] 9)) := Mv.of ((Below.refl wr.heap.size wr).alloc (Nat.le_refl _) _) HU.out.le
      have HF := Lib.hid (HQ.out _ U5.at (mv0.trans v5))
      have r4 : Row w4 M 181 _ := HU0.out.row.grown hgrow (HU0.out.b.mkne HU0.out.hM')
      have y6 := r4.cell (i := 6) rfl
      have yf := r4.frozen 6
      obtain ⟨lo', lc', rfl⟩ := owns_slice hown'
      clear hgrow hown' U5 v5 mv0 r4 HQ HU HU0 HO
      go_wp2
      go_end0
      exact HF.out

theorem cellText_idle {data : Int} {u : TD} (h : u.isNum.isSome = true ∧ 0 ≤ numOf u ∧ numOf u < data) : cellText data u = [] := by
  obtain ⟨k, hk⟩ := Option.isSome_iff_exists.1 h.1
  have e : numOf u = k := by simp [numOf, hk]
  rw [e] at h
  simp [cellText, hk, h.2]

theorem cellText_else {data : Int} {u : TD} (h : ¬ (u.isNum.isSome = true ∧ 0 ≤ numOf u ∧ numOf u < data)) : cellText data u = 64 :: 32 :: showT u := by
  cases hk : u.isNum with
  | none => simp [cellText, hk]
  | some k =>
    have e : numOf u = k := by simp [numOf, hk]
    rw [e, hk] at h
    simp only [cellText, hk]
    rw [if_neg (fun q => h ⟨rfl, q⟩)]

set_option maxRecDepth 100000 in
set_option maxHeartbeats 2000000 in
theorem cMarkCell_cps {B Lo : Nat} {w : World} {M P cap n : Nat} {f : Nat → TD} {c : TD} {ms : List (List UInt8)} {big : Bool} {regs data : Int} (h : StAt B Lo w M P cap n f c ms big regs data) (u : TD) (pu : Value) (fu : u.fine) (su : u.size ≤ 1000000000) (hl : ms.length ≤ 1000) (Post : Ending → World → Prop)
    (hp : ∀ w', StAt B Lo w' M P cap n f c (laidMark ms (cellText data u)) big regs data → Mv B Lo w w' → Post (.returned (.tuple #[])) w') :
    Calls Tryz.prog 209 #[.pointer (some ⟨M, 0, none⟩), termV u pu] w Post := by
  have hle : B ≤ w.heap.size := let ⟨_, _, _, U⟩ := h; U.le
  have b0 : Below w.heap.size w (w.alloc (.cells #[.int .i64 (ckind u), .int .i64 (cval u), pu, .int .i64 u.size, .string (str (showT u))] 179)) := (Below.refl _ _).alloc (Nat.le_refl _) _
  have H0 := Lib.hid (h.next b0)
  have r0 : Row (w.alloc (.cells #[.int .i64 (ckind u), .int .i64 (cval u), pu, .int .i64 u.size, .string (str (showT u))] 179)) w.heap.size 179 (tcells u pu) := heap_alloc_new w _
  have q1 := cNum_any fu pu (w.alloc (.cells #[.int .i64 (ckind u), .int .i64 (cval u), pu, .int .i64 u.size, .string (str (showT u))] 179))
  have y1 := show_size fu (by omega)
  have HB := Lib.hid b0
  have HR := Lib.hid r0
  have HP := Lib.hid hp
  unfold termV at q1 ⊢
  clear h hp b0 r0
  go_enter Tryz.func209, Tryz.ntmps209
  go_wp2_with fail
  refine q1.mono ?_
  rintro e w1 ⟨rfl, b1⟩
  have h1 := HB.out.trans (b1.mono HB.out.size)
  have H1 := Lib.hid (H0.out.next b1)
  have r1 := HR.out.keep b1
  have d0 : w1.cell? ⟨M, 9, none⟩ = some (.int .i64 data) := let ⟨_, _, _, U⟩ := H1.out; U.row.cell (i := 9) rfl
  have HM : Hid (Mv B Lo w w1) := Mv.of h1 hle
  clear q1 H0 HB HR b1 h1
  by_cases hc : u.isNum.isSome = true ∧ 0 ≤ numOf u ∧ numOf u < data
  · have HF := Lib.hid (HP.out w1 (by rw [cellText_idle hc, laid_nil]; exact H1.out) HM.out)
    obtain ⟨c1, c2, c3⟩ := hc
    rw [c1]
    clear HP H1 HM
    go_wp2
    go_end0
    exact HF.out
  · have HQ := Lib.hid HP.out
    rw [cellText_else hc] at HQ
    have q2 := cText_any (ckind u) (cval u) u.size pu (str (showT u)) w1
    have hs : Hid (str (64 :: 32 :: showT u) = str [64, 32] ++ str (showT u)) := by show _ = _; rw [str_append]; rfl
    have z2 : (str [64, 32]).size = 2 := rfl
    have a0 := r1.cell (i := 0) rfl
    have a1 := r1.cell (i := 1) rfl
    have a2 := r1.cell (i := 2) rfl
    have a3 := r1.cell (i := 3) rfl
    have a4 := r1.cell (i := 4) rfl
    have h3 : u.isNum.isSome = false ∨ (u.isNum.isSome = true ∧ numOf u < 0) ∨ (u.isNum.isSome = true ∧ 0 ≤ numOf u ∧ data ≤ numOf u) := by
      cases hz : u.isNum.isSome with
      | false => exact .inl rfl
      | true =>
        rw [hz] at hc
        by_cases h0 : numOf u < 0
        · exact .inr (.inl ⟨rfl, h0⟩)
        · exact .inr (.inr ⟨rfl, by omega, by have : ¬ (0 ≤ numOf u ∧ numOf u < data) := fun q => hc ⟨rfl, q⟩; omega⟩)
    clear hc HP r1
    generalize numOf u = nu at *
    generalize u.isNum.isSome = zu at *
    rcases h3 with rfl | ⟨rfl, hn⟩ | ⟨rfl, hn, hd⟩
    all_goals
      go_wp2_with fail
      refine q2.mono ?_
      rintro e w2 ⟨rfl, b2⟩
      have H2 := Lib.hid (H1.out.next b2)
      have HM2 : Hid (Mv B Lo w w2) := HM.out.trans (Mv.of b2 (Nat.le_trans hle HM.out.size))
      have q3 := fun P' => cMark_cps H2.out (64 :: 32 :: showT u) (by simp) hl P'
      rw [hs.out] at q3
      clear q2 H1 HM b2 a0 a1 a2 a3 a4 d0
      go_wp2_with fail
      refine q3 _ ?_
      intro w3 h3 m3
      have HF := Lib.hid (HQ.out w3 h3 (HM2.out.trans m3))
      clear q3 HQ HM2 H2 h3 m3
      go_wp2
      go_end0
      exact HF.out

end Go.Proofs.YtblhmeidbjigaabGreatDoor
