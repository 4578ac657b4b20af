/- The code's terms: laid, Written. -/
import Derived.Test.YtblhmeidbjigaaaGreatDoorRows
import Derived.WalkKit
import Derived.WalkSpells
import Derived.WalkLawsBesides
import Derived.Laws.BytesArg
import Derived.Deep.QuietTactic
import Derived.BigQuiet
import Derived.Deep.RegionHeld3
import Derived.Lib.ItoaNum
import Derived.Lib.ItoaLen
import Derived.OpenShut
import Derived.Maps.AppendAt
import Derived.Shelf.Strconv.Itoa3
import Derived.Shelf.Lay
import Derived.Ground.NamesProg
import Derived.Lib.SmallJoins
import Derived.Lib.Hide
import Derived.StillTailTactics
import Derived.Test.YtblhmeidbjigaaaGreatDoorCTmJToCTmKMarkings

set_option linter.unusedSimpArgs false
set_option linter.unusedVariables false
namespace Go.Proofs.YtblhmeidbjigaaaGreatDoor
open Go.RowKit

/-- Three terms in boxes, a box for what is handed back, and the three parts of a store in boxes. -/
structure BoxL (w W : World) (A B Y G C D E : Nat) (u v y c a x : TD) (pu pv py pc pa px : Value) : Prop where
  box : Box3 w W A B Y G u v y pu pv py
  rc : Row W C 119 (tcells c pc)
  ra : Row W D 119 (tcells a pa)
  rx : Row W E 119 (tcells x px)

theorem BoxL.next {w W W' : World} {A B Y G C D E : Nat} {u v y c a x : TD} {pu pv py pc pa px : Value} (h : BoxL w W A B Y G C D E u v y c a x pu pv py pc pa px) (hb : Below W.heap.size W W') : BoxL w W' A B Y G C D E u v y c a x pu pv py pc pa px :=
  ⟨h.box.next hb, h.rc.keep hb, h.ra.keep hb, h.rx.keep hb⟩

theorem BoxL.start {w w1 : World} {A B Y G : Nat} {u v y : TD} {pu pv py : Value} (h : Box3 w w1 A B Y G u v y pu pv py) (c a x : TD) (pc pa px : Value) :
    BoxL w (((w1.alloc (.cells #[.int .i64 (ckind c), .int .i64 (cval c), pc, .int .i64 c.size, .string (str (showT c))] 119)).alloc (.cells #[.int .i64 (ckind a), .int .i64 (cval a), pa, .int .i64 a.size, .string (str (showT a))] 119)).alloc (.cells #[.int .i64 (ckind x), .int .i64 (cval x), px, .int .i64 x.size, .string (str (showT x))] 119)) A B Y G w1.heap.size (w1.heap.size + 1) (w1.heap.size + 1 + 1) u v y c a x pu pv py pc pa px := by
  refine ⟨h.next (below_alloc3 _ _ _ _), Row.alloc (Row.alloc (heap_alloc_new w1 _) _) _, Row.alloc (heap_alloc2_new w1 _ _) _, ?_⟩
  have := heap_alloc_new ((w1.alloc (.cells #[.int .i64 (ckind c), .int .i64 (cval c), pc, .int .i64 c.size, .string (str (showT c))] 119)).alloc (.cells #[.int .i64 (ckind a), .int .i64 (cval a), pa, .int .i64 a.size, .string (str (showT a))] 119)) (.cells #[.int .i64 (ckind x), .int .i64 (cval x), px, .int .i64 x.size, .string (str (showT x))] 119)
  simp only [World.size_alloc] at this
  exact this

theorem grT_true {a v : TD} (h : grT a v = true) : ∃ n k, v.isNum = some n ∧ a.isNum = some k ∧ k > n := by
  unfold grT at h
  simp only [Bool.and_eq_true, decide_eq_true_eq] at h
  obtain ⟨k, hk⟩ := Option.isSome_iff_exists.1 h.1.1
  obtain ⟨n, hn⟩ := Option.isSome_iff_exists.1 h.1.2
  exact ⟨n, k, hn, hk, by have := h.2; simp [numOf, hk, hn] at this; omega⟩

theorem grT_false {a v : TD} (h : grT a v = false) {n k : Int} (hn : v.isNum = some n) (hk : a.isNum = some k) : ¬ (k > n) := by
  unfold grT at h
  simp [numOf, hk, hn] at h
  omega

set_option maxRecDepth 100000 in
set_option maxHeartbeats 2000000 in
theorem cLaid_off {Lo : Nat} (u v y : TD) (uo vo yo : Option Addr) (un uc vn vc yn yc : Nat) (w : World) (hu : PartsAt Lo w u (.slice uo un uc)) (hv : PartsAt Lo w v (.slice vo vn vc)) (hy : PartsAt Lo w y (.slice yo yn yc)) (fu : u.fine) (fv : v.fine) (fy : y.fine) (su : u.size ≤ 1000000000) (sv : v.size ≤ 1000000000) (sy : y.size ≤ 1000000000) (hk : u.kind ≠ 13) (Post : Ending → World → Prop)
    (hp : ∀ ps w', PartsAt Lo w' (laidT u v y) ps → Below w.heap.size w w' → Post (.returned (termV (laidT u v y) ps)) w') :
    Calls Tryz.prog 200 #[termV u (.slice uo un uc), termV v (.slice vo vn vc), termV y (.slice yo yn yc)] w Post := by
  have X0 := Box3.start w u v y (.slice uo un uc) (.slice vo vn vc) (.slice yo yn yc)
  have q1 := fun P h => cStore_off u (.slice uo un uc) ((((w.alloc (.cells #[.int .i64 (ckind u), .int .i64 (cval u), (.slice uo un uc), .int .i64 u.size, .string (str (showT u))] 119)).alloc (.cells #[.int .i64 (ckind v), .int .i64 (cval v), (.slice vo vn vc), .int .i64 v.size, .string (str (showT v))] 119)).alloc (.cells #[.int .i64 (ckind y), .int .i64 (cval y), (.slice yo yn yc), .int .i64 y.size, .string (str (showT y))] 119)).alloc (.cells #[.int .i64 0, .int .i64 0, .slice none 0 0, .int .i64 0, .string ⟨#[]⟩] 119)) (fun e => hk ((ckind_store fu).1 e)) P h
  rw [laid_else (by rintro ⟨c, a, x, n, k, e, _⟩; rw [e] at hk; exact hk rfl)] at hp
  have HX := Lib.hid X0
  have HU := Lib.hid hu
  have HV := Lib.hid hv
  have HY := Lib.hid hy
  have HP := Lib.hid hp
  unfold termV at q1 ⊢
  clear X0 hu hv hy hp
  go_enter Tryz.func200, Tryz.ntmps200
  go_wp2_with fail
  refine q1 _ ?_
  intro w1 b1
  have Y1 := HX.out.next b1
  have X := Y1.next (below_alloc3 w1 (.cells #[.int .i64 0, .int .i64 0, .slice none 0 0, .int .i64 0, .string ⟨#[]⟩] 119) (.cells #[.int .i64 0, .int .i64 0, .slice none 0 0, .int .i64 0, .string ⟨#[]⟩] 119) (.cells #[.int .i64 0, .int .i64 0, .slice none 0 0, .int .i64 0, .string ⟨#[]⟩] 119))
  have a0 := fun o1 o2 o3 => ((((Y1).ru.alloc o1).alloc o2).alloc o3).cell (i := 0) rfl
  have a1 := fun o1 o2 o3 => ((((Y1).ru.alloc o1).alloc o2).alloc o3).cell (i := 1) rfl
  have a2 := fun o1 o2 o3 => ((((Y1).ru.alloc o1).alloc o2).alloc o3).cell (i := 2) rfl
  have a3 := fun o1 o2 o3 => ((((Y1).ru.alloc o1).alloc o2).alloc o3).cell (i := 3) rfl
  have a4 := fun o1 o2 o3 => ((((Y1).ru.alloc o1).alloc o2).alloc o3).cell (i := 4) rfl
  have c0 := fun o1 o2 o3 => ((((Y1).rv.alloc o1).alloc o2).alloc o3).cell (i := 0) rfl
  have c1 := fun o1 o2 o3 => ((((Y1).rv.alloc o1).alloc o2).alloc o3).cell (i := 1) rfl
  have c2 := fun o1 o2 o3 => ((((Y1).rv.alloc o1).alloc o2).alloc o3).cell (i := 2) rfl
  have c3 := fun o1 o2 o3 => ((((Y1).rv.alloc o1).alloc o2).alloc o3).cell (i := 3) rfl
  have c4 := fun o1 o2 o3 => ((((Y1).rv.alloc o1).alloc o2).alloc o3).cell (i := 4) rfl
  have d0 := fun o1 o2 o3 => ((((Y1).rx.alloc o1).alloc o2).alloc o3).cell (i := 0) rfl
  have d1 := fun o1 o2 o3 => ((((Y1).rx.alloc o1).alloc o2).alloc o3).cell (i := 1) rfl
  have d2 := fun o1 o2 o3 => ((((Y1).rx.alloc o1).alloc o2).alloc o3).cell (i := 2) rfl
  have d3 := fun o1 o2 o3 => ((((Y1).rx.alloc o1).alloc o2).alloc o3).cell (i := 3) rfl
  have d4 := fun o1 o2 o3 => ((((Y1).rx.alloc o1).alloc o2).alloc o3).cell (i := 4) rfl
  have q2 := fun P => cOfThree_cps u v y (.slice uo un uc) (.slice vo vn vc) (.slice yo yn yc) (((w1.alloc (.cells #[.int .i64 0, .int .i64 0, .slice none 0 0, .int .i64 0, .string ⟨#[]⟩] 119)).alloc (.cells #[.int .i64 0, .int .i64 0, .slice none 0 0, .int .i64 0, .string ⟨#[]⟩] 119)).alloc (.cells #[.int .i64 0, .int .i64 0, .slice none 0 0, .int .i64 0, .string ⟨#[]⟩] 119)) (HU.out.keep X.keep) (HV.out.keep X.keep) (HY.out.keep X.keep) fu fv fy (by omega) (by omega) (by omega) P
  unfold termV at q2
  clear q1 b1 HX Y1
  go_wp2_with fail
  refine q2 _ ?_
  intro pt w2 p2 b2
  have X2 := X.next b2
  obtain ⟨to, tn, tc, rfl⟩ := p2.slice
  clear q2 X b2 a0 a1 a2 a3 a4 c0 c1 c2 c3 c4 d0 d1 d2 d3 d4
  have y9 := X2.fin p2
  have HF := Lib.hid (HP.out _ _ y9.1 y9.2)
  unfold termV set5 at HF
  have z0 := X2.rg.cell (i := 0) rfl
  have f0 := X2.rg.frozen 0
  have z1 := X2.rg.cell (i := 1) rfl
  have f1 := X2.rg.frozen 1
  have z2 := X2.rg.cell (i := 2) rfl
  have f2 := X2.rg.frozen 2
  have z3 := X2.rg.cell (i := 3) rfl
  have f3 := X2.rg.frozen 3
  have z4 := X2.rg.cell (i := 4) rfl
  have f4 := X2.rg.frozen 4
  clear y9
  go_wp2
  (try simp only [Exit.inBlock, Exit.then])
  refine bodyPost_ret (v := .agg #[.int .i64 (ckind (TD.three 13 u v y)), .int .i64 (cval (TD.three 13 u v y)), (.slice to tn tc), .int .i64 ((TD.three 13 u v y)).size, .string (str (showT (TD.three 13 u v y)))]) ?_ rfl ?_
  · simp [results, Tryz.results200, go_sem, z0, z1, z2, z3, z4]
  · exact HF.out

set_option maxRecDepth 100000 in
set_option maxHeartbeats 4000000 in
theorem cLaid_cps {Lo : Nat} (u : TD) : ∀ (v y : TD) (pu pv py : Value) (w : World) (Post : Ending → World → Prop), PartsAt Lo w u pu → PartsAt Lo w v pv → PartsAt Lo w y py → u.fine → v.fine → y.fine → u.size + v.size + y.size ≤ 100000000 →
    (∀ ps w', PartsAt Lo w' (laidT u v y) ps → Below w.heap.size w w' → Post (.returned (termV (laidT u v y) ps)) w') →
    Calls Tryz.prog 200 #[termV u pu, termV v pv, termV y py] w Post := by
  induction u with
  | leaf k n =>
    intro v y pu pv py w Post hu hv hy fu fv fy su hp
    obtain ⟨uo, un, uc, rfl⟩ := hu.slice
    obtain ⟨vo, vn, vc, rfl⟩ := hv.slice
    obtain ⟨yo, yn, yc, rfl⟩ := hy.slice
    exact cLaid_off _ v y uo vo yo un uc vn vc yn yc w hu hv hy fu fv fy (by omega) (by omega) (by omega) (by obtain ⟨q, _⟩ := fu; simp only [TD.kind]; omega) Post hp
  | two k a b iha ihb =>
    intro v y pu pv py w Post hu hv hy fu fv fy su hp
    obtain ⟨uo, un, uc, rfl⟩ := hu.slice
    obtain ⟨vo, vn, vc, rfl⟩ := hv.slice
    obtain ⟨yo, yn, yc, rfl⟩ := hy.slice
    exact cLaid_off _ v y uo vo yo un uc vn vc yn yc w hu hv hy fu fv fy (by omega) (by omega) (by omega) (by obtain ⟨q, q', _⟩ := fu; simp only [TD.kind]; omega) Post hp
  | three k c a x ihc iha ihx =>
    intro v y pu pv py w Post hu hv hy fu fv fy su hp
    obtain ⟨uo, un, uc, rfl⟩ := hu.slice
    obtain ⟨vo, vn, vc, rfl⟩ := hv.slice
    obtain ⟨yo, yn, yc, rfl⟩ := hy.slice
    obtain ⟨rfl, fc, fa, fx⟩ := id fu
    obtain ⟨u, he⟩ : ∃ u, u = TD.three 13 c a x := ⟨_, rfl⟩
    rw [← he] at hu hp fu su ⊢
    have HS : Hid (c.size + a.size + x.size + v.size + y.size ≤ 100000000) := by rw [he] at su; simp only [TD.size] at su; show _ ≤ _; omega
    have X0 := Box3.start w u v y (.slice uo un uc) (.slice vo vn vc) (.slice yo yn yc)
    have q1 := fun P h => cStore_three u c a x (.slice uo un uc) ((((w.alloc (.cells #[.int .i64 (ckind u), .int .i64 (cval u), (.slice uo un uc), .int .i64 u.size, .string (str (showT u))] 119)).alloc (.cells #[.int .i64 (ckind v), .int .i64 (cval v), (.slice vo vn vc), .int .i64 v.size, .string (str (showT v))] 119)).alloc (.cells #[.int .i64 (ckind y), .int .i64 (cval y), (.slice yo yn yc), .int .i64 y.size, .string (str (showT y))] 119)).alloc (.cells #[.int .i64 0, .int .i64 0, .slice none 0 0, .int .i64 0, .string ⟨#[]⟩] 119)) (hu.keep X0.keep) he P h
    have H1 : Hid (grT a v = true → laidT u v y = .three 13 (laidT c v y) a x) := fun e => by
      obtain ⟨n, k, hn, hk, hgt⟩ := grT_true e
      rw [he]; exact laid_over hn hk hgt
    have H2 : Hid (grT a v = false → laidT u v y = .three 13 u v y) := fun e => laid_else (by
      rintro ⟨c', a', x', n, k, e', hn, hk, hgt⟩
      rw [he] at e'; cases e'
      exact grT_false e hn hk hgt)
    have HX := Lib.hid X0
    have HU := Lib.hid hu
    have HV := Lib.hid hv
    have HY := Lib.hid hy
    have HP : Hid (∀ t, laidT u v y = t → ∀ ps w', PartsAt Lo w' t ps → Below w.heap.size w w' → Post (.returned (termV t ps)) w') := fun t e => by subst e; exact hp
    have HI := Lib.hid ihc
    have fl := laidT_fine c v y fc fv fy
    have sl := laidT_size c v y
    unfold termV at q1 ⊢
    clear X0 hu hv hy hp ihc iha ihx he
    go_enter Tryz.func200, Tryz.ntmps200
    go_wp2_with fail
    refine q1 _ ?_
    intro pc pa px w1 p1 p2 p3 b1
    obtain ⟨co, cn, cc, rfl⟩ := p1.slice
    obtain ⟨ao, an, ac, rfl⟩ := p2.slice
    obtain ⟨xo, xn, xc, rfl⟩ := p3.slice
    have Y1 := HX.out.next b1
    have X := BoxL.start Y1 c a x (.slice co cn cc) (.slice ao an ac) (.slice xo xn xc)
    have P3 := Lib.hid (And.intro (p1.keep (below_alloc3 w1 (.cells #[.int .i64 (ckind c), .int .i64 (cval c), (.slice co cn cc), .int .i64 c.size, .string (str (showT c))] 119) (.cells #[.int .i64 (ckind a), .int .i64 (cval a), (.slice ao an ac), .int .i64 a.size, .string (str (showT a))] 119) (.cells #[.int .i64 (ckind x), .int .i64 (cval x), (.slice xo xn xc), .int .i64 x.size, .string (str (showT x))] 119))) (And.intro (p2.keep (below_alloc3 w1 (.cells #[.int .i64 (ckind c), .int .i64 (cval c), (.slice co cn cc), .int .i64 c.size, .string (str (showT c))] 119) (.cells #[.int .i64 (ckind a), .int .i64 (cval a), (.slice ao an ac), .int .i64 a.size, .string (str (showT a))] 119) (.cells #[.int .i64 (ckind x), .int .i64 (cval x), (.slice xo xn xc), .int .i64 x.size, .string (str (showT x))] 119))) (p3.keep (below_alloc3 w1 (.cells #[.int .i64 (ckind c), .int .i64 (cval c), (.slice co cn cc), .int .i64 c.size, .string (str (showT c))] 119) (.cells #[.int .i64 (ckind a), .int .i64 (cval a), (.slice ao an ac), .int .i64 a.size, .string (str (showT a))] 119) (.cells #[.int .i64 (ckind x), .int .i64 (cval x), (.slice xo xn xc), .int .i64 x.size, .string (str (showT x))] 119)))))
    have c0 := fun o1 o2 o3 => ((((Y1).rv.alloc o1).alloc o2).alloc o3).cell (i := 0) rfl
    have c1 := fun o1 o2 o3 => ((((Y1).rv.alloc o1).alloc o2).alloc o3).cell (i := 1) rfl
    have c2 := fun o1 o2 o3 => ((((Y1).rv.alloc o1).alloc o2).alloc o3).cell (i := 2) rfl
    have c3 := fun o1 o2 o3 => ((((Y1).rv.alloc o1).alloc o2).alloc o3).cell (i := 3) rfl
    have c4 := fun o1 o2 o3 => ((((Y1).rv.alloc o1).alloc o2).alloc o3).cell (i := 4) rfl
    have q2 := cGreater_any a v (.slice ao an ac) (.slice vo vn vc) fa fv (((w1.alloc (.cells #[.int .i64 (ckind c), .int .i64 (cval c), (.slice co cn cc), .int .i64 c.size, .string (str (showT c))] 119)).alloc (.cells #[.int .i64 (ckind a), .int .i64 (cval a), (.slice ao an ac), .int .i64 a.size, .string (str (showT a))] 119)).alloc (.cells #[.int .i64 (ckind x), .int .i64 (cval x), (.slice xo xn xc), .int .i64 x.size, .string (str (showT x))] 119))
    unfold termV at q2
    clear q1 b1 HX Y1 p1 p2 p3
    go_wp2_with fail
    refine q2.mono ?_
    rintro e w2 ⟨rfl, b2⟩
    have X2 := X.next b2
    have P2 := Lib.hid (And.intro (P3.out.1.keep b2) (And.intro (P3.out.2.1.keep b2) (P3.out.2.2.keep b2)))
    clear q2 X b2 P3 c0 c1 c2 c3 c4
    generalize w1.heap.size + 1 + 1 = E at *
    generalize w1.heap.size + 1 = D at *
    generalize w1.heap.size = C at *
    cases e2 : grT a v with
    | true =>
      have HP' := Lib.hid (HP.out _ (H1.out e2))
      have q4 := fun P => HI.out v y (.slice co cn cc) (.slice vo vn vc) (.slice yo yn yc) w2 P P2.out.1 (HV.out.keep X2.box.keep) (HY.out.keep X2.box.keep) fc fv fy (by have := HS.out; omega)
      unfold termV at q4
      have d0 := X2.rc.cell (i := 0) rfl
      have d1 := X2.rc.cell (i := 1) rfl
      have d2 := X2.rc.cell (i := 2) rfl
      have d3 := X2.rc.cell (i := 3) rfl
      have d4 := X2.rc.cell (i := 4) rfl
      have c0 := X2.box.rv.cell (i := 0) rfl
      have c1 := X2.box.rv.cell (i := 1) rfl
      have c2 := X2.box.rv.cell (i := 2) rfl
      have c3 := X2.box.rv.cell (i := 3) rfl
      have c4 := X2.box.rv.cell (i := 4) rfl
      have k0 := X2.box.rx.cell (i := 0) rfl
      have k1 := X2.box.rx.cell (i := 1) rfl
      have k2 := X2.box.rx.cell (i := 2) rfl
      have k3 := X2.box.rx.cell (i := 3) rfl
      have k4 := X2.box.rx.cell (i := 4) rfl
      clear HP H1 H2 HI e2
      go_wp2_with fail
      refine q4 _ ?_
      intro pt w4 p4 b4
      have Y4 := X2.next b4
      obtain ⟨to, tn, tc, rfl⟩ := p4.slice
      have b5 : Below w4.heap.size w4 (w4.alloc (.cells #[.int .i64 (ckind (laidT c v y)), .int .i64 (cval (laidT c v y)), (.slice to tn tc), .int .i64 (laidT c v y).size, .string (str (showT (laidT c v y)))] 119)) := (Below.refl _ _).alloc (Nat.le_refl _) _
      have X5 := Y4.next b5
      have q5 := fun P => cOfThree_cps (laidT c v y) a x (.slice to tn tc) (.slice ao an ac) (.slice xo xn xc) (w4.alloc (.cells #[.int .i64 (ckind (laidT c v y)), .int .i64 (cval (laidT c v y)), (.slice to tn tc), .int .i64 (laidT c v y).size, .string (str (showT (laidT c v y)))] 119)) (p4.keep b5) ((P2.out.2.1.keep b4).keep b5) ((P2.out.2.2.keep b4).keep b5) fl fa fx (by have := HS.out; omega) (by have := HS.out; omega) (by have := HS.out; omega) P
      unfold termV at q5
      have g0 := fun o => (Y4.ra.alloc o).cell (i := 0) rfl
      have g1 := fun o => (Y4.ra.alloc o).cell (i := 1) rfl
      have g2 := fun o => (Y4.ra.alloc o).cell (i := 2) rfl
      have g3 := fun o => (Y4.ra.alloc o).cell (i := 3) rfl
      have g4 := fun o => (Y4.ra.alloc o).cell (i := 4) rfl
      have h0 := fun o => (Y4.rx.alloc o).cell (i := 0) rfl
      have h1 := fun o => (Y4.rx.alloc o).cell (i := 1) rfl
      have h2 := fun o => (Y4.rx.alloc o).cell (i := 2) rfl
      have h3 := fun o => (Y4.rx.alloc o).cell (i := 3) rfl
      have h4 := fun o => (Y4.rx.alloc o).cell (i := 4) rfl
      clear q4 X2 b4 Y4 b5 P2 p4 c0 c1 c2 c3 c4 d0 d1 d2 d3 d4 k0 k1 k2 k3 k4
      go_wp2_with fail
      refine q5 _ ?_
      intro ps w6 p6 b6
      have X6 := X5.box.next b6
      obtain ⟨so, sn, sc, rfl⟩ := p6.slice
      clear q5 X5 b6 g0 g1 g2 g3 g4 h0 h1 h2 h3 h4
      have y9 := X6.fin p6
      have HF := Lib.hid (HP'.out _ _ y9.1 y9.2)
      unfold termV set5 at HF
      have z0 := X6.rg.cell (i := 0) rfl
      have f0 := X6.rg.frozen 0
      have z1 := X6.rg.cell (i := 1) rfl
      have f1 := X6.rg.frozen 1
      have z2 := X6.rg.cell (i := 2) rfl
      have f2 := X6.rg.frozen 2
      have z3 := X6.rg.cell (i := 3) rfl
      have f3 := X6.rg.frozen 3
      have z4 := X6.rg.cell (i := 4) rfl
      have f4 := X6.rg.frozen 4
      clear y9
      go_wp2
      (try simp only [Exit.inBlock, Exit.then])
      refine bodyPost_ret (v := .agg #[.int .i64 (ckind (TD.three 13 (laidT c v y) a x)), .int .i64 (cval (TD.three 13 (laidT c v y) a x)), (.slice so sn sc), .int .i64 ((TD.three 13 (laidT c v y) a x)).size, .string (str (showT (TD.three 13 (laidT c v y) a x)))]) ?_ rfl ?_
      · simp [results, Tryz.results200, go_sem, z0, z1, z2, z3, z4]
      · exact HF.out
    | false =>
      have HP' := Lib.hid (HP.out _ (H2.out e2))
      have q5 := fun P => cOfThree_cps u v y (.slice uo un uc) (.slice vo vn vc) (.slice yo yn yc) w2 (HU.out.keep X2.box.keep) (HV.out.keep X2.box.keep) (HY.out.keep X2.box.keep) fu fv fy (by omega) (by omega) (by omega) P
      unfold termV at q5
      have d0 := X2.box.ru.cell (i := 0) rfl
      have d1 := X2.box.ru.cell (i := 1) rfl
      have d2 := X2.box.ru.cell (i := 2) rfl
      have d3 := X2.box.ru.cell (i := 3) rfl
      have d4 := X2.box.ru.cell (i := 4) rfl
      have c0 := X2.box.rv.cell (i := 0) rfl
      have c1 := X2.box.rv.cell (i := 1) rfl
      have c2 := X2.box.rv.cell (i := 2) rfl
      have c3 := X2.box.rv.cell (i := 3) rfl
      have c4 := X2.box.rv.cell (i := 4) rfl
      have k0 := X2.box.rx.cell (i := 0) rfl
      have k1 := X2.box.rx.cell (i := 1) rfl
      have k2 := X2.box.rx.cell (i := 2) rfl
      have k3 := X2.box.rx.cell (i := 3) rfl
      have k4 := X2.box.rx.cell (i := 4) rfl
      clear HP H1 H2 HI P2 e2
      go_wp2_with fail
      refine q5 _ ?_
      intro ps w6 p6 b6
      have X6 := X2.box.next b6
      obtain ⟨so, sn, sc, rfl⟩ := p6.slice
      clear q5 X2 b6 c0 c1 c2 c3 c4 d0 d1 d2 d3 d4 k0 k1 k2 k3 k4
      have y9 := X6.fin p6
      have HF := Lib.hid (HP'.out _ _ y9.1 y9.2)
      unfold termV set5 at HF
      have z0 := X6.rg.cell (i := 0) rfl
      have f0 := X6.rg.frozen 0
      have z1 := X6.rg.cell (i := 1) rfl
      have f1 := X6.rg.frozen 1
      have z2 := X6.rg.cell (i := 2) rfl
      have f2 := X6.rg.frozen 2
      have z3 := X6.rg.cell (i := 3) rfl
      have f3 := X6.rg.frozen 3
      have z4 := X6.rg.cell (i := 4) rfl
      have f4 := X6.rg.frozen 4
      clear y9
      go_wp2
      (try simp only [Exit.inBlock, Exit.then])
      refine bodyPost_ret (v := .agg #[.int .i64 (ckind (TD.three 13 u v y)), .int .i64 (cval (TD.three 13 u v y)), (.slice so sn sc), .int .i64 ((TD.three 13 u v y)).size, .string (str (showT (TD.three 13 u v y)))]) ?_ rfl ?_
      · simp [results, Tryz.results200, go_sem, z0, z1, z2, z3, z4]
      · exact HF.out


set_option maxRecDepth 100000 in
set_option maxHeartbeats 4000000 in
theorem cWritten_cps {Lo : Nat} (u v y : TD) (pu pv py : Value) (w : World) (hu : PartsAt Lo w u pu) (hv : PartsAt Lo w v pv) (hy : PartsAt Lo w y py) (fu : u.fine) (fv : v.fine) (fy : y.fine) (su : u.size + v.size + y.size ≤ 100000000) (Post : Ending → World → Prop)
    (hp : ∀ ps w', PartsAt Lo w' (writtenT u v y) ps → Below w.heap.size w w' → Post (.returned (termV (writtenT u v y) ps)) w') :
    Calls Tryz.prog 186 #[termV u pu, termV v pv, termV y py] w Post := by
  obtain ⟨uo, un, uc, rfl⟩ := hu.slice
  obtain ⟨vo, vn, vc, rfl⟩ := hv.slice
  obtain ⟨yo, yn, yc, rfl⟩ := hy.slice
  have X0 := Box3.start w u v y (.slice uo un uc) (.slice vo vn vc) (.slice yo yn yc)
  have hw1 : readT u v = y → writtenT u v y = u := fun e => by unfold writtenT; rw [if_pos e]
  have hw2 : readT u v ≠ y → writtenT u v y = laidT (leftT u v) v y := fun e => by unfold writtenT; rw [if_neg e]
  have HW := Lib.hid (And.intro hw1 hw2)
  have fr := readT_fine u v fu fv
  have fl := leftT_fine u v fu
  have sl := leftT_size u v
  have q1 := fun P h => cRead_cps u v (.slice uo un uc) (.slice vo vn vc) ((((w.alloc (.cells #[.int .i64 (ckind u), .int .i64 (cval u), (.slice uo un uc), .int .i64 u.size, .string (str (showT u))] 119)).alloc (.cells #[.int .i64 (ckind v), .int .i64 (cval v), (.slice vo vn vc), .int .i64 v.size, .string (str (showT v))] 119)).alloc (.cells #[.int .i64 (ckind y), .int .i64 (cval y), (.slice yo yn yc), .int .i64 y.size, .string (str (showT y))] 119)).alloc (.cells #[.int .i64 0, .int .i64 0, .slice none 0 0, .int .i64 0, .string ⟨#[]⟩] 119)) P (hu.keep X0.keep) (hv.keep X0.keep) fu fv (by omega) (by omega) h
  have HX := Lib.hid X0
  have HU := Lib.hid hu
  have HV := Lib.hid hv
  have HY := Lib.hid hy
  have HP : Hid (∀ t, writtenT u v y = t → ∀ ps w', PartsAt Lo w' t ps → Below w.heap.size w w' → Post (.returned (termV t ps)) w') := fun t e => by subst e; exact hp
  unfold termV at q1 ⊢
  clear X0 hu hv hy hp hw1 hw2
  go_enter Tryz.func186, Tryz.ntmps186
  go_wp2_with fail
  refine q1 _ ?_
  intro pr w1 p1 b1
  obtain ⟨ro, rn, rc, rfl⟩ := p1.slice
  have Y1 := HX.out.next b1
  have X := Y1.next ((Below.refl w1.heap.size w1).alloc (Nat.le_refl _) (.cells #[.int .i64 (ckind (readT u v)), .int .i64 (cval (readT u v)), (.slice ro rn rc), .int .i64 (readT u v).size, .string (str (showT (readT u v)))] 119))
  have q2 := cSame_any (readT u v) y (.slice ro rn rc) (.slice yo yn yc) fr fy (w1.alloc (.cells #[.int .i64 (ckind (readT u v)), .int .i64 (cval (readT u v)), (.slice ro rn rc), .int .i64 (readT u v).size, .string (str (showT (readT u v)))] 119))
  unfold termV at q2
  have d0 := fun o => (Y1.rx.alloc o).cell (i := 0) rfl
  have d1 := fun o => (Y1.rx.alloc o).cell (i := 1) rfl
  have d2 := fun o => (Y1.rx.alloc o).cell (i := 2) rfl
  have d3 := fun o => (Y1.rx.alloc o).cell (i := 3) rfl
  have d4 := fun o => (Y1.rx.alloc o).cell (i := 4) rfl
  clear q1 b1 HX Y1 p1
  go_wp2_with fail
  refine q2.mono ?_
  rintro e w2 ⟨rfl, b2⟩
  have X2 := X.next b2
  clear q2 X b2 d0 d1 d2 d3 d4
  by_cases e1 : readT u v = y
  · rw [(sameT_iff _ _).2 e1]
    have HP' := Lib.hid (HP.out _ (HW.out.1 e1))
    clear e1 HP HW
    have d0 := X2.ru.cell (i := 0) rfl
    have d1 := X2.ru.cell (i := 1) rfl
    have d2 := X2.ru.cell (i := 2) rfl
    have d3 := X2.ru.cell (i := 3) rfl
    have d4 := X2.ru.cell (i := 4) rfl
    have y9 := X2.fin (HU.out.keep X2.keep)
    have HF := Lib.hid (HP'.out _ _ y9.1 y9.2)
    unfold termV set5 at HF
    have z0 := X2.rg.cell (i := 0) rfl
    have f0 := X2.rg.frozen 0
    have z1 := X2.rg.cell (i := 1) rfl
    have f1 := X2.rg.frozen 1
    have z2 := X2.rg.cell (i := 2) rfl
    have f2 := X2.rg.frozen 2
    have z3 := X2.rg.cell (i := 3) rfl
    have f3 := X2.rg.frozen 3
    have z4 := X2.rg.cell (i := 4) rfl
    have f4 := X2.rg.frozen 4
    clear y9
    go_wp2
    (try simp only [Exit.inBlock, Exit.then])
    refine bodyPost_ret (v := .agg #[.int .i64 (ckind u), .int .i64 (cval u), (.slice uo un uc), .int .i64 (u).size, .string (str (showT u))]) ?_ rfl ?_
    · simp [results, Tryz.results186, go_sem, z0, z1, z2, z3, z4]
    · exact HF.out
  · rw [sameT_ne e1]
    have HP' := Lib.hid (HP.out _ (HW.out.2 e1))
    have q3 := fun P h => cWithout_cps u v (.slice uo un uc) (.slice vo vn vc) w2 P (HU.out.keep X2.keep) (HV.out.keep X2.keep) fu fv (by omega) h
    unfold termV at q3
    have d0 := X2.ru.cell (i := 0) rfl
    have d1 := X2.ru.cell (i := 1) rfl
    have d2 := X2.ru.cell (i := 2) rfl
    have d3 := X2.ru.cell (i := 3) rfl
    have d4 := X2.ru.cell (i := 4) rfl
    have c0 := X2.rv.cell (i := 0) rfl
    have c1 := X2.rv.cell (i := 1) rfl
    have c2 := X2.rv.cell (i := 2) rfl
    have c3 := X2.rv.cell (i := 3) rfl
    have c4 := X2.rv.cell (i := 4) rfl
    clear e1 HP HW
    go_wp2_with fail
    refine q3 _ ?_
    intro pl w3 p3 b3
    obtain ⟨lo, ln, lc, rfl⟩ := p3.slice
    have Y3 := X2.next b3
    have b4 : Below w3.heap.size w3 (w3.alloc (.cells #[.int .i64 (ckind (leftT u v)), .int .i64 (cval (leftT u v)), (.slice lo ln lc), .int .i64 (leftT u v).size, .string (str (showT (leftT u v)))] 119)) := (Below.refl _ _).alloc (Nat.le_refl _) _
    have X4 := Y3.next b4
    have q4 := fun P h => cLaid_cps (leftT u v) v y (.slice lo ln lc) (.slice vo vn vc) (.slice yo yn yc) (w3.alloc (.cells #[.int .i64 (ckind (leftT u v)), .int .i64 (cval (leftT u v)), (.slice lo ln lc), .int .i64 (leftT u v).size, .string (str (showT (leftT u v)))] 119)) P (p3.keep b4) (HV.out.keep X4.keep) (HY.out.keep X4.keep) fl fv fy (by omega) h
    unfold termV at q4
    have g0 := fun o => (Y3.rv.alloc o).cell (i := 0) rfl
    have g1 := fun o => (Y3.rv.alloc o).cell (i := 1) rfl
    have g2 := fun o => (Y3.rv.alloc o).cell (i := 2) rfl
    have g3 := fun o => (Y3.rv.alloc o).cell (i := 3) rfl
    have g4 := fun o => (Y3.rv.alloc o).cell (i := 4) rfl
    have h0 := fun o => (Y3.rx.alloc o).cell (i := 0) rfl
    have h1 := fun o => (Y3.rx.alloc o).cell (i := 1) rfl
    have h2 := fun o => (Y3.rx.alloc o).cell (i := 2) rfl
    have h3 := fun o => (Y3.rx.alloc o).cell (i := 3) rfl
    have h4 := fun o => (Y3.rx.alloc o).cell (i := 4) rfl
    clear q3 b3 b4 Y3 X2 p3 c0 c1 c2 c3 c4 d0 d1 d2 d3 d4
    go_wp2_with fail
    refine q4 _ ?_
    intro ps w6 p6 b6
    have X6 := X4.next b6
    obtain ⟨so, sn, sc, rfl⟩ := p6.slice
    clear q4 X4 b6 g0 g1 g2 g3 g4 h0 h1 h2 h3 h4
    have y9 := X6.fin p6
    have HF := Lib.hid (HP'.out _ _ y9.1 y9.2)
    unfold termV set5 at HF
    have z0 := X6.rg.cell (i := 0) rfl
    have f0 := X6.rg.frozen 0
    have z1 := X6.rg.cell (i := 1) rfl
    have f1 := X6.rg.frozen 1
    have z2 := X6.rg.cell (i := 2) rfl
    have f2 := X6.rg.frozen 2
    have z3 := X6.rg.cell (i := 3) rfl
    have f3 := X6.rg.frozen 3
    have z4 := X6.rg.cell (i := 4) rfl
    have f4 := X6.rg.frozen 4
    clear y9
    go_wp2
    (try simp only [Exit.inBlock, Exit.then])
    refine bodyPost_ret (v := .agg #[.int .i64 (ckind (laidT (leftT u v) v y)), .int .i64 (cval (laidT (leftT u v) v y)), (.slice so sn sc), .int .i64 ((laidT (leftT u v) v y)).size, .string (str (showT (laidT (leftT u v) v y)))]) ?_ rfl ?_
    · simp [results, Tryz.results186, go_sem, z0, z1, z2, z3, z4]
    · exact HF.out

end Go.Proofs.YtblhmeidbjigaaaGreatDoor

/- The reference's terms: laid, Written. -/
set_option linter.unusedSimpArgs false
set_option linter.unusedVariables false
namespace Go.Proofs.YtblhmeidbjigaaaGreatDoor
open Go.RowKit

set_option maxRecDepth 100000 in
set_option maxHeartbeats 2000000 in
theorem rLaid_off (m u v : TD) (g h j : Nat) (w : World) (hm : TreeAt w m g) (hu : TreeAt w u h) (hv : TreeAt w v j) (fm : m.fine) (fu : u.fine)
    (hno : ¬ ∃ c a x n k, m = .three 13 c a x ∧ u.isNum = some n ∧ a.isNum = some k ∧ k > n) (Post : Ending → World → Prop)
    (hp : ∀ g' w', TreeAt w' (laidT m u v) g' → Below w.heap.size w w' → Post (.returned (.pointer (some ⟨g', 0, none⟩))) w') :
    Calls Tryz.prog 143 #[.pointer (some ⟨g, 0, none⟩), .pointer (some ⟨h, 0, none⟩), .pointer (some ⟨j, 0, none⟩)] w Post := by
  rw [laid_else hno] at hp
  have B1 : ∀ n, Below w.heap.size w (w.drewN n) := fun n => below_drewN (Below.refl _ _) n
  have HF := Lib.hid (fun n => let y := tree_three (k := 13) (hm.drewN n) (hu.drewN n) (hv.drewN n) (B1 n); hp _ _ y.1 y.2)
  have c0 := hm.kindc
  have d0 := hu.kindc
  have d1 := hu.numc
  clear hp
  by_cases hk : m.kind = 13
  · obtain ⟨c, a, x, rfl⟩ := store_kind fm hk
    obtain ⟨gc, ga, gx, r, tc, ta, tx⟩ := id hm
    obtain ⟨_, fc, fa, fx⟩ := fm
    have c3 := r.cell (i := 3) rfl
    have e0 := ta.kindc
    have e1 := ta.numc
    simp only [TD.kind] at c0
    by_cases hun : u.kind = 100
    · have hu1 := (isNum_kind fu).1 hun
      rw [hun] at d0
      by_cases han : a.kind = 100
      · have ha1 := (isNum_kind fa).1 han
        rw [han] at e0
        have hle : ¬ (a.num > u.num) := fun q => hno ⟨c, a, x, u.num, a.num, rfl, hu1, ha1, q⟩
        have hle1 : a.num ≤ u.num := by omega
        have hle2 : decide (a.num > u.num) = false := by simp [hle1]
        have hle3 : decide (u.num < a.num) = false := by simp [hle1]
        clear hno hm hu hv r tc ta tx fc fa fx hu1 ha1 hun han hk
        generalize u.num = un at *
        generalize a.num = an at *
        go_enter Tryz.func143, Tryz.ntmps143
        go_wp2
        go_quiet (fail)
        go_wp2
        exact HF.out nq
      · have hd : (a.kind == 100) = false := by simp [han]
        have hd2 : decide (a.kind = 100) = false := by simp [han]
        clear hno hm hu hv r tc ta tx fc fa fx hu1 hun hk
        generalize a.kind = ak at *
        go_enter Tryz.func143, Tryz.ntmps143
        go_wp2
        go_quiet (fail)
        go_wp2
        exact HF.out nq
    · have hd : (u.kind == 100) = false := by simp [hun]
      have hd2 : decide (u.kind = 100) = false := by simp [hun]
      clear hno hm hu hv r tc ta tx fc fa fx hk
      generalize u.kind = uk at *
      go_enter Tryz.func143, Tryz.ntmps143
      go_wp2
      go_quiet (fail)
      go_wp2
      exact HF.out nq
  · have hd : (m.kind == 13) = false := by simp [hk]
    have hd2 : decide (m.kind = 13) = false := by simp [hk]
    clear hno hm hu hv
    generalize m.kind = mk at *
    go_enter Tryz.func143, Tryz.ntmps143
    go_wp2
    go_quiet (fail)
    go_wp2
    exact HF.out nq

set_option maxRecDepth 100000 in
set_option maxHeartbeats 4000000 in
theorem rLaid_cps (m : TD) : ∀ (u v : TD) (g h j : Nat) (w : World) (Post : Ending → World → Prop), TreeAt w m g → TreeAt w u h → TreeAt w v j → m.fine → u.fine → v.fine →
    (∀ g' w', TreeAt w' (laidT m u v) g' → Below w.heap.size w w' → Post (.returned (.pointer (some ⟨g', 0, none⟩))) w') →
    Calls Tryz.prog 143 #[.pointer (some ⟨g, 0, none⟩), .pointer (some ⟨h, 0, none⟩), .pointer (some ⟨j, 0, none⟩)] w Post := by
  induction m with
  | leaf k n =>
    intro u v g h j w Post hm hu hv fm fu fv hp
    exact rLaid_off _ u v g h j w hm hu hv fm fu (by rintro ⟨c, a, x, n, k, e, _⟩; cases e) Post hp
  | two k a b iha ihb =>
    intro u v g h j w Post hm hu hv fm fu fv hp
    exact rLaid_off _ u v g h j w hm hu hv fm fu (by rintro ⟨c, a, x, n, k, e, _⟩; cases e) Post hp
  | three k c a x ihc iha ihx =>
    intro u v g h j w Post hm hu hv fm fu fv hp
    by_cases hno : ∃ c' a' x' n k', TD.three k c a x = .three 13 c' a' x' ∧ u.isNum = some n ∧ a'.isNum = some k' ∧ k' > n
    · obtain ⟨c', a', x', n, k', e, hun, han, hgt⟩ := hno
      cases e
      obtain ⟨_, fc, fa, fx⟩ := fm
      rw [laid_over hun han hgt] at hp
      obtain rfl := isNum_some hun
      obtain rfl := isNum_some han
      have B1 : ∀ n, Below w.heap.size w (w.drewN n) := fun n => below_drewN (Below.refl _ _) n
      obtain ⟨gc, ga, gx, r, tc, ta, tx⟩ := id hm
      have c0 := r.cell (i := 0) rfl
      have c3 := r.cell (i := 3) rfl
      have d0 := hu.kindc
      have d1 := hu.numc
      have e0 := ta.kindc
      have e1 := ta.numc
      simp only [tnum, TD.kind, TD.num] at d0 d1 e0 e1
      have hd : decide (k' > n) = true := by simp [hgt]
      have hd2 : decide (n < k') = true := by simp; omega
      have c2' := fun n => (r.keep (B1 n)).cell (i := 2) rfl
      have q' := fun m P => ihc (tnum n) v gc h j (w.drewN m) P (tc.drewN m) (hu.drewN m) (hv.drewN m) fc fu fv
      have R0 := Lib.hid r
      have TA := Lib.hid ta
      have TX := Lib.hid tx
      clear ihc iha ihx hm hu hv r tc ta tx fc fa fx fu fv hun han
      go_enter Tryz.func143, Tryz.ntmps143
      go_wp2
      go_quiet (fail)
      have d2 := c2' nq
      clear c0 c3 d0 d1 e0 e1 c2'
      go_wp2_with fail
      refine q' nq _ ?_
      intro g2 w2 t2 b2
      have b2' : Below w.heap.size w w2 := (B1 nq).trans (b2.mono (B1 nq).size)
      have b3 : Below w.heap.size w w2.drew := b2'.drew
      have b23 : Below w2.heap.size w2 w2.drew := (Below.refl _ _).drew
      have r2 := R0.out.keep b3
      have e3 := r2.cell (i := 3) rfl
      have e4 := r2.cell (i := 4) rfl
      have y := tree_three (k := 13) (t2.keep b23) (TA.out.keep b3) (TX.out.keep b3) b3
      have HF := Lib.hid (hp _ _ y.1 y.2)
      clear hp t2 b2 b2' b3 b23 d2 y r2 R0 TA TX
      go_wp2
      refine wp_reads 10 (by kernel_rfl) (by kernel_rfl) ?_
      simp only [List.take_succ_cons, List.take_zero, List.drop_succ_cons, List.drop_zero]
      repeat still_step
      refine wpStill_nil ?_
      go_wp2
      exact HF.out
    · exact rLaid_off _ u v g h j w hm hu hv fm fu hno Post hp

set_option maxRecDepth 100000 in
set_option maxHeartbeats 2000000 in
theorem rWritten_cps (m u v : TD) (g h j : Nat) (w : World) (hm : TreeAt w m g) (hu : TreeAt w u h) (hv : TreeAt w v j) (fm : m.fine) (fu : u.fine) (fv : v.fine) (Post : Ending → World → Prop)
    (hp : ∀ g' w', TreeAt w' (writtenT m u v) g' → Below w.heap.size w w' → Post (.returned (.pointer (some ⟨g', 0, none⟩))) w') :
    Calls Tryz.prog 113 #[.pointer (some ⟨g, 0, none⟩), .pointer (some ⟨h, 0, none⟩), .pointer (some ⟨j, 0, none⟩)] w Post := by
  have hw1 : readT m u = v → writtenT m u v = m := fun e => by unfold writtenT; rw [if_pos e]
  have hw2 : readT m u ≠ v → writtenT m u v = laidT (leftT m u) u v := fun e => by unfold writtenT; rw [if_neg e]
  have fr := readT_fine m u fm fu
  have fl := leftT_fine m u fm
  have HM := Lib.hid hm
  have HU := Lib.hid hu
  have HV := Lib.hid hv
  have HP := Lib.hid hp
  have q1 := fun P => rRead_cps m u g h w P hm hu fm fu
  clear hm hu hv hp
  go_enter Tryz.func113, Tryz.ntmps113
  go_wp2_with fail
  refine q1 _ ?_
  intro g1 w1 t1 b1
  have qs := rSame_any (readT m u) v g1 j w1 t1 (HV.out.keep b1) fr fv
  clear t1
  by_cases e1 : readT m u = v
  · rw [(sameT_iff _ _).2 e1] at qs
    have hp := HP.out
    rw [hw1 e1] at hp
    have HF := Lib.hid (fun n => hp g (w1.drewN n) ((HM.out.keep b1).drewN n) (below_drewN b1 n))
    clear hp HP
    go_wp2_with fail
    refine qs.mono ?_
    rintro e w2 ⟨rfl, n, rfl⟩
    go_wp2
    exact HF.out n
  · rw [sameT_ne e1] at qs
    have hp := HP.out
    rw [hw2 e1] at hp
    have q2 := fun n P => rLeft_cps m u g h (w1.drewN n) P ((HM.out.keep b1).drewN n) ((HU.out.keep b1).drewN n) fm fu
    clear HP
    go_wp2_with fail
    refine qs.mono ?_
    rintro e w2 ⟨rfl, n, rfl⟩
    have b2 : Below w.heap.size w (w1.drewN n) := below_drewN b1 n
    go_wp2_with fail
    refine q2 n _ ?_
    intro g3 w3 t3 b3
    have b4 : Below w.heap.size w w3 := b2.trans (b3.mono b2.size)
    have q3 := fun P => rLaid_cps (leftT m u) u v g3 h j w3 P t3 (HU.out.keep b4) (HV.out.keep b4) fl fu fv
    clear q2 qs q1 b3 t3 b2
    go_wp2_with fail
    refine q3 _ ?_
    intro g5 w5 t5 b5
    have HF : Hid (Post (.returned (.pointer (some ⟨g5, 0, none⟩))) w5) := hp g5 w5 t5 (b4.trans (b5.mono b4.size))
    clear hp t5 b5 q3
    go_wp2
    exact HF.out

end Go.Proofs.YtblhmeidbjigaaaGreatDoor

/- Lists of words that are read. -/
set_option linter.unusedSimpArgs false
set_option linter.unusedVariables false
namespace Go.Proofs.YtblhmeidbjigaaaGreatDoor
open Go.RowKit

/-- A list of words that is read. -/
def RdWords (w : World) (v : Value) (l : List Int) : Prop :=
  ∃ ao cap, v = .slice ao l.length cap ∧ l.length ≤ 9223372036854775807 ∧ ∀ i, i < l.length → ∃ b off, ao = some ⟨b, off, none⟩ ∧ w.cell? ⟨b, off + i, none⟩ = some (.int .i64 (l.getD i 0))

theorem RdWords.keep {w w' : World} {v : Value} {l : List Int} (h : RdWords w v l) (hb : Below w.heap.size w w') : RdWords w' v l := by
  obtain ⟨ao, cap, rfl, hl, hc⟩ := h
  exact ⟨ao, cap, rfl, hl, fun i hi => let ⟨b, off, e, h1⟩ := hc i hi; ⟨b, off, e, cell_keep hb h1⟩⟩

end Go.Proofs.YtblhmeidbjigaaaGreatDoor

/- The reference's views: first, writes. -/
set_option linter.unusedSimpArgs false
set_option linter.unusedVariables false
namespace Go.Proofs.YtblhmeidbjigaaaGreatDoor
open Go.RowKit

/-- A view as a value. -/
def viewV (p : ProgD) (pv : Value) (b : Int) (nv : Value) : Value := .agg #[.int .i64 p.args, .int .i64 p.regs, .int .i64 p.data, .int .i64 p.slots, pv, .int .i64 b, nv]

/-- A view's cells. -/
def viewC (p : ProgD) (pv : Value) (b : Int) (nv : Value) : List Value := [.int .i64 p.args, .int .i64 p.regs, .int .i64 p.data, .int .i64 p.slots, pv, .int .i64 b, nv]

/-- A view that is read. -/
structure RdView (w : World) (p : ProgD) (pv nv : Value) (names : List Int) : Prop where
  blocks : RdBlocks w pv p.blocks
  names : RdWords w nv names
  tab : TabW w

theorem RdView.keep {w w' : World} {p : ProgD} {pv nv : Value} {names : List Int} (h : RdView w p pv nv names) (hb : Below w.heap.size w w') : RdView w' p pv nv names :=
  ⟨h.blocks.keep hb, h.names.keep hb, h.tab.keep hb⟩

theorem tree_leaf {w w0 : World} (k n : Int) (h0 : Below w0.heap.size w0 w) :
    TreeAt (w.alloc (.cells #[.int .i64 k, .int .i64 n, .pointer none, .pointer none, .pointer none] 131)) (.leaf k n) w.heap.size ∧
    Below w0.heap.size w0 (w.alloc (.cells #[.int .i64 k, .int .i64 n, .pointer none, .pointer none, .pointer none] 131)) :=
  have hb' : Below w.heap.size w (w.alloc (.cells #[.int .i64 k, .int .i64 n, .pointer none, .pointer none, .pointer none] 131)) := (Below.refl _ _).alloc (Nat.le_refl _) _
  ⟨heap_alloc_new w _, h0.trans (hb'.mono h0.size)⟩

theorem rfirst_cells {names : List Int} {place : Nat} (h : names.length ≤ place) : firstT names place = .leaf 103 0 := by
  unfold firstT; rw [if_pos (by omega)]
theorem first_x {names : List Int} {place : Nat} (h : place < names.length) (h2 : names.getD place 0 < 0) : firstT names place = .leaf 102 place := by
  unfold firstT; rw [if_neg (by omega), if_pos (by simpa using h2)]
theorem first_r {names : List Int} {place : Nat} (h : place < names.length) (h2 : ¬ names.getD place 0 < 0) : firstT names place = .leaf 101 (names.getD place 0) := by
  unfold firstT; rw [if_neg (by omega), if_neg (by simpa using h2)]; simp

set_option maxRecDepth 100000 in
set_option maxHeartbeats 2000000 in
theorem rFirst_cps (p : ProgD) (pv nv : Value) (b : Int) (names : List Int) (place : Nat) (w : World) (hv : RdView w p pv nv names) (hpl : place ≤ 1000) (Post : Ending → World → Prop)
    (hp : ∀ g' w', TreeAt w' (firstT names place) g' → Below w.heap.size w w' → Post (.returned (.pointer (some ⟨g', 0, none⟩))) w') :
    Calls Tryz.prog 110 #[viewV p pv b nv, .int .i64 place] w Post := by
  obtain ⟨ao, cap, rfl, hl, hc⟩ := hv.names
  have b0 : Below w.heap.size w (w.alloc (.cells #[.int .i64 p.args, .int .i64 p.regs, .int .i64 p.data, .int .i64 p.slots, pv, .int .i64 b, .slice ao names.length cap] 87)) := (Below.refl _ _).alloc (Nat.le_refl _) _
  have es : (w.alloc (.cells #[.int .i64 p.args, .int .i64 p.regs, .int .i64 p.data, .int .i64 p.slots, pv, .int .i64 b, .slice ao names.length cap] 87)).heap.size = w.heap.size + 1 := by simp
  unfold viewV
  by_cases h1 : names.length ≤ place
  · rw [rfirst_cells h1] at hp
    have y := tree_leaf 103 0 b0
    rw [es] at y
    have HF := Lib.hid (hp _ _ y.1 y.2)
    have hd : ((names.length : Int) ≤ (place : Int)) := by omega
    have hd2 : decide ((names.length : Int) ≤ (place : Int)) = true := by simp; omega
    clear hp y b0 es hc hv
    go_enter Tryz.func110, Tryz.ntmps110
    go_wp2
    exact HF.out
  · obtain ⟨bn, off, rfl, c⟩ := hc place (by omega)
    have c' := cell_keep b0 c
    have hpi : (0 : Int) ≤ (place : Int) := by omega
    have hpj : (place : Int) < (names.length : Int) := by omega
    by_cases h2 : names.getD place 0 < 0
    · rw [first_x (by omega) h2] at hp
      have y := tree_leaf 102 place b0
      rw [es] at y
      have HF := Lib.hid (hp _ _ y.1 y.2)
      clear hp y b0 es hc hv
      generalize names.getD place 0 = n at *
      go_enter Tryz.func110, Tryz.ntmps110
      go_wp2
      exact HF.out
    · rw [first_r (by omega) h2] at hp
      have y := tree_leaf 101 (names.getD place 0) b0
      rw [es] at y
      have HF := Lib.hid (hp _ _ y.1 y.2)
      have h3 : ¬ (names.getD place 0 < 0) := h2
      have h4 : (0 : Int) ≤ names.getD place 0 := by omega
      clear hp y b0 es hc hv h2
      generalize names.getD place 0 = n at *
      go_enter Tryz.func110, Tryz.ntmps110
      go_wp2
      exact HF.out

set_option maxRecDepth 100000 in
set_option maxHeartbeats 2000000 in
theorem rWrites_any (p : ProgD) (pv : Value) (k a b c : Int) (w : World) (h1 : 0 ≤ p.regs ∧ p.regs ≤ 8) (h2 : 0 ≤ p.slots ∧ p.slots ≤ 8) (ha : 0 ≤ a ∧ a ≤ 8) :
    Calls Tryz.prog 72 #[progV p pv, .agg #[.int .i64 k, .int .i64 a, .int .i64 b, .int .i64 c]] w fun e w' => e = .returned (.int .i64 (writesT p.regs p.slots ⟨k, a, b, c⟩)) ∧ Below w.heap.size w w' := by
  have hb0 : Below w.heap.size w ((w.alloc (.cells #[.int .i64 p.args, .int .i64 p.regs, .int .i64 p.data, .int .i64 p.slots, pv] 33)).alloc (.cells #[.int .i64 k, .int .i64 a, .int .i64 b, .int .i64 c] 77)) :=
    ((Below.refl _ _).alloc (Nat.le_refl _) _).alloc (by simp) _
  unfold progV
  generalize p.args = pa at *
  generalize p.regs = pr at *
  generalize p.data = pd at *
  generalize p.slots = ps at *
  by_cases h13 : k = 13
  · subst h13
    have e : writesT pr ps ⟨13, a, b, c⟩ = pr + ps := by simp [writesT]
    rw [e]
    clear e
    go_enter Tryz.func72, Tryz.ntmps72
    go_wp2
    go_ret
    exact ⟨by go_num, hb0⟩
  · by_cases h14 : k = 14
    · subst h14
      have e : writesT pr ps ⟨14, a, b, c⟩ = pr + a := by simp [writesT]
      rw [e]
      clear e
      go_enter Tryz.func72, Tryz.ntmps72
      go_wp2
      go_ret
      exact ⟨by go_num, hb0⟩
    · have e : writesT pr ps ⟨k, a, b, c⟩ = a := by simp [writesT, h13, h14]
      rw [e]
      clear e
      have hd : (k == 13) = false := by simp [h13]
      have hd2 : (k == 14) = false := by simp [h14]
      go_enter Tryz.func72, Tryz.ntmps72
      go_wp2
      go_ret
      exact ⟨rfl, hb0⟩

end Go.Proofs.YtblhmeidbjigaaaGreatDoor

/- The reference's views: Behind. -/
set_option linter.unusedSimpArgs false
set_option linter.unusedVariables false
namespace Go.Proofs.YtblhmeidbjigaaaGreatDoor
open Go.RowKit

/-! ### What a place holds behind one operation more -/

section
variable {regs slots : Int} {names : List Int} {ops : List OpD} {k : Nat} {place : Int} {o : OpD}

theorem behind_other (ho : ops.getD k oz = o) (h : writesT regs slots o ≠ place) : behindT regs slots names ops (k + 1) place = behindT regs slots names ops k place := by
  subst ho; simp only [behindT]; rw [if_pos h]
theorem behind_const (ho : ops.getD k oz = o) (h : writesT regs slots o = place) (hk : o.kind = 1) : behindT regs slots names ops (k + 1) place = tnum (256 * o.b + o.c - 32768) := by
  subst ho; simp only [behindT]; rw [if_neg (fun q => q h), if_pos hk]
theorem behind_move (ho : ops.getD k oz = o) (h : writesT regs slots o = place) (hk : o.kind = 2 ∨ o.kind = 14) : behindT regs slots names ops (k + 1) place = behindT regs slots names ops k o.b := by
  subst ho; simp only [behindT]; rw [if_neg (fun q => q h), if_neg (by omega), if_pos hk]
theorem behind_get (ho : ops.getD k oz = o) (h : writesT regs slots o = place) (hk : o.kind = 15) : behindT regs slots names ops (k + 1) place = behindT regs slots names ops k (regs + o.b) := by
  subst ho; simp only [behindT]; rw [if_neg (fun q => q h), if_neg (by omega), if_neg (by omega), if_pos hk]
theorem behind_load (ho : ops.getD k oz = o) (h : writesT regs slots o = place) (hk : o.kind = 12) : behindT regs slots names ops (k + 1) place = readT (behindT regs slots names ops k (regs + slots)) (behindT regs slots names ops k o.b) := by
  subst ho; simp only [behindT]; rw [if_neg (fun q => q h), if_neg (by omega), if_neg (by omega), if_neg (by omega), if_pos hk]
theorem behind_store (ho : ops.getD k oz = o) (h : writesT regs slots o = place) (hk : o.kind = 13) : behindT regs slots names ops (k + 1) place = writtenT (behindT regs slots names ops k (regs + slots)) (behindT regs slots names ops k o.a) (behindT regs slots names ops k o.b) := by
  subst ho; simp only [behindT]; rw [if_neg (fun q => q h), if_neg (by omega), if_neg (by omega), if_neg (by omega), if_neg (by omega), if_pos hk]
theorem behind_calc (ho : ops.getD k oz = o) (h : writesT regs slots o = place) (hk : 3 ≤ o.kind ∧ o.kind ≤ 11) : behindT regs slots names ops (k + 1) place = madeT o.kind (behindT regs slots names ops k o.b) (behindT regs slots names ops k o.c) := by
  subst ho; simp only [behindT]; rw [if_neg (fun q => q h), if_neg (by omega), if_neg (by omega), if_neg (by omega), if_neg (by omega), if_neg (by omega)]

/-- What a well made operation's fields are. -/
theorem op_cases (h : opGood regs slots o = true) :
    (o.kind = 1 ∧ (0 ≤ o.a ∧ o.a < regs) ∧ (0 ≤ o.b ∧ o.b < 256) ∧ (0 ≤ o.c ∧ o.c < 256)) ∨
    ((3 ≤ o.kind ∧ o.kind ≤ 11) ∧ (0 ≤ o.a ∧ o.a < regs) ∧ (0 ≤ o.b ∧ o.b < regs) ∧ (0 ≤ o.c ∧ o.c < regs)) ∨
    ((o.kind = 2 ∨ o.kind = 12 ∨ o.kind = 13) ∧ (0 ≤ o.a ∧ o.a < regs) ∧ (0 ≤ o.b ∧ o.b < regs)) ∨
    (o.kind = 14 ∧ (0 ≤ o.a ∧ o.a < slots) ∧ (0 ≤ o.b ∧ o.b < regs)) ∨
    (o.kind = 15 ∧ (0 ≤ o.a ∧ o.a < regs) ∧ (0 ≤ o.b ∧ o.b < slots)) := by
  unfold opGood at h
  by_cases h1 : o.kind = 1
  · rw [if_pos h1] at h; simp [below] at h; exact .inl ⟨h1, h.1.1, h.1.2, h.2⟩
  rw [if_neg h1] at h
  by_cases h2 : 3 ≤ o.kind ∧ o.kind ≤ 11
  · rw [if_pos h2] at h; simp [below] at h; exact .inr (.inl ⟨h2, h.1.1, h.1.2, h.2⟩)
  rw [if_neg h2] at h
  by_cases h3 : o.kind = 2 ∨ o.kind = 12 ∨ o.kind = 13
  · rw [if_pos h3] at h; simp [below] at h; exact .inr (.inr (.inl ⟨h3, h.1.1, h.1.2⟩))
  rw [if_neg h3] at h
  by_cases h4 : o.kind = 14
  · rw [if_pos h4] at h; simp [below] at h; exact .inr (.inr (.inr (.inl ⟨h4, h.1.1, h.1.2⟩)))
  rw [if_neg h4] at h
  by_cases h5 : o.kind = 15
  · rw [if_pos h5] at h; simp [below] at h; exact .inr (.inr (.inr (.inr ⟨h5, h.1.1, h.1.2⟩)))
  rw [if_neg h5] at h
  cases h
end

theorem good_shape {p : ProgD} (hg : progGood p = true) : (1 ≤ p.regs ∧ p.regs ≤ 8) ∧ (0 ≤ p.args ∧ p.args ≤ p.regs) ∧ (0 ≤ p.data ∧ p.data ≤ 8) ∧ (0 ≤ p.slots ∧ p.slots ≤ 8) := by
  simp [progGood] at hg; omega

theorem good_block {p : ProgD} (hg : progGood p = true) {b : Nat} (hb : b < p.blocks.length) : (bops p.blocks b).length ≤ 12 ∧ opsGood p.regs p.slots (bops p.blocks b) = true := by
  have := progGood_block hg (p.blocks.getD b bz) (getD_mem' hb)
  simp [blockGood] at this
  exact ⟨this.1.1, this.1.2⟩

theorem good_op {regs slots : Int} {l : List OpD} (h : opsGood regs slots l = true) {k : Nat} (hk : k < l.length) : opGood regs slots (l.getD k oz) = true := by
  unfold opsGood at h
  exact List.all_eq_true.1 h _ (getD_mem' hk)

theorem most_12 {k : Nat} (h : k ≤ 12) : most k ≤ 800000 := Nat.le_trans (most_mono h) (by decide)

/-- What Behind answers. -/
def BehindC (p : ProgD) (pv nv : Value) (b : Nat) (names : List Int) (k : Nat) : Prop := ∀ (place : Nat) (w : World) (Post : Ending → World → Prop), RdView w p pv nv names → (place : Int) ≤ p.regs + p.slots →
  (∀ g' w', TreeAt w' (behindT p.regs p.slots names (bops p.blocks b) k place) g' → Below w.heap.size w w' → Post (.returned (.pointer (some ⟨g', 0, none⟩))) w') →
  Calls Tryz.prog 73 #[viewV p pv b nv, .int .i64 k, .int .i64 place] w Post

/-- Behind's own view and operation, boxed. -/
structure VAt (w0 w : World) (G O : Nat) (p : ProgD) (pv nv : Value) (b : Nat) (names : List Int) (o : OpD) : Prop where
  view : Row w G 87 (viewC p pv b nv)
  op : Row w O 77 [.int .i64 o.kind, .int .i64 o.a, .int .i64 o.b, .int .i64 o.c]
  rd : RdView w p pv nv names
  keep : Below w0.heap.size w0 w

theorem VAt.next {w0 w w' : World} {G O : Nat} {p : ProgD} {pv nv : Value} {b : Nat} {names : List Int} {o : OpD} (h : VAt w0 w G O p pv nv b names o) (hb : Below w.heap.size w w') : VAt w0 w' G O p pv nv b names o :=
  ⟨h.view.keep hb, h.op.keep hb, h.rd.keep hb, h.keep.trans (hb.mono h.keep.size)⟩

set_option maxRecDepth 100000 in
set_option maxHeartbeats 2000000 in
theorem rBehind_zero (p : ProgD) (pv nv : Value) (b : Nat) (names : List Int) (hr : p.regs + p.slots ≤ 100) : BehindC p pv nv b names 0 := by
  intro place w Post hv hpl hp
  simp only [behindT] at hp
  have b0 : Below w.heap.size w (w.alloc (.cells #[.int .i64 p.args, .int .i64 p.regs, .int .i64 p.data, .int .i64 p.slots, pv, .int .i64 b, nv] 87)) := (Below.refl _ _).alloc (Nat.le_refl _) _
  have q := fun P => rFirst_cps p pv nv b names place _ (hv.keep b0) (by omega) P
  unfold viewV at q ⊢
  clear hv
  go_enter Tryz.func73, Tryz.ntmps73
  go_wp2_with fail
  refine q _ ?_
  intro g2 w2 t2 b2
  have HF : Hid (Post (.returned (.pointer (some ⟨g2, 0, none⟩))) w2) := hp g2 w2 t2 (b0.trans (b2.mono b0.size))
  clear hp t2 b2 q b0
  go_wp2
  exact HF.out

end Go.Proofs.YtblhmeidbjigaaaGreatDoor
