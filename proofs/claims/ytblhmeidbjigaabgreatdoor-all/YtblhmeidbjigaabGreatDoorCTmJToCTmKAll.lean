/- The code's terms: Read, without. -/
import Derived.Test.YtblhmeidbjigaabGreatDoorRows
import Derived.WalkKit
import Derived.WalkSpells
import Derived.WalkLawsBesides
import Derived.Laws.BytesArg
import Derived.Deep.QuietTactic
import Derived.BigQuiet
import Derived.Deep.RegionHeld3
import Derived.Lib.ItoaNum
import Derived.Lib.ItoaLen
import Derived.OpenShut
import Derived.Maps.AppendAt
import Derived.Shelf.Strconv.Itoa3
import Derived.Shelf.Lay
import Derived.Ground.NamesProg
import Derived.Lib.SmallJoins
import Derived.Lib.Hide
import Derived.StillTailTactics
import Derived.Test.YtblhmeidbjigaabGreatDoorCTmHToCTmIAll

set_option linter.unusedSimpArgs false
set_option linter.unusedVariables false
namespace Go.Proofs.YtblhmeidbjigaabGreatDoor
open Go.RowKit

/-- Two terms in boxes, a box for what is handed back, and the three parts of a store in boxes. -/
structure BoxR (w W : World) (A B G C D E : Nat) (u v c a x : TD) (pu pv pc pa px : Value) : Prop where
  box : Box2 w W A B G u v pu pv
  rc : Row W C 179 (tcells c pc)
  ra : Row W D 179 (tcells a pa)
  rx : Row W E 179 (tcells x px)

theorem BoxR.next {w W W' : World} {A B G C D E : Nat} {u v c a x : TD} {pu pv pc pa px : Value} (h : BoxR w W A B G C D E u v c a x pu pv pc pa px) (hb : Below W.heap.size W W') : BoxR w W' A B G C D E u v c a x pu pv pc pa px :=
  ⟨h.box.next hb, h.rc.keep hb, h.ra.keep hb, h.rx.keep hb⟩

theorem below_alloc3 (w1 : World) (o1 o2 o3 : Obj) : Below w1.heap.size w1 (((w1.alloc o1).alloc o2).alloc o3) := (((Below.refl _ _).alloc (Nat.le_refl _) _).alloc (by simp) _).alloc (by simp; omega) _

theorem BoxR.start {w w1 : World} {A B G : Nat} {u v : TD} {pu pv : Value} (h : Box2 w w1 A B G u v pu pv) (c a x : TD) (pc pa px : Value) :
    BoxR w (((w1.alloc (.cells #[.int .i64 (ckind c), .int .i64 (cval c), pc, .int .i64 c.size, .string (str (showT c))] 179)).alloc (.cells #[.int .i64 (ckind a), .int .i64 (cval a), pa, .int .i64 a.size, .string (str (showT a))] 179)).alloc (.cells #[.int .i64 (ckind x), .int .i64 (cval x), px, .int .i64 x.size, .string (str (showT x))] 179)) A B G w1.heap.size (w1.heap.size + 1) (w1.heap.size + 1 + 1) u v c a x pu pv pc pa px := by
  refine ⟨h.next (below_alloc3 _ _ _ _), Row.alloc (Row.alloc (heap_alloc_new w1 _) _) _, Row.alloc (heap_alloc2_new w1 _ _) _, ?_⟩
  have := heap_alloc_new ((w1.alloc (.cells #[.int .i64 (ckind c), .int .i64 (cval c), pc, .int .i64 c.size, .string (str (showT c))] 179)).alloc (.cells #[.int .i64 (ckind a), .int .i64 (cval a), pa, .int .i64 a.size, .string (str (showT a))] 179)) (.cells #[.int .i64 (ckind x), .int .i64 (cval x), px, .int .i64 x.size, .string (str (showT x))] 179)
  simp only [World.size_alloc] at this
  exact this

set_option maxRecDepth 100000 in
set_option maxHeartbeats 2000000 in
theorem cRead_off {Lo : Nat} (u v : TD) (uo vo : Option Addr) (un uc vn vc : Nat) (w : World) (hu : PartsAt Lo w u (.slice uo un uc)) (hv : PartsAt Lo w v (.slice vo vn vc)) (fu : u.fine) (fv : v.fine) (su : u.size ≤ 1000000000) (sv : v.size ≤ 1000000000) (hk : u.kind ≠ 13) (Post : Ending → World → Prop)
    (hp : ∀ ps w', PartsAt Lo w' (readT u v) ps → Below w.heap.size w w' → Post (.returned (termV (readT u v) ps)) w') :
    Calls Tryz.prog 210 #[termV u (.slice uo un uc), termV v (.slice vo vn vc)] w Post := by
  have X0 := Box2.start w u v (.slice uo un uc) (.slice vo vn vc)
  have q1 := fun P h => cStore_off u (.slice uo un uc) (((w.alloc (.cells #[.int .i64 (ckind u), .int .i64 (cval u), (.slice uo un uc), .int .i64 u.size, .string (str (showT u))] 179)).alloc (.cells #[.int .i64 (ckind v), .int .i64 (cval v), (.slice vo vn vc), .int .i64 v.size, .string (str (showT v))] 179)).alloc (.cells #[.int .i64 0, .int .i64 0, .slice none 0 0, .int .i64 0, .string ⟨#[]⟩] 179)) (fun e => hk ((ckind_store fu).1 e)) P h
  rw [read_else hk] at hp
  have HX := Lib.hid X0
  have HU := Lib.hid hu
  have HV := Lib.hid hv
  have HP := Lib.hid hp
  unfold termV at q1 ⊢
  clear X0 hu hv hp
  go_enter Tryz.func210, Tryz.ntmps210
  go_wp2_with fail
  refine q1 _ ?_
  intro w1 b1
  have Y := HX.out.next b1
  have X := Y.next (below_alloc3 w1 (.cells #[.int .i64 0, .int .i64 0, .slice none 0 0, .int .i64 0, .string ⟨#[]⟩] 179) (.cells #[.int .i64 0, .int .i64 0, .slice none 0 0, .int .i64 0, .string ⟨#[]⟩] 179) (.cells #[.int .i64 0, .int .i64 0, .slice none 0 0, .int .i64 0, .string ⟨#[]⟩] 179))
  have a0 := fun o1 o2 o3 => ((((Y).ru.alloc o1).alloc o2).alloc o3).cell (i := 0) rfl
  have a1 := fun o1 o2 o3 => ((((Y).ru.alloc o1).alloc o2).alloc o3).cell (i := 1) rfl
  have a2 := fun o1 o2 o3 => ((((Y).ru.alloc o1).alloc o2).alloc o3).cell (i := 2) rfl
  have a3 := fun o1 o2 o3 => ((((Y).ru.alloc o1).alloc o2).alloc o3).cell (i := 3) rfl
  have a4 := fun o1 o2 o3 => ((((Y).ru.alloc o1).alloc o2).alloc o3).cell (i := 4) rfl
  have c0 := fun o1 o2 o3 => ((((Y).rv.alloc o1).alloc o2).alloc o3).cell (i := 0) rfl
  have c1 := fun o1 o2 o3 => ((((Y).rv.alloc o1).alloc o2).alloc o3).cell (i := 1) rfl
  have c2 := fun o1 o2 o3 => ((((Y).rv.alloc o1).alloc o2).alloc o3).cell (i := 2) rfl
  have c3 := fun o1 o2 o3 => ((((Y).rv.alloc o1).alloc o2).alloc o3).cell (i := 3) rfl
  have c4 := fun o1 o2 o3 => ((((Y).rv.alloc o1).alloc o2).alloc o3).cell (i := 4) rfl
  have q2 := fun P => cOfTwo_cps 12 (by omega) u v (.slice uo un uc) (.slice vo vn vc) (((w1.alloc (.cells #[.int .i64 0, .int .i64 0, .slice none 0 0, .int .i64 0, .string ⟨#[]⟩] 179)).alloc (.cells #[.int .i64 0, .int .i64 0, .slice none 0 0, .int .i64 0, .string ⟨#[]⟩] 179)).alloc (.cells #[.int .i64 0, .int .i64 0, .slice none 0 0, .int .i64 0, .string ⟨#[]⟩] 179)) (HU.out.keep X.keep) (HV.out.keep X.keep) fu fv (by omega) (by omega) P
  unfold termV at q2
  clear q1 b1 HX Y
  go_wp2_with fail
  refine q2 _ ?_
  intro pt w2 p2 b2
  have X2 := X.next b2
  obtain ⟨to, tn, tc, rfl⟩ := p2.slice
  clear q2 X b2 a0 a1 a2 a3 a4 c0 c1 c2 c3 c4
  have y9 := X2.fin p2
  have HF := Lib.hid (HP.out _ _ y9.1 y9.2)
  unfold termV set5 at HF
  have z0 := X2.rg.cell (i := 0) rfl
  have f0 := X2.rg.frozen 0
  have z1 := X2.rg.cell (i := 1) rfl
  have f1 := X2.rg.frozen 1
  have z2 := X2.rg.cell (i := 2) rfl
  have f2 := X2.rg.frozen 2
  have z3 := X2.rg.cell (i := 3) rfl
  have f3 := X2.rg.frozen 3
  have z4 := X2.rg.cell (i := 4) rfl
  have f4 := X2.rg.frozen 4
  clear y9
  go_wp2
  (try simp only [Exit.inBlock, Exit.then])
  refine bodyPost_ret (v := .agg #[.int .i64 (ckind (TD.two 12 u v)), .int .i64 (cval (TD.two 12 u v)), (.slice to tn tc), .int .i64 ((TD.two 12 u v)).size, .string (str (showT (TD.two 12 u v)))]) ?_ rfl ?_
  · simp [results, Tryz.results210, go_sem, z0, z1, z2, z3, z4]
  · exact HF.out

set_option maxRecDepth 100000 in
set_option maxHeartbeats 4000000 in
theorem cRead_cps {Lo : Nat} (u : TD) : ∀ (v : TD) (pu pv : Value) (w : World) (Post : Ending → World → Prop), PartsAt Lo w u pu → PartsAt Lo w v pv → u.fine → v.fine → u.size ≤ 1000000000 → v.size ≤ 1000000000 →
    (∀ ps w', PartsAt Lo w' (readT u v) ps → Below w.heap.size w w' → Post (.returned (termV (readT u v) ps)) w') →
    Calls Tryz.prog 210 #[termV u pu, termV v pv] w Post := by
  induction u with
  | leaf k n =>
    intro v pu pv w Post hu hv fu fv su sv hp
    obtain ⟨uo, un, uc, rfl⟩ := hu.slice
    obtain ⟨vo, vn, vc, rfl⟩ := hv.slice
    exact cRead_off _ v uo vo un uc vn vc w hu hv fu fv su sv (by obtain ⟨q, _⟩ := fu; simp only [TD.kind]; omega) Post hp
  | two k a b iha ihb =>
    intro v pu pv w Post hu hv fu fv su sv hp
    obtain ⟨uo, un, uc, rfl⟩ := hu.slice
    obtain ⟨vo, vn, vc, rfl⟩ := hv.slice
    exact cRead_off _ v uo vo un uc vn vc w hu hv fu fv su sv (by obtain ⟨q, q', _⟩ := fu; simp only [TD.kind]; omega) Post hp
  | three k c a x ihc iha ihx =>
    intro v pu pv w Post hu hv fu fv su sv hp
    obtain ⟨uo, un, uc, rfl⟩ := hu.slice
    obtain ⟨vo, vn, vc, rfl⟩ := hv.slice
    obtain ⟨rfl, fc, fa, fx⟩ := id fu
    obtain ⟨u, he⟩ : ∃ u, u = TD.three 13 c a x := ⟨_, rfl⟩
    rw [← he] at hu hp fu su ⊢
    have HS : Hid (c.size ≤ 1000000000) := by rw [he] at su; simp only [TD.size] at su; show _ ≤ _; omega
    have X0 := Box2.start w u v (.slice uo un uc) (.slice vo vn vc)
    have q1 := fun P h => cStore_three u c a x (.slice uo un uc) (((w.alloc (.cells #[.int .i64 (ckind u), .int .i64 (cval u), (.slice uo un uc), .int .i64 u.size, .string (str (showT u))] 179)).alloc (.cells #[.int .i64 (ckind v), .int .i64 (cval v), (.slice vo vn vc), .int .i64 v.size, .string (str (showT v))] 179)).alloc (.cells #[.int .i64 0, .int .i64 0, .slice none 0 0, .int .i64 0, .string ⟨#[]⟩] 179)) (hu.keep X0.keep) he P h
    have H1 : Hid (a = v → readT u v = x) := fun e => by rw [he]; exact read_same e
    have H2 : Hid (a ≠ v → apartT a v = true → readT u v = readT c v) := fun e e' => by rw [he]; exact read_far e e'
    have H3 : Hid (a ≠ v → apartT a v = false → readT u v = .two 12 u v) := fun e e' => by rw [he]; exact read_near e e'
    have HX := Lib.hid X0
    have HU := Lib.hid hu
    have HV := Lib.hid hv
    have HP : Hid (∀ t, readT u v = t → ∀ ps w', PartsAt Lo w' t ps → Below w.heap.size w w' → Post (.returned (termV t ps)) w') := fun t e => by subst e; exact hp
    have HI := Lib.hid ihc
    unfold termV at q1 ⊢
    clear X0 hu hv hp ihc iha ihx he
    go_enter Tryz.func210, Tryz.ntmps210
    go_wp2_with fail
    refine q1 _ ?_
    intro pc pa px w1 p1 p2 p3 b1
    obtain ⟨co, cn, cc, rfl⟩ := p1.slice
    obtain ⟨ao, an, ac, rfl⟩ := p2.slice
    obtain ⟨xo, xn, xc, rfl⟩ := p3.slice
    have Y := HX.out.next b1
    have X := BoxR.start Y c a x (.slice co cn cc) (.slice ao an ac) (.slice xo xn xc)
    have P3 := Lib.hid (And.intro (p1.keep (below_alloc3 w1 (.cells #[.int .i64 (ckind c), .int .i64 (cval c), (.slice co cn cc), .int .i64 c.size, .string (str (showT c))] 179) (.cells #[.int .i64 (ckind a), .int .i64 (cval a), (.slice ao an ac), .int .i64 a.size, .string (str (showT a))] 179) (.cells #[.int .i64 (ckind x), .int .i64 (cval x), (.slice xo xn xc), .int .i64 x.size, .string (str (showT x))] 179))) (And.intro (p2.keep (below_alloc3 w1 (.cells #[.int .i64 (ckind c), .int .i64 (cval c), (.slice co cn cc), .int .i64 c.size, .string (str (showT c))] 179) (.cells #[.int .i64 (ckind a), .int .i64 (cval a), (.slice ao an ac), .int .i64 a.size, .string (str (showT a))] 179) (.cells #[.int .i64 (ckind x), .int .i64 (cval x), (.slice xo xn xc), .int .i64 x.size, .string (str (showT x))] 179))) (p3.keep (below_alloc3 w1 (.cells #[.int .i64 (ckind c), .int .i64 (cval c), (.slice co cn cc), .int .i64 c.size, .string (str (showT c))] 179) (.cells #[.int .i64 (ckind a), .int .i64 (cval a), (.slice ao an ac), .int .i64 a.size, .string (str (showT a))] 179) (.cells #[.int .i64 (ckind x), .int .i64 (cval x), (.slice xo xn xc), .int .i64 x.size, .string (str (showT x))] 179)))))
    have c0 := fun o1 o2 o3 => ((((Y).rv.alloc o1).alloc o2).alloc o3).cell (i := 0) rfl
    have c1 := fun o1 o2 o3 => ((((Y).rv.alloc o1).alloc o2).alloc o3).cell (i := 1) rfl
    have c2 := fun o1 o2 o3 => ((((Y).rv.alloc o1).alloc o2).alloc o3).cell (i := 2) rfl
    have c3 := fun o1 o2 o3 => ((((Y).rv.alloc o1).alloc o2).alloc o3).cell (i := 3) rfl
    have c4 := fun o1 o2 o3 => ((((Y).rv.alloc o1).alloc o2).alloc o3).cell (i := 4) rfl
    have q2 := cSame_any a v (.slice ao an ac) (.slice vo vn vc) fa fv (((w1.alloc (.cells #[.int .i64 (ckind c), .int .i64 (cval c), (.slice co cn cc), .int .i64 c.size, .string (str (showT c))] 179)).alloc (.cells #[.int .i64 (ckind a), .int .i64 (cval a), (.slice ao an ac), .int .i64 a.size, .string (str (showT a))] 179)).alloc (.cells #[.int .i64 (ckind x), .int .i64 (cval x), (.slice xo xn xc), .int .i64 x.size, .string (str (showT x))] 179))
    unfold termV at q2
    clear q1 b1 HX Y p1 p2 p3
    go_wp2_with fail
    refine q2.mono ?_
    rintro e w2 ⟨rfl, b2⟩
    have X2 := X.next b2
    have P2 := Lib.hid (And.intro (P3.out.1.keep b2) (And.intro (P3.out.2.1.keep b2) (P3.out.2.2.keep b2)))
    clear q2 X b2 P3 c0 c1 c2 c3 c4
    generalize w1.heap.size + 1 + 1 = E at *
    generalize w1.heap.size + 1 = D at *
    generalize w1.heap.size = C at *
    by_cases e1 : a = v
    · rw [(sameT_iff a v).2 e1]
      have HP' := Lib.hid (HP.out x (H1.out e1))
      clear e1 HP H1 H2 H3 HI
      have e0 := X2.rx.cell (i := 0) rfl
      have e1 := X2.rx.cell (i := 1) rfl
      have e2 := X2.rx.cell (i := 2) rfl
      have e3 := X2.rx.cell (i := 3) rfl
      have e4 := X2.rx.cell (i := 4) rfl
      have Xb := X2.box
      have y9 := Xb.fin P2.out.2.2
      have HF := Lib.hid (HP'.out _ _ y9.1 y9.2)
      unfold termV set5 at HF
      have z0 := Xb.rg.cell (i := 0) rfl
      have f0 := Xb.rg.frozen 0
      have z1 := Xb.rg.cell (i := 1) rfl
      have f1 := Xb.rg.frozen 1
      have z2 := Xb.rg.cell (i := 2) rfl
      have f2 := Xb.rg.frozen 2
      have z3 := Xb.rg.cell (i := 3) rfl
      have f3 := Xb.rg.frozen 3
      have z4 := Xb.rg.cell (i := 4) rfl
      have f4 := Xb.rg.frozen 4
      clear y9
      go_wp2
      (try simp only [Exit.inBlock, Exit.then])
      refine bodyPost_ret (v := .agg #[.int .i64 (ckind x), .int .i64 (cval x), (.slice xo xn xc), .int .i64 (x).size, .string (str (showT x))]) ?_ rfl ?_
      · simp [results, Tryz.results210, go_sem, z0, z1, z2, z3, z4]
      · exact HF.out
    · rw [sameT_ne e1]
      have q3 := cApart_any a v (.slice ao an ac) (.slice vo vn vc) fa fv w2 P2.out.2.1 (HV.out.keep X2.box.keep)
      unfold termV at q3
      have d0 := X2.ra.cell (i := 0) rfl
      have d1 := X2.ra.cell (i := 1) rfl
      have d2 := X2.ra.cell (i := 2) rfl
      have d3 := X2.ra.cell (i := 3) rfl
      have d4 := X2.ra.cell (i := 4) rfl
      have c0 := X2.box.rv.cell (i := 0) rfl
      have c1 := X2.box.rv.cell (i := 1) rfl
      have c2 := X2.box.rv.cell (i := 2) rfl
      have c3 := X2.box.rv.cell (i := 3) rfl
      have c4 := X2.box.rv.cell (i := 4) rfl
      go_wp2_with fail
      refine q3.mono ?_
      rintro e w3 ⟨rfl, b3⟩
      have X3 := X2.next b3
      have P4 := Lib.hid (P2.out.1.keep b3)
      clear q3 X2 b3 P2 c0 c1 c2 c3 c4 d0 d1 d2 d3 d4
      cases e2 : apartT a v with
      | true =>
        have HP' := Lib.hid (HP.out _ (H2.out e1 e2))
        have q4 := fun P => HI.out v (.slice co cn cc) (.slice vo vn vc) w3 P P4.out (HV.out.keep X3.box.keep) fc fv HS.out sv
        unfold termV at q4
        have d0 := X3.rc.cell (i := 0) rfl
        have d1 := X3.rc.cell (i := 1) rfl
        have d2 := X3.rc.cell (i := 2) rfl
        have d3 := X3.rc.cell (i := 3) rfl
        have d4 := X3.rc.cell (i := 4) rfl
        have c0 := X3.box.rv.cell (i := 0) rfl
        have c1 := X3.box.rv.cell (i := 1) rfl
        have c2 := X3.box.rv.cell (i := 2) rfl
        have c3 := X3.box.rv.cell (i := 3) rfl
        have c4 := X3.box.rv.cell (i := 4) rfl
        clear HP H1 H2 H3 HI P4 e1 e2
        go_wp2_with fail
        refine q4 _ ?_
        intro pt w4 p4 b4
        have X4 := X3.box.next b4
        obtain ⟨to, tn, tc, rfl⟩ := p4.slice
        clear q4 X3 b4 c0 c1 c2 c3 c4 d0 d1 d2 d3 d4
        have y9 := X4.fin p4
        have HF := Lib.hid (HP'.out _ _ y9.1 y9.2)
        unfold termV set5 at HF
        have z0 := X4.rg.cell (i := 0) rfl
        have f0 := X4.rg.frozen 0
        have z1 := X4.rg.cell (i := 1) rfl
        have f1 := X4.rg.frozen 1
        have z2 := X4.rg.cell (i := 2) rfl
        have f2 := X4.rg.frozen 2
        have z3 := X4.rg.cell (i := 3) rfl
        have f3 := X4.rg.frozen 3
        have z4 := X4.rg.cell (i := 4) rfl
        have f4 := X4.rg.frozen 4
        clear y9
        go_wp2
        (try simp only [Exit.inBlock, Exit.then])
        refine bodyPost_ret (v := .agg #[.int .i64 (ckind (readT c v)), .int .i64 (cval (readT c v)), (.slice to tn tc), .int .i64 ((readT c v)).size, .string (str (showT (readT c v)))]) ?_ rfl ?_
        · simp [results, Tryz.results210, go_sem, z0, z1, z2, z3, z4]
        · exact HF.out
      | false =>
        have HP' := Lib.hid (HP.out _ (H3.out e1 e2))
        have q4 := fun P => cOfTwo_cps 12 (by omega) u v (.slice uo un uc) (.slice vo vn vc) w3 (HU.out.keep X3.box.keep) (HV.out.keep X3.box.keep) fu fv (by omega) (by omega) P
        unfold termV at q4
        have d0 := X3.box.ru.cell (i := 0) rfl
        have d1 := X3.box.ru.cell (i := 1) rfl
        have d2 := X3.box.ru.cell (i := 2) rfl
        have d3 := X3.box.ru.cell (i := 3) rfl
        have d4 := X3.box.ru.cell (i := 4) rfl
        have c0 := X3.box.rv.cell (i := 0) rfl
        have c1 := X3.box.rv.cell (i := 1) rfl
        have c2 := X3.box.rv.cell (i := 2) rfl
        have c3 := X3.box.rv.cell (i := 3) rfl
        have c4 := X3.box.rv.cell (i := 4) rfl
        clear HP H1 H2 H3 HI P4 e1 e2
        go_wp2_with fail
        refine q4 _ ?_
        intro pt w4 p4 b4
        have X4 := X3.box.next b4
        obtain ⟨to, tn, tc, rfl⟩ := p4.slice
        clear q4 X3 b4 c0 c1 c2 c3 c4 d0 d1 d2 d3 d4
        have y9 := X4.fin p4
        have HF := Lib.hid (HP'.out _ _ y9.1 y9.2)
        unfold termV set5 at HF
        have z0 := X4.rg.cell (i := 0) rfl
        have f0 := X4.rg.frozen 0
        have z1 := X4.rg.cell (i := 1) rfl
        have f1 := X4.rg.frozen 1
        have z2 := X4.rg.cell (i := 2) rfl
        have f2 := X4.rg.frozen 2
        have z3 := X4.rg.cell (i := 3) rfl
        have f3 := X4.rg.frozen 3
        have z4 := X4.rg.cell (i := 4) rfl
        have f4 := X4.rg.frozen 4
        clear y9
        go_wp2
        (try simp only [Exit.inBlock, Exit.then])
        refine bodyPost_ret (v := .agg #[.int .i64 (ckind (TD.two 12 u v)), .int .i64 (cval (TD.two 12 u v)), (.slice to tn tc), .int .i64 ((TD.two 12 u v)).size, .string (str (showT (TD.two 12 u v)))]) ?_ rfl ?_
        · simp [results, Tryz.results210, go_sem, z0, z1, z2, z3, z4]
        · exact HF.out

end Go.Proofs.YtblhmeidbjigaabGreatDoor

/- The code's terms: without. -/
set_option linter.unusedSimpArgs false
set_option linter.unusedVariables false
namespace Go.Proofs.YtblhmeidbjigaabGreatDoor
open Go.RowKit

set_option maxRecDepth 100000 in
set_option maxHeartbeats 2000000 in
theorem cWithout_off {Lo : Nat} (u v : TD) (uo vo : Option Addr) (un uc vn vc : Nat) (w : World) (hu : PartsAt Lo w u (.slice uo un uc)) (hv : PartsAt Lo w v (.slice vo vn vc)) (fu : u.fine) (hk : u.kind ≠ 13) (Post : Ending → World → Prop)
    (hp : ∀ ps w', PartsAt Lo w' (leftT u v) ps → Below w.heap.size w w' → Post (.returned (termV (leftT u v) ps)) w') :
    Calls Tryz.prog 221 #[termV u (.slice uo un uc), termV v (.slice vo vn vc)] w Post := by
  have X0 := Box2.start w u v (.slice uo un uc) (.slice vo vn vc)
  have q1 := fun P h => cStore_off u (.slice uo un uc) (((w.alloc (.cells #[.int .i64 (ckind u), .int .i64 (cval u), (.slice uo un uc), .int .i64 u.size, .string (str (showT u))] 179)).alloc (.cells #[.int .i64 (ckind v), .int .i64 (cval v), (.slice vo vn vc), .int .i64 v.size, .string (str (showT v))] 179)).alloc (.cells #[.int .i64 0, .int .i64 0, .slice none 0 0, .int .i64 0, .string ⟨#[]⟩] 179)) (fun e => hk ((ckind_store fu).1 e)) P h
  rw [left_else hk] at hp
  have HX := Lib.hid X0
  have HU := Lib.hid hu
  have HP := Lib.hid hp
  unfold termV at q1 ⊢
  clear X0 hu hv hp
  go_enter Tryz.func221, Tryz.ntmps221
  go_wp2_with fail
  refine q1 _ ?_
  intro w1 b1
  have Y := HX.out.next b1
  have X := Y.next (below_alloc3 w1 (.cells #[.int .i64 0, .int .i64 0, .slice none 0 0, .int .i64 0, .string ⟨#[]⟩] 179) (.cells #[.int .i64 0, .int .i64 0, .slice none 0 0, .int .i64 0, .string ⟨#[]⟩] 179) (.cells #[.int .i64 0, .int .i64 0, .slice none 0 0, .int .i64 0, .string ⟨#[]⟩] 179))
  have a0 := fun o1 o2 o3 => ((((Y).ru.alloc o1).alloc o2).alloc o3).cell (i := 0) rfl
  have a1 := fun o1 o2 o3 => ((((Y).ru.alloc o1).alloc o2).alloc o3).cell (i := 1) rfl
  have a2 := fun o1 o2 o3 => ((((Y).ru.alloc o1).alloc o2).alloc o3).cell (i := 2) rfl
  have a3 := fun o1 o2 o3 => ((((Y).ru.alloc o1).alloc o2).alloc o3).cell (i := 3) rfl
  have a4 := fun o1 o2 o3 => ((((Y).ru.alloc o1).alloc o2).alloc o3).cell (i := 4) rfl
  have z0 := fun o1 o2 o3 => (((Y.rg.alloc o1).alloc o2).alloc o3).cell (i := 0) rfl
  have f0 := fun o1 o2 o3 => (((Y.rg.alloc o1).alloc o2).alloc o3).frozen 0
  have z1 := fun o1 o2 o3 => (((Y.rg.alloc o1).alloc o2).alloc o3).cell (i := 1) rfl
  have f1 := fun o1 o2 o3 => (((Y.rg.alloc o1).alloc o2).alloc o3).frozen 1
  have z2 := fun o1 o2 o3 => (((Y.rg.alloc o1).alloc o2).alloc o3).cell (i := 2) rfl
  have f2 := fun o1 o2 o3 => (((Y.rg.alloc o1).alloc o2).alloc o3).frozen 2
  have z3 := fun o1 o2 o3 => (((Y.rg.alloc o1).alloc o2).alloc o3).cell (i := 3) rfl
  have f3 := fun o1 o2 o3 => (((Y.rg.alloc o1).alloc o2).alloc o3).frozen 3
  have z4 := fun o1 o2 o3 => (((Y.rg.alloc o1).alloc o2).alloc o3).cell (i := 4) rfl
  have f4 := fun o1 o2 o3 => (((Y.rg.alloc o1).alloc o2).alloc o3).frozen 4
  have y9 := X.fin (HU.out.keep X.keep)
  have HF := Lib.hid (HP.out _ _ y9.1 y9.2)
  unfold termV set5 at HF
  clear q1 b1 HX Y X y9
  go_wp2
  (try simp only [Exit.inBlock, Exit.then])
  refine bodyPost_ret (v := .agg #[.int .i64 (ckind u), .int .i64 (cval u), (.slice uo un uc), .int .i64 (u).size, .string (str (showT u))]) ?_ rfl ?_
  · simp [results, Tryz.results221, go_sem, z0, z1, z2, z3, z4]
  · exact HF.out

set_option maxRecDepth 100000 in
set_option maxHeartbeats 4000000 in
theorem cWithout_cps {Lo : Nat} (u : TD) : ∀ (v : TD) (pu pv : Value) (w : World) (Post : Ending → World → Prop), PartsAt Lo w u pu → PartsAt Lo w v pv → u.fine → v.fine → u.size ≤ 1000000000 →
    (∀ ps w', PartsAt Lo w' (leftT u v) ps → Below w.heap.size w w' → Post (.returned (termV (leftT u v) ps)) w') →
    Calls Tryz.prog 221 #[termV u pu, termV v pv] w Post := by
  induction u with
  | leaf k n =>
    intro v pu pv w Post hu hv fu fv su hp
    obtain ⟨uo, un, uc, rfl⟩ := hu.slice
    obtain ⟨vo, vn, vc, rfl⟩ := hv.slice
    exact cWithout_off _ v uo vo un uc vn vc w hu hv fu (by obtain ⟨q, _⟩ := fu; simp only [TD.kind]; omega) Post hp
  | two k a b iha ihb =>
    intro v pu pv w Post hu hv fu fv su hp
    obtain ⟨uo, un, uc, rfl⟩ := hu.slice
    obtain ⟨vo, vn, vc, rfl⟩ := hv.slice
    exact cWithout_off _ v uo vo un uc vn vc w hu hv fu (by obtain ⟨q, q', _⟩ := fu; simp only [TD.kind]; omega) Post hp
  | three k c a x ihc iha ihx =>
    intro v pu pv w Post hu hv fu fv su hp
    obtain ⟨uo, un, uc, rfl⟩ := hu.slice
    obtain ⟨vo, vn, vc, rfl⟩ := hv.slice
    obtain ⟨rfl, fc, fa, fx⟩ := id fu
    obtain ⟨u, he⟩ : ∃ u, u = TD.three 13 c a x := ⟨_, rfl⟩
    rw [← he] at hu hp fu su ⊢
    have HS : Hid (c.size + a.size + x.size ≤ 1000000000) := by rw [he] at su; simp only [TD.size] at su; show _ ≤ _; omega
    have X0 := Box2.start w u v (.slice uo un uc) (.slice vo vn vc)
    have q1 := fun P h => cStore_three u c a x (.slice uo un uc) (((w.alloc (.cells #[.int .i64 (ckind u), .int .i64 (cval u), (.slice uo un uc), .int .i64 u.size, .string (str (showT u))] 179)).alloc (.cells #[.int .i64 (ckind v), .int .i64 (cval v), (.slice vo vn vc), .int .i64 v.size, .string (str (showT v))] 179)).alloc (.cells #[.int .i64 0, .int .i64 0, .slice none 0 0, .int .i64 0, .string ⟨#[]⟩] 179)) (hu.keep X0.keep) he P h
    have H1 : Hid (a = v → leftT u v = c) := fun e => by rw [he]; exact left_same e
    have H2 : Hid (a ≠ v → apartT a v = true → leftT u v = .three 13 (leftT c v) a x) := fun e e' => by rw [he]; exact left_far e e'
    have H3 : Hid (a ≠ v → apartT a v = false → leftT u v = u) := fun e e' => by rw [he]; exact left_near e e'
    have HX := Lib.hid X0
    have HU := Lib.hid hu
    have HV := Lib.hid hv
    have HP : Hid (∀ t, leftT u v = t → ∀ ps w', PartsAt Lo w' t ps → Below w.heap.size w w' → Post (.returned (termV t ps)) w') := fun t e => by subst e; exact hp
    have HI := Lib.hid ihc
    have fl := leftT_fine c v fc
    have sl := leftT_size c v
    unfold termV at q1 ⊢
    clear X0 hu hv hp ihc iha ihx he
    go_enter Tryz.func221, Tryz.ntmps221
    go_wp2_with fail
    refine q1 _ ?_
    intro pc pa px w1 p1 p2 p3 b1
    obtain ⟨co, cn, cc, rfl⟩ := p1.slice
    obtain ⟨ao, an, ac, rfl⟩ := p2.slice
    obtain ⟨xo, xn, xc, rfl⟩ := p3.slice
    have Y := HX.out.next b1
    have X := BoxR.start Y c a x (.slice co cn cc) (.slice ao an ac) (.slice xo xn xc)
    have P3 := Lib.hid (And.intro (p1.keep (below_alloc3 w1 (.cells #[.int .i64 (ckind c), .int .i64 (cval c), (.slice co cn cc), .int .i64 c.size, .string (str (showT c))] 179) (.cells #[.int .i64 (ckind a), .int .i64 (cval a), (.slice ao an ac), .int .i64 a.size, .string (str (showT a))] 179) (.cells #[.int .i64 (ckind x), .int .i64 (cval x), (.slice xo xn xc), .int .i64 x.size, .string (str (showT x))] 179))) (And.intro (p2.keep (below_alloc3 w1 (.cells #[.int .i64 (ckind c), .int .i64 (cval c), (.slice co cn cc), .int .i64 c.size, .string (str (showT c))] 179) (.cells #[.int .i64 (ckind a), .int .i64 (cval a), (.slice ao an ac), .int .i64 a.size, .string (str (showT a))] 179) (.cells #[.int .i64 (ckind x), .int .i64 (cval x), (.slice xo xn xc), .int .i64 x.size, .string (str (showT x))] 179))) (p3.keep (below_alloc3 w1 (.cells #[.int .i64 (ckind c), .int .i64 (cval c), (.slice co cn cc), .int .i64 c.size, .string (str (showT c))] 179) (.cells #[.int .i64 (ckind a), .int .i64 (cval a), (.slice ao an ac), .int .i64 a.size, .string (str (showT a))] 179) (.cells #[.int .i64 (ckind x), .int .i64 (cval x), (.slice xo xn xc), .int .i64 x.size, .string (str (showT x))] 179)))))
    have c0 := fun o1 o2 o3 => ((((Y).rv.alloc o1).alloc o2).alloc o3).cell (i := 0) rfl
    have c1 := fun o1 o2 o3 => ((((Y).rv.alloc o1).alloc o2).alloc o3).cell (i := 1) rfl
    have c2 := fun o1 o2 o3 => ((((Y).rv.alloc o1).alloc o2).alloc o3).cell (i := 2) rfl
    have c3 := fun o1 o2 o3 => ((((Y).rv.alloc o1).alloc o2).alloc o3).cell (i := 3) rfl
    have c4 := fun o1 o2 o3 => ((((Y).rv.alloc o1).alloc o2).alloc o3).cell (i := 4) rfl
    have q2 := cSame_any a v (.slice ao an ac) (.slice vo vn vc) fa fv (((w1.alloc (.cells #[.int .i64 (ckind c), .int .i64 (cval c), (.slice co cn cc), .int .i64 c.size, .string (str (showT c))] 179)).alloc (.cells #[.int .i64 (ckind a), .int .i64 (cval a), (.slice ao an ac), .int .i64 a.size, .string (str (showT a))] 179)).alloc (.cells #[.int .i64 (ckind x), .int .i64 (cval x), (.slice xo xn xc), .int .i64 x.size, .string (str (showT x))] 179))
    unfold termV at q2
    clear q1 b1 HX Y p1 p2 p3
    go_wp2_with fail
    refine q2.mono ?_
    rintro e w2 ⟨rfl, b2⟩
    have X2 := X.next b2
    have P2 := Lib.hid (And.intro (P3.out.1.keep b2) (And.intro (P3.out.2.1.keep b2) (P3.out.2.2.keep b2)))
    clear q2 X b2 P3 c0 c1 c2 c3 c4
    generalize w1.heap.size + 1 + 1 = E at *
    generalize w1.heap.size + 1 = D at *
    generalize w1.heap.size = C at *
    by_cases e1 : a = v
    · rw [(sameT_iff a v).2 e1]
      have HP' := Lib.hid (HP.out c (H1.out e1))
      clear e1 HP H1 H2 H3 HI
      have e0 := X2.rc.cell (i := 0) rfl
      have e1 := X2.rc.cell (i := 1) rfl
      have e2 := X2.rc.cell (i := 2) rfl
      have e3 := X2.rc.cell (i := 3) rfl
      have e4 := X2.rc.cell (i := 4) rfl
      have Xb := X2.box
      have y9 := Xb.fin P2.out.1
      have HF := Lib.hid (HP'.out _ _ y9.1 y9.2)
      unfold termV set5 at HF
      have z0 := Xb.rg.cell (i := 0) rfl
      have f0 := Xb.rg.frozen 0
      have z1 := Xb.rg.cell (i := 1) rfl
      have f1 := Xb.rg.frozen 1
      have z2 := Xb.rg.cell (i := 2) rfl
      have f2 := Xb.rg.frozen 2
      have z3 := Xb.rg.cell (i := 3) rfl
      have f3 := Xb.rg.frozen 3
      have z4 := Xb.rg.cell (i := 4) rfl
      have f4 := Xb.rg.frozen 4
      clear y9
      go_wp2
      (try simp only [Exit.inBlock, Exit.then])
      refine bodyPost_ret (v := .agg #[.int .i64 (ckind c), .int .i64 (cval c), (.slice co cn cc), .int .i64 (c).size, .string (str (showT c))]) ?_ rfl ?_
      · simp [results, Tryz.results221, go_sem, z0, z1, z2, z3, z4]
      · exact HF.out
    · rw [sameT_ne e1]
      have q3 := cApart_any a v (.slice ao an ac) (.slice vo vn vc) fa fv w2 P2.out.2.1 (HV.out.keep X2.box.keep)
      unfold termV at q3
      have d0 := X2.ra.cell (i := 0) rfl
      have d1 := X2.ra.cell (i := 1) rfl
      have d2 := X2.ra.cell (i := 2) rfl
      have d3 := X2.ra.cell (i := 3) rfl
      have d4 := X2.ra.cell (i := 4) rfl
      have c0 := X2.box.rv.cell (i := 0) rfl
      have c1 := X2.box.rv.cell (i := 1) rfl
      have c2 := X2.box.rv.cell (i := 2) rfl
      have c3 := X2.box.rv.cell (i := 3) rfl
      have c4 := X2.box.rv.cell (i := 4) rfl
      go_wp2_with fail
      refine q3.mono ?_
      rintro e w3 ⟨rfl, b3⟩
      have X3 := X2.next b3
      have P4 := Lib.hid (And.intro (P2.out.1.keep b3) (And.intro (P2.out.2.1.keep b3) (P2.out.2.2.keep b3)))
      clear q3 X2 b3 P2 c0 c1 c2 c3 c4 d0 d1 d2 d3 d4
      cases e2 : apartT a v with
      | true =>
        have HP' := Lib.hid (HP.out _ (H2.out e1 e2))
        have q4 := fun P => HI.out v (.slice co cn cc) (.slice vo vn vc) w3 P P4.out.1 (HV.out.keep X3.box.keep) fc fv (by have := HS.out; omega)
        unfold termV at q4
        have d0 := X3.rc.cell (i := 0) rfl
        have d1 := X3.rc.cell (i := 1) rfl
        have d2 := X3.rc.cell (i := 2) rfl
        have d3 := X3.rc.cell (i := 3) rfl
        have d4 := X3.rc.cell (i := 4) rfl
        have c0 := X3.box.rv.cell (i := 0) rfl
        have c1 := X3.box.rv.cell (i := 1) rfl
        have c2 := X3.box.rv.cell (i := 2) rfl
        have c3 := X3.box.rv.cell (i := 3) rfl
        have c4 := X3.box.rv.cell (i := 4) rfl
        clear HP H1 H2 H3 HI e1 e2
        go_wp2_with fail
        refine q4 _ ?_
        intro pt w4 p4 b4
        have Y4 := X3.next b4
        obtain ⟨to, tn, tc, rfl⟩ := p4.slice
        have b5 : Below w4.heap.size w4 (w4.alloc (.cells #[.int .i64 (ckind (leftT c v)), .int .i64 (cval (leftT c v)), (.slice to tn tc), .int .i64 (leftT c v).size, .string (str (showT (leftT c v)))] 179)) := (Below.refl _ _).alloc (Nat.le_refl _) _
        have X5 := Y4.next b5
        have q5 := fun P => cOfThree_cps (leftT c v) a x (.slice to tn tc) (.slice ao an ac) (.slice xo xn xc) (w4.alloc (.cells #[.int .i64 (ckind (leftT c v)), .int .i64 (cval (leftT c v)), (.slice to tn tc), .int .i64 (leftT c v).size, .string (str (showT (leftT c v)))] 179)) (p4.keep b5) ((P4.out.2.1.keep b4).keep b5) ((P4.out.2.2.keep b4).keep b5) fl fa fx (by have := HS.out; omega) (by have := HS.out; omega) (by have := HS.out; omega) P
        unfold termV at q5
        have g0 := fun o => (Y4.ra.alloc o).cell (i := 0) rfl
        have g1 := fun o => (Y4.ra.alloc o).cell (i := 1) rfl
        have g2 := fun o => (Y4.ra.alloc o).cell (i := 2) rfl
        have g3 := fun o => (Y4.ra.alloc o).cell (i := 3) rfl
        have g4 := fun o => (Y4.ra.alloc o).cell (i := 4) rfl
        have h0 := fun o => (Y4.rx.alloc o).cell (i := 0) rfl
        have h1 := fun o => (Y4.rx.alloc o).cell (i := 1) rfl
        have h2 := fun o => (Y4.rx.alloc o).cell (i := 2) rfl
        have h3 := fun o => (Y4.rx.alloc o).cell (i := 3) rfl
        have h4 := fun o => (Y4.rx.alloc o).cell (i := 4) rfl
        clear q4 X3 b4 Y4 b5 P4 p4 c0 c1 c2 c3 c4 d0 d1 d2 d3 d4
        go_wp2_with fail
        refine q5 _ ?_
        intro ps w6 p6 b6
        have X6 := X5.box.next b6
        obtain ⟨so, sn, sc, rfl⟩ := p6.slice
        clear q5 X5 b6 g0 g1 g2 g3 g4 h0 h1 h2 h3 h4
        have y9 := X6.fin p6
        have HF := Lib.hid (HP'.out _ _ y9.1 y9.2)
        unfold termV set5 at HF
        have z0 := X6.rg.cell (i := 0) rfl
        have f0 := X6.rg.frozen 0
        have z1 := X6.rg.cell (i := 1) rfl
        have f1 := X6.rg.frozen 1
        have z2 := X6.rg.cell (i := 2) rfl
        have f2 := X6.rg.frozen 2
        have z3 := X6.rg.cell (i := 3) rfl
        have f3 := X6.rg.frozen 3
        have z4 := X6.rg.cell (i := 4) rfl
        have f4 := X6.rg.frozen 4
        clear y9
        go_wp2
        (try simp only [Exit.inBlock, Exit.then])
        refine bodyPost_ret (v := .agg #[.int .i64 (ckind (TD.three 13 (leftT c v) a x)), .int .i64 (cval (TD.three 13 (leftT c v) a x)), (.slice so sn sc), .int .i64 ((TD.three 13 (leftT c v) a x)).size, .string (str (showT (TD.three 13 (leftT c v) a x)))]) ?_ rfl ?_
        · simp [results, Tryz.results221, go_sem, z0, z1, z2, z3, z4]
        · exact HF.out
      | false =>
        have HP' := Lib.hid (HP.out _ (H3.out e1 e2))
        have d0 := X3.box.ru.cell (i := 0) rfl
        have d1 := X3.box.ru.cell (i := 1) rfl
        have d2 := X3.box.ru.cell (i := 2) rfl
        have d3 := X3.box.ru.cell (i := 3) rfl
        have d4 := X3.box.ru.cell (i := 4) rfl
        have Xb := X3.box
        clear HP H1 H2 H3 HI P4 e1 e2
        have y9 := Xb.fin (HU.out.keep Xb.keep)
        have HF := Lib.hid (HP'.out _ _ y9.1 y9.2)
        unfold termV set5 at HF
        have z0 := Xb.rg.cell (i := 0) rfl
        have f0 := Xb.rg.frozen 0
        have z1 := Xb.rg.cell (i := 1) rfl
        have f1 := Xb.rg.frozen 1
        have z2 := Xb.rg.cell (i := 2) rfl
        have f2 := Xb.rg.frozen 2
        have z3 := Xb.rg.cell (i := 3) rfl
        have f3 := Xb.rg.frozen 3
        have z4 := Xb.rg.cell (i := 4) rfl
        have f4 := Xb.rg.frozen 4
        clear y9
        go_wp2
        (try simp only [Exit.inBlock, Exit.then])
        refine bodyPost_ret (v := .agg #[.int .i64 (ckind u), .int .i64 (cval u), (.slice uo un uc), .int .i64 (u).size, .string (str (showT u))]) ?_ rfl ?_
        · simp [results, Tryz.results221, go_sem, z0, z1, z2, z3, z4]
        · exact HF.out

end Go.Proofs.YtblhmeidbjigaabGreatDoor
