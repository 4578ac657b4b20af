/- The code's terms: Made. -/
import Derived.Test.YtblhmeidbjigaaaGreatDoorRows
import Derived.WalkKit
import Derived.WalkSpells
import Derived.WalkLawsBesides
import Derived.Laws.BytesArg
import Derived.Deep.QuietTactic
import Derived.BigQuiet
import Derived.Deep.RegionHeld3
import Derived.Lib.ItoaNum
import Derived.Lib.ItoaLen
import Derived.OpenShut
import Derived.Maps.AppendAt
import Derived.Shelf.Strconv.Itoa3
import Derived.Shelf.Lay
import Derived.Ground.NamesProg
import Derived.Lib.SmallJoins
import Derived.Lib.Hide
import Derived.StillTailTactics
import Derived.Test.YtblhmeidbjigaaaGreatDoorCTmGToCTmHWarned

set_option linter.unusedSimpArgs false
set_option linter.unusedVariables false
namespace Go.Proofs.YtblhmeidbjigaaaGreatDoor
open Go.RowKit

theorem made_change {kind : Int} {u v : TD} (h : ¬ (u.isNum.isSome = true ∧ v.isNum.isSome = true ∧ ¬ (kind = 11 ∧ numOf v = 0))) : (changeT kind u v = true → madeT kind u v = rowT kind v u) ∧ (changeT kind u v = false → madeT kind u v = rowT kind u v) := by
  cases hu : u.isNum with
  | some a =>
    cases hv : v.isNum with
    | some b =>
      have hab : kind = 11 ∧ b = 0 := by
        have hb : numOf v = b := by simp [numOf, hv]
        rw [hu, hv, hb] at h
        simpa using h
      have hc : changeT kind u v = false := changeT_eq (by rw [turnsT_no (k := kind) (by omega)]; simp)
      exact ⟨fun e => (by rw [hc] at e; cases e), fun _ => made_div0 hu hv hab⟩
    | none =>
      rw [made_left hu hv]
      have hc : changeT kind u v = turnsT kind := changeT_eq (by simp [hu])
      rw [hc]
      exact ⟨fun e => by rw [if_pos e], fun e => by rw [e]; simp⟩
  | none =>
    cases hv : v.isNum with
    | some b =>
      have hc : changeT kind u v = false := changeT_eq (by simp [hu, hv])
      exact ⟨fun e => (by rw [hc] at e; cases e), fun _ => made_right hu hv⟩
    | none =>
      by_cases hs : turnsT kind = true ∧ showT v < showT u
      · have hc : changeT kind u v = true := changeT_eq (by simp [hu, hv, hs.1, hs.2])
        exact ⟨fun _ => made_over hu hv hs, fun e => (by rw [hc] at e; cases e)⟩
      · have hc : changeT kind u v = false := changeT_eq (by simp [hu, hv]; exact fun q q' => hs ⟨q, q'⟩)
        exact ⟨fun e => (by rw [hc] at e; cases e), fun _ => made_stay hu hv hs⟩

set_option maxRecDepth 100000 in
set_option maxHeartbeats 2000000 in
theorem cMade_num {Lo : Nat} (kind : Int) (hk : 3 ≤ kind ∧ kind ≤ 11) (u v : TD) (uo vo : Option Addr) (un uc vn vc : Nat) (w : World) (hu : PartsAt Lo w u (.slice uo un uc)) (hv : PartsAt Lo w v (.slice vo vn vc)) (fu : u.fine) (fv : v.fine) (su : u.size ≤ 1000000000) (sv : v.size ≤ 1000000000) (ht : TabW w) (hb : u.isNum.isSome = true ∧ v.isNum.isSome = true ∧ ¬ (kind = 11 ∧ numOf v = 0)) (Post : Ending → World → Prop)
    (hp : ∀ ps w', PartsAt Lo w' (madeT kind u v) ps → Below w.heap.size w w' → Post (.returned (termV (madeT kind u v) ps)) w') :
    Calls Tryz.prog 188 #[.int .i64 kind, termV u (.slice uo un uc), termV v (.slice vo vn vc)] w Post := by
  have X0 := Box2.start w u v (.slice uo un uc) (.slice vo vn vc)
  have q1 := cNum_any fu (.slice uo un uc) (((w.alloc (.cells #[.int .i64 (ckind u), .int .i64 (cval u), (.slice uo un uc), .int .i64 u.size, .string (str (showT u))] 119)).alloc (.cells #[.int .i64 (ckind v), .int .i64 (cval v), (.slice vo vn vc), .int .i64 v.size, .string (str (showT v))] 119)).alloc (.cells #[.int .i64 0, .int .i64 0, .slice none 0 0, .int .i64 0, .string ⟨#[]⟩] 119))
  have q2 := fun W => cNum_any fv (.slice vo vn vc) W
  obtain ⟨a, ha⟩ := Option.isSome_iff_exists.1 hb.1
  obtain ⟨b, hbb⟩ := Option.isSome_iff_exists.1 hb.2.1
  have na : numOf u = a := by simp [numOf, ha]
  have nb : numOf v = b := by simp [numOf, hbb]
  have em := made_num (kind := kind) ha hbb (by rw [nb] at hb; exact hb.2.2)
  rw [em] at hp
  have h11 : kind = 11 → b ≠ 0 := fun e q => hb.2.2 ⟨e, by rw [nb]; exact q⟩
  rw [hb.1, na] at q1
  rw [hb.2.1, nb] at q2
  have q3 := fun W => wordOf_any kind a b W hk h11
  have q4 := fun W h => cOfNumber_any (calcW kind a b) (w64_calc _ _ _) W h
  have HX := Lib.hid X0
  have HU := Lib.hid hu
  have HT := Lib.hid ht
  have HP := Lib.hid hp
  unfold termV at q1 q2 q4 ⊢
  clear X0 hp hu hv hb ha hbb na nb em h11 ht
  go_enter Tryz.func188, Tryz.ntmps188
  go_wp2_with fail
  refine q1.mono ?_
  rintro e w1 ⟨rfl, b1⟩
  have X1 := HX.out.next b1
  have c0 := X1.rv.cell (i := 0) rfl
  have c1 := X1.rv.cell (i := 1) rfl
  have c2 := X1.rv.cell (i := 2) rfl
  have c3 := X1.rv.cell (i := 3) rfl
  have c4 := X1.rv.cell (i := 4) rfl
  clear q1 b1 HX
  go_wp2_with fail
  refine (q2 w1).mono ?_
  rintro e w2 ⟨rfl, b2⟩
  have X2 := X1.next b2
  clear q2 b2 X1 c0 c1 c2 c3 c4
  go_wp2_with fail
  refine (q3 _).mono ?_
  rintro e w3 ⟨rfl, rfl⟩
  have q5 := q4 _ (HT.out.keep X2.keep)
  clear q3 q4
  go_wp2_with fail
  refine q5.mono ?_
  rintro e w4 ⟨rfl, b4⟩
  have X := X2.next b4
  have y := X.fin (show PartsAt Lo w4 (tnum (calcW kind a b)) (.slice none 0 0) from HU.out.leaf X.keep 100 _)
  have HF := Lib.hid (HP.out _ _ y.1 y.2)
  unfold termV set5 at HF
  have z0 := X.rg.cell (i := 0) rfl
  have f0 := X.rg.frozen 0
  have z1 := X.rg.cell (i := 1) rfl
  have f1 := X.rg.frozen 1
  have z2 := X.rg.cell (i := 2) rfl
  have f2 := X.rg.frozen 2
  have z3 := X.rg.cell (i := 3) rfl
  have f3 := X.rg.frozen 3
  have z4 := X.rg.cell (i := 4) rfl
  have f4 := X.rg.frozen 4
  clear y X X2 HP q5 b4
  go_wp2
  (try simp only [Exit.inBlock, Exit.then])
  refine bodyPost_ret (v := .agg #[.int .i64 (ckind (tnum (calcW kind a b))), .int .i64 (cval (tnum (calcW kind a b))), .slice none 0 0, .int .i64 ((tnum (calcW kind a b))).size, .string (str (showT (tnum (calcW kind a b))))]) ?_ rfl ?_
  · simp [results, Tryz.results188, go_sem, z0, z1, z2, z3, z4]
  · exact HF.out

set_option maxRecDepth 100000 in
set_option maxHeartbeats 4000000 in
theorem cMade_row {Lo : Nat} (kind : Int) (hk : 3 ≤ kind ∧ kind ≤ 11) (u v : TD) (uo vo : Option Addr) (un uc vn vc : Nat) (w : World) (hu : PartsAt Lo w u (.slice uo un uc)) (hv : PartsAt Lo w v (.slice vo vn vc)) (fu : u.fine) (fv : v.fine) (su : u.size ≤ 1000000000) (sv : v.size ≤ 1000000000) (ht : TabW w) (hb : ¬ (u.isNum.isSome = true ∧ v.isNum.isSome = true ∧ ¬ (kind = 11 ∧ numOf v = 0))) (HWu : WithC kind u) (HWv : changeT kind u v = true → WithC kind v) (Post : Ending → World → Prop)
    (hp : ∀ ps w', PartsAt Lo w' (madeT kind u v) ps → Below w.heap.size w w' → Post (.returned (termV (madeT kind u v) ps)) w') :
    Calls Tryz.prog 188 #[.int .i64 kind, termV u (.slice uo un uc), termV v (.slice vo vn vc)] w Post := by
  have X0 := Box2.start w u v (.slice uo un uc) (.slice vo vn vc)
  have q1 := cNum_any fu (.slice uo un uc) (((w.alloc (.cells #[.int .i64 (ckind u), .int .i64 (cval u), (.slice uo un uc), .int .i64 u.size, .string (str (showT u))] 119)).alloc (.cells #[.int .i64 (ckind v), .int .i64 (cval v), (.slice vo vn vc), .int .i64 v.size, .string (str (showT v))] 119)).alloc (.cells #[.int .i64 0, .int .i64 0, .slice none 0 0, .int .i64 0, .string ⟨#[]⟩] 119))
  have q2 := fun W => cNum_any fv (.slice vo vn vc) W
  have mc := made_change hb
  have HM : Hid ((changeT kind u v = true → ∀ ps w', PartsAt Lo w' (rowT kind v u) ps → Below w.heap.size w w' → Post (.returned (termV (rowT kind v u) ps)) w') ∧ (changeT kind u v = false → ∀ ps w', PartsAt Lo w' (rowT kind u v) ps → Below w.heap.size w w' → Post (.returned (termV (rowT kind u v) ps)) w')) :=
    ⟨fun e => by rw [← mc.1 e]; exact hp, fun e => by rw [← mc.2 e]; exact hp⟩
  have HX := Lib.hid X0
  have HT := Lib.hid ht
  have HU := Lib.hid hu
  have HV := Lib.hid hv
  have q0 := fun x W => wordOf_zero x W
  have HB := Lib.hid hb
  unfold termV at q1 q2 ⊢
  clear X0 hp hu hv ht mc hb
  cases hsu : u.isNum.isSome with
  | false =>
    rw [hsu] at q1
    clear hsu HB q0
    generalize numOf u = x at *
    generalize numOf v = y at *
    generalize v.isNum.isSome = sv0 at *
    go_enter Tryz.func188, Tryz.ntmps188
    go_wp2_with fail
    refine q1.mono ?_
    rintro e w1 ⟨rfl, b1⟩
    have X1 := HX.out.next b1
    have c0 := X1.rv.cell (i := 0) rfl
    have c1 := X1.rv.cell (i := 1) rfl
    have c2 := X1.rv.cell (i := 2) rfl
    have c3 := X1.rv.cell (i := 3) rfl
    have c4 := X1.rv.cell (i := 4) rfl
    clear q1 b1 HX
    go_wp2_with fail
    refine (q2 w1).mono ?_
    rintro e w2 ⟨rfl, b2⟩
    have X2 := X1.next b2
    clear q2 b2 X1 c0 c1 c2 c3 c4
    have a0 := X2.ru.cell (i := 0) rfl
    have a1 := X2.ru.cell (i := 1) rfl
    have a2 := X2.ru.cell (i := 2) rfl
    have a3 := X2.ru.cell (i := 3) rfl
    have a4 := X2.ru.cell (i := 4) rfl
    have c0 := X2.rv.cell (i := 0) rfl
    have c1 := X2.rv.cell (i := 1) rfl
    have c2 := X2.rv.cell (i := 2) rfl
    have c3 := X2.rv.cell (i := 3) rfl
    have c4 := X2.rv.cell (i := 4) rfl
    have q6 := cChange_any kind hk u v (.slice uo un uc) (.slice vo vn vc) fu fv w2
    unfold termV at q6
    go_wp2_with fail
    refine q6.mono ?_
    rintro e w6 ⟨rfl, b6⟩
    have X6 := X2.next b6
    clear q6 b6 a0 a1 a2 a3 a4 c0 c1 c2 c3 c4
    cases hch : changeT kind u v with
    | true =>
      have HP := Lib.hid (HM.out.1 hch)
      have HWv' := HWv hch
      have a0 := X6.ru.cell (i := 0) rfl
      have a1 := X6.ru.cell (i := 1) rfl
      have a2 := X6.ru.cell (i := 2) rfl
      have a3 := X6.ru.cell (i := 3) rfl
      have a4 := X6.ru.cell (i := 4) rfl
      have c0 := X6.rv.cell (i := 0) rfl
      have c1 := X6.rv.cell (i := 1) rfl
      have c2 := X6.rv.cell (i := 2) rfl
      have c3 := X6.rv.cell (i := 3) rfl
      have c4 := X6.rv.cell (i := 4) rfl
      have q7 := fun P => cInOrder_cps kind hk v u (.slice vo vn vc) (.slice uo un uc) w6 (HV.out.keep X6.keep) (HU.out.keep X6.keep) fv fu sv su (HT.out.keep X6.keep) HWv' P
      unfold termV at q7
      go_wp2_with fail
      refine q7 _ ?_
      intro pt w7 p7 b7
      have X7 := X6.next b7
      obtain ⟨to, tn, tc, rfl⟩ := p7.slice
      have y := X7.fin p7
      have HF := Lib.hid (HP.out _ _ y.1 y.2)
      unfold termV set5 at HF
      clear q7 a0 a1 a2 a3 a4 c0 c1 c2 c3 c4 b7 y p7
      have z0 := X7.rg.cell (i := 0) rfl
      have f0 := X7.rg.frozen 0
      have z1 := X7.rg.cell (i := 1) rfl
      have f1 := X7.rg.frozen 1
      have z2 := X7.rg.cell (i := 2) rfl
      have f2 := X7.rg.frozen 2
      have z3 := X7.rg.cell (i := 3) rfl
      have f3 := X7.rg.frozen 3
      have z4 := X7.rg.cell (i := 4) rfl
      have f4 := X7.rg.frozen 4
      go_wp2
      (try simp only [Exit.inBlock, Exit.then])
      refine bodyPost_ret (v := .agg #[.int .i64 (ckind (rowT kind v u)), .int .i64 (cval (rowT kind v u)), (.slice to tn tc), .int .i64 ((rowT kind v u)).size, .string (str (showT (rowT kind v u)))]) ?_ rfl ?_
      · simp [results, Tryz.results188, go_sem, z0, z1, z2, z3, z4]
      · exact HF.out
    | false =>
      have HP := Lib.hid (HM.out.2 hch)
      have a0 := X6.ru.cell (i := 0) rfl
      have a1 := X6.ru.cell (i := 1) rfl
      have a2 := X6.ru.cell (i := 2) rfl
      have a3 := X6.ru.cell (i := 3) rfl
      have a4 := X6.ru.cell (i := 4) rfl
      have c0 := X6.rv.cell (i := 0) rfl
      have c1 := X6.rv.cell (i := 1) rfl
      have c2 := X6.rv.cell (i := 2) rfl
      have c3 := X6.rv.cell (i := 3) rfl
      have c4 := X6.rv.cell (i := 4) rfl
      have q7 := fun P => cInOrder_cps kind hk u v (.slice uo un uc) (.slice vo vn vc) w6 (HU.out.keep X6.keep) (HV.out.keep X6.keep) fu fv su sv (HT.out.keep X6.keep) HWu P
      unfold termV at q7
      go_wp2_with fail
      refine q7 _ ?_
      intro pt w7 p7 b7
      have X7 := X6.next b7
      obtain ⟨to, tn, tc, rfl⟩ := p7.slice
      have y := X7.fin p7
      have HF := Lib.hid (HP.out _ _ y.1 y.2)
      unfold termV set5 at HF
      clear q7 a0 a1 a2 a3 a4 c0 c1 c2 c3 c4 b7 y p7
      have z0 := X7.rg.cell (i := 0) rfl
      have f0 := X7.rg.frozen 0
      have z1 := X7.rg.cell (i := 1) rfl
      have f1 := X7.rg.frozen 1
      have z2 := X7.rg.cell (i := 2) rfl
      have f2 := X7.rg.frozen 2
      have z3 := X7.rg.cell (i := 3) rfl
      have f3 := X7.rg.frozen 3
      have z4 := X7.rg.cell (i := 4) rfl
      have f4 := X7.rg.frozen 4
      go_wp2
      (try simp only [Exit.inBlock, Exit.then])
      refine bodyPost_ret (v := .agg #[.int .i64 (ckind (rowT kind u v)), .int .i64 (cval (rowT kind u v)), (.slice to tn tc), .int .i64 ((rowT kind u v)).size, .string (str (showT (rowT kind u v)))]) ?_ rfl ?_
      · simp [results, Tryz.results188, go_sem, z0, z1, z2, z3, z4]
      · exact HF.out
  | true =>
    rw [hsu] at q1
    cases hsv : v.isNum.isSome with
    | false =>
      rw [hsv] at q2
      clear hsu hsv HB q0
      generalize numOf u = x at *
      generalize numOf v = y at *
      go_enter Tryz.func188, Tryz.ntmps188
      go_wp2_with fail
      refine q1.mono ?_
      rintro e w1 ⟨rfl, b1⟩
      have X1 := HX.out.next b1
      have c0 := X1.rv.cell (i := 0) rfl
      have c1 := X1.rv.cell (i := 1) rfl
      have c2 := X1.rv.cell (i := 2) rfl
      have c3 := X1.rv.cell (i := 3) rfl
      have c4 := X1.rv.cell (i := 4) rfl
      clear q1 b1 HX
      go_wp2_with fail
      refine (q2 w1).mono ?_
      rintro e w2 ⟨rfl, b2⟩
      have X2 := X1.next b2
      clear q2 b2 X1 c0 c1 c2 c3 c4
      have a0 := X2.ru.cell (i := 0) rfl
      have a1 := X2.ru.cell (i := 1) rfl
      have a2 := X2.ru.cell (i := 2) rfl
      have a3 := X2.ru.cell (i := 3) rfl
      have a4 := X2.ru.cell (i := 4) rfl
      have c0 := X2.rv.cell (i := 0) rfl
      have c1 := X2.rv.cell (i := 1) rfl
      have c2 := X2.rv.cell (i := 2) rfl
      have c3 := X2.rv.cell (i := 3) rfl
      have c4 := X2.rv.cell (i := 4) rfl
      have q6 := cChange_any kind hk u v (.slice uo un uc) (.slice vo vn vc) fu fv w2
      unfold termV at q6
      go_wp2_with fail
      refine q6.mono ?_
      rintro e w6 ⟨rfl, b6⟩
      have X6 := X2.next b6
      clear q6 b6 a0 a1 a2 a3 a4 c0 c1 c2 c3 c4
      cases hch : changeT kind u v with
      | true =>
        have HP := Lib.hid (HM.out.1 hch)
        have HWv' := HWv hch
        have a0 := X6.ru.cell (i := 0) rfl
        have a1 := X6.ru.cell (i := 1) rfl
        have a2 := X6.ru.cell (i := 2) rfl
        have a3 := X6.ru.cell (i := 3) rfl
        have a4 := X6.ru.cell (i := 4) rfl
        have c0 := X6.rv.cell (i := 0) rfl
        have c1 := X6.rv.cell (i := 1) rfl
        have c2 := X6.rv.cell (i := 2) rfl
        have c3 := X6.rv.cell (i := 3) rfl
        have c4 := X6.rv.cell (i := 4) rfl
        have q7 := fun P => cInOrder_cps kind hk v u (.slice vo vn vc) (.slice uo un uc) w6 (HV.out.keep X6.keep) (HU.out.keep X6.keep) fv fu sv su (HT.out.keep X6.keep) HWv' P
        unfold termV at q7
        go_wp2_with fail
        refine q7 _ ?_
        intro pt w7 p7 b7
        have X7 := X6.next b7
        obtain ⟨to, tn, tc, rfl⟩ := p7.slice
        have y := X7.fin p7
        have HF := Lib.hid (HP.out _ _ y.1 y.2)
        unfold termV set5 at HF
        clear q7 a0 a1 a2 a3 a4 c0 c1 c2 c3 c4 b7 y p7
        have z0 := X7.rg.cell (i := 0) rfl
        have f0 := X7.rg.frozen 0
        have z1 := X7.rg.cell (i := 1) rfl
        have f1 := X7.rg.frozen 1
        have z2 := X7.rg.cell (i := 2) rfl
        have f2 := X7.rg.frozen 2
        have z3 := X7.rg.cell (i := 3) rfl
        have f3 := X7.rg.frozen 3
        have z4 := X7.rg.cell (i := 4) rfl
        have f4 := X7.rg.frozen 4
        go_wp2
        (try simp only [Exit.inBlock, Exit.then])
        refine bodyPost_ret (v := .agg #[.int .i64 (ckind (rowT kind v u)), .int .i64 (cval (rowT kind v u)), (.slice to tn tc), .int .i64 ((rowT kind v u)).size, .string (str (showT (rowT kind v u)))]) ?_ rfl ?_
        · simp [results, Tryz.results188, go_sem, z0, z1, z2, z3, z4]
        · exact HF.out
      | false =>
        have HP := Lib.hid (HM.out.2 hch)
        have a0 := X6.ru.cell (i := 0) rfl
        have a1 := X6.ru.cell (i := 1) rfl
        have a2 := X6.ru.cell (i := 2) rfl
        have a3 := X6.ru.cell (i := 3) rfl
        have a4 := X6.ru.cell (i := 4) rfl
        have c0 := X6.rv.cell (i := 0) rfl
        have c1 := X6.rv.cell (i := 1) rfl
        have c2 := X6.rv.cell (i := 2) rfl
        have c3 := X6.rv.cell (i := 3) rfl
        have c4 := X6.rv.cell (i := 4) rfl
        have q7 := fun P => cInOrder_cps kind hk u v (.slice uo un uc) (.slice vo vn vc) w6 (HU.out.keep X6.keep) (HV.out.keep X6.keep) fu fv su sv (HT.out.keep X6.keep) HWu P
        unfold termV at q7
        go_wp2_with fail
        refine q7 _ ?_
        intro pt w7 p7 b7
        have X7 := X6.next b7
        obtain ⟨to, tn, tc, rfl⟩ := p7.slice
        have y := X7.fin p7
        have HF := Lib.hid (HP.out _ _ y.1 y.2)
        unfold termV set5 at HF
        clear q7 a0 a1 a2 a3 a4 c0 c1 c2 c3 c4 b7 y p7
        have z0 := X7.rg.cell (i := 0) rfl
        have f0 := X7.rg.frozen 0
        have z1 := X7.rg.cell (i := 1) rfl
        have f1 := X7.rg.frozen 1
        have z2 := X7.rg.cell (i := 2) rfl
        have f2 := X7.rg.frozen 2
        have z3 := X7.rg.cell (i := 3) rfl
        have f3 := X7.rg.frozen 3
        have z4 := X7.rg.cell (i := 4) rfl
        have f4 := X7.rg.frozen 4
        go_wp2
        (try simp only [Exit.inBlock, Exit.then])
        refine bodyPost_ret (v := .agg #[.int .i64 (ckind (rowT kind u v)), .int .i64 (cval (rowT kind u v)), (.slice to tn tc), .int .i64 ((rowT kind u v)).size, .string (str (showT (rowT kind u v)))]) ?_ rfl ?_
        · simp [results, Tryz.results188, go_sem, z0, z1, z2, z3, z4]
        · exact HF.out
    | true =>
      rw [hsv] at q2
      have h11 : kind = 11 ∧ numOf v = 0 := by
        have := HB.out
        rw [hsu, hsv] at this
        simpa using this
      obtain ⟨rfl, hn0⟩ := h11
      rw [hn0] at q2
      clear hsu hsv HB hn0
      generalize numOf u = x at *
      go_enter Tryz.func188, Tryz.ntmps188
      go_wp2_with fail
      refine q1.mono ?_
      rintro e w1 ⟨rfl, b1⟩
      have X1 := HX.out.next b1
      have c0 := X1.rv.cell (i := 0) rfl
      have c1 := X1.rv.cell (i := 1) rfl
      have c2 := X1.rv.cell (i := 2) rfl
      have c3 := X1.rv.cell (i := 3) rfl
      have c4 := X1.rv.cell (i := 4) rfl
      clear q1 b1 HX
      go_wp2_with fail
      refine (q2 w1).mono ?_
      rintro e w2 ⟨rfl, b2⟩
      have X2 := X1.next b2
      clear q2 b2 X1 c0 c1 c2 c3 c4
      go_wp2_with fail
      refine (q0 x _).mono ?_
      rintro e w3 ⟨rfl, rfl⟩
      clear q0
      have a0 := X2.ru.cell (i := 0) rfl
      have a1 := X2.ru.cell (i := 1) rfl
      have a2 := X2.ru.cell (i := 2) rfl
      have a3 := X2.ru.cell (i := 3) rfl
      have a4 := X2.ru.cell (i := 4) rfl
      have c0 := X2.rv.cell (i := 0) rfl
      have c1 := X2.rv.cell (i := 1) rfl
      have c2 := X2.rv.cell (i := 2) rfl
      have c3 := X2.rv.cell (i := 3) rfl
      have c4 := X2.rv.cell (i := 4) rfl
      have q6 := cChange_any 11 (by omega) u v (.slice uo un uc) (.slice vo vn vc) fu fv w2
      unfold termV at q6
      go_wp2_with fail
      refine q6.mono ?_
      rintro e w6 ⟨rfl, b6⟩
      have X6 := X2.next b6
      clear q6 b6 a0 a1 a2 a3 a4 c0 c1 c2 c3 c4
      cases hch : changeT 11 u v with
      | true =>
        have HP := Lib.hid (HM.out.1 hch)
        have HWv' := HWv hch
        have a0 := X6.ru.cell (i := 0) rfl
        have a1 := X6.ru.cell (i := 1) rfl
        have a2 := X6.ru.cell (i := 2) rfl
        have a3 := X6.ru.cell (i := 3) rfl
        have a4 := X6.ru.cell (i := 4) rfl
        have c0 := X6.rv.cell (i := 0) rfl
        have c1 := X6.rv.cell (i := 1) rfl
        have c2 := X6.rv.cell (i := 2) rfl
        have c3 := X6.rv.cell (i := 3) rfl
        have c4 := X6.rv.cell (i := 4) rfl
        have q7 := fun P => cInOrder_cps 11 (by omega) v u (.slice vo vn vc) (.slice uo un uc) w6 (HV.out.keep X6.keep) (HU.out.keep X6.keep) fv fu sv su (HT.out.keep X6.keep) HWv' P
        unfold termV at q7
        go_wp2_with fail
        refine q7 _ ?_
        intro pt w7 p7 b7
        have X7 := X6.next b7
        obtain ⟨to, tn, tc, rfl⟩ := p7.slice
        have y := X7.fin p7
        have HF := Lib.hid (HP.out _ _ y.1 y.2)
        unfold termV set5 at HF
        clear q7 a0 a1 a2 a3 a4 c0 c1 c2 c3 c4 b7 y p7
        have z0 := X7.rg.cell (i := 0) rfl
        have f0 := X7.rg.frozen 0
        have z1 := X7.rg.cell (i := 1) rfl
        have f1 := X7.rg.frozen 1
        have z2 := X7.rg.cell (i := 2) rfl
        have f2 := X7.rg.frozen 2
        have z3 := X7.rg.cell (i := 3) rfl
        have f3 := X7.rg.frozen 3
        have z4 := X7.rg.cell (i := 4) rfl
        have f4 := X7.rg.frozen 4
        go_wp2
        (try simp only [Exit.inBlock, Exit.then])
        refine bodyPost_ret (v := .agg #[.int .i64 (ckind (rowT 11 v u)), .int .i64 (cval (rowT 11 v u)), (.slice to tn tc), .int .i64 ((rowT 11 v u)).size, .string (str (showT (rowT 11 v u)))]) ?_ rfl ?_
        · simp [results, Tryz.results188, go_sem, z0, z1, z2, z3, z4]
        · exact HF.out
      | false =>
        have HP := Lib.hid (HM.out.2 hch)
        have a0 := X6.ru.cell (i := 0) rfl
        have a1 := X6.ru.cell (i := 1) rfl
        have a2 := X6.ru.cell (i := 2) rfl
        have a3 := X6.ru.cell (i := 3) rfl
        have a4 := X6.ru.cell (i := 4) rfl
        have c0 := X6.rv.cell (i := 0) rfl
        have c1 := X6.rv.cell (i := 1) rfl
        have c2 := X6.rv.cell (i := 2) rfl
        have c3 := X6.rv.cell (i := 3) rfl
        have c4 := X6.rv.cell (i := 4) rfl
        have q7 := fun P => cInOrder_cps 11 (by omega) u v (.slice uo un uc) (.slice vo vn vc) w6 (HU.out.keep X6.keep) (HV.out.keep X6.keep) fu fv su sv (HT.out.keep X6.keep) HWu P
        unfold termV at q7
        go_wp2_with fail
        refine q7 _ ?_
        intro pt w7 p7 b7
        have X7 := X6.next b7
        obtain ⟨to, tn, tc, rfl⟩ := p7.slice
        have y := X7.fin p7
        have HF := Lib.hid (HP.out _ _ y.1 y.2)
        unfold termV set5 at HF
        clear q7 a0 a1 a2 a3 a4 c0 c1 c2 c3 c4 b7 y p7
        have z0 := X7.rg.cell (i := 0) rfl
        have f0 := X7.rg.frozen 0
        have z1 := X7.rg.cell (i := 1) rfl
        have f1 := X7.rg.frozen 1
        have z2 := X7.rg.cell (i := 2) rfl
        have f2 := X7.rg.frozen 2
        have z3 := X7.rg.cell (i := 3) rfl
        have f3 := X7.rg.frozen 3
        have z4 := X7.rg.cell (i := 4) rfl
        have f4 := X7.rg.frozen 4
        go_wp2
        (try simp only [Exit.inBlock, Exit.then])
        refine bodyPost_ret (v := .agg #[.int .i64 (ckind (rowT 11 u v)), .int .i64 (cval (rowT 11 u v)), (.slice to tn tc), .int .i64 ((rowT 11 u v)).size, .string (str (showT (rowT 11 u v)))]) ?_ rfl ?_
        · simp [results, Tryz.results188, go_sem, z0, z1, z2, z3, z4]
        · exact HF.out

theorem cMade_with {Lo : Nat} (kind : Int) (hk : 3 ≤ kind ∧ kind ≤ 11) (u v : TD) (pu pv : Value) (w : World) (hu : PartsAt Lo w u pu) (hv : PartsAt Lo w v pv) (fu : u.fine) (fv : v.fine) (su : u.size ≤ 1000000000) (sv : v.size ≤ 1000000000) (ht : TabW w) (HWu : WithC kind u) (HWv : changeT kind u v = true → WithC kind v) (Post : Ending → World → Prop)
    (hp : ∀ ps w', PartsAt Lo w' (madeT kind u v) ps → Below w.heap.size w w' → Post (.returned (termV (madeT kind u v) ps)) w') :
    Calls Tryz.prog 188 #[.int .i64 kind, termV u pu, termV v pv] w Post := by
  obtain ⟨uo, un, uc, rfl⟩ := hu.slice
  obtain ⟨vo, vn, vc, rfl⟩ := hv.slice
  by_cases hb : u.isNum.isSome = true ∧ v.isNum.isSome = true ∧ ¬ (kind = 11 ∧ numOf v = 0)
  · exact cMade_num kind hk u v uo vo un uc vn vc w hu hv fu fv su sv ht hb Post hp
  · exact cMade_row kind hk u v uo vo un uc vn vc w hu hv fu fv su sv ht hb HWu HWv Post hp

theorem cMade_add (u : TD) (fu : u.fine) (su : u.size ≤ 1000000000) (HW : WithC 3 u) : AddC u := by
  intro Lo pu k w Post hu hk ht hp
  rw [← made_add] at hp
  cases hn : u.isNum with
  | some a =>
    obtain ⟨uo, un, uc, rfl⟩ := hu.slice
    exact cMade_num 3 (by omega) u (tnum k) uo none un uc 0 0 w hu (hu.leaf (Below.refl _ _) 100 k) fu (tnum_fine hk) su (by simp [tnum, TD.size]) ht ⟨by simp [hn], by simp [num_isNum], by omega⟩ Post hp
  | none =>
    refine cMade_with 3 (by omega) u (tnum k) pu (.slice none 0 0) w hu (hu.leaf (Below.refl _ _) 100 k) fu (tnum_fine hk) su (by simp [tnum, TD.size]) ht HW (fun e => ?_) Post hp
    have hc : changeT 3 u (tnum k) = false := changeT_eq (by simp [hn, num_isNum])
    rw [hc] at e; cases e

theorem cAdd_all (u : TD) : u.fine → u.size ≤ 1000000000 → AddC u := by
  induction u with
  | leaf k n => exact fun f s => cMade_add _ f s (cWith_rest 3 (by omega) (by omega) _ f (fun a m e => by cases e))
  | two k a b iha ihb =>
    intro f s
    refine cMade_add _ f s (cWith_rest 3 (by omega) (by omega) _ f (fun a' m e => ?_))
    cases e
    exact iha f.2.2.1 (by simp only [TD.size] at s; omega)
  | three k a b c => exact fun f s => cMade_add _ f s (cWith_rest 3 (by omega) (by omega) _ f (fun a' m e => by cases e))

theorem cWith_any (kind : Int) (hk : 3 ≤ kind ∧ kind ≤ 11) (u : TD) (fu : u.fine) (su : u.size ≤ 1000000000) : WithC kind u := by
  by_cases h4 : kind = 4
  · subst h4; exact cWith_sub u fu (cAdd_all u fu su)
  · refine cWith_rest kind hk h4 u fu (fun a m e => ?_)
    subst e
    exact cAdd_all a fu.2.2.1 (by simp only [TD.size] at su; omega)

theorem cMade_cps {Lo : Nat} (kind : Int) (hk : 3 ≤ kind ∧ kind ≤ 11) (u v : TD) (pu pv : Value) (w : World) (hu : PartsAt Lo w u pu) (hv : PartsAt Lo w v pv) (fu : u.fine) (fv : v.fine) (su : u.size ≤ 1000000000) (sv : v.size ≤ 1000000000) (ht : TabW w) (Post : Ending → World → Prop)
    (hp : ∀ ps w', PartsAt Lo w' (madeT kind u v) ps → Below w.heap.size w w' → Post (.returned (termV (madeT kind u v) ps)) w') :
    Calls Tryz.prog 188 #[.int .i64 kind, termV u pu, termV v pv] w Post :=
  cMade_with kind hk u v pu pv w hu hv fu fv su sv ht (cWith_any kind hk u fu su) (fun _ => cWith_any kind hk v fv sv) Post hp

end Go.Proofs.YtblhmeidbjigaaaGreatDoor

/- The code's terms: Read, without. -/
set_option linter.unusedSimpArgs false
set_option linter.unusedVariables false
namespace Go.Proofs.YtblhmeidbjigaaaGreatDoor
open Go.RowKit

/-- Two terms in boxes, a box for what is handed back, and the three parts of a store in boxes. -/
structure BoxR (w W : World) (A B G C D E : Nat) (u v c a x : TD) (pu pv pc pa px : Value) : Prop where
  box : Box2 w W A B G u v pu pv
  rc : Row W C 119 (tcells c pc)
  ra : Row W D 119 (tcells a pa)
  rx : Row W E 119 (tcells x px)

theorem BoxR.next {w W W' : World} {A B G C D E : Nat} {u v c a x : TD} {pu pv pc pa px : Value} (h : BoxR w W A B G C D E u v c a x pu pv pc pa px) (hb : Below W.heap.size W W') : BoxR w W' A B G C D E u v c a x pu pv pc pa px :=
  ⟨h.box.next hb, h.rc.keep hb, h.ra.keep hb, h.rx.keep hb⟩

theorem below_alloc3 (w1 : World) (o1 o2 o3 : Obj) : Below w1.heap.size w1 (((w1.alloc o1).alloc o2).alloc o3) := (((Below.refl _ _).alloc (Nat.le_refl _) _).alloc (by simp) _).alloc (by simp; omega) _

theorem BoxR.start {w w1 : World} {A B G : Nat} {u v : TD} {pu pv : Value} (h : Box2 w w1 A B G u v pu pv) (c a x : TD) (pc pa px : Value) :
    BoxR w (((w1.alloc (.cells #[.int .i64 (ckind c), .int .i64 (cval c), pc, .int .i64 c.size, .string (str (showT c))] 119)).alloc (.cells #[.int .i64 (ckind a), .int .i64 (cval a), pa, .int .i64 a.size, .string (str (showT a))] 119)).alloc (.cells #[.int .i64 (ckind x), .int .i64 (cval x), px, .int .i64 x.size, .string (str (showT x))] 119)) A B G w1.heap.size (w1.heap.size + 1) (w1.heap.size + 1 + 1) u v c a x pu pv pc pa px := by
  refine ⟨h.next (below_alloc3 _ _ _ _), Row.alloc (Row.alloc (heap_alloc_new w1 _) _) _, Row.alloc (heap_alloc2_new w1 _ _) _, ?_⟩
  have := heap_alloc_new ((w1.alloc (.cells #[.int .i64 (ckind c), .int .i64 (cval c), pc, .int .i64 c.size, .string (str (showT c))] 119)).alloc (.cells #[.int .i64 (ckind a), .int .i64 (cval a), pa, .int .i64 a.size, .string (str (showT a))] 119)) (.cells #[.int .i64 (ckind x), .int .i64 (cval x), px, .int .i64 x.size, .string (str (showT x))] 119)
  simp only [World.size_alloc] at this
  exact this

set_option maxRecDepth 100000 in
set_option maxHeartbeats 2000000 in
theorem cRead_off {Lo : Nat} (u v : TD) (uo vo : Option Addr) (un uc vn vc : Nat) (w : World) (hu : PartsAt Lo w u (.slice uo un uc)) (hv : PartsAt Lo w v (.slice vo vn vc)) (fu : u.fine) (fv : v.fine) (su : u.size ≤ 1000000000) (sv : v.size ≤ 1000000000) (hk : u.kind ≠ 13) (Post : Ending → World → Prop)
    (hp : ∀ ps w', PartsAt Lo w' (readT u v) ps → Below w.heap.size w w' → Post (.returned (termV (readT u v) ps)) w') :
    Calls Tryz.prog 184 #[termV u (.slice uo un uc), termV v (.slice vo vn vc)] w Post := by
  have X0 := Box2.start w u v (.slice uo un uc) (.slice vo vn vc)
  have q1 := fun P h => cStore_off u (.slice uo un uc) (((w.alloc (.cells #[.int .i64 (ckind u), .int .i64 (cval u), (.slice uo un uc), .int .i64 u.size, .string (str (showT u))] 119)).alloc (.cells #[.int .i64 (ckind v), .int .i64 (cval v), (.slice vo vn vc), .int .i64 v.size, .string (str (showT v))] 119)).alloc (.cells #[.int .i64 0, .int .i64 0, .slice none 0 0, .int .i64 0, .string ⟨#[]⟩] 119)) (fun e => hk ((ckind_store fu).1 e)) P h
  rw [read_else hk] at hp
  have HX := Lib.hid X0
  have HU := Lib.hid hu
  have HV := Lib.hid hv
  have HP := Lib.hid hp
  unfold termV at q1 ⊢
  clear X0 hu hv hp
  go_enter Tryz.func184, Tryz.ntmps184
  go_wp2_with fail
  refine q1 _ ?_
  intro w1 b1
  have Y := HX.out.next b1
  have X := Y.next (below_alloc3 w1 (.cells #[.int .i64 0, .int .i64 0, .slice none 0 0, .int .i64 0, .string ⟨#[]⟩] 119) (.cells #[.int .i64 0, .int .i64 0, .slice none 0 0, .int .i64 0, .string ⟨#[]⟩] 119) (.cells #[.int .i64 0, .int .i64 0, .slice none 0 0, .int .i64 0, .string ⟨#[]⟩] 119))
  have a0 := fun o1 o2 o3 => ((((Y).ru.alloc o1).alloc o2).alloc o3).cell (i := 0) rfl
  have a1 := fun o1 o2 o3 => ((((Y).ru.alloc o1).alloc o2).alloc o3).cell (i := 1) rfl
  have a2 := fun o1 o2 o3 => ((((Y).ru.alloc o1).alloc o2).alloc o3).cell (i := 2) rfl
  have a3 := fun o1 o2 o3 => ((((Y).ru.alloc o1).alloc o2).alloc o3).cell (i := 3) rfl
  have a4 := fun o1 o2 o3 => ((((Y).ru.alloc o1).alloc o2).alloc o3).cell (i := 4) rfl
  have c0 := fun o1 o2 o3 => ((((Y).rv.alloc o1).alloc o2).alloc o3).cell (i := 0) rfl
  have c1 := fun o1 o2 o3 => ((((Y).rv.alloc o1).alloc o2).alloc o3).cell (i := 1) rfl
  have c2 := fun o1 o2 o3 => ((((Y).rv.alloc o1).alloc o2).alloc o3).cell (i := 2) rfl
  have c3 := fun o1 o2 o3 => ((((Y).rv.alloc o1).alloc o2).alloc o3).cell (i := 3) rfl
  have c4 := fun o1 o2 o3 => ((((Y).rv.alloc o1).alloc o2).alloc o3).cell (i := 4) rfl
  have q2 := fun P => cOfTwo_cps 12 (by omega) u v (.slice uo un uc) (.slice vo vn vc) (((w1.alloc (.cells #[.int .i64 0, .int .i64 0, .slice none 0 0, .int .i64 0, .string ⟨#[]⟩] 119)).alloc (.cells #[.int .i64 0, .int .i64 0, .slice none 0 0, .int .i64 0, .string ⟨#[]⟩] 119)).alloc (.cells #[.int .i64 0, .int .i64 0, .slice none 0 0, .int .i64 0, .string ⟨#[]⟩] 119)) (HU.out.keep X.keep) (HV.out.keep X.keep) fu fv (by omega) (by omega) P
  unfold termV at q2
  clear q1 b1 HX Y
  go_wp2_with fail
  refine q2 _ ?_
  intro pt w2 p2 b2
  have X2 := X.next b2
  obtain ⟨to, tn, tc, rfl⟩ := p2.slice
  clear q2 X b2 a0 a1 a2 a3 a4 c0 c1 c2 c3 c4
  have y9 := X2.fin p2
  have HF := Lib.hid (HP.out _ _ y9.1 y9.2)
  unfold termV set5 at HF
  have z0 := X2.rg.cell (i := 0) rfl
  have f0 := X2.rg.frozen 0
  have z1 := X2.rg.cell (i := 1) rfl
  have f1 := X2.rg.frozen 1
  have z2 := X2.rg.cell (i := 2) rfl
  have f2 := X2.rg.frozen 2
  have z3 := X2.rg.cell (i := 3) rfl
  have f3 := X2.rg.frozen 3
  have z4 := X2.rg.cell (i := 4) rfl
  have f4 := X2.rg.frozen 4
  clear y9
  go_wp2
  (try simp only [Exit.inBlock, Exit.then])
  refine bodyPost_ret (v := .agg #[.int .i64 (ckind (TD.two 12 u v)), .int .i64 (cval (TD.two 12 u v)), (.slice to tn tc), .int .i64 ((TD.two 12 u v)).size, .string (str (showT (TD.two 12 u v)))]) ?_ rfl ?_
  · simp [results, Tryz.results184, go_sem, z0, z1, z2, z3, z4]
  · exact HF.out

set_option maxRecDepth 100000 in
set_option maxHeartbeats 4000000 in
theorem cRead_cps {Lo : Nat} (u : TD) : ∀ (v : TD) (pu pv : Value) (w : World) (Post : Ending → World → Prop), PartsAt Lo w u pu → PartsAt Lo w v pv → u.fine → v.fine → u.size ≤ 1000000000 → v.size ≤ 1000000000 →
    (∀ ps w', PartsAt Lo w' (readT u v) ps → Below w.heap.size w w' → Post (.returned (termV (readT u v) ps)) w') →
    Calls Tryz.prog 184 #[termV u pu, termV v pv] w Post := by
  induction u with
  | leaf k n =>
    intro v pu pv w Post hu hv fu fv su sv hp
    obtain ⟨uo, un, uc, rfl⟩ := hu.slice
    obtain ⟨vo, vn, vc, rfl⟩ := hv.slice
    exact cRead_off _ v uo vo un uc vn vc w hu hv fu fv su sv (by obtain ⟨q, _⟩ := fu; simp only [TD.kind]; omega) Post hp
  | two k a b iha ihb =>
    intro v pu pv w Post hu hv fu fv su sv hp
    obtain ⟨uo, un, uc, rfl⟩ := hu.slice
    obtain ⟨vo, vn, vc, rfl⟩ := hv.slice
    exact cRead_off _ v uo vo un uc vn vc w hu hv fu fv su sv (by obtain ⟨q, q', _⟩ := fu; simp only [TD.kind]; omega) Post hp
  | three k c a x ihc iha ihx =>
    intro v pu pv w Post hu hv fu fv su sv hp
    obtain ⟨uo, un, uc, rfl⟩ := hu.slice
    obtain ⟨vo, vn, vc, rfl⟩ := hv.slice
    obtain ⟨rfl, fc, fa, fx⟩ := id fu
    obtain ⟨u, he⟩ : ∃ u, u = TD.three 13 c a x := ⟨_, rfl⟩
    rw [← he] at hu hp fu su ⊢
    have HS : Hid (c.size ≤ 1000000000) := by rw [he] at su; simp only [TD.size] at su; show _ ≤ _; omega
    have X0 := Box2.start w u v (.slice uo un uc) (.slice vo vn vc)
    have q1 := fun P h => cStore_three u c a x (.slice uo un uc) (((w.alloc (.cells #[.int .i64 (ckind u), .int .i64 (cval u), (.slice uo un uc), .int .i64 u.size, .string (str (showT u))] 119)).alloc (.cells #[.int .i64 (ckind v), .int .i64 (cval v), (.slice vo vn vc), .int .i64 v.size, .string (str (showT v))] 119)).alloc (.cells #[.int .i64 0, .int .i64 0, .slice none 0 0, .int .i64 0, .string ⟨#[]⟩] 119)) (hu.keep X0.keep) he P h
    have H1 : Hid (a = v → readT u v = x) := fun e => by rw [he]; exact read_same e
    have H2 : Hid (a ≠ v → apartT a v = true → readT u v = readT c v) := fun e e' => by rw [he]; exact read_far e e'
    have H3 : Hid (a ≠ v → apartT a v = false → readT u v = .two 12 u v) := fun e e' => by rw [he]; exact read_near e e'
    have HX := Lib.hid X0
    have HU := Lib.hid hu
    have HV := Lib.hid hv
    have HP : Hid (∀ t, readT u v = t → ∀ ps w', PartsAt Lo w' t ps → Below w.heap.size w w' → Post (.returned (termV t ps)) w') := fun t e => by subst e; exact hp
    have HI := Lib.hid ihc
    unfold termV at q1 ⊢
    clear X0 hu hv hp ihc iha ihx he
    go_enter Tryz.func184, Tryz.ntmps184
    go_wp2_with fail
    refine q1 _ ?_
    intro pc pa px w1 p1 p2 p3 b1
    obtain ⟨co, cn, cc, rfl⟩ := p1.slice
    obtain ⟨ao, an, ac, rfl⟩ := p2.slice
    obtain ⟨xo, xn, xc, rfl⟩ := p3.slice
    have Y := HX.out.next b1
    have X := BoxR.start Y c a x (.slice co cn cc) (.slice ao an ac) (.slice xo xn xc)
    have P3 := Lib.hid (And.intro (p1.keep (below_alloc3 w1 (.cells #[.int .i64 (ckind c), .int .i64 (cval c), (.slice co cn cc), .int .i64 c.size, .string (str (showT c))] 119) (.cells #[.int .i64 (ckind a), .int .i64 (cval a), (.slice ao an ac), .int .i64 a.size, .string (str (showT a))] 119) (.cells #[.int .i64 (ckind x), .int .i64 (cval x), (.slice xo xn xc), .int .i64 x.size, .string (str (showT x))] 119))) (And.intro (p2.keep (below_alloc3 w1 (.cells #[.int .i64 (ckind c), .int .i64 (cval c), (.slice co cn cc), .int .i64 c.size, .string (str (showT c))] 119) (.cells #[.int .i64 (ckind a), .int .i64 (cval a), (.slice ao an ac), .int .i64 a.size, .string (str (showT a))] 119) (.cells #[.int .i64 (ckind x), .int .i64 (cval x), (.slice xo xn xc), .int .i64 x.size, .string (str (showT x))] 119))) (p3.keep (below_alloc3 w1 (.cells #[.int .i64 (ckind c), .int .i64 (cval c), (.slice co cn cc), .int .i64 c.size, .string (str (showT c))] 119) (.cells #[.int .i64 (ckind a), .int .i64 (cval a), (.slice ao an ac), .int .i64 a.size, .string (str (showT a))] 119) (.cells #[.int .i64 (ckind x), .int .i64 (cval x), (.slice xo xn xc), .int .i64 x.size, .string (str (showT x))] 119)))))
    have c0 := fun o1 o2 o3 => ((((Y).rv.alloc o1).alloc o2).alloc o3).cell (i := 0) rfl
    have c1 := fun o1 o2 o3 => ((((Y).rv.alloc o1).alloc o2).alloc o3).cell (i := 1) rfl
    have c2 := fun o1 o2 o3 => ((((Y).rv.alloc o1).alloc o2).alloc o3).cell (i := 2) rfl
    have c3 := fun o1 o2 o3 => ((((Y).rv.alloc o1).alloc o2).alloc o3).cell (i := 3) rfl
    have c4 := fun o1 o2 o3 => ((((Y).rv.alloc o1).alloc o2).alloc o3).cell (i := 4) rfl
    have q2 := cSame_any a v (.slice ao an ac) (.slice vo vn vc) fa fv (((w1.alloc (.cells #[.int .i64 (ckind c), .int .i64 (cval c), (.slice co cn cc), .int .i64 c.size, .string (str (showT c))] 119)).alloc (.cells #[.int .i64 (ckind a), .int .i64 (cval a), (.slice ao an ac), .int .i64 a.size, .string (str (showT a))] 119)).alloc (.cells #[.int .i64 (ckind x), .int .i64 (cval x), (.slice xo xn xc), .int .i64 x.size, .string (str (showT x))] 119))
    unfold termV at q2
    clear q1 b1 HX Y p1 p2 p3
    go_wp2_with fail
    refine q2.mono ?_
    rintro e w2 ⟨rfl, b2⟩
    have X2 := X.next b2
    have P2 := Lib.hid (And.intro (P3.out.1.keep b2) (And.intro (P3.out.2.1.keep b2) (P3.out.2.2.keep b2)))
    clear q2 X b2 P3 c0 c1 c2 c3 c4
    generalize w1.heap.size + 1 + 1 = E at *
    generalize w1.heap.size + 1 = D at *
    generalize w1.heap.size = C at *
    by_cases e1 : a = v
    · rw [(sameT_iff a v).2 e1]
      have HP' := Lib.hid (HP.out x (H1.out e1))
      clear e1 HP H1 H2 H3 HI
      have e0 := X2.rx.cell (i := 0) rfl
      have e1 := X2.rx.cell (i := 1) rfl
      have e2 := X2.rx.cell (i := 2) rfl
      have e3 := X2.rx.cell (i := 3) rfl
      have e4 := X2.rx.cell (i := 4) rfl
      have Xb := X2.box
      have y9 := Xb.fin P2.out.2.2
      have HF := Lib.hid (HP'.out _ _ y9.1 y9.2)
      unfold termV set5 at HF
      have z0 := Xb.rg.cell (i := 0) rfl
      have f0 := Xb.rg.frozen 0
      have z1 := Xb.rg.cell (i := 1) rfl
      have f1 := Xb.rg.frozen 1
      have z2 := Xb.rg.cell (i := 2) rfl
      have f2 := Xb.rg.frozen 2
      have z3 := Xb.rg.cell (i := 3) rfl
      have f3 := Xb.rg.frozen 3
      have z4 := Xb.rg.cell (i := 4) rfl
      have f4 := Xb.rg.frozen 4
      clear y9
      go_wp2
      (try simp only [Exit.inBlock, Exit.then])
      refine bodyPost_ret (v := .agg #[.int .i64 (ckind x), .int .i64 (cval x), (.slice xo xn xc), .int .i64 (x).size, .string (str (showT x))]) ?_ rfl ?_
      · simp [results, Tryz.results184, go_sem, z0, z1, z2, z3, z4]
      · exact HF.out
    · rw [sameT_ne e1]
      have q3 := cApart_any a v (.slice ao an ac) (.slice vo vn vc) fa fv w2 P2.out.2.1 (HV.out.keep X2.box.keep)
      unfold termV at q3
      have d0 := X2.ra.cell (i := 0) rfl
      have d1 := X2.ra.cell (i := 1) rfl
      have d2 := X2.ra.cell (i := 2) rfl
      have d3 := X2.ra.cell (i := 3) rfl
      have d4 := X2.ra.cell (i := 4) rfl
      have c0 := X2.box.rv.cell (i := 0) rfl
      have c1 := X2.box.rv.cell (i := 1) rfl
      have c2 := X2.box.rv.cell (i := 2) rfl
      have c3 := X2.box.rv.cell (i := 3) rfl
      have c4 := X2.box.rv.cell (i := 4) rfl
      go_wp2_with fail
      refine q3.mono ?_
      rintro e w3 ⟨rfl, b3⟩
      have X3 := X2.next b3
      have P4 := Lib.hid (P2.out.1.keep b3)
      clear q3 X2 b3 P2 c0 c1 c2 c3 c4 d0 d1 d2 d3 d4
      cases e2 : apartT a v with
      | true =>
        have HP' := Lib.hid (HP.out _ (H2.out e1 e2))
        have q4 := fun P => HI.out v (.slice co cn cc) (.slice vo vn vc) w3 P P4.out (HV.out.keep X3.box.keep) fc fv HS.out sv
        unfold termV at q4
        have d0 := X3.rc.cell (i := 0) rfl
        have d1 := X3.rc.cell (i := 1) rfl
        have d2 := X3.rc.cell (i := 2) rfl
        have d3 := X3.rc.cell (i := 3) rfl
        have d4 := X3.rc.cell (i := 4) rfl
        have c0 := X3.box.rv.cell (i := 0) rfl
        have c1 := X3.box.rv.cell (i := 1) rfl
        have c2 := X3.box.rv.cell (i := 2) rfl
        have c3 := X3.box.rv.cell (i := 3) rfl
        have c4 := X3.box.rv.cell (i := 4) rfl
        clear HP H1 H2 H3 HI P4 e1 e2
        go_wp2_with fail
        refine q4 _ ?_
        intro pt w4 p4 b4
        have X4 := X3.box.next b4
        obtain ⟨to, tn, tc, rfl⟩ := p4.slice
        clear q4 X3 b4 c0 c1 c2 c3 c4 d0 d1 d2 d3 d4
        have y9 := X4.fin p4
        have HF := Lib.hid (HP'.out _ _ y9.1 y9.2)
        unfold termV set5 at HF
        have z0 := X4.rg.cell (i := 0) rfl
        have f0 := X4.rg.frozen 0
        have z1 := X4.rg.cell (i := 1) rfl
        have f1 := X4.rg.frozen 1
        have z2 := X4.rg.cell (i := 2) rfl
        have f2 := X4.rg.frozen 2
        have z3 := X4.rg.cell (i := 3) rfl
        have f3 := X4.rg.frozen 3
        have z4 := X4.rg.cell (i := 4) rfl
        have f4 := X4.rg.frozen 4
        clear y9
        go_wp2
        (try simp only [Exit.inBlock, Exit.then])
        refine bodyPost_ret (v := .agg #[.int .i64 (ckind (readT c v)), .int .i64 (cval (readT c v)), (.slice to tn tc), .int .i64 ((readT c v)).size, .string (str (showT (readT c v)))]) ?_ rfl ?_
        · simp [results, Tryz.results184, go_sem, z0, z1, z2, z3, z4]
        · exact HF.out
      | false =>
        have HP' := Lib.hid (HP.out _ (H3.out e1 e2))
        have q4 := fun P => cOfTwo_cps 12 (by omega) u v (.slice uo un uc) (.slice vo vn vc) w3 (HU.out.keep X3.box.keep) (HV.out.keep X3.box.keep) fu fv (by omega) (by omega) P
        unfold termV at q4
        have d0 := X3.box.ru.cell (i := 0) rfl
        have d1 := X3.box.ru.cell (i := 1) rfl
        have d2 := X3.box.ru.cell (i := 2) rfl
        have d3 := X3.box.ru.cell (i := 3) rfl
        have d4 := X3.box.ru.cell (i := 4) rfl
        have c0 := X3.box.rv.cell (i := 0) rfl
        have c1 := X3.box.rv.cell (i := 1) rfl
        have c2 := X3.box.rv.cell (i := 2) rfl
        have c3 := X3.box.rv.cell (i := 3) rfl
        have c4 := X3.box.rv.cell (i := 4) rfl
        clear HP H1 H2 H3 HI P4 e1 e2
        go_wp2_with fail
        refine q4 _ ?_
        intro pt w4 p4 b4
        have X4 := X3.box.next b4
        obtain ⟨to, tn, tc, rfl⟩ := p4.slice
        clear q4 X3 b4 c0 c1 c2 c3 c4 d0 d1 d2 d3 d4
        have y9 := X4.fin p4
        have HF := Lib.hid (HP'.out _ _ y9.1 y9.2)
        unfold termV set5 at HF
        have z0 := X4.rg.cell (i := 0) rfl
        have f0 := X4.rg.frozen 0
        have z1 := X4.rg.cell (i := 1) rfl
        have f1 := X4.rg.frozen 1
        have z2 := X4.rg.cell (i := 2) rfl
        have f2 := X4.rg.frozen 2
        have z3 := X4.rg.cell (i := 3) rfl
        have f3 := X4.rg.frozen 3
        have z4 := X4.rg.cell (i := 4) rfl
        have f4 := X4.rg.frozen 4
        clear y9
        go_wp2
        (try simp only [Exit.inBlock, Exit.then])
        refine bodyPost_ret (v := .agg #[.int .i64 (ckind (TD.two 12 u v)), .int .i64 (cval (TD.two 12 u v)), (.slice to tn tc), .int .i64 ((TD.two 12 u v)).size, .string (str (showT (TD.two 12 u v)))]) ?_ rfl ?_
        · simp [results, Tryz.results184, go_sem, z0, z1, z2, z3, z4]
        · exact HF.out

end Go.Proofs.YtblhmeidbjigaaaGreatDoor

/- The code's terms: without. -/
set_option linter.unusedSimpArgs false
set_option linter.unusedVariables false
namespace Go.Proofs.YtblhmeidbjigaaaGreatDoor
open Go.RowKit

set_option maxRecDepth 100000 in
set_option maxHeartbeats 2000000 in
theorem cWithout_off {Lo : Nat} (u v : TD) (uo vo : Option Addr) (un uc vn vc : Nat) (w : World) (hu : PartsAt Lo w u (.slice uo un uc)) (hv : PartsAt Lo w v (.slice vo vn vc)) (fu : u.fine) (hk : u.kind ≠ 13) (Post : Ending → World → Prop)
    (hp : ∀ ps w', PartsAt Lo w' (leftT u v) ps → Below w.heap.size w w' → Post (.returned (termV (leftT u v) ps)) w') :
    Calls Tryz.prog 199 #[termV u (.slice uo un uc), termV v (.slice vo vn vc)] w Post := by
  have X0 := Box2.start w u v (.slice uo un uc) (.slice vo vn vc)
  have q1 := fun P h => cStore_off u (.slice uo un uc) (((w.alloc (.cells #[.int .i64 (ckind u), .int .i64 (cval u), (.slice uo un uc), .int .i64 u.size, .string (str (showT u))] 119)).alloc (.cells #[.int .i64 (ckind v), .int .i64 (cval v), (.slice vo vn vc), .int .i64 v.size, .string (str (showT v))] 119)).alloc (.cells #[.int .i64 0, .int .i64 0, .slice none 0 0, .int .i64 0, .string ⟨#[]⟩] 119)) (fun e => hk ((ckind_store fu).1 e)) P h
  rw [left_else hk] at hp
  have HX := Lib.hid X0
  have HU := Lib.hid hu
  have HP := Lib.hid hp
  unfold termV at q1 ⊢
  clear X0 hu hv hp
  go_enter Tryz.func199, Tryz.ntmps199
  go_wp2_with fail
  refine q1 _ ?_
  intro w1 b1
  have Y := HX.out.next b1
  have X := Y.next (below_alloc3 w1 (.cells #[.int .i64 0, .int .i64 0, .slice none 0 0, .int .i64 0, .string ⟨#[]⟩] 119) (.cells #[.int .i64 0, .int .i64 0, .slice none 0 0, .int .i64 0, .string ⟨#[]⟩] 119) (.cells #[.int .i64 0, .int .i64 0, .slice none 0 0, .int .i64 0, .string ⟨#[]⟩] 119))
  have a0 := fun o1 o2 o3 => ((((Y).ru.alloc o1).alloc o2).alloc o3).cell (i := 0) rfl
  have a1 := fun o1 o2 o3 => ((((Y).ru.alloc o1).alloc o2).alloc o3).cell (i := 1) rfl
  have a2 := fun o1 o2 o3 => ((((Y).ru.alloc o1).alloc o2).alloc o3).cell (i := 2) rfl
  have a3 := fun o1 o2 o3 => ((((Y).ru.alloc o1).alloc o2).alloc o3).cell (i := 3) rfl
  have a4 := fun o1 o2 o3 => ((((Y).ru.alloc o1).alloc o2).alloc o3).cell (i := 4) rfl
  have z0 := fun o1 o2 o3 => (((Y.rg.alloc o1).alloc o2).alloc o3).cell (i := 0) rfl
  have f0 := fun o1 o2 o3 => (((Y.rg.alloc o1).alloc o2).alloc o3).frozen 0
  have z1 := fun o1 o2 o3 => (((Y.rg.alloc o1).alloc o2).alloc o3).cell (i := 1) rfl
  have f1 := fun o1 o2 o3 => (((Y.rg.alloc o1).alloc o2).alloc o3).frozen 1
  have z2 := fun o1 o2 o3 => (((Y.rg.alloc o1).alloc o2).alloc o3).cell (i := 2) rfl
  have f2 := fun o1 o2 o3 => (((Y.rg.alloc o1).alloc o2).alloc o3).frozen 2
  have z3 := fun o1 o2 o3 => (((Y.rg.alloc o1).alloc o2).alloc o3).cell (i := 3) rfl
  have f3 := fun o1 o2 o3 => (((Y.rg.alloc o1).alloc o2).alloc o3).frozen 3
  have z4 := fun o1 o2 o3 => (((Y.rg.alloc o1).alloc o2).alloc o3).cell (i := 4) rfl
  have f4 := fun o1 o2 o3 => (((Y.rg.alloc o1).alloc o2).alloc o3).frozen 4
  have y9 := X.fin (HU.out.keep X.keep)
  have HF := Lib.hid (HP.out _ _ y9.1 y9.2)
  unfold termV set5 at HF
  clear q1 b1 HX Y X y9
  go_wp2
  (try simp only [Exit.inBlock, Exit.then])
  refine bodyPost_ret (v := .agg #[.int .i64 (ckind u), .int .i64 (cval u), (.slice uo un uc), .int .i64 (u).size, .string (str (showT u))]) ?_ rfl ?_
  · simp [results, Tryz.results199, go_sem, z0, z1, z2, z3, z4]
  · exact HF.out

set_option maxRecDepth 100000 in
set_option maxHeartbeats 4000000 in
theorem cWithout_cps {Lo : Nat} (u : TD) : ∀ (v : TD) (pu pv : Value) (w : World) (Post : Ending → World → Prop), PartsAt Lo w u pu → PartsAt Lo w v pv → u.fine → v.fine → u.size ≤ 1000000000 →
    (∀ ps w', PartsAt Lo w' (leftT u v) ps → Below w.heap.size w w' → Post (.returned (termV (leftT u v) ps)) w') →
    Calls Tryz.prog 199 #[termV u pu, termV v pv] w Post := by
  induction u with
  | leaf k n =>
    intro v pu pv w Post hu hv fu fv su hp
    obtain ⟨uo, un, uc, rfl⟩ := hu.slice
    obtain ⟨vo, vn, vc, rfl⟩ := hv.slice
    exact cWithout_off _ v uo vo un uc vn vc w hu hv fu (by obtain ⟨q, _⟩ := fu; simp only [TD.kind]; omega) Post hp
  | two k a b iha ihb =>
    intro v pu pv w Post hu hv fu fv su hp
    obtain ⟨uo, un, uc, rfl⟩ := hu.slice
    obtain ⟨vo, vn, vc, rfl⟩ := hv.slice
    exact cWithout_off _ v uo vo un uc vn vc w hu hv fu (by obtain ⟨q, q', _⟩ := fu; simp only [TD.kind]; omega) Post hp
  | three k c a x ihc iha ihx =>
    intro v pu pv w Post hu hv fu fv su hp
    obtain ⟨uo, un, uc, rfl⟩ := hu.slice
    obtain ⟨vo, vn, vc, rfl⟩ := hv.slice
    obtain ⟨rfl, fc, fa, fx⟩ := id fu
    obtain ⟨u, he⟩ : ∃ u, u = TD.three 13 c a x := ⟨_, rfl⟩
    rw [← he] at hu hp fu su ⊢
    have HS : Hid (c.size + a.size + x.size ≤ 1000000000) := by rw [he] at su; simp only [TD.size] at su; show _ ≤ _; omega
    have X0 := Box2.start w u v (.slice uo un uc) (.slice vo vn vc)
    have q1 := fun P h => cStore_three u c a x (.slice uo un uc) (((w.alloc (.cells #[.int .i64 (ckind u), .int .i64 (cval u), (.slice uo un uc), .int .i64 u.size, .string (str (showT u))] 119)).alloc (.cells #[.int .i64 (ckind v), .int .i64 (cval v), (.slice vo vn vc), .int .i64 v.size, .string (str (showT v))] 119)).alloc (.cells #[.int .i64 0, .int .i64 0, .slice none 0 0, .int .i64 0, .string ⟨#[]⟩] 119)) (hu.keep X0.keep) he P h
    have H1 : Hid (a = v → leftT u v = c) := fun e => by rw [he]; exact left_same e
    have H2 : Hid (a ≠ v → apartT a v = true → leftT u v = .three 13 (leftT c v) a x) := fun e e' => by rw [he]; exact left_far e e'
    have H3 : Hid (a ≠ v → apartT a v = false → leftT u v = u) := fun e e' => by rw [he]; exact left_near e e'
    have HX := Lib.hid X0
    have HU := Lib.hid hu
    have HV := Lib.hid hv
    have HP : Hid (∀ t, leftT u v = t → ∀ ps w', PartsAt Lo w' t ps → Below w.heap.size w w' → Post (.returned (termV t ps)) w') := fun t e => by subst e; exact hp
    have HI := Lib.hid ihc
    have fl := leftT_fine c v fc
    have sl := leftT_size c v
    unfold termV at q1 ⊢
    clear X0 hu hv hp ihc iha ihx he
    go_enter Tryz.func199, Tryz.ntmps199
    go_wp2_with fail
    refine q1 _ ?_
    intro pc pa px w1 p1 p2 p3 b1
    obtain ⟨co, cn, cc, rfl⟩ := p1.slice
    obtain ⟨ao, an, ac, rfl⟩ := p2.slice
    obtain ⟨xo, xn, xc, rfl⟩ := p3.slice
    have Y := HX.out.next b1
    have X := BoxR.start Y c a x (.slice co cn cc) (.slice ao an ac) (.slice xo xn xc)
    have P3 := Lib.hid (And.intro (p1.keep (below_alloc3 w1 (.cells #[.int .i64 (ckind c), .int .i64 (cval c), (.slice co cn cc), .int .i64 c.size, .string (str (showT c))] 119) (.cells #[.int .i64 (ckind a), .int .i64 (cval a), (.slice ao an ac), .int .i64 a.size, .string (str (showT a))] 119) (.cells #[.int .i64 (ckind x), .int .i64 (cval x), (.slice xo xn xc), .int .i64 x.size, .string (str (showT x))] 119))) (And.intro (p2.keep (below_alloc3 w1 (.cells #[.int .i64 (ckind c), .int .i64 (cval c), (.slice co cn cc), .int .i64 c.size, .string (str (showT c))] 119) (.cells #[.int .i64 (ckind a), .int .i64 (cval a), (.slice ao an ac), .int .i64 a.size, .string (str (showT a))] 119) (.cells #[.int .i64 (ckind x), .int .i64 (cval x), (.slice xo xn xc), .int .i64 x.size, .string (str (showT x))] 119))) (p3.keep (below_alloc3 w1 (.cells #[.int .i64 (ckind c), .int .i64 (cval c), (.slice co cn cc), .int .i64 c.size, .string (str (showT c))] 119) (.cells #[.int .i64 (ckind a), .int .i64 (cval a), (.slice ao an ac), .int .i64 a.size, .string (str (showT a))] 119) (.cells #[.int .i64 (ckind x), .int .i64 (cval x), (.slice xo xn xc), .int .i64 x.size, .string (str (showT x))] 119)))))
    have c0 := fun o1 o2 o3 => ((((Y).rv.alloc o1).alloc o2).alloc o3).cell (i := 0) rfl
    have c1 := fun o1 o2 o3 => ((((Y).rv.alloc o1).alloc o2).alloc o3).cell (i := 1) rfl
    have c2 := fun o1 o2 o3 => ((((Y).rv.alloc o1).alloc o2).alloc o3).cell (i := 2) rfl
    have c3 := fun o1 o2 o3 => ((((Y).rv.alloc o1).alloc o2).alloc o3).cell (i := 3) rfl
    have c4 := fun o1 o2 o3 => ((((Y).rv.alloc o1).alloc o2).alloc o3).cell (i := 4) rfl
    have q2 := cSame_any a v (.slice ao an ac) (.slice vo vn vc) fa fv (((w1.alloc (.cells #[.int .i64 (ckind c), .int .i64 (cval c), (.slice co cn cc), .int .i64 c.size, .string (str (showT c))] 119)).alloc (.cells #[.int .i64 (ckind a), .int .i64 (cval a), (.slice ao an ac), .int .i64 a.size, .string (str (showT a))] 119)).alloc (.cells #[.int .i64 (ckind x), .int .i64 (cval x), (.slice xo xn xc), .int .i64 x.size, .string (str (showT x))] 119))
    unfold termV at q2
    clear q1 b1 HX Y p1 p2 p3
    go_wp2_with fail
    refine q2.mono ?_
    rintro e w2 ⟨rfl, b2⟩
    have X2 := X.next b2
    have P2 := Lib.hid (And.intro (P3.out.1.keep b2) (And.intro (P3.out.2.1.keep b2) (P3.out.2.2.keep b2)))
    clear q2 X b2 P3 c0 c1 c2 c3 c4
    generalize w1.heap.size + 1 + 1 = E at *
    generalize w1.heap.size + 1 = D at *
    generalize w1.heap.size = C at *
    by_cases e1 : a = v
    · rw [(sameT_iff a v).2 e1]
      have HP' := Lib.hid (HP.out c (H1.out e1))
      clear e1 HP H1 H2 H3 HI
      have e0 := X2.rc.cell (i := 0) rfl
      have e1 := X2.rc.cell (i := 1) rfl
      have e2 := X2.rc.cell (i := 2) rfl
      have e3 := X2.rc.cell (i := 3) rfl
      have e4 := X2.rc.cell (i := 4) rfl
      have Xb := X2.box
      have y9 := Xb.fin P2.out.1
      have HF := Lib.hid (HP'.out _ _ y9.1 y9.2)
      unfold termV set5 at HF
      have z0 := Xb.rg.cell (i := 0) rfl
      have f0 := Xb.rg.frozen 0
      have z1 := Xb.rg.cell (i := 1) rfl
      have f1 := Xb.rg.frozen 1
      have z2 := Xb.rg.cell (i := 2) rfl
      have f2 := Xb.rg.frozen 2
      have z3 := Xb.rg.cell (i := 3) rfl
      have f3 := Xb.rg.frozen 3
      have z4 := Xb.rg.cell (i := 4) rfl
      have f4 := Xb.rg.frozen 4
      clear y9
      go_wp2
      (try simp only [Exit.inBlock, Exit.then])
      refine bodyPost_ret (v := .agg #[.int .i64 (ckind c), .int .i64 (cval c), (.slice co cn cc), .int .i64 (c).size, .string (str (showT c))]) ?_ rfl ?_
      · simp [results, Tryz.results199, go_sem, z0, z1, z2, z3, z4]
      · exact HF.out
    · rw [sameT_ne e1]
      have q3 := cApart_any a v (.slice ao an ac) (.slice vo vn vc) fa fv w2 P2.out.2.1 (HV.out.keep X2.box.keep)
      unfold termV at q3
      have d0 := X2.ra.cell (i := 0) rfl
      have d1 := X2.ra.cell (i := 1) rfl
      have d2 := X2.ra.cell (i := 2) rfl
      have d3 := X2.ra.cell (i := 3) rfl
      have d4 := X2.ra.cell (i := 4) rfl
      have c0 := X2.box.rv.cell (i := 0) rfl
      have c1 := X2.box.rv.cell (i := 1) rfl
      have c2 := X2.box.rv.cell (i := 2) rfl
      have c3 := X2.box.rv.cell (i := 3) rfl
      have c4 := X2.box.rv.cell (i := 4) rfl
      go_wp2_with fail
      refine q3.mono ?_
      rintro e w3 ⟨rfl, b3⟩
      have X3 := X2.next b3
      have P4 := Lib.hid (And.intro (P2.out.1.keep b3) (And.intro (P2.out.2.1.keep b3) (P2.out.2.2.keep b3)))
      clear q3 X2 b3 P2 c0 c1 c2 c3 c4 d0 d1 d2 d3 d4
      cases e2 : apartT a v with
      | true =>
        have HP' := Lib.hid (HP.out _ (H2.out e1 e2))
        have q4 := fun P => HI.out v (.slice co cn cc) (.slice vo vn vc) w3 P P4.out.1 (HV.out.keep X3.box.keep) fc fv (by have := HS.out; omega)
        unfold termV at q4
        have d0 := X3.rc.cell (i := 0) rfl
        have d1 := X3.rc.cell (i := 1) rfl
        have d2 := X3.rc.cell (i := 2) rfl
        have d3 := X3.rc.cell (i := 3) rfl
        have d4 := X3.rc.cell (i := 4) rfl
        have c0 := X3.box.rv.cell (i := 0) rfl
        have c1 := X3.box.rv.cell (i := 1) rfl
        have c2 := X3.box.rv.cell (i := 2) rfl
        have c3 := X3.box.rv.cell (i := 3) rfl
        have c4 := X3.box.rv.cell (i := 4) rfl
        clear HP H1 H2 H3 HI e1 e2
        go_wp2_with fail
        refine q4 _ ?_
        intro pt w4 p4 b4
        have Y4 := X3.next b4
        obtain ⟨to, tn, tc, rfl⟩ := p4.slice
        have b5 : Below w4.heap.size w4 (w4.alloc (.cells #[.int .i64 (ckind (leftT c v)), .int .i64 (cval (leftT c v)), (.slice to tn tc), .int .i64 (leftT c v).size, .string (str (showT (leftT c v)))] 119)) := (Below.refl _ _).alloc (Nat.le_refl _) _
        have X5 := Y4.next b5
        have q5 := fun P => cOfThree_cps (leftT c v) a x (.slice to tn tc) (.slice ao an ac) (.slice xo xn xc) (w4.alloc (.cells #[.int .i64 (ckind (leftT c v)), .int .i64 (cval (leftT c v)), (.slice to tn tc), .int .i64 (leftT c v).size, .string (str (showT (leftT c v)))] 119)) (p4.keep b5) ((P4.out.2.1.keep b4).keep b5) ((P4.out.2.2.keep b4).keep b5) fl fa fx (by have := HS.out; omega) (by have := HS.out; omega) (by have := HS.out; omega) P
        unfold termV at q5
        have g0 := fun o => (Y4.ra.alloc o).cell (i := 0) rfl
        have g1 := fun o => (Y4.ra.alloc o).cell (i := 1) rfl
        have g2 := fun o => (Y4.ra.alloc o).cell (i := 2) rfl
        have g3 := fun o => (Y4.ra.alloc o).cell (i := 3) rfl
        have g4 := fun o => (Y4.ra.alloc o).cell (i := 4) rfl
        have h0 := fun o => (Y4.rx.alloc o).cell (i := 0) rfl
        have h1 := fun o => (Y4.rx.alloc o).cell (i := 1) rfl
        have h2 := fun o => (Y4.rx.alloc o).cell (i := 2) rfl
        have h3 := fun o => (Y4.rx.alloc o).cell (i := 3) rfl
        have h4 := fun o => (Y4.rx.alloc o).cell (i := 4) rfl
        clear q4 X3 b4 Y4 b5 P4 p4 c0 c1 c2 c3 c4 d0 d1 d2 d3 d4
        go_wp2_with fail
        refine q5 _ ?_
        intro ps w6 p6 b6
        have X6 := X5.box.next b6
        obtain ⟨so, sn, sc, rfl⟩ := p6.slice
        clear q5 X5 b6 g0 g1 g2 g3 g4 h0 h1 h2 h3 h4
        have y9 := X6.fin p6
        have HF := Lib.hid (HP'.out _ _ y9.1 y9.2)
        unfold termV set5 at HF
        have z0 := X6.rg.cell (i := 0) rfl
        have f0 := X6.rg.frozen 0
        have z1 := X6.rg.cell (i := 1) rfl
        have f1 := X6.rg.frozen 1
        have z2 := X6.rg.cell (i := 2) rfl
        have f2 := X6.rg.frozen 2
        have z3 := X6.rg.cell (i := 3) rfl
        have f3 := X6.rg.frozen 3
        have z4 := X6.rg.cell (i := 4) rfl
        have f4 := X6.rg.frozen 4
        clear y9
        go_wp2
        (try simp only [Exit.inBlock, Exit.then])
        refine bodyPost_ret (v := .agg #[.int .i64 (ckind (TD.three 13 (leftT c v) a x)), .int .i64 (cval (TD.three 13 (leftT c v) a x)), (.slice so sn sc), .int .i64 ((TD.three 13 (leftT c v) a x)).size, .string (str (showT (TD.three 13 (leftT c v) a x)))]) ?_ rfl ?_
        · simp [results, Tryz.results199, go_sem, z0, z1, z2, z3, z4]
        · exact HF.out
      | false =>
        have HP' := Lib.hid (HP.out _ (H3.out e1 e2))
        have d0 := X3.box.ru.cell (i := 0) rfl
        have d1 := X3.box.ru.cell (i := 1) rfl
        have d2 := X3.box.ru.cell (i := 2) rfl
        have d3 := X3.box.ru.cell (i := 3) rfl
        have d4 := X3.box.ru.cell (i := 4) rfl
        have Xb := X3.box
        clear HP H1 H2 H3 HI P4 e1 e2
        have y9 := Xb.fin (HU.out.keep Xb.keep)
        have HF := Lib.hid (HP'.out _ _ y9.1 y9.2)
        unfold termV set5 at HF
        have z0 := Xb.rg.cell (i := 0) rfl
        have f0 := Xb.rg.frozen 0
        have z1 := Xb.rg.cell (i := 1) rfl
        have f1 := Xb.rg.frozen 1
        have z2 := Xb.rg.cell (i := 2) rfl
        have f2 := Xb.rg.frozen 2
        have z3 := Xb.rg.cell (i := 3) rfl
        have f3 := Xb.rg.frozen 3
        have z4 := Xb.rg.cell (i := 4) rfl
        have f4 := Xb.rg.frozen 4
        clear y9
        go_wp2
        (try simp only [Exit.inBlock, Exit.then])
        refine bodyPost_ret (v := .agg #[.int .i64 (ckind u), .int .i64 (cval u), (.slice uo un uc), .int .i64 (u).size, .string (str (showT u))]) ?_ rfl ?_
        · simp [results, Tryz.results199, go_sem, z0, z1, z2, z3, z4]
        · exact HF.out

end Go.Proofs.YtblhmeidbjigaaaGreatDoor
