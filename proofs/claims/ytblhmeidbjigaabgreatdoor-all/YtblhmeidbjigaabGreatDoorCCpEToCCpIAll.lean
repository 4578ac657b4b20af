/- The code's state: store. -/
import Derived.Test.YtblhmeidbjigaabGreatDoorRows
import Derived.WalkKit
import Derived.WalkSpells
import Derived.WalkLawsBesides
import Derived.Laws.BytesArg
import Derived.Deep.QuietTactic
import Derived.BigQuiet
import Derived.Deep.RegionHeld3
import Derived.Lib.ItoaNum
import Derived.Lib.ItoaLen
import Derived.OpenShut
import Derived.Maps.AppendAt
import Derived.Shelf.Strconv.Itoa3
import Derived.Shelf.Lay
import Derived.Ground.NamesProg
import Derived.Lib.SmallJoins
import Derived.Lib.Hide
import Derived.StillTailTactics
import Derived.Test.YtblhmeidbjigaabGreatDoorCCpCToMvTlAll

set_option linter.unusedSimpArgs false
set_option linter.unusedVariables false
namespace Go.Proofs.YtblhmeidbjigaabGreatDoor
open Go.RowKit

set_option maxRecDepth 100000 in
set_option maxHeartbeats 4000000 in
theorem cStoreOp_cps {B Lo : Nat} {w : World} {M P cap n : Nat} {f : Nat → TD} {c : TD} {ms : List (List UInt8)} {regs data : Int} (h : StAt B Lo w M P cap n f c ms false regs data) (k oc : Int) (a b : Nat) (ha : a < n) (hb : b < n) (hn : n ≤ 1000) (fu : (f a).fine) (su : (f a).size ≤ 10000000) (fx : (f b).fine) (sx : (f b).size ≤ 10000000) (fc : c.fine) (sc : c.size ≤ 10000000) (hl : ms.length ≤ 1000) (Post : Ending → World → Prop)
    (hp : ∀ w', StAt B Lo w' M P cap n f (writtenT c (f a) (f b)) (laidMark ms (cellText data (f a))) (decide (4095 < ((writtenT c (f a) (f b)).size : Int))) regs data → Mv B Lo w w' → Post (.returned (.tuple #[])) w') :
    Calls Tryz.prog 201 #[.pointer (some ⟨M, 0, none⟩), .agg #[.int .i64 k, .int .i64 a, .int .i64 b, .int .i64 oc]] w Post := by
  obtain ⟨ps, pc, mv, U⟩ := h
  obtain ⟨uo, un, uc, hpu⟩ := (U.b.parts a ha).slice
  have pu := U.b.parts a ha
  rw [hpu] at pu
  have hle := U.le
  have hlo : Lo ≤ w.heap.size := U.b.pc.lo
  have b0 : Below w.heap.size w (w.alloc (.cells #[.int .i64 k, .int .i64 a, .int .i64 b, .int .i64 oc] 36)) := (Below.refl _ _).alloc (Nat.le_refl _) _
  have o0 : Row (w.alloc (.cells #[.int .i64 k, .int .i64 a, .int .i64 b, .int .i64 oc] 36)) w.heap.size 36 [.int .i64 k, .int .i64 a, .int .i64 b, .int .i64 oc] := heap_alloc_new w _
  have U0 := U.next b0
  obtain ⟨W, hW⟩ : ∃ W, W = w.alloc (.cells #[.int .i64 k, .int .i64 a, .int .i64 b, .int .i64 oc] 36) := ⟨_, rfl⟩
  rw [← hW] at b0 o0 U0
  obtain ⟨u, hu⟩ : ∃ u, f a = u := ⟨_, rfl⟩
  obtain ⟨x, hx⟩ : ∃ x, f b = x := ⟨_, rfl⟩
  have plW := U0.plc ha hu hpu
  rw [hu] at fu su hp pu
  rw [hx] at fx sx hp
  have hzW : w.heap.size < W.heap.size := by rw [hW]; simp
  have m0 : ∀ V, Below W.heap.size W V → V.cell? ⟨M, 0, none⟩ = some (.slice (some ⟨P, 0, none⟩) n cap) := fun V hv => cell_keep hv (U0.row.cell (i := 0) rfl)
  have x0 : ∀ V, Below W.heap.size W V → V.cell? ⟨w.heap.size, 1, none⟩ = some (.int .i64 a) := fun V hv => cell_keep hv (o0.cell (i := 1) rfl)
  have p0 : ∀ V, Below W.heap.size W V → V.cell? ⟨P, a * 5, none⟩ = some (.int .i64 (ckind u)) := fun V hv => cell_keep hv (plW 0 _ rfl)
  have p1 : ∀ V, Below W.heap.size W V → V.cell? ⟨P, a * 5 + 1, none⟩ = some (.int .i64 (cval u)) := fun V hv => cell_keep hv (plW 1 _ rfl)
  have p2 : ∀ V, Below W.heap.size W V → V.cell? ⟨P, a * 5 + 2, none⟩ = some (.slice uo un uc) := fun V hv => cell_keep hv (plW 2 _ rfl)
  have p3 : ∀ V, Below W.heap.size W V → V.cell? ⟨P, a * 5 + 3, none⟩ = some (.int .i64 (u).size) := fun V hv => cell_keep hv (plW 3 _ rfl)
  have p4 : ∀ V, Below W.heap.size W V → V.cell? ⟨P, a * 5 + 4, none⟩ = some (.string (str (showT u))) := fun V hv => cell_keep hv (plW 4 _ rfl)
  have hbi : (0 : Int) ≤ (b : Int) := by omega
  have hbj : (b : Int) < (n : Int) := by omega
  have hai : (0 : Int) ≤ (a : Int) := by omega
  have haj : (a : Int) < (n : Int) := by omega
  have k0 : Below W.heap.size W W.drew := (Below.refl _ _).drew
  have k1 : Below W.heap.size W (W.drew.alloc (.cells #[.int .i64 0, .int .i64 0, .slice none 0 0, .int .i64 0, .string ⟨#[]⟩] 179)) := k0.alloc (Nat.le_refl _) _
  have k2 : Below W.heap.size W (W.drew.alloc (.cells #[.int .i64 (ckind u), .int .i64 (cval u), (.slice uo un uc), .int .i64 (u).size, .string (str (showT u))] 179)) := k0.alloc (Nat.le_refl _) _
  have u1 : Row (W.drew.alloc (.cells #[.int .i64 (ckind u), .int .i64 (cval u), (.slice uo un uc), .int .i64 (u).size, .string (str (showT u))] 179)) W.heap.size 179 (tcells u (.slice uo un uc)) := heap_alloc_new W.drew _
  have U1 := U0.next k2
  have o1 := o0.keep k2
  have HM1 : Hid (Mv B Lo w (W.drew.alloc (.cells #[.int .i64 (ckind u), .int .i64 (cval u), (.slice uo un uc), .int .i64 (u).size, .string (str (showT u))] 179))) := Mv.of (b0.trans (k2.mono b0.size)) hle
  have HPU := Lib.hid (pu.keep (b0.trans (k2.mono b0.size)))
  have HU1 := Lib.hid U1
  have HO1 := Lib.hid o1
  have HR1 := Lib.hid u1
  have HP := Lib.hid hp
  have HH := Lib.hid hu
  have HX := Lib.hid hx
  have q1 := fun P' => cMarkCell_cps U1.at u (.slice uo un uc) fu (by omega) hl P'
  unfold termV at q1
  clear hp hu hx plW U U0 U1 o0 o1 pu hpu b0
  go_enter Tryz.func201, Tryz.ntmps201
  go_wp2
  rw [← hW]
  clear hW
  go_region_held3 (fun w' => Below W.heap.size W w') (first | with_reducible exact k0 | with_reducible exact k1 | with_reducible exact k2 | exact k1 | exact k2) (fail)
  clear m0 x0 p0 p1 p2 p3 p4 k0 k1 k2
  have a0 := (u1).cell (i := 0) rfl
  have a1 := (u1).cell (i := 1) rfl
  have a2 := (u1).cell (i := 2) rfl
  have a3 := (u1).cell (i := 3) rfl
  have a4 := (u1).cell (i := 4) rfl
  clear u1
  go_wp2_with fail
  refine q1 _ ?_
  intro w2 h2 m2
  obtain ⟨ps2, pc2, mv2, U2⟩ := h2
  obtain ⟨co, cn, cc, rfl⟩ := U2.b.pc.slice
  obtain ⟨xo, xn, xc, hpx⟩ := (U2.b.parts b hb).slice
  have px2 := U2.b.parts b hb
  rw [hpx, HX.out] at px2
  have hl2 : Lo ≤ W.heap.size := by omega
  have u2 := m2.row _ _ _ hl2 (by decide) HR1.out
  have o2 := m2.row _ _ _ hlo (by decide) HO1.out
  have HM2 : Hid (Mv B Lo w w2) := HM1.out.trans m2
  have pu2 := HPU.out.mv m2
  have plw := U2.plc hb HX.out hpx
  clear q1 HR1 HO1 HM1 HPU HU1 m2 a0 a1 a2 a3 a4 hpx
  have pc2 := U2.b.pc
  have d0 : Below w2.heap.size w2 w2.drew := (Below.refl _ _).drew
  have y0 := (U2.next d0).row.cell (i := 0) rfl
  have c0 := (U2.next d0).row.cell (i := 1) rfl
  have c1 := (U2.next d0).row.cell (i := 2) rfl
  have c2 := (U2.next d0).row.cell (i := 3) rfl
  have c3 := (U2.next d0).row.cell (i := 4) rfl
  have c4 := (U2.next d0).row.cell (i := 5) rfl
  have a0 := (u2.keep d0).cell (i := 0) rfl
  have a1 := (u2.keep d0).cell (i := 1) rfl
  have a2 := (u2.keep d0).cell (i := 2) rfl
  have a3 := (u2.keep d0).cell (i := 3) rfl
  have a4 := (u2.keep d0).cell (i := 4) rfl
  have x0 := cell_keep d0 (plw 0 _ rfl)
  have x1 := cell_keep d0 (plw 1 _ rfl)
  have x2 := cell_keep d0 (plw 2 _ rfl)
  have x3 := cell_keep d0 (plw 3 _ rfl)
  have x4 := cell_keep d0 (plw 4 _ rfl)
  have e2 := (o2.keep d0).cell (i := 2) rfl
  rw [Nat.add_zero] at x0
  have qr := fun P' => cWritten_cps c u x (.slice co cn cc) (.slice uo un uc) (.slice xo xn xc) w2.drew (pc2.keep d0) (pu2.keep d0) (px2.keep d0) fc fu fx (by omega) P'
  unfold termV at qr
  have HU2 := Lib.hid U2
  clear U2 pc2 pu2 px2 o2 u2 plw
  go_wp2
  refine wp_move_tail 14 (.pointer (some ⟨M, 0, none⟩)) (by kernel_rfl) (by kernel_rfl) (fun _ _ _ h => h) (Or.inl ⟨by rfl, fun w => by rfl⟩) ?_
  simp only [List.take_succ_cons, List.take_zero, List.drop_succ_cons, List.drop_zero, Act.put, List.setIfInBounds_toArray, List.set_cons_zero, List.set_cons_succ, Nat.reduceSub]
  repeat still_step
  refine wpStill_nil ?_
  go_wp2_with fail
  refine qr _ ?_
  intro pt w3 p3 b3
  obtain ⟨ro, rn, rc, rfl⟩ := p3.slice
  have b4 : Below w2.heap.size w2 w3 := d0.trans (b3.mono d0.size)
  have U3 := HU2.out.next b4
  have U5 := U3.cells p3
  have HM5 : Hid (Mv B Lo w (putT w3 M 1 (writtenT c u x) (.slice ro rn rc))) := (HM2.out.trans (Mv.of b4 HU2.out.le)).putT U3.hM U3.hM' 1 (writtenT c u x) (.slice ro rn rc)
  have s0 := U3.row.cell (i := 1) rfl
  have g0 := U3.row.frozen 1
  have s1 := U3.row.cell (i := 2) rfl
  have g1 := U3.row.frozen 2
  have s2 := U3.row.cell (i := 3) rfl
  have g2 := U3.row.frozen 3
  have s3 := U3.row.cell (i := 4) rfl
  have g3 := U3.row.frozen 4
  have s4 := U3.row.cell (i := 5) rfl
  have g4 := U3.row.frozen 5
  have y0 := U5.row.cell (i := 1) rfl
  have y1 := U5.row.cell (i := 2) rfl
  have y2 := U5.row.cell (i := 3) rfl
  have y3 := U5.row.cell (i := 4) rfl
  have y4 := U5.row.cell (i := 5) rfl
  have q5 := cIsBig_any (writtenT c u x) (.slice ro rn rc) (putT w3 M 1 (writtenT c u x) (.slice ro rn rc))
  have HU5 := Lib.hid U5
  unfold termV putT put5 at q5
  unfold putT put5 at y0 y1 y2 y3 y4
  simp only [Nat.reduceAdd] at q5 y0 y1 y2 y3 y4
  clear qr b3 b4 U3 U5 HU2 HM2 p3 c0 c1 c2 c3 c4 a0 a1 a2 a3 a4 x0 x1 x2 x3 x4 e2 d0
  go_wp2_with fail
  refine q5.mono ?_
  rintro e w6 ⟨rfl, b6⟩
  have U6 := HU5.out.next b6
  have HM6 : Hid (Mv B Lo w w6) := HM5.out.trans (Mv.of b6 HU5.out.le)
  have z7 := U6.row.cell (i := 7) rfl
  have f7 := U6.row.frozen 7
  have U7 := U6.flag (decide (4095 < (((writtenT c u x)).size : Int)))
  have HF := Lib.hid (HP.out _ U7.at (HM6.out.set U6.hM U6.hM' 7 _))
  clear q5 b6 HU5 HM5 U6 U7 HM6 HP y0 y1 y2 y3 y4 s0 s1 s2 s3 s4 g0 g1 g2 g3 g4
  generalize decide (4095 < (((writtenT c u x)).size : Int)) = zb at *
  go_wp2
  go_end0
  exact HF.out

end Go.Proofs.YtblhmeidbjigaabGreatDoor

/- The code's state: do. -/
set_option linter.unusedSimpArgs false
set_option linter.unusedVariables false
namespace Go.Proofs.YtblhmeidbjigaabGreatDoor
open Go.RowKit

set_option maxRecDepth 100000 in
set_option maxHeartbeats 4000000 in
theorem do_load {B Lo : Nat} {w : World} {M P cap n : Nat} {f : Nat → TD} {c : TD} {ms : List (List UInt8)} {regs data : Int} (h : StAt B Lo w M P cap n f c ms false regs data) (oc : Int) (a b : Nat) (ha : a < n) (hb : b < n) (hn : n ≤ 1000) (fu : (f b).fine) (su : (f b).size ≤ 10000000) (fc : c.fine) (sc : c.size ≤ 10000000) (hl : ms.length ≤ 1000) (Post : Ending → World → Prop)
    (hp : ∀ w', StAt B Lo w' M P cap n (upT f a (readT c (f b))) c (laidMark ms (cellText data (f b))) (decide (4095 < ((readT c (f b)).size : Int))) regs data → Mv B Lo w w' → Post (.returned (.tuple #[])) w') :
    Calls Tryz.prog 185 #[.pointer (some ⟨M, 0, none⟩), .agg #[.int .i64 12, .int .i64 a, .int .i64 b, .int .i64 oc]] w Post := by
  have hle : B ≤ w.heap.size := let ⟨_, _, _, U⟩ := h; U.le
  have b0 : Below w.heap.size w (w.alloc (.cells #[.int .i64 12, .int .i64 a, .int .i64 b, .int .i64 oc] 36)) := (Below.refl _ _).alloc (Nat.le_refl _) _
  have o0 : Row (w.alloc (.cells #[.int .i64 12, .int .i64 a, .int .i64 b, .int .i64 oc] 36)) w.heap.size 36 [.int .i64 12, .int .i64 a, .int .i64 b, .int .i64 oc] := heap_alloc_new w _
  have H0 := h.next b0
  have q := fun P' => cLoad_cps H0 12 oc a b ha hb hn fu su fc sc hl P'
  have x0 := o0.cell (i := 0) rfl
  have x1 := o0.cell (i := 1) rfl
  have x2 := o0.cell (i := 2) rfl
  have x3 := o0.cell (i := 3) rfl
  have HB := Lib.hid b0
  have HP := Lib.hid hp
  clear h hp H0 b0 o0
  go_enter Tryz.func185, Tryz.ntmps185
  go_wp2_with fail
  refine q _ ?_
  intro w2 h2 m2
  have HF := Lib.hid (HP.out w2 h2 ((Mv.of HB.out hle).trans m2))
  clear q HP HB h2 m2 x0 x1 x2 x3
  go_wp2
  go_end0
  exact HF.out

set_option maxRecDepth 100000 in
set_option maxHeartbeats 4000000 in
theorem do_store {B Lo : Nat} {w : World} {M P cap n : Nat} {f : Nat → TD} {c : TD} {ms : List (List UInt8)} {regs data : Int} (h : StAt B Lo w M P cap n f c ms false regs data) (oc : Int) (a b : Nat) (ha : a < n) (hb : b < n) (hn : n ≤ 1000) (fu : (f a).fine) (su : (f a).size ≤ 10000000) (fx : (f b).fine) (sx : (f b).size ≤ 10000000) (fc : c.fine) (sc : c.size ≤ 10000000) (hl : ms.length ≤ 1000) (Post : Ending → World → Prop)
    (hp : ∀ w', StAt B Lo w' M P cap n f (writtenT c (f a) (f b)) (laidMark ms (cellText data (f a))) (decide (4095 < ((writtenT c (f a) (f b)).size : Int))) regs data → Mv B Lo w w' → Post (.returned (.tuple #[])) w') :
    Calls Tryz.prog 185 #[.pointer (some ⟨M, 0, none⟩), .agg #[.int .i64 13, .int .i64 a, .int .i64 b, .int .i64 oc]] w Post := by
  have hle : B ≤ w.heap.size := let ⟨_, _, _, U⟩ := h; U.le
  have b0 : Below w.heap.size w (w.alloc (.cells #[.int .i64 13, .int .i64 a, .int .i64 b, .int .i64 oc] 36)) := (Below.refl _ _).alloc (Nat.le_refl _) _
  have o0 : Row (w.alloc (.cells #[.int .i64 13, .int .i64 a, .int .i64 b, .int .i64 oc] 36)) w.heap.size 36 [.int .i64 13, .int .i64 a, .int .i64 b, .int .i64 oc] := heap_alloc_new w _
  have H0 := h.next b0
  have q := fun P' => cStoreOp_cps H0 13 oc a b ha hb hn fu su fx sx fc sc hl P'
  have x0 := o0.cell (i := 0) rfl
  have x1 := o0.cell (i := 1) rfl
  have x2 := o0.cell (i := 2) rfl
  have x3 := o0.cell (i := 3) rfl
  have HB := Lib.hid b0
  have HP := Lib.hid hp
  clear h hp H0 b0 o0
  go_enter Tryz.func185, Tryz.ntmps185
  go_wp2_with fail
  refine q _ ?_
  intro w2 h2 m2
  have HF := Lib.hid (HP.out w2 h2 ((Mv.of HB.out hle).trans m2))
  clear q HP HB h2 m2 x0 x1 x2 x3
  go_wp2
  go_end0
  exact HF.out

set_option maxRecDepth 100000 in
set_option maxHeartbeats 4000000 in
theorem do_compute {B Lo : Nat} {w : World} {M P cap n : Nat} {f : Nat → TD} {c : TD} {ms : List (List UInt8)} {regs data : Int} (h : StAt B Lo w M P cap n f c ms false regs data) (k : Int) (a b d : Nat) (hk : 3 ≤ k ∧ k ≤ 11) (ha : a < n) (hb : b < n) (hd : d < n) (hn : n ≤ 1000) (fu : (f b).fine) (su : (f b).size ≤ 10000000) (fv : (f d).fine) (sv : (f d).size ≤ 10000000) (hl : ms.length ≤ 1000) (ht : ∀ V, Below B w V → TabW V) (Post : Ending → World → Prop)
    (hp : ∀ w', StAt B Lo w' M P cap n (upT f a (madeT k (f b) (f d))) c (if k = 11 then laidMark ms (divText (f b) (f d)) else ms) (decide (4095 < ((madeT k (f b) (f d)).size : Int))) regs data → Mv B Lo w w' → Post (.returned (.tuple #[])) w') :
    Calls Tryz.prog 185 #[.pointer (some ⟨M, 0, none⟩), .agg #[.int .i64 k, .int .i64 a, .int .i64 b, .int .i64 d]] w Post := by
  have hle : B ≤ w.heap.size := let ⟨_, _, _, U⟩ := h; U.le
  have b0 : Below w.heap.size w (w.alloc (.cells #[.int .i64 k, .int .i64 a, .int .i64 b, .int .i64 d] 36)) := (Below.refl _ _).alloc (Nat.le_refl _) _
  have o0 : Row (w.alloc (.cells #[.int .i64 k, .int .i64 a, .int .i64 b, .int .i64 d] 36)) w.heap.size 36 [.int .i64 k, .int .i64 a, .int .i64 b, .int .i64 d] := heap_alloc_new w _
  have H0 := h.next b0
  have q := fun P' => cCompute_cps H0 k a b d hk ha hb hd hn fu su fv sv hl (fun V hv => ht V ((b0.mono hle).trans hv)) P'
  have x0 := o0.cell (i := 0) rfl
  have x1 := o0.cell (i := 1) rfl
  have x2 := o0.cell (i := 2) rfl
  have x3 := o0.cell (i := 3) rfl
  have HB := Lib.hid b0
  have HP := Lib.hid hp
  have n1 : (k == 1) = false := by simp; omega
  have n2 : (k == 2) = false := by simp; omega
  have n12 : (k == 12) = false := by simp; omega
  have n13 : (k == 13) = false := by simp; omega
  have n14 : (k == 14) = false := by simp; omega
  have n15 : (k == 15) = false := by simp; omega
  clear h hp H0 b0 o0
  go_enter Tryz.func185, Tryz.ntmps185
  go_wp2_with fail
  refine q _ ?_
  intro w2 h2 m2
  have HF := Lib.hid (HP.out w2 h2 ((Mv.of HB.out hle).trans m2))
  clear q HP HB h2 m2 x0 x1 x2 x3
  go_wp2
  go_end0
  exact HF.out

set_option maxRecDepth 100000 in
set_option maxHeartbeats 4000000 in
theorem do_move {B Lo : Nat} {w : World} {M P cap n : Nat} {f : Nat → TD} {c : TD} {ms : List (List UInt8)} {regs data : Int} (h : StAt B Lo w M P cap n f c ms false regs data) (oc : Int) (a b : Nat) (hd : a < n) (hs : b < n) (hn : n ≤ 1000) (Post : Ending → World → Prop)
    (hp : ∀ w', StAt B Lo w' M P cap n (upT f a (f b)) c ms false regs data → Mv B Lo w w' → Post (.returned (.tuple #[])) w') :
    Calls Tryz.prog 185 #[.pointer (some ⟨M, 0, none⟩), .agg #[.int .i64 2, .int .i64 a, .int .i64 b, .int .i64 oc]] w Post := by
  obtain ⟨ps, pc, mv, U⟩ := h
  obtain ⟨uo, un, uc, hpu⟩ := (U.b.parts b hs).slice
  have hle := U.le
  have b0 : Below w.heap.size w (w.alloc (.cells #[.int .i64 2, .int .i64 a, .int .i64 b, .int .i64 oc] 36)) := (Below.refl _ _).alloc (Nat.le_refl _) _
  have o0 : Row (w.alloc (.cells #[.int .i64 2, .int .i64 a, .int .i64 b, .int .i64 oc] 36)) w.heap.size 36 [.int .i64 2, .int .i64 a, .int .i64 b, .int .i64 oc] := heap_alloc_new w _
  have U0 := U.next b0
  obtain ⟨W, hW⟩ : ∃ W, W = w.alloc (.cells #[.int .i64 2, .int .i64 a, .int .i64 b, .int .i64 oc] 36) := ⟨_, rfl⟩
  rw [← hW] at b0 o0 U0
  obtain ⟨u, hu⟩ : ∃ u, f b = u := ⟨_, rfl⟩
  have plW := U0.plc hs hu hpu
  have p3 := U0.b.parts b hs
  rw [hpu, hu] at p3
  rw [hu] at hp
  have hbi : (0 : Int) ≤ (b : Int) := by omega
  have hbj : (b : Int) < (n : Int) := by omega
  have hai : (0 : Int) ≤ (a : Int) := by omega
  have haj : (a : Int) < (n : Int) := by omega
  have d0 : Below W.heap.size W W.drew := (Below.refl _ _).drew
  have m0 := (U0.next d0).row.cell (i := 0) rfl
  have m8 := (U0.next d0).row.cell (i := 8) rfl
  have o00 := o0.cell (i := 0) rfl
  rw [hW] at o00
  have x0 := (o0.keep d0).cell (i := 0) rfl
  have x1 := (o0.keep d0).cell (i := 1) rfl
  have x2 := (o0.keep d0).cell (i := 2) rfl
  have p0' := cell_keep d0 (plW 0 _ rfl)
  have p1' := cell_keep d0 (plW 1 _ rfl)
  have p2' := cell_keep d0 (plW 2 _ rfl)
  have p3' := cell_keep d0 (plW 3 _ rfl)
  have p4' := cell_keep d0 (plW 4 _ rfl)
  rw [Nat.add_zero] at p0'
  have h0 := U0.b.pl.frozen (a * 5)
  have s0 := U0.b.pl.cell (j := 0) hd rfl
  have g0 := (U0.next d0).b.pl.frozen (a * 5)
  have t0 := (U0.next d0).b.pl.cell (j := 0) hd rfl
  have h1 := U0.b.pl.frozen (a * 5 + 1)
  have s1 := U0.b.pl.cell (j := 1) hd rfl
  have g1 := (U0.next d0).b.pl.frozen (a * 5 + 1)
  have t1 := (U0.next d0).b.pl.cell (j := 1) hd rfl
  have h2 := U0.b.pl.frozen (a * 5 + 2)
  have s2 := U0.b.pl.cell (j := 2) hd rfl
  have g2 := (U0.next d0).b.pl.frozen (a * 5 + 2)
  have t2 := (U0.next d0).b.pl.cell (j := 2) hd rfl
  have h3 := U0.b.pl.frozen (a * 5 + 3)
  have s3 := U0.b.pl.cell (j := 3) hd rfl
  have g3 := (U0.next d0).b.pl.frozen (a * 5 + 3)
  have t3 := (U0.next d0).b.pl.cell (j := 3) hd rfl
  have h4 := U0.b.pl.frozen (a * 5 + 4)
  have s4 := U0.b.pl.cell (j := 4) hd rfl
  have g4 := (U0.next d0).b.pl.frozen (a * 5 + 4)
  have t4 := (U0.next d0).b.pl.cell (j := 4) hd rfl
  rw [Nat.add_zero] at s0 t0
  obtain ⟨qo, qn, qc, hpq⟩ := (U0.b.parts a hd).slice
  rw [hpq] at s2 t2
  have U5 := (U0.place hd p3).next ((Below.refl _ _).drew)
  have HM5 : Mv B Lo w (putT W P (a * 5) u (.slice uo un uc)).drew := ((Mv.of b0 hle).putT U0.b.hP U0.b.hP' (a * 5) u (.slice uo un uc)).trans (Mv.of ((Below.refl _ _).drew) (U0.place hd p3).le)
  have HF := Lib.hid (hp _ U5.at HM5)
  unfold putT put5 at HF
  have HWE := Lib.hid hW
  clear hp U U0 U5 HM5 o0 b0 plW p3 hpu hpq hu hW d0
  go_enter Tryz.func185, Tryz.ntmps185
  go_wp2
  rw [← HWE.out]
  clear HWE o00
  refine wp_tail 15 (by kernel_rfl) (by kernel_rfl) ?_
  simp only [List.take_succ_cons, List.take_zero, List.drop_succ_cons, List.drop_zero]
  repeat still_step
  refine wpStill_nil ?_
  go_wp2
  go_end0
  exact HF.out

set_option maxRecDepth 100000 in
set_option maxHeartbeats 4000000 in
theorem do_put {B Lo : Nat} {w : World} {M P cap n : Nat} {f : Nat → TD} {c : TD} {ms : List (List UInt8)} {regs data : Int} (h : StAt B Lo w M P cap n f c ms false regs data) (oc : Int) (a b : Nat) (e : Nat) (he : regs + (a : Int) = e) (hd : e < n) (hs : b < n) (hn : n ≤ 1000) (Post : Ending → World → Prop)
    (hp : ∀ w', StAt B Lo w' M P cap n (upT f e (f b)) c ms false regs data → Mv B Lo w w' → Post (.returned (.tuple #[])) w') :
    Calls Tryz.prog 185 #[.pointer (some ⟨M, 0, none⟩), .agg #[.int .i64 14, .int .i64 a, .int .i64 b, .int .i64 oc]] w Post := by
  obtain ⟨ps, pc, mv, U⟩ := h
  obtain ⟨uo, un, uc, hpu⟩ := (U.b.parts b hs).slice
  have hle := U.le
  have b0 : Below w.heap.size w (w.alloc (.cells #[.int .i64 14, .int .i64 a, .int .i64 b, .int .i64 oc] 36)) := (Below.refl _ _).alloc (Nat.le_refl _) _
  have o0 : Row (w.alloc (.cells #[.int .i64 14, .int .i64 a, .int .i64 b, .int .i64 oc] 36)) w.heap.size 36 [.int .i64 14, .int .i64 a, .int .i64 b, .int .i64 oc] := heap_alloc_new w _
  have U0 := U.next b0
  obtain ⟨W, hW⟩ : ∃ W, W = w.alloc (.cells #[.int .i64 14, .int .i64 a, .int .i64 b, .int .i64 oc] 36) := ⟨_, rfl⟩
  rw [← hW] at b0 o0 U0
  obtain ⟨u, hu⟩ : ∃ u, f b = u := ⟨_, rfl⟩
  have plW := U0.plc hs hu hpu
  have p3 := U0.b.parts b hs
  rw [hpu, hu] at p3
  rw [hu] at hp
  have hbi : (0 : Int) ≤ (b : Int) := by omega
  have hbj : (b : Int) < (n : Int) := by omega
  have hai : (0 : Int) ≤ (e : Int) := by omega
  have haj : (e : Int) < (n : Int) := by omega
  have hwr : IntKind.i64.wrap (regs + (a : Int)) = (e : Int) := by rw [he, IntKind.wrap_i64]; omega
  have hwe : IntKind.i64.wrap (e : Int) = (e : Int) := by rw [IntKind.wrap_i64]; omega
  clear he
  have d0 : Below W.heap.size W W.drew := (Below.refl _ _).drew
  have m0 := (U0.next d0).row.cell (i := 0) rfl
  have m8 := (U0.next d0).row.cell (i := 8) rfl
  have o00 := o0.cell (i := 0) rfl
  rw [hW] at o00
  have x0 := (o0.keep d0).cell (i := 0) rfl
  have x1 := (o0.keep d0).cell (i := 1) rfl
  have x2 := (o0.keep d0).cell (i := 2) rfl
  have p0' := cell_keep d0 (plW 0 _ rfl)
  have p1' := cell_keep d0 (plW 1 _ rfl)
  have p2' := cell_keep d0 (plW 2 _ rfl)
  have p3' := cell_keep d0 (plW 3 _ rfl)
  have p4' := cell_keep d0 (plW 4 _ rfl)
  rw [Nat.add_zero] at p0'
  have h0 := U0.b.pl.frozen (e * 5)
  have s0 := U0.b.pl.cell (j := 0) hd rfl
  have g0 := (U0.next d0).b.pl.frozen (e * 5)
  have t0 := (U0.next d0).b.pl.cell (j := 0) hd rfl
  have h1 := U0.b.pl.frozen (e * 5 + 1)
  have s1 := U0.b.pl.cell (j := 1) hd rfl
  have g1 := (U0.next d0).b.pl.frozen (e * 5 + 1)
  have t1 := (U0.next d0).b.pl.cell (j := 1) hd rfl
  have h2 := U0.b.pl.frozen (e * 5 + 2)
  have s2 := U0.b.pl.cell (j := 2) hd rfl
  have g2 := (U0.next d0).b.pl.frozen (e * 5 + 2)
  have t2 := (U0.next d0).b.pl.cell (j := 2) hd rfl
  have h3 := U0.b.pl.frozen (e * 5 + 3)
  have s3 := U0.b.pl.cell (j := 3) hd rfl
  have g3 := (U0.next d0).b.pl.frozen (e * 5 + 3)
  have t3 := (U0.next d0).b.pl.cell (j := 3) hd rfl
  have h4 := U0.b.pl.frozen (e * 5 + 4)
  have s4 := U0.b.pl.cell (j := 4) hd rfl
  have g4 := (U0.next d0).b.pl.frozen (e * 5 + 4)
  have t4 := (U0.next d0).b.pl.cell (j := 4) hd rfl
  rw [Nat.add_zero] at s0 t0
  obtain ⟨qo, qn, qc, hpq⟩ := (U0.b.parts e hd).slice
  rw [hpq] at s2 t2
  have U5 := (U0.place hd p3).next ((Below.refl _ _).drew)
  have HM5 : Mv B Lo w (putT W P (e * 5) u (.slice uo un uc)).drew := ((Mv.of b0 hle).putT U0.b.hP U0.b.hP' (e * 5) u (.slice uo un uc)).trans (Mv.of ((Below.refl _ _).drew) (U0.place hd p3).le)
  have HF := Lib.hid (hp _ U5.at HM5)
  unfold putT put5 at HF
  have HWE := Lib.hid hW
  clear hp U U0 U5 HM5 o0 b0 plW p3 hpu hpq hu hW d0
  go_enter Tryz.func185, Tryz.ntmps185
  go_wp2
  rw [← HWE.out]
  clear HWE o00
  refine wp_tail 20 (by kernel_rfl) (by kernel_rfl) ?_
  simp only [List.take_succ_cons, List.take_zero, List.drop_succ_cons, List.drop_zero]
  repeat still_step
  refine wpStill_nil ?_
  go_wp2
  go_end0
  exact HF.out

set_option maxRecDepth 100000 in
set_option maxHeartbeats 4000000 in
theorem do_get {B Lo : Nat} {w : World} {M P cap n : Nat} {f : Nat → TD} {c : TD} {ms : List (List UInt8)} {regs data : Int} (h : StAt B Lo w M P cap n f c ms false regs data) (oc : Int) (a b : Nat) (e : Nat) (he : regs + (b : Int) = e) (hd : a < n) (hs : e < n) (hn : n ≤ 1000) (Post : Ending → World → Prop)
    (hp : ∀ w', StAt B Lo w' M P cap n (upT f a (f e)) c ms false regs data → Mv B Lo w w' → Post (.returned (.tuple #[])) w') :
    Calls Tryz.prog 185 #[.pointer (some ⟨M, 0, none⟩), .agg #[.int .i64 15, .int .i64 a, .int .i64 b, .int .i64 oc]] w Post := by
  obtain ⟨ps, pc, mv, U⟩ := h
  obtain ⟨uo, un, uc, hpu⟩ := (U.b.parts e hs).slice
  have hle := U.le
  have b0 : Below w.heap.size w (w.alloc (.cells #[.int .i64 15, .int .i64 a, .int .i64 b, .int .i64 oc] 36)) := (Below.refl _ _).alloc (Nat.le_refl _) _
  have o0 : Row (w.alloc (.cells #[.int .i64 15, .int .i64 a, .int .i64 b, .int .i64 oc] 36)) w.heap.size 36 [.int .i64 15, .int .i64 a, .int .i64 b, .int .i64 oc] := heap_alloc_new w _
  have U0 := U.next b0
  obtain ⟨W, hW⟩ : ∃ W, W = w.alloc (.cells #[.int .i64 15, .int .i64 a, .int .i64 b, .int .i64 oc] 36) := ⟨_, rfl⟩
  rw [← hW] at b0 o0 U0
  obtain ⟨u, hu⟩ : ∃ u, f e = u := ⟨_, rfl⟩
  have plW := U0.plc hs hu hpu
  have p3 := U0.b.parts e hs
  rw [hpu, hu] at p3
  rw [hu] at hp
  have hbi : (0 : Int) ≤ (e : Int) := by omega
  have hbj : (e : Int) < (n : Int) := by omega
  have hai : (0 : Int) ≤ (a : Int) := by omega
  have haj : (a : Int) < (n : Int) := by omega
  have hwr : IntKind.i64.wrap (regs + (b : Int)) = (e : Int) := by rw [he, IntKind.wrap_i64]; omega
  have hwe : IntKind.i64.wrap (e : Int) = (e : Int) := by rw [IntKind.wrap_i64]; omega
  clear he
  have d0 : Below W.heap.size W W.drew := (Below.refl _ _).drew
  have m0 := (U0.next d0).row.cell (i := 0) rfl
  have m8 := (U0.next d0).row.cell (i := 8) rfl
  have o00 := o0.cell (i := 0) rfl
  rw [hW] at o00
  have x0 := (o0.keep d0).cell (i := 0) rfl
  have x1 := (o0.keep d0).cell (i := 1) rfl
  have x2 := (o0.keep d0).cell (i := 2) rfl
  have p0' := cell_keep d0 (plW 0 _ rfl)
  have p1' := cell_keep d0 (plW 1 _ rfl)
  have p2' := cell_keep d0 (plW 2 _ rfl)
  have p3' := cell_keep d0 (plW 3 _ rfl)
  have p4' := cell_keep d0 (plW 4 _ rfl)
  rw [Nat.add_zero] at p0'
  have h0 := U0.b.pl.frozen (a * 5)
  have s0 := U0.b.pl.cell (j := 0) hd rfl
  have g0 := (U0.next d0).b.pl.frozen (a * 5)
  have t0 := (U0.next d0).b.pl.cell (j := 0) hd rfl
  have h1 := U0.b.pl.frozen (a * 5 + 1)
  have s1 := U0.b.pl.cell (j := 1) hd rfl
  have g1 := (U0.next d0).b.pl.frozen (a * 5 + 1)
  have t1 := (U0.next d0).b.pl.cell (j := 1) hd rfl
  have h2 := U0.b.pl.frozen (a * 5 + 2)
  have s2 := U0.b.pl.cell (j := 2) hd rfl
  have g2 := (U0.next d0).b.pl.frozen (a * 5 + 2)
  have t2 := (U0.next d0).b.pl.cell (j := 2) hd rfl
  have h3 := U0.b.pl.frozen (a * 5 + 3)
  have s3 := U0.b.pl.cell (j := 3) hd rfl
  have g3 := (U0.next d0).b.pl.frozen (a * 5 + 3)
  have t3 := (U0.next d0).b.pl.cell (j := 3) hd rfl
  have h4 := U0.b.pl.frozen (a * 5 + 4)
  have s4 := U0.b.pl.cell (j := 4) hd rfl
  have g4 := (U0.next d0).b.pl.frozen (a * 5 + 4)
  have t4 := (U0.next d0).b.pl.cell (j := 4) hd rfl
  rw [Nat.add_zero] at s0 t0
  obtain ⟨qo, qn, qc, hpq⟩ := (U0.b.parts a hd).slice
  rw [hpq] at s2 t2
  have U5 := (U0.place hd p3).next ((Below.refl _ _).drew)
  have HM5 : Mv B Lo w (putT W P (a * 5) u (.slice uo un uc)).drew := ((Mv.of b0 hle).putT U0.b.hP U0.b.hP' (a * 5) u (.slice uo un uc)).trans (Mv.of ((Below.refl _ _).drew) (U0.place hd p3).le)
  have HF := Lib.hid (hp _ U5.at HM5)
  unfold putT put5 at HF
  have HWE := Lib.hid hW
  clear hp U U0 U5 HM5 o0 b0 plW p3 hpu hpq hu hW d0
  go_enter Tryz.func185, Tryz.ntmps185
  go_wp2
  rw [← HWE.out]
  clear HWE o00
  refine wp_tail 20 (by kernel_rfl) (by kernel_rfl) ?_
  simp only [List.take_succ_cons, List.take_zero, List.drop_succ_cons, List.drop_zero]
  repeat still_step
  refine wpStill_nil ?_
  go_wp2
  go_end0
  exact HF.out


end Go.Proofs.YtblhmeidbjigaabGreatDoor

/- The code's state: do of a number. -/
set_option linter.unusedSimpArgs false
set_option linter.unusedVariables false
namespace Go.Proofs.YtblhmeidbjigaabGreatDoor
open Go.RowKit

set_option maxRecDepth 100000 in
set_option maxHeartbeats 4000000 in
theorem do_const {B Lo : Nat} {w : World} {M P cap n : Nat} {f : Nat → TD} {c : TD} {ms : List (List UInt8)} {regs data : Int} (h : StAt B Lo w M P cap n f c ms false regs data) (a : Nat) (b d : Int) (ha : a < n) (gb : 0 ≤ b ∧ b < 256) (gd : 0 ≤ d ∧ d < 256) (hn : n ≤ 1000) (ht : ∀ V, Below B w V → TabW V) (Post : Ending → World → Prop)
    (hp : ∀ w', StAt B Lo w' M P cap n (upT f a (tnum (256 * b + d - 32768))) c ms false regs data → Mv B Lo w w' → Post (.returned (.tuple #[])) w') :
    Calls Tryz.prog 185 #[.pointer (some ⟨M, 0, none⟩), .agg #[.int .i64 1, .int .i64 a, .int .i64 b, .int .i64 d]] w Post := by
  obtain ⟨ps, pc, mv, U⟩ := h
  have hle := U.le
  have hlo : Lo ≤ w.heap.size := U.b.pc.lo
  have b0 : Below w.heap.size w (w.alloc (.cells #[.int .i64 1, .int .i64 a, .int .i64 b, .int .i64 d] 36)) := (Below.refl _ _).alloc (Nat.le_refl _) _
  have o0 : Row (w.alloc (.cells #[.int .i64 1, .int .i64 a, .int .i64 b, .int .i64 d] 36)) w.heap.size 36 [.int .i64 1, .int .i64 a, .int .i64 b, .int .i64 d] := heap_alloc_new w _
  have U0 := U.next b0
  have o00 := o0.cell (i := 0) rfl
  obtain ⟨W, hW⟩ : ∃ W, W = w.alloc (.cells #[.int .i64 1, .int .i64 a, .int .i64 b, .int .i64 d] 36) := ⟨_, rfl⟩
  rw [← hW] at b0 o0 U0
  have hai : (0 : Int) ≤ (a : Int) := by omega
  have haj : (a : Int) < (n : Int) := by omega
  have d0 : Below W.heap.size W W.drew := (Below.refl _ _).drew
  have nM : M ≠ P := Ne.symm U0.ne
  have nO : w.heap.size ≠ P := by have := U0.b.hP'; omega
  have m0 := fun V (h : Keep (fun g => g = P) W V) => h.cell nM (U0.row.cell (i := 0) rfl)
  have x1 := fun V (h : Keep (fun g => g = P) W V) => h.cell nO (o0.cell (i := 1) rfl)
  have x2 := fun V (h : Keep (fun g => g = P) W V) => h.cell nO (o0.cell (i := 2) rfl)
  have x3 := fun V (h : Keep (fun g => g = P) W V) => h.cell nO (o0.cell (i := 3) rfl)
  have k0 : Keep (fun g => g = P) W W.drew := (Keep.refl _ _).below d0 (Nat.le_refl _)
  have hof := ofConst_any b d W.drew gb gd
  have hw64 : W64 (256 * b + d - 32768) := by constructor <;> omega
  have q2 := cOfNumber_any (256 * b + d - 32768) hw64 W.drew (ht _ ((b0.mono hle).trans (d0.mono (Nat.le_trans hle b0.size))))
  have HM0 : Hid (Mv B Lo w W) := Mv.of b0 hle
  rw [num_V] at q2
  have HU0 := Lib.hid U0
  have HP := Lib.hid hp
  have HWE := Lib.hid hW
  have e1 : ckind (tnum (256 * b + d - 32768)) = 1 := rfl
  have e2 : cval (tnum (256 * b + d - 32768)) = (256 * b + d - 32768) := rfl
  have e3 : (((tnum (256 * b + d - 32768))).size : Int) = 1 := rfl
  have e4 : showT (tnum (256 * b + d - 32768)) = Lib.itoa (256 * b + d - 32768) := by simp [tnum, showT]
  clear U U0 o0 hp hW ht
  go_enter Tryz.func185, Tryz.ntmps185
  go_wp2
  rw [← HWE.out]
  clear HWE o00
  go_region_held3 (fun V => Keep (fun g => g = P) W V) (first | with_reducible exact k0 | with_reducible exact k2 | with_reducible exact k3) (first | (go_at_call 167; refine hof.mono ?_; rintro e w1 ⟨rfl, rfl⟩) | (go_at_call 199; refine q2.mono ?_; rintro e w2 ⟨rfl, b2⟩; have b3 : Below W.heap.size W w2 := d0.trans (b2.mono d0.size); have k2 : Keep (fun g => g = P) W w2 := (Keep.refl _ _).below b3 (Nat.le_refl _); have U2 := HU0.out.next b3; have p2 : PartsAt Lo w2 (tnum (256 * b + d - 32768)) (.slice none 0 0) := ⟨rfl, U2.b.pc.lo⟩; have U5 := U2.place ha p2; have HM5 := (HM0.out.trans (Mv.of b3 HU0.out.le)).putT U2.b.hP U2.b.hP' (a * 5) (tnum (256 * b + d - 32768)) (.slice none 0 0); have HF := Lib.hid (HP.out _ U5.at HM5); unfold putT put5 at HF; rw [e1, e2, e3, e4] at HF; have k3 := ((((k2.setCell (p := ⟨P, a * 5, none⟩) (.inl rfl) (.int .i64 1)).setCell (p := ⟨P, a * 5 + 1, none⟩) (.inl rfl) (.int .i64 (256 * b + d - 32768))).setCell (p := ⟨P, a * 5 + 2, none⟩) (.inl rfl) (.slice none 0 0)).setCell (p := ⟨P, a * 5 + 3, none⟩) (.inl rfl) (.int .i64 1)).setCell (p := ⟨P, a * 5 + 4, none⟩) (.inl rfl) (.string (str (Lib.itoa (256 * b + d - 32768)))); have h0 := U2.b.pl.frozen (a * 5); have h1 := U2.b.pl.frozen (a * 5 + 1); have h2 := U2.b.pl.frozen (a * 5 + 2); have h3 := U2.b.pl.frozen (a * 5 + 3); have h4 := U2.b.pl.frozen (a * 5 + 4); have s0 := U2.b.pl.cell (j := 0) ha rfl; have s1 := U2.b.pl.cell (j := 1) ha rfl; have s2 := U2.b.pl.cell (j := 2) ha rfl; have s3 := U2.b.pl.cell (j := 3) ha rfl; have s4 := U2.b.pl.cell (j := 4) ha rfl; rw [Nat.add_zero] at s0; obtain ⟨qo, qn, qc, hpq⟩ := (U2.b.parts a ha).slice; rw [hpq] at s2; clear hpq U5 HM5))
  go_wp2
  go_end0
  exact HF.out

end Go.Proofs.YtblhmeidbjigaabGreatDoor

/- The code's state: an operation, all operations of a block. -/
set_option linter.unusedSimpArgs false
set_option linter.unusedVariables false
namespace Go.Proofs.YtblhmeidbjigaabGreatDoor
open Go.RowKit

theorem step_off {regs slots : Int} {was : Int → TD} {o : OpD} {p : Int} (h : writesT regs slots o ≠ p) : stepT regs slots was o p = was p := by
  unfold stepT; rw [if_pos h]

theorem step_on {regs slots : Int} {was : Int → TD} {o : OpD} {p : Int} (h : writesT regs slots o = p) : stepT regs slots was o p = givesT regs slots was o := by
  unfold stepT; rw [if_neg (by simp [h])]

theorem up_step {regs slots : Int} {was : Int → TD} {o : OpD} {e : Nat} (h : writesT regs slots o = (e : Int)) {t : TD} (ht : t = givesT regs slots was o) (i : Nat) :
    upT (fun i : Nat => was (i : Int)) e t i = stepT regs slots was o (i : Int) := by
  unfold upT
  by_cases q : i = e
  · subst q; rw [if_pos rfl, step_on h, ht]
  · rw [if_neg q, step_off (by rw [h]; omega)]

theorem big_of {regs slots : Int} {was : Int → TD} {o : OpD} {z : Bool} (h : (3 ≤ o.kind ∧ o.kind ≤ 13 ∧ 4095 < (givesT regs slots was o).size) ↔ z = true) : z = bigOp regs slots was o := by
  unfold bigOp
  cases z with
  | true => simpa using h.2 rfl
  | false => exact ((decide_eq_false_iff_not).2 (fun q => by have := h.1 q; cases this)).symm

theorem below_iff {a m : Int} : below a m = true ↔ 0 ≤ a ∧ a < m := by simp [below]

set_option maxHeartbeats 1000000 in
theorem cDo_cps {B Lo : Nat} {w : World} {M P cap n : Nat} {was : Int → TD} {ms : List (List UInt8)} {regs slots data : Int} (h : StAt B Lo w M P cap n (fun i : Nat => was (i : Int)) (was (n : Int)) ms false regs data)
    (hn : (n : Int) = regs + slots) (hr : 1 ≤ regs ∧ regs ≤ 100) (hs : 0 ≤ slots ∧ slots ≤ 100) (o : OpD) (hg : opGood regs slots o = true) (hf : ∀ i : Int, 0 ≤ i → i ≤ n → (was i).fine ∧ (was i).size ≤ 10000000) (hl : ms.length ≤ 1000) (ht : ∀ V, Below B w V → TabW V) (Post : Ending → World → Prop)
    (hp : ∀ w', StAt B Lo w' M P cap n (fun i : Nat => stepT regs slots was o (i : Int)) (stepT regs slots was o (n : Int)) (laidMark ms (opMarkT data was o)) (bigOp regs slots was o) regs data → Mv B Lo w w' → Post (.returned (.tuple #[])) w') :
    Calls Tryz.prog 185 #[.pointer (some ⟨M, 0, none⟩), .agg #[.int .i64 o.kind, .int .i64 o.a, .int .i64 o.b, .int .i64 o.c]] w Post := by
  obtain ⟨k, a, b, c⟩ := o
  have hk := opGood_kind hg
  have hn1000 : n ≤ 1000 := by omega
  simp only at hk ⊢
  unfold opGood at hg
  simp only at hg
  by_cases h1 : k = 1
  · subst h1
    rw [if_pos rfl, Bool.and_eq_true, Bool.and_eq_true, below_iff, below_iff, below_iff] at hg
    obtain ⟨⟨ga, gb⟩, gc⟩ := hg
    obtain ⟨a, rfl⟩ := Int.eq_ofNat_of_zero_le ga.1
    refine do_const h a b c (by omega) gb gc hn1000 ht Post (fun w' h' m' => hp w' (h'.congr (fun i _ => up_step (by simp [writesT]) (by simp [givesT]) i) ?_ ?_ ?_) m')
    · exact (step_off (by simp [writesT]; omega)).symm
    · simp [opMarkT, laid_nil]
    · exact big_of (by simp)
  rw [if_neg h1] at hg
  by_cases h3 : 3 ≤ k ∧ k ≤ 11
  · rw [if_pos h3, Bool.and_eq_true, Bool.and_eq_true, below_iff, below_iff, below_iff] at hg
    obtain ⟨⟨ga, gb⟩, gc⟩ := hg
    obtain ⟨a, rfl⟩ := Int.eq_ofNat_of_zero_le ga.1
    obtain ⟨b, rfl⟩ := Int.eq_ofNat_of_zero_le gb.1
    obtain ⟨c, rfl⟩ := Int.eq_ofNat_of_zero_le gc.1
    have e : givesT regs slots was ⟨k, a, b, c⟩ = madeT k (was b) (was c) := by
      simp only [givesT]
      rw [if_neg h1, if_neg (by omega), if_neg (by omega), if_neg (by omega), if_neg (by omega)]
    have hw : writesT regs slots ⟨k, a, b, c⟩ = a := by
      simp only [writesT]
      rw [if_neg (by omega), if_neg (by omega)]
    refine do_compute h k a b c h3 (by omega) (by omega) (by omega) hn1000 (hf b (by omega) (by omega)).1 (hf b (by omega) (by omega)).2 (hf c (by omega) (by omega)).1 (hf c (by omega) (by omega)).2 hl ht Post
      (fun w' h' m' => hp w' (h'.congr (fun i _ => up_step hw e.symm i) ?_ ?_ ?_) m')
    · exact (step_off (by rw [hw]; omega)).symm
    · simp only [opMarkT]
      by_cases h11 : k = 11
      · rw [if_pos h11, if_pos h11]
      · rw [if_neg h11, if_neg h11, if_neg (by omega), if_neg (by omega), laid_nil]
    · refine big_of ?_
      rw [e]
      simp only [decide_eq_true_eq]
      omega
  rw [if_neg h3] at hg
  by_cases h2 : k = 2 ∨ k = 12 ∨ k = 13
  · rw [if_pos h2, Bool.and_eq_true, Bool.and_eq_true, below_iff, below_iff] at hg
    obtain ⟨⟨ga, gb⟩, gc⟩ := hg
    obtain ⟨a, rfl⟩ := Int.eq_ofNat_of_zero_le ga.1
    obtain ⟨b, rfl⟩ := Int.eq_ofNat_of_zero_le gb.1
    rcases h2 with rfl | rfl | rfl
    · refine do_move h c a b (by omega) (by omega) hn1000 Post (fun w' h' m' => hp w' (h'.congr (fun i _ => up_step (by simp [writesT]) (by simp [givesT]) i) ?_ ?_ ?_) m')
      · exact (step_off (by simp [writesT]; omega)).symm
      · simp [opMarkT, laid_nil]
      · exact big_of (by simp)
    · have e : givesT regs slots was ⟨12, a, b, c⟩ = readT (was n) (was b) := by simp [givesT, hn]
      refine do_load h c a b (by omega) (by omega) hn1000 (hf b (by omega) (by omega)).1 (hf b (by omega) (by omega)).2 (hf n (by omega) (by omega)).1 (hf n (by omega) (by omega)).2 hl Post
        (fun w' h' m' => hp w' (h'.congr (fun i _ => up_step (by simp [writesT]) e.symm i) ?_ ?_ ?_) m')
      · exact (step_off (by simp [writesT]; omega)).symm
      · simp [opMarkT]
      · refine big_of ?_
        rw [e]
        simp only [decide_eq_true_eq]
        omega
    · have e : givesT regs slots was ⟨13, a, b, c⟩ = writtenT (was n) (was a) (was b) := by simp [givesT, hn]
      refine do_store h c a b (by omega) (by omega) hn1000 (hf a (by omega) (by omega)).1 (hf a (by omega) (by omega)).2 (hf b (by omega) (by omega)).1 (hf b (by omega) (by omega)).2 (hf n (by omega) (by omega)).1 (hf n (by omega) (by omega)).2 hl Post
        (fun w' h' m' => hp w' (h'.congr (fun i hi => ?_) ?_ ?_ ?_) m')
      · exact (step_off (by simp [writesT]; omega)).symm
      · rw [step_on (by simp [writesT, hn]), e]
      · simp [opMarkT]
      · refine big_of ?_
        rw [e]
        simp only [decide_eq_true_eq]
        omega
  rw [if_neg h2] at hg
  by_cases h14 : k = 14
  · subst h14
    rw [if_pos rfl, Bool.and_eq_true, Bool.and_eq_true, below_iff, below_iff] at hg
    obtain ⟨⟨ga, gb⟩, gc⟩ := hg
    obtain ⟨a, rfl⟩ := Int.eq_ofNat_of_zero_le ga.1
    obtain ⟨b, rfl⟩ := Int.eq_ofNat_of_zero_le gb.1
    obtain ⟨e, he⟩ := Int.eq_ofNat_of_zero_le (show 0 ≤ regs + (a : Int) by omega)
    refine do_put h c a b e he (by omega) (by omega) hn1000 Post (fun w' h' m' => hp w' (h'.congr (fun i _ => up_step (by simp [writesT]; exact he) (by simp [givesT]) i) ?_ ?_ ?_) m')
    · exact (step_off (by simp [writesT]; omega)).symm
    · simp [opMarkT, laid_nil]
    · exact big_of (by simp)
  rw [if_neg h14] at hg
  obtain rfl : k = 15 := by omega
  rw [if_pos rfl, Bool.and_eq_true, Bool.and_eq_true, below_iff, below_iff] at hg
  obtain ⟨⟨ga, gb⟩, gc⟩ := hg
  obtain ⟨a, rfl⟩ := Int.eq_ofNat_of_zero_le ga.1
  obtain ⟨b, rfl⟩ := Int.eq_ofNat_of_zero_le gb.1
  obtain ⟨e, he⟩ := Int.eq_ofNat_of_zero_le (show 0 ≤ regs + (b : Int) by omega)
  refine do_get h c a b e he (by omega) (by omega) hn1000 Post (fun w' h' m' => hp w' (h'.congr (fun i _ => up_step (by simp [writesT]) (by simp [givesT, he]) i) ?_ ?_ ?_) m')
  · exact (step_off (by simp [writesT]; omega)).symm
  · simp [opMarkT, laid_nil]
  · exact big_of (by simp)

theorem bigF_take {regs slots : Int} {ops : List OpD} {was : Int → TD} {k : Nat} (h : bigF regs slots (ops.take k) was = true) : bigF regs slots ops was = true := by
  conv => lhs; rw [← List.take_append_drop k ops]
  rw [bigF_append, h]; rfl

set_option maxRecDepth 100000 in
set_option maxHeartbeats 2000000 in
theorem cDoAll_cps {B Lo : Nat} {w : World} {M P cap n : Nat} {names : List Int} {regs slots data : Int} (h : StAt B Lo w M P cap n (fun i : Nat => firstT names (i : Int)) (firstT names (n : Int)) [] false regs data)
    (hn : (n : Int) = regs + slots) (hr : 1 ≤ regs ∧ regs ≤ 100) (hs : 0 ≤ slots ∧ slots ≤ 100) (hnm : ∀ x ∈ names, x ≤ 1000) (l : List OpD) (hl : l.length ≤ 12) (hg : opsGood regs slots l = true) (v : Value) (hrd : ∀ V, Below B w V → RdOps V v l) (ht : ∀ V, Below B w V → TabW V) (Post : Ending → World → Prop)
    (hbig : bigT regs slots names l = true → ∀ w' f c ms, StAt B Lo w' M P cap n f c ms true regs data → Mv B Lo w w' → Post (.returned (.tuple #[])) w')
    (hok : bigT regs slots names l = false → ∀ w', StAt B Lo w' M P cap n (fun i : Nat => behindT regs slots names l l.length (i : Int)) (behindT regs slots names l l.length (n : Int)) (marksT regs slots data names l l.length) false regs data → Mv B Lo w w' → Post (.returned (.tuple #[])) w') :
    Calls Tryz.prog 163 #[.pointer (some ⟨M, 0, none⟩), v] w Post := by
  obtain ⟨ao, vc, rfl, hll, _⟩ := hrd w (Below.refl _ _)
  rw [big_all] at hbig hok
  have hBle : B ≤ w.heap.size := let ⟨_, _, _, U⟩ := h; U.le
  have H0 : StAt B Lo w M P cap n (fun i : Nat => behindT regs slots names l 0 (i : Int)) (behindT regs slots names l 0 (n : Int)) (marksT regs slots data names l 0) (bigF regs slots (l.take 0) (firstT names)) regs data := h
  clear h
  go_enter Tryz.func163, Tryz.ntmps163
  go_wp2
  go_loopw [4] (fun i wr => ∃ (k : Nat), k ≤ l.length ∧ i = .int .i64 k ∧ StAt B Lo wr M P cap n (fun i : Nat => behindT regs slots names l k (i : Int)) (behindT regs slots names l k (n : Int)) (marksT regs slots data names l k) (bigF regs slots (l.take k) (firstT names)) regs data ∧ Mv B Lo w wr)
    (fun i _ => l.length - (intOf i).toNat)
  case atStart => exact ⟨0, Nat.zero_le _, rfl, H0, Mv.refl _ _ _⟩
  case round =>
    clear H0
    obtain ⟨k, hk, rfl, hst, hmv⟩ := hrel
    by_cases hlt : k < l.length
    · have m7 : wr.cell? ⟨M, 7, none⟩ = some (.bool (bigF regs slots (l.take k) (firstT names))) := let ⟨_, _, _, U⟩ := hst; U.row.cell (i := 7) rfl
      cases hb : bigF regs slots (l.take k) (firstT names) with
      | false =>
        rw [hb] at m7 hst
        obtain ⟨ao', cap', e0, _, hc⟩ := hrd wr hmv.low
        simp only [Value.slice.injEq, true_and] at e0
        obtain ⟨rfl, rfl⟩ := e0
        obtain ⟨b, off, rfl, c0, c1, c2, c3⟩ := hc k hlt
        clear hc
        have hki : (0 : Int) ≤ (k : Int) := by omega
        have hkj : (k : Int) < (l.length : Int) := by omega
        have hfine : ∀ i : Int, 0 ≤ i → i ≤ n → (behindT regs slots names l k i).fine ∧ (behindT regs slots names l k i).size ≤ 10000000 := fun i h0 h1 =>
          ⟨behindT_fine ⟨by omega, hr.2⟩ hs hnm hg k (by omega) i h0 (by omega), Nat.le_trans (behindT_size _ _ _ _ _ _) (Nat.le_trans (most_12 (show k ≤ 12 by omega)) (by omega))⟩
        have q := fun P' => cDo_cps hst hn hr hs ⟨okind l k, oa l k, ob l k, oc l k⟩ (opsGood_at hg hlt) hfine (by have := marksT_length regs slots data names l k; omega) (fun V hv => ht V (hmv.low.trans hv)) P'
        simp only at q
        have HMV := Lib.hid hmv
        have HH : Hid (∀ w', StAt B Lo w' M P cap n (fun i : Nat => stepT regs slots (behindT regs slots names l k) ⟨okind l k, oa l k, ob l k, oc l k⟩ (i : Int)) (stepT regs slots (behindT regs slots names l k) ⟨okind l k, oa l k, ob l k, oc l k⟩ (n : Int)) (laidMark (marksT regs slots data names l k) (opMarkT data (behindT regs slots names l k) ⟨okind l k, oa l k, ob l k, oc l k⟩)) (bigOp regs slots (behindT regs slots names l k) ⟨okind l k, oa l k, ob l k, oc l k⟩) regs data →
            StAt B Lo w' M P cap n (fun i : Nat => behindT regs slots names l (k + 1) (i : Int)) (behindT regs slots names l (k + 1) (n : Int)) (marksT regs slots data names l (k + 1)) (bigF regs slots (l.take (k + 1)) (firstT names)) regs data) := by
          intro w' h'
          refine h'.congr (fun i _ => ?_) ?_ ?_ ?_
          · rw [behind_succ]; rfl
          · rw [behind_succ]; rfl
          · rw [marks_step]; rfl
          · rw [take_succ' hlt, bigF_append, hb, ← behind_fold _ _ _ _ _ (by omega)]
            simp only [Bool.false_or, bigF, Bool.or_false]; rfl
        clear hst hmv hb hfine
        go_wp2_with fail
        refine q _ ?_
        intro w2 h2 m2
        have h3 := HH.out w2 h2
        have m3 := HMV.out.trans m2
        clear q h2 m2 HH HMV c0 c1 c2 c3 m7
        go_wp2
        go_roundw
        case rel => exact ⟨k + 1, by omega, by go_num, h3, m3⟩
        case measure => simp [intOf]; omega
      | true =>
        rw [hb] at m7 hst
        have HF := Lib.hid (hbig (bigF_take hb) _ _ _ _ hst hmv)
        clear hbig hok hst hmv hrd ht hb
        go_wp2
        go_end0
        exact HF.out
    · obtain rfl : k = l.length := by omega
      have HF : Hid (Post (.returned (.tuple #[])) wr) := by
        rw [List.take_length] at hst
        cases hb : bigF regs slots l (firstT names) with
        | false => rw [hb] at hst; exact hok hb _ hst hmv
        | true => rw [hb] at hst; exact hbig hb _ _ _ _ hst hmv
      clear hbig hok hst hmv hrd ht
      go_wp2
      go_end0
      exact HF.out

end Go.Proofs.YtblhmeidbjigaabGreatDoor

/- The code's state: begin. -/
set_option linter.unusedSimpArgs false
set_option linter.unusedVariables false
namespace Go.Proofs.YtblhmeidbjigaabGreatDoor
open Go.RowKit

theorem Tryz.infoTerm : (Tryz.prog.info? 179).map (fun i => (i.zero, i.size, i.bytes)) = some (some (.agg #[.int .i64 0, .int .i64 0, .slice none 0 0, .int .i64 0, .string ⟨#[]⟩]), 5, 64) := by kernel_rfl

/-- Terms of places, side by side. -/
def leafCells : Nat → List Value
  | 0 => []
  | k + 1 => leafCells k ++ tcells (.leaf 102 k) (.slice none 0 0)

theorem leafCells_length (k : Nat) : (leafCells k).length = k * 5 := by
  induction k with
  | zero => rfl
  | succ k ih => simp [leafCells, ih, tcells]; omega

theorem leafCells_get (k : Nat) : ∀ i, i < k → ∀ j u, (tcells (.leaf 102 i) (.slice none 0 0))[j]? = some u → (leafCells k)[i * 5 + j]? = some u := by
  induction k with
  | zero => intro i hi; omega
  | succ k ih =>
    intro i hi j u hu
    have hj : j < 5 := by
      have := (List.getElem?_eq_some_iff.1 hu).1
      simpa [tcells] using this
    unfold leafCells
    by_cases e : i = k
    · subst e
      rw [List.getElem?_append_right (by rw [leafCells_length]; omega), leafCells_length, show i * 5 + j - i * 5 = j by omega]
      exact hu
    · rw [List.getElem?_append_left (by rw [leafCells_length]; omega)]
      exact ih i (by omega) j u hu

theorem term_one (t : TD) : ∀ u ∈ tcells t (.slice none 0 0), u.oneCell' = true := by
  intro u hu
  simp only [tcells, List.mem_cons, List.not_mem_nil, or_false] at hu
  rcases hu with rfl | rfl | rfl | rfl | rfl <;> rfl

theorem owns_pl {w : World} {base n cap : Nat} {ao : Option Addr} (h : w.ownsRow base 179 5 (.slice ao n cap) n (leafCells n)) (hn : 0 < n) :
    ∃ P, ao = some ⟨P, 0, none⟩ ∧ base ≤ P ∧ P < w.heap.size ∧ PlAt w P n (fun i => .leaf 102 i) (fun _ => .slice none 0 0) := by
  rcases h.2 with ⟨e, e'⟩ | ⟨g, cap', cur, e, hb, hh, h1, h2, h3, h4⟩
  · omega
  · simp only [Value.slice.injEq] at e
    obtain ⟨rfl, _, rfl⟩ := e
    refine ⟨g, rfl, hb, (Array.getElem?_eq_some_iff.1 hh).1, cur.toList, by simpa [Row] using hh, by simp [h3]; exact Nat.mul_le_mul_right _ h1, fun i hi j u hj => ?_⟩
    have hj5 : j < 5 := by
      have := (List.getElem?_eq_some_iff.1 hj).1
      simpa [tcells] using this
    have := leafCells_get n i hi j u hj
    rw [← h4, List.getElem?_take_of_lt (by omega)] at this
    exact this

def zSt : List Value := [.slice none 0 0, .int .i64 0, .int .i64 0, .slice none 0 0, .int .i64 0, .string ⟨#[]⟩, .slice none 0 0, .bool false, .int .i64 0, .int .i64 0]

/-- Ten cells of a block are set. -/
def set10 (w : World) (g : Nat) (a b c d e f h i j k : Value) : World :=
  ((((((((((w.setCell ⟨g, 0, none⟩ a).setCell ⟨g, 1, none⟩ b).setCell ⟨g, 2, none⟩ c).setCell ⟨g, 3, none⟩ d).setCell ⟨g, 4, none⟩ e).setCell ⟨g, 5, none⟩ f).setCell ⟨g, 6, none⟩ h).setCell ⟨g, 7, none⟩ i).setCell ⟨g, 8, none⟩ j).setCell ⟨g, 9, none⟩ k)

theorem Keep.set10 {S : Nat → Prop} {w a : World} (h : Keep S w a) {g : Nat} (hg : S g) (x0 x1 x2 x3 x4 x5 x6 x7 x8 x9 : Value) : Keep S w (Go.Proofs.YtblhmeidbjigaabGreatDoor.set10 a g x0 x1 x2 x3 x4 x5 x6 x7 x8 x9) :=
  (((((((((h.setCell (p := ⟨g, 0, none⟩) (.inl hg) _).setCell (p := ⟨g, 1, none⟩) (.inl hg) _).setCell (p := ⟨g, 2, none⟩) (.inl hg) _).setCell (p := ⟨g, 3, none⟩) (.inl hg) _).setCell (p := ⟨g, 4, none⟩) (.inl hg) _).setCell (p := ⟨g, 5, none⟩) (.inl hg) _).setCell (p := ⟨g, 6, none⟩) (.inl hg) _).setCell (p := ⟨g, 7, none⟩) (.inl hg) _).setCell (p := ⟨g, 8, none⟩) (.inl hg) _).setCell (p := ⟨g, 9, none⟩) (.inl hg) _

set_option maxRecDepth 100000 in
set_option maxHeartbeats 4000000 in
theorem cBegin_cps (args regs data slots : Int) (bv : Value) (hbv : ∃ ao n c, bv = .slice ao n c) (n : Nat) (hn : (n : Int) = regs + slots) (hr : 1 ≤ regs ∧ regs ≤ 100) (hs : 0 ≤ slots ∧ slots ≤ 100) (w : World) (ht : TabW w) (Post : Ending → World → Prop)
    (hp : ∀ P cap w', w.heap.size ≤ P → P < w'.heap.size → PlAt w' P n (fun i => .leaf 102 i) (fun _ => .slice none 0 0) → Below w.heap.size w w' → w.heap.size + 2 ≤ w'.heap.size →
      Post (.returned (.agg #[.slice (some ⟨P, 0, none⟩) n cap, .int .i64 0, .int .i64 0, .slice none 0 0, .int .i64 1, .string ⟨#[109]⟩, .slice none 0 0, .bool false, .int .i64 regs, .int .i64 data])) w') :
    Calls Tryz.prog 161 #[.agg #[.int .i64 args, .int .i64 regs, .int .i64 data, .int .i64 slots, bv]] w Post := by
  obtain ⟨bo, bn, bc, rfl⟩ := hbv
  obtain ⟨i0, ii, iz0, iz1, iz2⟩ := info_parts Tryz.infoTerm
  have hb0 : Below w.heap.size w ((w.alloc (.cells #[.int .i64 args, .int .i64 regs, .int .i64 data, .int .i64 slots, .slice bo bn bc] 25)).alloc (.cells zSt.toArray 181)) := ((Below.refl _ _).alloc (Nat.le_refl _) _).alloc (by simp) _
  have ro : Row ((w.alloc (.cells #[.int .i64 args, .int .i64 regs, .int .i64 data, .int .i64 slots, .slice bo bn bc] 25)).alloc (.cells zSt.toArray 181)) w.heap.size 25 [.int .i64 args, .int .i64 regs, .int .i64 data, .int .i64 slots, .slice bo bn bc] := Row.alloc (heap_alloc_new w _) _
  have rg : Row ((w.alloc (.cells #[.int .i64 args, .int .i64 regs, .int .i64 data, .int .i64 slots, .slice bo bn bc] 25)).alloc (.cells zSt.toArray 181)) (w.heap.size + 1) 181 zSt := heap_alloc2_new w _ _
  have hz0 : w.heap.size + 2 ≤ ((w.alloc (.cells #[.int .i64 args, .int .i64 regs, .int .i64 data, .int .i64 slots, .slice bo bn bc] 25)).alloc (.cells zSt.toArray 181)).heap.size := by simp
  have hadd : IntKind.i64.wrap (regs + slots) = (n : Int) := by rw [← hn, IntKind.wrap_i64]; omega
  have HP := Lib.hid hp
  have HT := Lib.hid ht
  unfold zSt at hb0 ro rg hz0
  have hnn := Lib.hid hn
  have HN : n ≤ 200 := by omega
  have HN0 : 0 < n := by omega
  clear hp ht hn
  go_enter Tryz.func161, Tryz.ntmps161
  go_wp2
  go_loopw [3, 4] (fun v i wr => ∃ (k : Nat), k ≤ n ∧ i = .int .i64 k ∧ wr.ownsRow (w.heap.size + 2) 179 5 v k (leafCells k) ∧ Row wr w.heap.size 25 [.int .i64 args, .int .i64 regs, .int .i64 data, .int .i64 slots, .slice bo bn bc] ∧ Row wr (w.heap.size + 1) 181 zSt ∧ Below w.heap.size w wr ∧ w.heap.size + 2 ≤ wr.heap.size)
    (fun v i _ => n - (intOf i).toNat)
  case atStart => exact ⟨0, Nat.zero_le _, rfl, World.ownsRow_nil _ _ _ _, ro, rg, hb0, hz0⟩
  case round =>
    clear ro rg hb0 hz0
    obtain ⟨k, hk, rfl, hown, ro, rg, hbel, hz⟩ := hrel
    have x1 := ro.cell (i := 1) rfl
    have x3 := ro.cell (i := 3) rfl
    obtain ⟨vo, vc, rfl⟩ := owns_slice hown
    by_cases hlt : k < n
    · have q1 := cOfPlace_any (k : Int) (by constructor <;> omega) wr (HT.out.keep hbel)
      unfold termV at q1
      go_wp2_with fail
      refine q1.mono ?_
      rintro e w2 ⟨rfl, b2⟩
      have own2 := owns_below hown b2 (Nat.le_refl _)
      have ro2 := ro.keep b2
      have rg2 := rg.keep b2
      have bel2 := hbel.trans (b2.mono hbel.size)
      have z2 : w.heap.size + 2 ≤ w2.heap.size := Nat.le_trans hz b2.size
      clear q1 hown ro rg hbel hz b2 x1 x3
      go_wp2_with (at_builtin; refine wpList_append_own _ rfl _ _ 177 rfl (w.heap.size + 2) 179 i0 (.agg #[.int .i64 0, .int .i64 0, .slice none 0 0, .int .i64 0, .string ⟨#[]⟩]) 5 64 Tryz.underlying177 ii iz0 iz1 iz2 rfl (by decide) _ _ _ rfl (own2.alloc _) ⟨w2.heap.size, 0, none⟩ 1 1 (tcells (.leaf 102 k) (.slice none 0 0)) rfl rfl ?c1 (term_one _) ?c3 ?c4 ?c5 ?_)
      case c1 => exact five_new w2 _ _ _ _ _ _
      case c3 => unfold maxLen; omega
      case c4 => omega
      case c5 => simp; omega
      intro v' w4 hown' hgrow _
      have hb4 := ((Below.refl (w.heap.size + 2) w2).alloc z2 (.cells #[.int .i64 (ckind (.leaf 102 k)), .int .i64 (cval (.leaf 102 k)), .slice none 0 0, .int .i64 (TD.leaf 102 k).size, .string (str (showT (.leaf 102 k)))] 179)).grown hgrow (by simp; omega) (fun g hg => (own2.lt g hg).1)
      have ro4 := ro2.below hb4 (by omega)
      have rg4 := rg2.below hb4 (by omega)
      have bel4 := bel2.trans (hb4.mono (by omega))
      have z4 : w.heap.size + 2 ≤ w4.heap.size := Nat.le_trans z2 hb4.size
      obtain ⟨lo', lc', rfl⟩ := owns_slice hown'
      clear hgrow own2 ro2 rg2 bel2 hb4
      go_wp2
      go_roundw
      case rel => exact ⟨k + 1, by omega, by go_num, by simpa [leafCells] using hown', ro4, rg4, bel4, z4⟩
      case measure => simp [intOf]; omega
    · obtain rfl : k = n := by omega
      obtain ⟨P, rfl, hPb, hPl, hpl⟩ := owns_pl hown HN0
      have x2 := fun V (h : Keep (fun g => g = w.heap.size + 1) wr V) => h.cell (show w.heap.size ≠ w.heap.size + 1 by omega) (ro.cell (i := 2) rfl)
      have y1 := fun V (h : Keep (fun g => g = w.heap.size + 1) wr V) => h.cell (show w.heap.size ≠ w.heap.size + 1 by omega) (ro.cell (i := 1) rfl)
      have d0 : Below wr.heap.size wr wr.drew := (Below.refl _ _).drew
      have k0 : Keep (fun g => g = w.heap.size + 1) wr wr.drew := (Keep.refl _ _).below d0 (Nat.le_refl _)
      have q2 := cOfCells_any wr.drew
      have HRG := Lib.hid rg
      have HPL := Lib.hid hpl
      have HB := Lib.hid hbel
      have e6 : termV (.leaf 103 0) (.slice none 0 0) = .agg #[.int .i64 0, .int .i64 0, .slice none 0 0, .int .i64 1, .string ⟨#[109]⟩] := by simp [termV, ckind, cval, TD.size, showT, str]
      rw [e6] at q2
      clear hown ro rg hpl hbel e6
      go_wp2
      go_region_held3 (fun V => Keep (fun g => g = w.heap.size + 1) wr V) (first | with_reducible exact k0 | with_reducible exact k2 | with_reducible exact k3) (first | (go_at_call 184; refine q2.mono ?_; rintro e w2 ⟨rfl, b2⟩; have b3 : Below wr.heap.size wr w2 := d0.trans (b2.mono d0.size); have k2 : Keep (fun g => g = w.heap.size + 1) wr w2 := (Keep.refl _ _).below b3 (Nat.le_refl _); have rg2 := HRG.out.keep b3; have k3 := k2.set10 rfl (.slice (some ⟨P, 0, none⟩) k vc) (.int .i64 0) (.int .i64 0) (.slice none 0 0) (.int .i64 1) (.string ⟨#[109]⟩) (.slice none 0 0) (.bool false) (.int .i64 regs) (.int .i64 data); have k4 := k3; unfold set10 at k3; have z0 := rg2.cell (i := 0) rfl; have z1 := rg2.cell (i := 1) rfl; have z2 := rg2.cell (i := 2) rfl; have z3 := rg2.cell (i := 3) rfl; have z4 := rg2.cell (i := 4) rfl; have z5 := rg2.cell (i := 5) rfl; have z6 := rg2.cell (i := 6) rfl; have z7 := rg2.cell (i := 7) rfl; have z8 := rg2.cell (i := 8) rfl; have z9 := rg2.cell (i := 9) rfl; have f0 := rg2.frozen 0; have f1 := rg2.frozen 1; have f2 := rg2.frozen 2; have f3 := rg2.frozen 3; have f4 := rg2.frozen 4; have f5 := rg2.frozen 5; have f6 := rg2.frozen 6; have f7 := rg2.frozen 7; have f8 := rg2.frozen 8; have f9 := rg2.frozen 9))
      have hbel : Below w.heap.size w (set10 w2 (w.heap.size + 1) (.slice (some ⟨P, 0, none⟩) k vc) (.int .i64 0) (.int .i64 0) (.slice none 0 0) (.int .i64 1) (.string ⟨#[109]⟩) (.slice none 0 0) (.bool false) (.int .i64 regs) (.int .i64 data)) := HB.out.trans (k4.toBelow HB.out.size (fun g e => by omega))
      have hpl := HPL.out
      have hpl2 : PlAt (set10 w2 (w.heap.size + 1) (.slice (some ⟨P, 0, none⟩) k vc) (.int .i64 0) (.int .i64 0) (.slice none 0 0) (.int .i64 1) (.string ⟨#[109]⟩) (.slice none 0 0) (.bool false) (.int .i64 regs) (.int .i64 data)) P k (fun i => .leaf 102 i) (fun _ => .slice none 0 0) := by
        obtain ⟨xs, r, hl, hc⟩ := hpl
        exact ⟨xs, r.kept k4 (by omega), hl, hc⟩
      have HF := Lib.hid (HP.out P vc _ (by omega) (Nat.lt_of_lt_of_le hPl k4.size) hpl2 hbel (Nat.le_trans hz k4.size))
      unfold set10 at HF
      clear hbel hpl hpl2 k4 HP HPL HB HRG rg2 k2 k3 b2 b3
      go_wp2
      (try simp only [Exit.inBlock, Exit.then])
      refine bodyPost_ret (v := .agg #[.slice (some ⟨P, 0, none⟩) k vc, .int .i64 0, .int .i64 0, .slice none 0 0, .int .i64 1, .string ⟨#[109]⟩, .slice none 0 0, .bool false, .int .i64 regs, .int .i64 data]) ?_ rfl ?_
      · simp [results, Tryz.results161, go_sem, z0, z1, z2, z3, z4, z5, z6, z7, z8, z9]
      · exact HF.out

end Go.Proofs.YtblhmeidbjigaabGreatDoor
