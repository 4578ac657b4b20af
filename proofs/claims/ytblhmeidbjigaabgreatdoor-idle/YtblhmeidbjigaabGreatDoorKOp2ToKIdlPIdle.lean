/- An operation out of raw numbers, of a kind up to the one that is asked for. -/
import Derived.Test.YtblhmeidbjigaabGreatDoorRows
import Derived.WalkKit
import Derived.WalkSpells
import Derived.WalkLawsBesides
import Derived.Laws.BytesArg
import Derived.Deep.QuietTactic
import Derived.BigQuiet
import Derived.Deep.RegionHeld3
import Derived.Lib.ItoaNum
import Derived.Lib.ItoaLen
import Derived.OpenShut
import Derived.Maps.AppendAt
import Derived.StillTailTactics
import Derived.Shelf.Strconv.Itoa3
import Derived.Shelf.Lay
import Derived.Ground.NamesProg
import Derived.Lib.SmallJoins
import Derived.Lib.Hide
import Derived.Deep.RegionLaw
import Derived.BigRegion
import Derived.Deep.AppendLies
import Derived.ProofKit
import Derived.SizedLaws
import Derived.Deep.Slices
import Derived.Test.YtblhmeidbjigaabGreatDoorVCmHToKSpPIdle

set_option linter.unusedSimpArgs false
set_option linter.unusedVariables false
namespace Go.Proofs.YtblhmeidbjigaabGreatDoor
open Go.RowKit

set_option maxRecDepth 100000 in
set_option maxHeartbeats 4000000 in
theorem op2_cps (R : Nat) (ao : Option Addr) (n cap k : Nat) (most regs slots : Int) (w : World) (h : Rolls w R ao n cap k) (hre : 1 ≤ regs ∧ regs ≤ 8) (hsl : 0 ≤ slots ∧ slots ≤ 8) (hmo : 1 ≤ most ∧ most ≤ 15) (hms : most ≤ 13 ∨ 1 ≤ slots) (Post : Ending → World → Prop)
    (hp : ∀ a b c d k' w', opGood regs slots ⟨a, b, c, d⟩ = true → a ≤ most → Rolls w' R ao n cap k' → Keep (fun g => g = R) w w' → Post (.returned (.agg #[.int .i64 a, .int .i64 b, .int .i64 c, .int .i64 d])) w') :
    Calls Tryz.prog 14 #[.pointer (some ⟨R, 0, none⟩), .int .i64 most, .int .i64 regs, .int .i64 slots] w Post := by
  have hRw := h.row.lt
  have hA0 : Row (w.alloc (.cells #[.int .i64 0, .int .i64 0, .int .i64 0, .int .i64 0] 36)) w.heap.size 36 [.int .i64 0, .int .i64 0, .int .i64 0, .int .i64 0] := heap_alloc_new w _
  go_enter Tryz.func14, Tryz.ntmps14
  go_wp2_with fail
  refine next_cps R ao n cap k most _ (h.keep ((Below.refl _ _).alloc (Nat.le_refl _) _)) (by omega) _ ?_
  intro x k1 w1 hx0 hx3 hr1 hk1 hz1
  have hA := hA0.kept hk1 (by omega)
  simp only [World.size_alloc] at hz1
  have HZ : Hid (w1.heap.size = w.heap.size + 1) := hz1
  have hzl : w.heap.size < w1.heap.size := by omega
  have hRB : R < w1.heap.size := by omega
  clear hA0 hz1
  have hre' : 1 ≤ regs ∧ regs ≤ 1000 := by omega
  have hct : (1 : Int) ≤ 256 ∧ (256 : Int) ≤ 1000 := by omega
  obtain rfl | rfl | rfl | rfl | rfl | rfl | hxx : x = 0 ∨ x = 1 ∨ x = 11 ∨ x = 12 ∨ x = 13 ∨ x = 14 ∨ (2 ≤ x ∧ x ≤ 10) := by omega
  · have st : St w R ao n cap 36 w.heap.size w1.heap.size [.int .i64 1, .int .i64 0, .int .i64 0, .int .i64 0] (w1.alloc (.cells #[.int .i64 1, .int .i64 0, .int .i64 0, .int .i64 0] 36)) := St.start h hr1 hk1 hA HZ.out _
    obtain ⟨k0, hro0⟩ := st.rolls
    go_wp2_with fail
    refine next_cps R ao n cap k0 regs _ hro0 hre' _ ?_
    intro y0 kk0 v0 ya0 yb0 hr hk hzz
    have st := st.next hr hk
    have bc := st.rowB.cell (i := 1) rfl
    have bf := st.rowB.frozen 1
    have st' := st.store h 1 (.int .i64 y0)
    clear hr hk hzz
    replace st := st'
    obtain ⟨k1, hro1⟩ := st.rolls
    go_wp2_with fail
    refine next_cps R ao n cap k1 256 _ hro1 hct _ ?_
    intro y1 kk1 v1 ya1 yb1 hr hk hzz
    have st := st.next hr hk
    have bc := st.rowB.cell (i := 2) rfl
    have bf := st.rowB.frozen 2
    have st' := st.store h 2 (.int .i64 y1)
    clear hr hk hzz
    replace st := st'
    obtain ⟨k2, hro2⟩ := st.rolls
    go_wp2_with fail
    refine next_cps R ao n cap k2 256 _ hro2 hct _ ?_
    intro y2 kk2 v2 ya2 yb2 hr hk hzz
    have st := st.next hr hk
    have bc := st.rowB.cell (i := 3) rfl
    have bf := st.rowB.frozen 3
    have st' := st.store h 3 (.int .i64 y2)
    clear hr hk hzz
    have st2 := st'
    obtain ⟨kf, hrof⟩ := st2.rolls
    have hfin := hp 1 y0 y1 y2 kf (set4 (v2.setCell ⟨w1.heap.size, 3, none⟩ (.int .i64 y2)) w.heap.size 0 1 y0 y1 y2) (by simp [opGood, below]; omega) (by omega) (((hrof.set h (Nat.le_refl _) _).set h (Nat.le_refl _) _ |>.set h (Nat.le_refl _) _).set h (Nat.le_refl _) _) (st2.keep.set4 (.inr (Nat.le_refl _)) _ _ _ _)
    have hne := st2.ne
    have a0 := st2.rowA.cell (i := 0) rfl
    have a1 := st2.rowA.cell (i := 1) rfl
    have a2 := st2.rowA.cell (i := 2) rfl
    have a3 := st2.rowA.cell (i := 3) rfl
    have f0 := st2.rowA.frozen 0
    have f1 := st2.rowA.frozen 1
    have f2 := st2.rowA.frozen 2
    have f3 := st2.rowA.frozen 3
    have q0 := st2.rowB.cell (i := 0) (u := .int .i64 1) rfl
    have q1 := st2.rowB.cell (i := 1) (u := .int .i64 y0) rfl
    have q2 := st2.rowB.cell (i := 2) (u := .int .i64 y1) rfl
    have q3 := st2.rowB.cell (i := 3) (u := .int .i64 y2) rfl
    clear st st' st2 hp h hr1 hk1 hA
    have HF : Hid (Post (.returned (.agg #[.int .i64 1, .int .i64 y0, .int .i64 y1, .int .i64 y2])) (set4 (v2.setCell ⟨w1.heap.size, 3, none⟩ (.int .i64 y2)) w.heap.size 0 1 y0 y1 y2)) := hfin
    clear hfin
    go_wp2
    exact bodyPost_ret (v := .agg #[.int .i64 1, .int .i64 y0, .int .i64 y1, .int .i64 y2]) (by simp [results, Tryz.results14, go_sem, a0, a1, a2, a3]) rfl HF.out
  · have st : St w R ao n cap 36 w.heap.size w1.heap.size [.int .i64 2, .int .i64 0, .int .i64 0, .int .i64 0] (w1.alloc (.cells #[.int .i64 2, .int .i64 0, .int .i64 0, .int .i64 0] 36)) := St.start h hr1 hk1 hA HZ.out _
    obtain ⟨k0, hro0⟩ := st.rolls
    go_wp2_with fail
    refine next_cps R ao n cap k0 regs _ hro0 hre' _ ?_
    intro y0 kk0 v0 ya0 yb0 hr hk hzz
    have st := st.next hr hk
    have bc := st.rowB.cell (i := 1) rfl
    have bf := st.rowB.frozen 1
    have st' := st.store h 1 (.int .i64 y0)
    clear hr hk hzz
    replace st := st'
    obtain ⟨k1, hro1⟩ := st.rolls
    go_wp2_with fail
    refine next_cps R ao n cap k1 regs _ hro1 hre' _ ?_
    intro y1 kk1 v1 ya1 yb1 hr hk hzz
    have st := st.next hr hk
    have bc := st.rowB.cell (i := 2) rfl
    have bf := st.rowB.frozen 2
    have st' := st.store h 2 (.int .i64 y1)
    clear hr hk hzz
    have st2 := st'
    obtain ⟨kf, hrof⟩ := st2.rolls
    have hfin := hp 2 y0 y1 0 kf (set4 (v1.setCell ⟨w1.heap.size, 2, none⟩ (.int .i64 y1)) w.heap.size 0 2 y0 y1 0) (by simp [opGood, below]; omega) (by omega) (((hrof.set h (Nat.le_refl _) _).set h (Nat.le_refl _) _ |>.set h (Nat.le_refl _) _).set h (Nat.le_refl _) _) (st2.keep.set4 (.inr (Nat.le_refl _)) _ _ _ _)
    have hne := st2.ne
    have a0 := st2.rowA.cell (i := 0) rfl
    have a1 := st2.rowA.cell (i := 1) rfl
    have a2 := st2.rowA.cell (i := 2) rfl
    have a3 := st2.rowA.cell (i := 3) rfl
    have f0 := st2.rowA.frozen 0
    have f1 := st2.rowA.frozen 1
    have f2 := st2.rowA.frozen 2
    have f3 := st2.rowA.frozen 3
    have q0 := st2.rowB.cell (i := 0) (u := .int .i64 2) rfl
    have q1 := st2.rowB.cell (i := 1) (u := .int .i64 y0) rfl
    have q2 := st2.rowB.cell (i := 2) (u := .int .i64 y1) rfl
    have q3 := st2.rowB.cell (i := 3) (u := .int .i64 0) rfl
    clear st st' st2 hp h hr1 hk1 hA
    have HF : Hid (Post (.returned (.agg #[.int .i64 2, .int .i64 y0, .int .i64 y1, .int .i64 0])) (set4 (v1.setCell ⟨w1.heap.size, 2, none⟩ (.int .i64 y1)) w.heap.size 0 2 y0 y1 0)) := hfin
    clear hfin
    go_wp2
    exact bodyPost_ret (v := .agg #[.int .i64 2, .int .i64 y0, .int .i64 y1, .int .i64 0]) (by simp [results, Tryz.results14, go_sem, a0, a1, a2, a3]) rfl HF.out
  · have st : St w R ao n cap 36 w.heap.size w1.heap.size [.int .i64 12, .int .i64 0, .int .i64 0, .int .i64 0] (w1.alloc (.cells #[.int .i64 12, .int .i64 0, .int .i64 0, .int .i64 0] 36)) := St.start h hr1 hk1 hA HZ.out _
    obtain ⟨k0, hro0⟩ := st.rolls
    go_wp2_with fail
    refine next_cps R ao n cap k0 regs _ hro0 hre' _ ?_
    intro y0 kk0 v0 ya0 yb0 hr hk hzz
    have st := st.next hr hk
    have bc := st.rowB.cell (i := 1) rfl
    have bf := st.rowB.frozen 1
    have st' := st.store h 1 (.int .i64 y0)
    clear hr hk hzz
    replace st := st'
    obtain ⟨k1, hro1⟩ := st.rolls
    go_wp2_with fail
    refine next_cps R ao n cap k1 regs _ hro1 hre' _ ?_
    intro y1 kk1 v1 ya1 yb1 hr hk hzz
    have st := st.next hr hk
    have bc := st.rowB.cell (i := 2) rfl
    have bf := st.rowB.frozen 2
    have st' := st.store h 2 (.int .i64 y1)
    clear hr hk hzz
    have st2 := st'
    obtain ⟨kf, hrof⟩ := st2.rolls
    have hfin := hp 12 y0 y1 0 kf (set4 (v1.setCell ⟨w1.heap.size, 2, none⟩ (.int .i64 y1)) w.heap.size 0 12 y0 y1 0) (by simp [opGood, below]; omega) (by omega) (((hrof.set h (Nat.le_refl _) _).set h (Nat.le_refl _) _ |>.set h (Nat.le_refl _) _).set h (Nat.le_refl _) _) (st2.keep.set4 (.inr (Nat.le_refl _)) _ _ _ _)
    have hne := st2.ne
    have a0 := st2.rowA.cell (i := 0) rfl
    have a1 := st2.rowA.cell (i := 1) rfl
    have a2 := st2.rowA.cell (i := 2) rfl
    have a3 := st2.rowA.cell (i := 3) rfl
    have f0 := st2.rowA.frozen 0
    have f1 := st2.rowA.frozen 1
    have f2 := st2.rowA.frozen 2
    have f3 := st2.rowA.frozen 3
    have q0 := st2.rowB.cell (i := 0) (u := .int .i64 12) rfl
    have q1 := st2.rowB.cell (i := 1) (u := .int .i64 y0) rfl
    have q2 := st2.rowB.cell (i := 2) (u := .int .i64 y1) rfl
    have q3 := st2.rowB.cell (i := 3) (u := .int .i64 0) rfl
    clear st st' st2 hp h hr1 hk1 hA
    have HF : Hid (Post (.returned (.agg #[.int .i64 12, .int .i64 y0, .int .i64 y1, .int .i64 0])) (set4 (v1.setCell ⟨w1.heap.size, 2, none⟩ (.int .i64 y1)) w.heap.size 0 12 y0 y1 0)) := hfin
    clear hfin
    go_wp2
    exact bodyPost_ret (v := .agg #[.int .i64 12, .int .i64 y0, .int .i64 y1, .int .i64 0]) (by simp [results, Tryz.results14, go_sem, a0, a1, a2, a3]) rfl HF.out
  · have st : St w R ao n cap 36 w.heap.size w1.heap.size [.int .i64 13, .int .i64 0, .int .i64 0, .int .i64 0] (w1.alloc (.cells #[.int .i64 13, .int .i64 0, .int .i64 0, .int .i64 0] 36)) := St.start h hr1 hk1 hA HZ.out _
    obtain ⟨k0, hro0⟩ := st.rolls
    go_wp2_with fail
    refine next_cps R ao n cap k0 regs _ hro0 hre' _ ?_
    intro y0 kk0 v0 ya0 yb0 hr hk hzz
    have st := st.next hr hk
    have bc := st.rowB.cell (i := 1) rfl
    have bf := st.rowB.frozen 1
    have st' := st.store h 1 (.int .i64 y0)
    clear hr hk hzz
    replace st := st'
    obtain ⟨k1, hro1⟩ := st.rolls
    go_wp2_with fail
    refine next_cps R ao n cap k1 regs _ hro1 hre' _ ?_
    intro y1 kk1 v1 ya1 yb1 hr hk hzz
    have st := st.next hr hk
    have bc := st.rowB.cell (i := 2) rfl
    have bf := st.rowB.frozen 2
    have st' := st.store h 2 (.int .i64 y1)
    clear hr hk hzz
    have st2 := st'
    obtain ⟨kf, hrof⟩ := st2.rolls
    have hfin := hp 13 y0 y1 0 kf (set4 (v1.setCell ⟨w1.heap.size, 2, none⟩ (.int .i64 y1)) w.heap.size 0 13 y0 y1 0) (by simp [opGood, below]; omega) (by omega) (((hrof.set h (Nat.le_refl _) _).set h (Nat.le_refl _) _ |>.set h (Nat.le_refl _) _).set h (Nat.le_refl _) _) (st2.keep.set4 (.inr (Nat.le_refl _)) _ _ _ _)
    have hne := st2.ne
    have a0 := st2.rowA.cell (i := 0) rfl
    have a1 := st2.rowA.cell (i := 1) rfl
    have a2 := st2.rowA.cell (i := 2) rfl
    have a3 := st2.rowA.cell (i := 3) rfl
    have f0 := st2.rowA.frozen 0
    have f1 := st2.rowA.frozen 1
    have f2 := st2.rowA.frozen 2
    have f3 := st2.rowA.frozen 3
    have q0 := st2.rowB.cell (i := 0) (u := .int .i64 13) rfl
    have q1 := st2.rowB.cell (i := 1) (u := .int .i64 y0) rfl
    have q2 := st2.rowB.cell (i := 2) (u := .int .i64 y1) rfl
    have q3 := st2.rowB.cell (i := 3) (u := .int .i64 0) rfl
    clear st st' st2 hp h hr1 hk1 hA
    have HF : Hid (Post (.returned (.agg #[.int .i64 13, .int .i64 y0, .int .i64 y1, .int .i64 0])) (set4 (v1.setCell ⟨w1.heap.size, 2, none⟩ (.int .i64 y1)) w.heap.size 0 13 y0 y1 0)) := hfin
    clear hfin
    go_wp2
    exact bodyPost_ret (v := .agg #[.int .i64 13, .int .i64 y0, .int .i64 y1, .int .i64 0]) (by simp [results, Tryz.results14, go_sem, a0, a1, a2, a3]) rfl HF.out
  · have hsl' : 1 ≤ slots ∧ slots ≤ 1000 := by omega
    have st : St w R ao n cap 36 w.heap.size w1.heap.size [.int .i64 14, .int .i64 0, .int .i64 0, .int .i64 0] (w1.alloc (.cells #[.int .i64 14, .int .i64 0, .int .i64 0, .int .i64 0] 36)) := St.start h hr1 hk1 hA HZ.out _
    obtain ⟨k0, hro0⟩ := st.rolls
    go_wp2_with fail
    refine next_cps R ao n cap k0 slots _ hro0 hsl' _ ?_
    intro y0 kk0 v0 ya0 yb0 hr hk hzz
    have st := st.next hr hk
    have bc := st.rowB.cell (i := 1) rfl
    have bf := st.rowB.frozen 1
    have st' := st.store h 1 (.int .i64 y0)
    clear hr hk hzz
    replace st := st'
    obtain ⟨k1, hro1⟩ := st.rolls
    go_wp2_with fail
    refine next_cps R ao n cap k1 regs _ hro1 hre' _ ?_
    intro y1 kk1 v1 ya1 yb1 hr hk hzz
    have st := st.next hr hk
    have bc := st.rowB.cell (i := 2) rfl
    have bf := st.rowB.frozen 2
    have st' := st.store h 2 (.int .i64 y1)
    clear hr hk hzz
    have st2 := st'
    obtain ⟨kf, hrof⟩ := st2.rolls
    have hfin := hp 14 y0 y1 0 kf (set4 (v1.setCell ⟨w1.heap.size, 2, none⟩ (.int .i64 y1)) w.heap.size 0 14 y0 y1 0) (by simp [opGood, below]; omega) (by omega) (((hrof.set h (Nat.le_refl _) _).set h (Nat.le_refl _) _ |>.set h (Nat.le_refl _) _).set h (Nat.le_refl _) _) (st2.keep.set4 (.inr (Nat.le_refl _)) _ _ _ _)
    have hne := st2.ne
    have a0 := st2.rowA.cell (i := 0) rfl
    have a1 := st2.rowA.cell (i := 1) rfl
    have a2 := st2.rowA.cell (i := 2) rfl
    have a3 := st2.rowA.cell (i := 3) rfl
    have f0 := st2.rowA.frozen 0
    have f1 := st2.rowA.frozen 1
    have f2 := st2.rowA.frozen 2
    have f3 := st2.rowA.frozen 3
    have q0 := st2.rowB.cell (i := 0) (u := .int .i64 14) rfl
    have q1 := st2.rowB.cell (i := 1) (u := .int .i64 y0) rfl
    have q2 := st2.rowB.cell (i := 2) (u := .int .i64 y1) rfl
    have q3 := st2.rowB.cell (i := 3) (u := .int .i64 0) rfl
    clear st st' st2 hp h hr1 hk1 hA
    have HF : Hid (Post (.returned (.agg #[.int .i64 14, .int .i64 y0, .int .i64 y1, .int .i64 0])) (set4 (v1.setCell ⟨w1.heap.size, 2, none⟩ (.int .i64 y1)) w.heap.size 0 14 y0 y1 0)) := hfin
    clear hfin
    go_wp2
    exact bodyPost_ret (v := .agg #[.int .i64 14, .int .i64 y0, .int .i64 y1, .int .i64 0]) (by simp [results, Tryz.results14, go_sem, a0, a1, a2, a3]) rfl HF.out
  · have hsl' : 1 ≤ slots ∧ slots ≤ 1000 := by omega
    have st : St w R ao n cap 36 w.heap.size w1.heap.size [.int .i64 15, .int .i64 0, .int .i64 0, .int .i64 0] (w1.alloc (.cells #[.int .i64 15, .int .i64 0, .int .i64 0, .int .i64 0] 36)) := St.start h hr1 hk1 hA HZ.out _
    obtain ⟨k0, hro0⟩ := st.rolls
    go_wp2_with fail
    refine next_cps R ao n cap k0 regs _ hro0 hre' _ ?_
    intro y0 kk0 v0 ya0 yb0 hr hk hzz
    have st := st.next hr hk
    have bc := st.rowB.cell (i := 1) rfl
    have bf := st.rowB.frozen 1
    have st' := st.store h 1 (.int .i64 y0)
    clear hr hk hzz
    replace st := st'
    obtain ⟨k1, hro1⟩ := st.rolls
    go_wp2_with fail
    refine next_cps R ao n cap k1 slots _ hro1 hsl' _ ?_
    intro y1 kk1 v1 ya1 yb1 hr hk hzz
    have st := st.next hr hk
    have bc := st.rowB.cell (i := 2) rfl
    have bf := st.rowB.frozen 2
    have st' := st.store h 2 (.int .i64 y1)
    clear hr hk hzz
    have st2 := st'
    obtain ⟨kf, hrof⟩ := st2.rolls
    have hfin := hp 15 y0 y1 0 kf (set4 (v1.setCell ⟨w1.heap.size, 2, none⟩ (.int .i64 y1)) w.heap.size 0 15 y0 y1 0) (by simp [opGood, below]; omega) (by omega) (((hrof.set h (Nat.le_refl _) _).set h (Nat.le_refl _) _ |>.set h (Nat.le_refl _) _).set h (Nat.le_refl _) _) (st2.keep.set4 (.inr (Nat.le_refl _)) _ _ _ _)
    have hne := st2.ne
    have a0 := st2.rowA.cell (i := 0) rfl
    have a1 := st2.rowA.cell (i := 1) rfl
    have a2 := st2.rowA.cell (i := 2) rfl
    have a3 := st2.rowA.cell (i := 3) rfl
    have f0 := st2.rowA.frozen 0
    have f1 := st2.rowA.frozen 1
    have f2 := st2.rowA.frozen 2
    have f3 := st2.rowA.frozen 3
    have q0 := st2.rowB.cell (i := 0) (u := .int .i64 15) rfl
    have q1 := st2.rowB.cell (i := 1) (u := .int .i64 y0) rfl
    have q2 := st2.rowB.cell (i := 2) (u := .int .i64 y1) rfl
    have q3 := st2.rowB.cell (i := 3) (u := .int .i64 0) rfl
    clear st st' st2 hp h hr1 hk1 hA
    have HF : Hid (Post (.returned (.agg #[.int .i64 15, .int .i64 y0, .int .i64 y1, .int .i64 0])) (set4 (v1.setCell ⟨w1.heap.size, 2, none⟩ (.int .i64 y1)) w.heap.size 0 15 y0 y1 0)) := hfin
    clear hfin
    go_wp2
    exact bodyPost_ret (v := .agg #[.int .i64 15, .int .i64 y0, .int .i64 y1, .int .i64 0]) (by simp [results, Tryz.results14, go_sem, a0, a1, a2, a3]) rfl HF.out
  · have n1 : ((1 + x : Int) == 1) = false := by simp; omega
    have n2 : ((1 + x : Int) == 2) = false := by simp; omega
    have n12 : ((1 + x : Int) == 12) = false := by simp; omega
    have n13 : ((1 + x : Int) == 13) = false := by simp; omega
    have n14 : ((1 + x : Int) == 14) = false := by simp; omega
    have n15 : ((1 + x : Int) == 15) = false := by simp; omega
    have st : St w R ao n cap 36 w.heap.size w1.heap.size [.int .i64 (1 + x), .int .i64 0, .int .i64 0, .int .i64 0] (w1.alloc (.cells #[.int .i64 (1 + x), .int .i64 0, .int .i64 0, .int .i64 0] 36)) := St.start h hr1 hk1 hA HZ.out _
    obtain ⟨k0, hro0⟩ := st.rolls
    go_wp2_with fail
    refine next_cps R ao n cap k0 regs _ hro0 hre' _ ?_
    intro y0 kk0 v0 ya0 yb0 hr hk hzz
    have st := st.next hr hk
    have bc := st.rowB.cell (i := 1) rfl
    have bf := st.rowB.frozen 1
    have st' := st.store h 1 (.int .i64 y0)
    clear hr hk hzz
    replace st := st'
    obtain ⟨k1, hro1⟩ := st.rolls
    go_wp2_with fail
    refine next_cps R ao n cap k1 regs _ hro1 hre' _ ?_
    intro y1 kk1 v1 ya1 yb1 hr hk hzz
    have st := st.next hr hk
    have bc := st.rowB.cell (i := 2) rfl
    have bf := st.rowB.frozen 2
    have st' := st.store h 2 (.int .i64 y1)
    clear hr hk hzz
    replace st := st'
    obtain ⟨k2, hro2⟩ := st.rolls
    go_wp2_with fail
    refine next_cps R ao n cap k2 regs _ hro2 hre' _ ?_
    intro y2 kk2 v2 ya2 yb2 hr hk hzz
    have st := st.next hr hk
    have bc := st.rowB.cell (i := 3) rfl
    have bf := st.rowB.frozen 3
    have st' := st.store h 3 (.int .i64 y2)
    clear hr hk hzz
    have st2 := st'
    obtain ⟨kf, hrof⟩ := st2.rolls
    have hfin := hp (1 + x) y0 y1 y2 kf (set4 (v2.setCell ⟨w1.heap.size, 3, none⟩ (.int .i64 y2)) w.heap.size 0 (1 + x) y0 y1 y2) (by unfold opGood; rw [if_neg (by show ¬ (1 + x = 1); omega), if_pos (by show 3 ≤ 1 + x ∧ 1 + x ≤ 11; omega)]; simp [below]; omega) (by omega) (((hrof.set h (Nat.le_refl _) _).set h (Nat.le_refl _) _ |>.set h (Nat.le_refl _) _).set h (Nat.le_refl _) _) (st2.keep.set4 (.inr (Nat.le_refl _)) _ _ _ _)
    have hne := st2.ne
    have a0 := st2.rowA.cell (i := 0) rfl
    have a1 := st2.rowA.cell (i := 1) rfl
    have a2 := st2.rowA.cell (i := 2) rfl
    have a3 := st2.rowA.cell (i := 3) rfl
    have f0 := st2.rowA.frozen 0
    have f1 := st2.rowA.frozen 1
    have f2 := st2.rowA.frozen 2
    have f3 := st2.rowA.frozen 3
    have q0 := st2.rowB.cell (i := 0) (u := .int .i64 (1 + x)) rfl
    have q1 := st2.rowB.cell (i := 1) (u := .int .i64 y0) rfl
    have q2 := st2.rowB.cell (i := 2) (u := .int .i64 y1) rfl
    have q3 := st2.rowB.cell (i := 3) (u := .int .i64 y2) rfl
    clear st st' st2 hp h hr1 hk1 hA
    have HF : Hid (Post (.returned (.agg #[.int .i64 (1 + x), .int .i64 y0, .int .i64 y1, .int .i64 y2])) (set4 (v2.setCell ⟨w1.heap.size, 3, none⟩ (.int .i64 y2)) w.heap.size 0 (1 + x) y0 y1 y2)) := hfin
    clear hfin
    go_wp2
    exact bodyPost_ret (v := .agg #[.int .i64 (1 + x), .int .i64 y0, .int .i64 y1, .int .i64 y2]) (by simp [results, Tryz.results14, go_sem, a0, a1, a2, a3]) rfl HF.out

end Go.Proofs.YtblhmeidbjigaabGreatDoor

/- Work put in that nobody asks for: what is built. -/
set_option linter.unusedSimpArgs false
set_option linter.unusedVariables false
namespace Go.Proofs.YtblhmeidbjigaabGreatDoor
open Go.RowKit

theorem opGood_more {regs : Int} {o : OpD} (h : opGood regs 0 o = true) : opGood (regs + 1) 0 o = true := by
  unfold opGood at h ⊢
  split at h
  · rename_i c; rw [if_pos c]; simp only [Bool.and_eq_true, below, decide_eq_true_eq] at h ⊢; omega
  rename_i c1; rw [if_neg c1]
  split at h
  · rename_i c; rw [if_pos c]; simp only [Bool.and_eq_true, below, decide_eq_true_eq] at h ⊢; omega
  rename_i c2; rw [if_neg c2]
  split at h
  · rename_i c; rw [if_pos c]; simp only [Bool.and_eq_true, below, decide_eq_true_eq] at h ⊢; omega
  rename_i c3; rw [if_neg c3]
  split at h
  · simp only [Bool.and_eq_true, below, decide_eq_true_eq] at h; omega
  · split at h
    · simp only [Bool.and_eq_true, below, decide_eq_true_eq] at h; omega
    · cases h

theorem endGood_more {regs n : Int} {e : EndD} (h : endGood regs n e = true) : endGood (regs + 1) n e = true := by
  unfold endGood at h ⊢
  split at h
  · rename_i c; rw [if_pos c]; exact h
  rename_i c1; rw [if_neg c1]
  split at h
  · rename_i c; rw [if_pos c]; simp only [Bool.and_eq_true, below, decide_eq_true_eq] at h ⊢; omega
  rename_i c2; rw [if_neg c2]
  split at h
  · rename_i c; rw [if_pos c]; simp only [Bool.and_eq_true, below, decide_eq_true_eq] at h ⊢; omega
  · cases h

/-- An operation whose register A is the new one. -/
theorem opGood_junk {regs a b c d : Int} (hr : 1 ≤ regs) (h : opGood (regs + 1) 0 ⟨a, b, c, d⟩ = true) (ha : a ≤ 10) : opGood (regs + 1) 0 ⟨a, regs, c, d⟩ = true ∧ junkAt regs ⟨a, regs, c, d⟩ := by
  have k := (op_plain h).1
  refine ⟨?_, ⟨k.1, ha⟩, rfl⟩
  unfold opGood at h ⊢
  split at h
  · rename_i c; rw [if_pos c]; simp only [Bool.and_eq_true, below, decide_eq_true_eq] at h ⊢; omega
  rename_i c1; rw [if_neg c1]
  split at h
  · rename_i c; rw [if_pos c]; simp only [Bool.and_eq_true, below, decide_eq_true_eq] at h ⊢; omega
  rename_i c2; rw [if_neg c2]
  split at h
  · rename_i c; rw [if_pos c]; simp only [Bool.and_eq_true, below, decide_eq_true_eq] at h ⊢; omega
  · rename_i c3
    exfalso
    have : (1 ≤ a ∧ a ≤ 13) := k
    simp only at c1 c2 c3
    omega

/-- The blocks m are those of l0 with such work put in. -/
structure IdlOk (a1 : Int) (l0 m : List BlockD) : Prop where
  len : m.length = l0.length
  each : ∀ b, b < l0.length → bfin m b = bfin l0 b ∧ Woven (junkAt a1) (bops l0 b) (bops m b) ∧ opsGood (a1 + 1) 0 (bops m b) = true

theorem IdlOk.refl {a0 a1 a2 : Int} {l0 : List BlockD} (g : progGood ⟨a0, a1, a2, 0, l0⟩ = true) : IdlOk a1 l0 l0 := by
  refine ⟨rfl, fun b hb => ⟨rfl, Woven.self _ _, ?_⟩⟩
  have gb := good_at g hb
  simp only [blockGood, Bool.and_eq_true, opsGood, List.all_eq_true] at gb ⊢
  exact fun o ho => opGood_more (gb.1.2 o ho)

theorem IdlOk.good {a0 a1 a2 : Int} {l0 m : List BlockD} (h : IdlOk a1 l0 m) (g : progGood ⟨a0, a1, a2, 0, l0⟩ = true) (h7 : a1 ≤ 7) (sq : ∀ b, b < l0.length → (bops m b).length ≤ 7) : progGood ⟨a0, a1 + 1, a2, 0, m⟩ = true := by
  have g0 := g
  simp only [progGood, Bool.and_eq_true, decide_eq_true_eq] at g ⊢
  obtain ⟨⟨⟨⟨⟨g1, g2⟩, g3⟩, g4⟩, g5⟩, g6⟩ := g
  refine ⟨⟨⟨⟨⟨by omega, by omega⟩, g3⟩, by omega⟩, by rw [h.len]; exact g5⟩, ?_⟩
  simp only [blocksGood, List.all_eq_true]
  intro x hx
  obtain ⟨b, hb, rfl⟩ := List.getElem_of_mem hx
  have hb0 : b < l0.length := by rw [← h.len]; exact hb
  obtain ⟨e1, _, e2⟩ := h.each b hb0
  have e3 : m[b] = ⟨bops m b, bfin m b⟩ := by simp [bops, bfin, List.getD, hb]
  have gb := good_at g0 hb0
  have := sq b hb0
  rw [e3, e1]
  simp only [blockGood, Bool.and_eq_true, decide_eq_true_eq] at gb ⊢
  exact ⟨⟨by omega, e2⟩, by rw [h.len]; exact endGood_more gb.2⟩

theorem IdlOk.twins {a0 a1 a2 : Int} {l0 m : List BlockD} (h : IdlOk a1 l0 m) (g : progGood ⟨a0, a1, a2, 0, l0⟩ = true) (h7 : a1 ≤ 7) (sp : ∀ b, b < l0.length → (bops l0 b).length ≤ 7) (sq : ∀ b, b < l0.length → (bops m b).length ≤ 7) :
    ValAns (str (progText ⟨a0, a1, a2, 0, l0⟩)) (str (progText ⟨a0, a1 + 1, a2, 0, m⟩)) (str (hintText (idHint ⟨a0, a1, a2, 0, l0⟩))) 0 0 ∧ ValAns (str (progText ⟨a0, a1 + 1, a2, 0, m⟩)) (str (progText ⟨a0, a1, a2, 0, l0⟩)) (str (hintText (idHint ⟨a0, a1, a2, 0, l0⟩))) 0 0 :=
  twin_put (p := ⟨a0, a1, a2, 0, l0⟩) (q := ⟨a0, a1 + 1, a2, 0, m⟩) g (h.good g h7 sq) rfl rfl rfl rfl rfl h.len sp sq (fun b hb => (h.each b hb).1) (fun b hb => (h.each b hb).2.1)

theorem IdlOk.step {a1 : Int} {l0 m : List BlockD} (h : IdlOk a1 l0 m) {b : Nat} (hb : b < l0.length) {o : OpD} (ho : junkAt a1 o) (hg : opGood (a1 + 1) 0 o = true) (t : Nat) :
    IdlOk a1 l0 (m.set b ⟨(bops m b).take t ++ o :: (bops m b).drop t, bfin m b⟩) := by
  have hbm : b < m.length := by rw [h.len]; exact hb
  refine ⟨by rw [List.length_set]; exact h.len, fun c hc => ?_⟩
  obtain ⟨e1, e2, e3⟩ := h.each c hc
  rw [bops_set hbm, bfin_set hbm]
  by_cases e : c = b
  · subst e
    rw [if_pos rfl, if_pos rfl]
    refine ⟨e1, e2.insert ho t, ?_⟩
    simp only [opsGood, List.all_eq_true] at e3 ⊢
    intro x hx
    simp only [List.mem_append, List.mem_cons] at hx
    rcases hx with hx | rfl | hx
    · exact e3 x (List.mem_of_mem_take hx)
    · exact hg
    · exact e3 x (List.mem_of_mem_drop hx)
  · rw [if_neg e, if_neg e]
    exact ⟨e1, e2, e3⟩

theorem OwnBlocks.keptRolls {w w' : World} {base R : Nat} {v : Value} {bv : List (BlockD × Value)} {xs : List Value} (h : OwnBlocks w base v bv) (hk : Keep (fun g => g = R) w w') (hr : Row w R 47 xs) : OwnBlocks w' base v bv := by
  refine ⟨owns_same h.row fun g hg => hk.block g (h.row.lt g hg).2 (fun e => ?_), fun x hx => owns_same (h.each x hx) fun g hg => hk.block g ((h.each x hx).lt g hg).2 (fun e => ?_), h.apart⟩
  · exact row_not_own hr h.row (by decide) (by rw [← e]; exact hg)
  · exact row_not_own hr (h.each x hx) (by decide) (by rw [← e]; exact hg)

/-- Part of a list of operations. -/
theorem src_take {w : World} {base : Nat} {g ln c : Nat} {ops : List OpD} (h : w.ownsRow base 36 4 (.slice (some ⟨g, 0, none⟩) ln c) ops.length (opCells ops)) (x : Nat) (c' : Nat) (hx : x ≤ ops.length) : SrcRow w 4 (.slice (some ⟨g, 0, none⟩) x c') x (opCells (ops.take x)) := by
  refine ⟨by rw [opCells_length, List.length_take, Nat.min_eq_left hx], ops_oneCell _, .inr ⟨_, _, rfl, fun j u hu => ?_⟩⟩
  refine h.cells (g := g) rfl j u ?_
  have e : opCells ops = opCells (ops.take x) ++ opCells (ops.drop x) := by
    rw [← opCells_append, List.take_append_drop]
  rw [e]
  rw [List.getElem?_append_left (by by_cases hj : j < (opCells (ops.take x)).length; exact hj; rw [List.getElem?_eq_none (by omega)] at hu; cases hu)]
  exact hu

theorem src_drop {w : World} {base : Nat} {g ln c : Nat} {ops : List OpD} (h : w.ownsRow base 36 4 (.slice (some ⟨g, 0, none⟩) ln c) ops.length (opCells ops)) (x : Nat) (m c' : Nat) (hm : m = ops.length - x) (hx : x ≤ ops.length) : SrcRow w 4 (.slice (some ⟨g, x * 4, none⟩) m c') m (opCells (ops.drop x)) := by
  refine ⟨by rw [opCells_length, List.length_drop, hm], ops_oneCell _, .inr ⟨_, _, rfl, fun j u hu => ?_⟩⟩
  have hc := h.cells (g := g) rfl (x * 4 + j) u (by
    have e : opCells ops = opCells (ops.take x) ++ opCells (ops.drop x) := by
      rw [← opCells_append, List.take_append_drop]
    have hl : (opCells (ops.take x)).length = x * 4 := by rw [opCells_length, List.length_take, Nat.min_eq_left hx]
    rw [e, List.getElem?_append_right (by omega), hl, Nat.add_sub_cancel_left]
    exact hu)
  simp only [Addr.add_lit, Nat.zero_add] at hc ⊢
  exact hc

/-- The loop's state. -/
structure IdSt (wc wr : World) (Qb : Nat) (a0 : Int) (R : Nat) (a2 : Int) (l0 : List BlockD) (qg n qc : Nat) (so : Option Addr) (sn sc j k : Nat) (qv : List (BlockD × Value)) : Prop where
  len : qv.length = n
  ok : IdlOk R l0 (bdat qv)
  lim : ∀ b, b < n → (bops (bdat qv) b).length ≤ if b < j then 7 else if b = j then 5 + k else 5
  rowQ : Row wr Qb 25 [.int .i64 a0, .int .i64 ((R : Int) + 1), .int .i64 a2, .int .i64 0, .slice (some ⟨qg, 0, none⟩) n qc]
  ownQ : OwnBlocks wr wc.heap.size (.slice (some ⟨qg, 0, none⟩) n qc) qv
  rolls : ∃ rk, Rolls wr (Qb + 1) so sn sc rk
  below : Below wc.heap.size wc wr
  qb : wc.heap.size ≤ Qb

theorem IdSt.keep {wc wr W : World} {Qb : Nat} {a0 : Int} {R : Nat} {a2 : Int} {l0 : List BlockD} {qg n qc : Nat} {so : Option Addr} {sn sc j k : Nat} {qv : List (BlockD × Value)} (h : IdSt wc wr Qb a0 R a2 l0 qg n qc so sn sc j k qv) (hb : Below wr.heap.size wr W) : IdSt wc W Qb a0 R a2 l0 qg n qc so sn sc j k qv :=
  ⟨h.len, h.ok, h.lim, h.rowQ.keep hb, h.ownQ.below hb (Nat.le_refl _), let ⟨rk, hr⟩ := h.rolls; ⟨rk, hr.keep hb⟩, h.below.trans (hb.mono h.below.size), h.qb⟩

theorem IdSt.roll {wc wr W : World} {Qb : Nat} {a0 : Int} {R : Nat} {a2 : Int} {l0 : List BlockD} {qg n qc : Nat} {so : Option Addr} {sn sc j k rk : Nat} {qv : List (BlockD × Value)} (h : IdSt wc wr Qb a0 R a2 l0 qg n qc so sn sc j k qv) (hr : Rolls W (Qb + 1) so sn sc rk) (hk : Keep (fun g => g = Qb + 1) wr W) : IdSt wc W Qb a0 R a2 l0 qg n qc so sn sc j k qv := by
  obtain ⟨rk0, hr0⟩ := h.rolls
  have hq := h.qb
  exact ⟨h.len, h.ok, h.lim, h.rowQ.kept hk (by omega), h.ownQ.keptRolls hk hr0.row, ⟨rk, hr⟩, h.below.trans (hk.toBelow h.below.size (fun g hg => by omega)), h.qb⟩

theorem IdSt.up {wc wr : World} {Qb : Nat} {a0 : Int} {R : Nat} {a2 : Int} {l0 : List BlockD} {qg n qc : Nat} {so : Option Addr} {sn sc j k : Nat} {qv : List (BlockD × Value)} (h : IdSt wc wr Qb a0 R a2 l0 qg n qc so sn sc j k qv) (hk : k ≤ 2) : IdSt wc wr Qb a0 R a2 l0 qg n qc so sn sc (j + 1) 0 qv :=
  ⟨h.len, h.ok, fun b hb => by
    have := h.lim b hb
    split at this
    · rw [if_pos (by omega)]; exact this
    · split at this
      · rw [if_pos (by omega)]; omega
      · rw [if_neg (by omega)]; split <;> omega, h.rowQ, h.ownQ, h.rolls, h.below, h.qb⟩

theorem IdSt.put {wc wo wr : World} {Qb : Nat} {a0 : Int} {R : Nat} {a2 : Int} {l0 : List BlockD} {qg n qc : Nat} {so : Option Addr} {sn sc j k : Nat} {qv : List (BlockD × Value)} (S : IdSt wc wo Qb a0 R a2 l0 qg n qc so sn sc j k qv) (hj : j < n) (hbq : j < qv.length) (hbl : j < l0.length)
    (ke : Below wo.heap.size wo wr) (hqQ : qg < Qb) (hqB : wc.heap.size ≤ qg) {w0 : World} (hsw : RdInts w0 (.slice so sn sc) sn) (hw0 : w0.heap.size ≤ wc.heap.size) {sv : Value} {o : OpD} (ho : junkAt R o) (hg : opGood ((R : Int) + 1) 0 o = true) (t : Nat)
    (lown : wr.ownsRow wo.heap.size 36 4 sv (qv[j].1.ops.take t ++ o :: qv[j].1.ops.drop t).length (opCells (qv[j].1.ops.take t ++ o :: qv[j].1.ops.drop t))) :
    IdSt wc (wr.setCell ⟨qg, j * 5, none⟩ sv) Qb a0 R a2 l0 qg n qc so sn sc j (k + 1) (qv.set j (⟨qv[j].1.ops.take t ++ o :: qv[j].1.ops.drop t, qv[j].1.fin⟩, sv)) := by
  have S1 := S.keep ke
  have hsz := S.below.size
  have hq := S.qb
  obtain ⟨e1, e2⟩ := bdat_get qv hbq
  obtain ⟨rk, hr⟩ := S1.rolls
  have st := S.ok.step hbl ho hg t
  rw [e1, e2] at st
  have hbm : j < (bdat qv).length := by rw [bdat_length]; exact hbq
  refine ⟨by rw [List.length_set]; exact S.len, by rw [bdat_set]; exact st, ?_, S1.rowQ.unset (a := ⟨qg, j * 5, none⟩) (by show Qb ≠ qg; omega) _, ?_, ⟨rk, hr.away hsw (by omega) (by omega) _⟩, S1.below.setCell (p := ⟨qg, j * 5, none⟩) hqB _, S.qb⟩
  · intro b hb
    rw [bdat_set, bops_set hbm]
    have hl := S.lim b hb
    by_cases e : b = j
    · subst e
      rw [if_neg (by omega), if_pos rfl] at hl
      rw [if_pos rfl, if_neg (by omega), if_pos rfl]
      rw [e1] at hl
      have : (qv[b].1.ops.take t ++ o :: qv[b].1.ops.drop t).length = qv[b].1.ops.length + 1 := by
        rw [List.length_append, List.length_cons, List.length_take, List.length_drop]; omega
      simp only [this]
      omega
    · rw [if_neg e]
      split at hl
      · rename_i c; rw [if_pos c]; exact hl
      · rename_i c; rw [if_neg c, if_neg e]; exact hl
  · refine S1.ownQ.setOps hbq (owns_base lown (by omega)) ?_
    intro y hy g hg' e
    have q1 := ((S.ownQ.each y hy).lt g hg').2
    have q2 := (lown.lt g e).1
    omega

end Go.Proofs.YtblhmeidbjigaabGreatDoor
