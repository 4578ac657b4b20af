/- An operation out of raw numbers. -/
import Derived.Test.YtblhmeidbjigaabGreatDoorRows
import Derived.WalkKit
import Derived.WalkSpells
import Derived.WalkLawsBesides
import Derived.Laws.BytesArg
import Derived.Deep.QuietTactic
import Derived.BigQuiet
import Derived.Deep.RegionHeld3
import Derived.Lib.ItoaNum
import Derived.Lib.ItoaLen
import Derived.OpenShut
import Derived.Maps.AppendAt
import Derived.Shelf.Strconv.Itoa3
import Derived.Shelf.Lay
import Derived.Ground.NamesProg
import Derived.Lib.SmallJoins
import Derived.Lib.Hide
import Derived.StillTailTactics
import Derived.Deep.RegionLaw
import Derived.BigRegion
import Derived.Test.YtblhmeidbjigaabGreatDoorKEndToKSwpPShared

set_option linter.unusedSimpArgs false
set_option linter.unusedVariables false
namespace Go.Proofs.YtblhmeidbjigaabGreatDoor
open Go.RowKit

set_option maxRecDepth 100000 in
set_option maxHeartbeats 4000000 in
theorem op_cps (R : Nat) (ao : Option Addr) (n cap k : Nat) (most regs slots : Int) (w : World) (h : Rolls w R ao n cap k) (hre : 1 ≤ regs ∧ regs ≤ 8) (hsl : 0 ≤ slots ∧ slots ≤ 8) (hmo : 1 ≤ most ∧ most ≤ 15) (hms : most ≤ 13 ∨ 1 ≤ slots) (Post : Ending → World → Prop)
    (hp : ∀ a b c d k' w', opGood regs slots ⟨a, b, c, d⟩ = true → Rolls w' R ao n cap k' → Keep (fun g => g = R) w w' → Post (.returned (.agg #[.int .i64 a, .int .i64 b, .int .i64 c, .int .i64 d])) w') :
    Calls Tryz.prog 14 #[.pointer (some ⟨R, 0, none⟩), .int .i64 most, .int .i64 regs, .int .i64 slots] w Post := by
  have hRw := h.row.lt
  have hA0 : Row (w.alloc (.cells #[.int .i64 0, .int .i64 0, .int .i64 0, .int .i64 0] 36)) w.heap.size 36 [.int .i64 0, .int .i64 0, .int .i64 0, .int .i64 0] := heap_alloc_new w _
  go_enter Tryz.func14, Tryz.ntmps14
  go_wp2_with fail
  refine next_cps R ao n cap k most _ (h.keep ((Below.refl _ _).alloc (Nat.le_refl _) _)) (by omega) _ ?_
  intro x k1 w1 hx0 hx3 hr1 hk1 hz1
  have hA := hA0.kept hk1 (by omega)
  simp only [World.size_alloc] at hz1
  have HZ : Hid (w1.heap.size = w.heap.size + 1) := hz1
  have hzl : w.heap.size < w1.heap.size := by omega
  have hRB : R < w1.heap.size := by omega
  clear hA0 hz1
  have hre' : 1 ≤ regs ∧ regs ≤ 1000 := by omega
  have hct : (1 : Int) ≤ 256 ∧ (256 : Int) ≤ 1000 := by omega
  obtain rfl | rfl | rfl | rfl | rfl | rfl | hxx : x = 0 ∨ x = 1 ∨ x = 11 ∨ x = 12 ∨ x = 13 ∨ x = 14 ∨ (2 ≤ x ∧ x ≤ 10) := by omega
  · have st : St w R ao n cap 36 w.heap.size w1.heap.size [.int .i64 1, .int .i64 0, .int .i64 0, .int .i64 0] (w1.alloc (.cells #[.int .i64 1, .int .i64 0, .int .i64 0, .int .i64 0] 36)) := St.start h hr1 hk1 hA HZ.out _
    obtain ⟨k0, hro0⟩ := st.rolls
    go_wp2_with fail
    refine next_cps R ao n cap k0 regs _ hro0 hre' _ ?_
    intro y0 kk0 v0 ya0 yb0 hr hk hzz
    have st := st.next hr hk
    have bc := st.rowB.cell (i := 1) rfl
    have bf := st.rowB.frozen 1
    have st' := st.store h 1 (.int .i64 y0)
    clear hr hk hzz
    replace st := st'
    obtain ⟨k1, hro1⟩ := st.rolls
    go_wp2_with fail
    refine next_cps R ao n cap k1 256 _ hro1 hct _ ?_
    intro y1 kk1 v1 ya1 yb1 hr hk hzz
    have st := st.next hr hk
    have bc := st.rowB.cell (i := 2) rfl
    have bf := st.rowB.frozen 2
    have st' := st.store h 2 (.int .i64 y1)
    clear hr hk hzz
    replace st := st'
    obtain ⟨k2, hro2⟩ := st.rolls
    go_wp2_with fail
    refine next_cps R ao n cap k2 256 _ hro2 hct _ ?_
    intro y2 kk2 v2 ya2 yb2 hr hk hzz
    have st := st.next hr hk
    have bc := st.rowB.cell (i := 3) rfl
    have bf := st.rowB.frozen 3
    have st' := st.store h 3 (.int .i64 y2)
    clear hr hk hzz
    have st2 := st'
    obtain ⟨kf, hrof⟩ := st2.rolls
    have hfin := hp 1 y0 y1 y2 kf (set4 (v2.setCell ⟨w1.heap.size, 3, none⟩ (.int .i64 y2)) w.heap.size 0 1 y0 y1 y2) (by simp [opGood, below]; omega) (((hrof.set h (Nat.le_refl _) _).set h (Nat.le_refl _) _ |>.set h (Nat.le_refl _) _).set h (Nat.le_refl _) _) (st2.keep.set4 (.inr (Nat.le_refl _)) _ _ _ _)
    have hne := st2.ne
    have a0 := st2.rowA.cell (i := 0) rfl
    have a1 := st2.rowA.cell (i := 1) rfl
    have a2 := st2.rowA.cell (i := 2) rfl
    have a3 := st2.rowA.cell (i := 3) rfl
    have f0 := st2.rowA.frozen 0
    have f1 := st2.rowA.frozen 1
    have f2 := st2.rowA.frozen 2
    have f3 := st2.rowA.frozen 3
    have q0 := st2.rowB.cell (i := 0) (u := .int .i64 1) rfl
    have q1 := st2.rowB.cell (i := 1) (u := .int .i64 y0) rfl
    have q2 := st2.rowB.cell (i := 2) (u := .int .i64 y1) rfl
    have q3 := st2.rowB.cell (i := 3) (u := .int .i64 y2) rfl
    clear st st' st2 hp h hr1 hk1 hA
    have HF : Hid (Post (.returned (.agg #[.int .i64 1, .int .i64 y0, .int .i64 y1, .int .i64 y2])) (set4 (v2.setCell ⟨w1.heap.size, 3, none⟩ (.int .i64 y2)) w.heap.size 0 1 y0 y1 y2)) := hfin
    clear hfin
    go_wp2
    exact bodyPost_ret (v := .agg #[.int .i64 1, .int .i64 y0, .int .i64 y1, .int .i64 y2]) (by simp [results, Tryz.results14, go_sem, a0, a1, a2, a3]) rfl HF.out
  · have st : St w R ao n cap 36 w.heap.size w1.heap.size [.int .i64 2, .int .i64 0, .int .i64 0, .int .i64 0] (w1.alloc (.cells #[.int .i64 2, .int .i64 0, .int .i64 0, .int .i64 0] 36)) := St.start h hr1 hk1 hA HZ.out _
    obtain ⟨k0, hro0⟩ := st.rolls
    go_wp2_with fail
    refine next_cps R ao n cap k0 regs _ hro0 hre' _ ?_
    intro y0 kk0 v0 ya0 yb0 hr hk hzz
    have st := st.next hr hk
    have bc := st.rowB.cell (i := 1) rfl
    have bf := st.rowB.frozen 1
    have st' := st.store h 1 (.int .i64 y0)
    clear hr hk hzz
    replace st := st'
    obtain ⟨k1, hro1⟩ := st.rolls
    go_wp2_with fail
    refine next_cps R ao n cap k1 regs _ hro1 hre' _ ?_
    intro y1 kk1 v1 ya1 yb1 hr hk hzz
    have st := st.next hr hk
    have bc := st.rowB.cell (i := 2) rfl
    have bf := st.rowB.frozen 2
    have st' := st.store h 2 (.int .i64 y1)
    clear hr hk hzz
    have st2 := st'
    obtain ⟨kf, hrof⟩ := st2.rolls
    have hfin := hp 2 y0 y1 0 kf (set4 (v1.setCell ⟨w1.heap.size, 2, none⟩ (.int .i64 y1)) w.heap.size 0 2 y0 y1 0) (by simp [opGood, below]; omega) (((hrof.set h (Nat.le_refl _) _).set h (Nat.le_refl _) _ |>.set h (Nat.le_refl _) _).set h (Nat.le_refl _) _) (st2.keep.set4 (.inr (Nat.le_refl _)) _ _ _ _)
    have hne := st2.ne
    have a0 := st2.rowA.cell (i := 0) rfl
    have a1 := st2.rowA.cell (i := 1) rfl
    have a2 := st2.rowA.cell (i := 2) rfl
    have a3 := st2.rowA.cell (i := 3) rfl
    have f0 := st2.rowA.frozen 0
    have f1 := st2.rowA.frozen 1
    have f2 := st2.rowA.frozen 2
    have f3 := st2.rowA.frozen 3
    have q0 := st2.rowB.cell (i := 0) (u := .int .i64 2) rfl
    have q1 := st2.rowB.cell (i := 1) (u := .int .i64 y0) rfl
    have q2 := st2.rowB.cell (i := 2) (u := .int .i64 y1) rfl
    have q3 := st2.rowB.cell (i := 3) (u := .int .i64 0) rfl
    clear st st' st2 hp h hr1 hk1 hA
    have HF : Hid (Post (.returned (.agg #[.int .i64 2, .int .i64 y0, .int .i64 y1, .int .i64 0])) (set4 (v1.setCell ⟨w1.heap.size, 2, none⟩ (.int .i64 y1)) w.heap.size 0 2 y0 y1 0)) := hfin
    clear hfin
    go_wp2
    exact bodyPost_ret (v := .agg #[.int .i64 2, .int .i64 y0, .int .i64 y1, .int .i64 0]) (by simp [results, Tryz.results14, go_sem, a0, a1, a2, a3]) rfl HF.out
  · have st : St w R ao n cap 36 w.heap.size w1.heap.size [.int .i64 12, .int .i64 0, .int .i64 0, .int .i64 0] (w1.alloc (.cells #[.int .i64 12, .int .i64 0, .int .i64 0, .int .i64 0] 36)) := St.start h hr1 hk1 hA HZ.out _
    obtain ⟨k0, hro0⟩ := st.rolls
    go_wp2_with fail
    refine next_cps R ao n cap k0 regs _ hro0 hre' _ ?_
    intro y0 kk0 v0 ya0 yb0 hr hk hzz
    have st := st.next hr hk
    have bc := st.rowB.cell (i := 1) rfl
    have bf := st.rowB.frozen 1
    have st' := st.store h 1 (.int .i64 y0)
    clear hr hk hzz
    replace st := st'
    obtain ⟨k1, hro1⟩ := st.rolls
    go_wp2_with fail
    refine next_cps R ao n cap k1 regs _ hro1 hre' _ ?_
    intro y1 kk1 v1 ya1 yb1 hr hk hzz
    have st := st.next hr hk
    have bc := st.rowB.cell (i := 2) rfl
    have bf := st.rowB.frozen 2
    have st' := st.store h 2 (.int .i64 y1)
    clear hr hk hzz
    have st2 := st'
    obtain ⟨kf, hrof⟩ := st2.rolls
    have hfin := hp 12 y0 y1 0 kf (set4 (v1.setCell ⟨w1.heap.size, 2, none⟩ (.int .i64 y1)) w.heap.size 0 12 y0 y1 0) (by simp [opGood, below]; omega) (((hrof.set h (Nat.le_refl _) _).set h (Nat.le_refl _) _ |>.set h (Nat.le_refl _) _).set h (Nat.le_refl _) _) (st2.keep.set4 (.inr (Nat.le_refl _)) _ _ _ _)
    have hne := st2.ne
    have a0 := st2.rowA.cell (i := 0) rfl
    have a1 := st2.rowA.cell (i := 1) rfl
    have a2 := st2.rowA.cell (i := 2) rfl
    have a3 := st2.rowA.cell (i := 3) rfl
    have f0 := st2.rowA.frozen 0
    have f1 := st2.rowA.frozen 1
    have f2 := st2.rowA.frozen 2
    have f3 := st2.rowA.frozen 3
    have q0 := st2.rowB.cell (i := 0) (u := .int .i64 12) rfl
    have q1 := st2.rowB.cell (i := 1) (u := .int .i64 y0) rfl
    have q2 := st2.rowB.cell (i := 2) (u := .int .i64 y1) rfl
    have q3 := st2.rowB.cell (i := 3) (u := .int .i64 0) rfl
    clear st st' st2 hp h hr1 hk1 hA
    have HF : Hid (Post (.returned (.agg #[.int .i64 12, .int .i64 y0, .int .i64 y1, .int .i64 0])) (set4 (v1.setCell ⟨w1.heap.size, 2, none⟩ (.int .i64 y1)) w.heap.size 0 12 y0 y1 0)) := hfin
    clear hfin
    go_wp2
    exact bodyPost_ret (v := .agg #[.int .i64 12, .int .i64 y0, .int .i64 y1, .int .i64 0]) (by simp [results, Tryz.results14, go_sem, a0, a1, a2, a3]) rfl HF.out
  · have st : St w R ao n cap 36 w.heap.size w1.heap.size [.int .i64 13, .int .i64 0, .int .i64 0, .int .i64 0] (w1.alloc (.cells #[.int .i64 13, .int .i64 0, .int .i64 0, .int .i64 0] 36)) := St.start h hr1 hk1 hA HZ.out _
    obtain ⟨k0, hro0⟩ := st.rolls
    go_wp2_with fail
    refine next_cps R ao n cap k0 regs _ hro0 hre' _ ?_
    intro y0 kk0 v0 ya0 yb0 hr hk hzz
    have st := st.next hr hk
    have bc := st.rowB.cell (i := 1) rfl
    have bf := st.rowB.frozen 1
    have st' := st.store h 1 (.int .i64 y0)
    clear hr hk hzz
    replace st := st'
    obtain ⟨k1, hro1⟩ := st.rolls
    go_wp2_with fail
    refine next_cps R ao n cap k1 regs _ hro1 hre' _ ?_
    intro y1 kk1 v1 ya1 yb1 hr hk hzz
    have st := st.next hr hk
    have bc := st.rowB.cell (i := 2) rfl
    have bf := st.rowB.frozen 2
    have st' := st.store h 2 (.int .i64 y1)
    clear hr hk hzz
    have st2 := st'
    obtain ⟨kf, hrof⟩ := st2.rolls
    have hfin := hp 13 y0 y1 0 kf (set4 (v1.setCell ⟨w1.heap.size, 2, none⟩ (.int .i64 y1)) w.heap.size 0 13 y0 y1 0) (by simp [opGood, below]; omega) (((hrof.set h (Nat.le_refl _) _).set h (Nat.le_refl _) _ |>.set h (Nat.le_refl _) _).set h (Nat.le_refl _) _) (st2.keep.set4 (.inr (Nat.le_refl _)) _ _ _ _)
    have hne := st2.ne
    have a0 := st2.rowA.cell (i := 0) rfl
    have a1 := st2.rowA.cell (i := 1) rfl
    have a2 := st2.rowA.cell (i := 2) rfl
    have a3 := st2.rowA.cell (i := 3) rfl
    have f0 := st2.rowA.frozen 0
    have f1 := st2.rowA.frozen 1
    have f2 := st2.rowA.frozen 2
    have f3 := st2.rowA.frozen 3
    have q0 := st2.rowB.cell (i := 0) (u := .int .i64 13) rfl
    have q1 := st2.rowB.cell (i := 1) (u := .int .i64 y0) rfl
    have q2 := st2.rowB.cell (i := 2) (u := .int .i64 y1) rfl
    have q3 := st2.rowB.cell (i := 3) (u := .int .i64 0) rfl
    clear st st' st2 hp h hr1 hk1 hA
    have HF : Hid (Post (.returned (.agg #[.int .i64 13, .int .i64 y0, .int .i64 y1, .int .i64 0])) (set4 (v1.setCell ⟨w1.heap.size, 2, none⟩ (.int .i64 y1)) w.heap.size 0 13 y0 y1 0)) := hfin
    clear hfin
    go_wp2
    exact bodyPost_ret (v := .agg #[.int .i64 13, .int .i64 y0, .int .i64 y1, .int .i64 0]) (by simp [results, Tryz.results14, go_sem, a0, a1, a2, a3]) rfl HF.out
  · have hsl' : 1 ≤ slots ∧ slots ≤ 1000 := by omega
    have st : St w R ao n cap 36 w.heap.size w1.heap.size [.int .i64 14, .int .i64 0, .int .i64 0, .int .i64 0] (w1.alloc (.cells #[.int .i64 14, .int .i64 0, .int .i64 0, .int .i64 0] 36)) := St.start h hr1 hk1 hA HZ.out _
    obtain ⟨k0, hro0⟩ := st.rolls
    go_wp2_with fail
    refine next_cps R ao n cap k0 slots _ hro0 hsl' _ ?_
    intro y0 kk0 v0 ya0 yb0 hr hk hzz
    have st := st.next hr hk
    have bc := st.rowB.cell (i := 1) rfl
    have bf := st.rowB.frozen 1
    have st' := st.store h 1 (.int .i64 y0)
    clear hr hk hzz
    replace st := st'
    obtain ⟨k1, hro1⟩ := st.rolls
    go_wp2_with fail
    refine next_cps R ao n cap k1 regs _ hro1 hre' _ ?_
    intro y1 kk1 v1 ya1 yb1 hr hk hzz
    have st := st.next hr hk
    have bc := st.rowB.cell (i := 2) rfl
    have bf := st.rowB.frozen 2
    have st' := st.store h 2 (.int .i64 y1)
    clear hr hk hzz
    have st2 := st'
    obtain ⟨kf, hrof⟩ := st2.rolls
    have hfin := hp 14 y0 y1 0 kf (set4 (v1.setCell ⟨w1.heap.size, 2, none⟩ (.int .i64 y1)) w.heap.size 0 14 y0 y1 0) (by simp [opGood, below]; omega) (((hrof.set h (Nat.le_refl _) _).set h (Nat.le_refl _) _ |>.set h (Nat.le_refl _) _).set h (Nat.le_refl _) _) (st2.keep.set4 (.inr (Nat.le_refl _)) _ _ _ _)
    have hne := st2.ne
    have a0 := st2.rowA.cell (i := 0) rfl
    have a1 := st2.rowA.cell (i := 1) rfl
    have a2 := st2.rowA.cell (i := 2) rfl
    have a3 := st2.rowA.cell (i := 3) rfl
    have f0 := st2.rowA.frozen 0
    have f1 := st2.rowA.frozen 1
    have f2 := st2.rowA.frozen 2
    have f3 := st2.rowA.frozen 3
    have q0 := st2.rowB.cell (i := 0) (u := .int .i64 14) rfl
    have q1 := st2.rowB.cell (i := 1) (u := .int .i64 y0) rfl
    have q2 := st2.rowB.cell (i := 2) (u := .int .i64 y1) rfl
    have q3 := st2.rowB.cell (i := 3) (u := .int .i64 0) rfl
    clear st st' st2 hp h hr1 hk1 hA
    have HF : Hid (Post (.returned (.agg #[.int .i64 14, .int .i64 y0, .int .i64 y1, .int .i64 0])) (set4 (v1.setCell ⟨w1.heap.size, 2, none⟩ (.int .i64 y1)) w.heap.size 0 14 y0 y1 0)) := hfin
    clear hfin
    go_wp2
    exact bodyPost_ret (v := .agg #[.int .i64 14, .int .i64 y0, .int .i64 y1, .int .i64 0]) (by simp [results, Tryz.results14, go_sem, a0, a1, a2, a3]) rfl HF.out
  · have hsl' : 1 ≤ slots ∧ slots ≤ 1000 := by omega
    have st : St w R ao n cap 36 w.heap.size w1.heap.size [.int .i64 15, .int .i64 0, .int .i64 0, .int .i64 0] (w1.alloc (.cells #[.int .i64 15, .int .i64 0, .int .i64 0, .int .i64 0] 36)) := St.start h hr1 hk1 hA HZ.out _
    obtain ⟨k0, hro0⟩ := st.rolls
    go_wp2_with fail
    refine next_cps R ao n cap k0 regs _ hro0 hre' _ ?_
    intro y0 kk0 v0 ya0 yb0 hr hk hzz
    have st := st.next hr hk
    have bc := st.rowB.cell (i := 1) rfl
    have bf := st.rowB.frozen 1
    have st' := st.store h 1 (.int .i64 y0)
    clear hr hk hzz
    replace st := st'
    obtain ⟨k1, hro1⟩ := st.rolls
    go_wp2_with fail
    refine next_cps R ao n cap k1 slots _ hro1 hsl' _ ?_
    intro y1 kk1 v1 ya1 yb1 hr hk hzz
    have st := st.next hr hk
    have bc := st.rowB.cell (i := 2) rfl
    have bf := st.rowB.frozen 2
    have st' := st.store h 2 (.int .i64 y1)
    clear hr hk hzz
    have st2 := st'
    obtain ⟨kf, hrof⟩ := st2.rolls
    have hfin := hp 15 y0 y1 0 kf (set4 (v1.setCell ⟨w1.heap.size, 2, none⟩ (.int .i64 y1)) w.heap.size 0 15 y0 y1 0) (by simp [opGood, below]; omega) (((hrof.set h (Nat.le_refl _) _).set h (Nat.le_refl _) _ |>.set h (Nat.le_refl _) _).set h (Nat.le_refl _) _) (st2.keep.set4 (.inr (Nat.le_refl _)) _ _ _ _)
    have hne := st2.ne
    have a0 := st2.rowA.cell (i := 0) rfl
    have a1 := st2.rowA.cell (i := 1) rfl
    have a2 := st2.rowA.cell (i := 2) rfl
    have a3 := st2.rowA.cell (i := 3) rfl
    have f0 := st2.rowA.frozen 0
    have f1 := st2.rowA.frozen 1
    have f2 := st2.rowA.frozen 2
    have f3 := st2.rowA.frozen 3
    have q0 := st2.rowB.cell (i := 0) (u := .int .i64 15) rfl
    have q1 := st2.rowB.cell (i := 1) (u := .int .i64 y0) rfl
    have q2 := st2.rowB.cell (i := 2) (u := .int .i64 y1) rfl
    have q3 := st2.rowB.cell (i := 3) (u := .int .i64 0) rfl
    clear st st' st2 hp h hr1 hk1 hA
    have HF : Hid (Post (.returned (.agg #[.int .i64 15, .int .i64 y0, .int .i64 y1, .int .i64 0])) (set4 (v1.setCell ⟨w1.heap.size, 2, none⟩ (.int .i64 y1)) w.heap.size 0 15 y0 y1 0)) := hfin
    clear hfin
    go_wp2
    exact bodyPost_ret (v := .agg #[.int .i64 15, .int .i64 y0, .int .i64 y1, .int .i64 0]) (by simp [results, Tryz.results14, go_sem, a0, a1, a2, a3]) rfl HF.out
  · have n1 : ((1 + x : Int) == 1) = false := by simp; omega
    have n2 : ((1 + x : Int) == 2) = false := by simp; omega
    have n12 : ((1 + x : Int) == 12) = false := by simp; omega
    have n13 : ((1 + x : Int) == 13) = false := by simp; omega
    have n14 : ((1 + x : Int) == 14) = false := by simp; omega
    have n15 : ((1 + x : Int) == 15) = false := by simp; omega
    have st : St w R ao n cap 36 w.heap.size w1.heap.size [.int .i64 (1 + x), .int .i64 0, .int .i64 0, .int .i64 0] (w1.alloc (.cells #[.int .i64 (1 + x), .int .i64 0, .int .i64 0, .int .i64 0] 36)) := St.start h hr1 hk1 hA HZ.out _
    obtain ⟨k0, hro0⟩ := st.rolls
    go_wp2_with fail
    refine next_cps R ao n cap k0 regs _ hro0 hre' _ ?_
    intro y0 kk0 v0 ya0 yb0 hr hk hzz
    have st := st.next hr hk
    have bc := st.rowB.cell (i := 1) rfl
    have bf := st.rowB.frozen 1
    have st' := st.store h 1 (.int .i64 y0)
    clear hr hk hzz
    replace st := st'
    obtain ⟨k1, hro1⟩ := st.rolls
    go_wp2_with fail
    refine next_cps R ao n cap k1 regs _ hro1 hre' _ ?_
    intro y1 kk1 v1 ya1 yb1 hr hk hzz
    have st := st.next hr hk
    have bc := st.rowB.cell (i := 2) rfl
    have bf := st.rowB.frozen 2
    have st' := st.store h 2 (.int .i64 y1)
    clear hr hk hzz
    replace st := st'
    obtain ⟨k2, hro2⟩ := st.rolls
    go_wp2_with fail
    refine next_cps R ao n cap k2 regs _ hro2 hre' _ ?_
    intro y2 kk2 v2 ya2 yb2 hr hk hzz
    have st := st.next hr hk
    have bc := st.rowB.cell (i := 3) rfl
    have bf := st.rowB.frozen 3
    have st' := st.store h 3 (.int .i64 y2)
    clear hr hk hzz
    have st2 := st'
    obtain ⟨kf, hrof⟩ := st2.rolls
    have hfin := hp (1 + x) y0 y1 y2 kf (set4 (v2.setCell ⟨w1.heap.size, 3, none⟩ (.int .i64 y2)) w.heap.size 0 (1 + x) y0 y1 y2) (by unfold opGood; rw [if_neg (by show ¬ (1 + x = 1); omega), if_pos (by show 3 ≤ 1 + x ∧ 1 + x ≤ 11; omega)]; simp [below]; omega) (((hrof.set h (Nat.le_refl _) _).set h (Nat.le_refl _) _ |>.set h (Nat.le_refl _) _).set h (Nat.le_refl _) _) (st2.keep.set4 (.inr (Nat.le_refl _)) _ _ _ _)
    have hne := st2.ne
    have a0 := st2.rowA.cell (i := 0) rfl
    have a1 := st2.rowA.cell (i := 1) rfl
    have a2 := st2.rowA.cell (i := 2) rfl
    have a3 := st2.rowA.cell (i := 3) rfl
    have f0 := st2.rowA.frozen 0
    have f1 := st2.rowA.frozen 1
    have f2 := st2.rowA.frozen 2
    have f3 := st2.rowA.frozen 3
    have q0 := st2.rowB.cell (i := 0) (u := .int .i64 (1 + x)) rfl
    have q1 := st2.rowB.cell (i := 1) (u := .int .i64 y0) rfl
    have q2 := st2.rowB.cell (i := 2) (u := .int .i64 y1) rfl
    have q3 := st2.rowB.cell (i := 3) (u := .int .i64 y2) rfl
    clear st st' st2 hp h hr1 hk1 hA
    have HF : Hid (Post (.returned (.agg #[.int .i64 (1 + x), .int .i64 y0, .int .i64 y1, .int .i64 y2])) (set4 (v2.setCell ⟨w1.heap.size, 3, none⟩ (.int .i64 y2)) w.heap.size 0 (1 + x) y0 y1 y2)) := hfin
    clear hfin
    go_wp2
    exact bodyPost_ret (v := .agg #[.int .i64 (1 + x), .int .i64 y0, .int .i64 y1, .int .i64 y2]) (by simp [results, Tryz.results14, go_sem, a0, a1, a2, a3]) rfl HF.out

end Go.Proofs.YtblhmeidbjigaabGreatDoor

/- A block out of raw numbers. -/
set_option linter.unusedSimpArgs false
set_option linter.unusedVariables false
namespace Go.Proofs.YtblhmeidbjigaabGreatDoor
open Go.RowKit

theorem owns_keep {S : Nat → Prop} {w w' : World} {base : Nat} {e : TypeId} {sz : Nat} {v : Value} {n : Nat} {xs : List Value} (h : w.ownsRow base e sz v n xs) (hk : Keep S w w') (hS : ∀ g, S g → g < base) : w'.ownsRow base e sz v n xs :=
  owns_same h fun g hg => hk.block g (h.lt g hg).2 (fun hs => by have := hS g hs; have := (h.lt g hg).1; omega)

theorem Rolls.below {w w' w0 : World} {R : Nat} {ao : Option Addr} {n cap k k0 : Nat} (h : Rolls w R ao n cap k) (h0 : Rolls w0 R ao n cap k0) {B : Nat} (hb : Below B w w') (hB : w0.heap.size ≤ B) : Rolls w' R ao n cap k := by
  have hR := h0.row.lt
  refine ⟨h.row.below hb (by omega), h.le, ?_, h.off⟩
  obtain ⟨ao', cap', e, hn, hc⟩ := h.rd
  obtain ⟨ao2, cap2, e2, _, hc2⟩ := h0.rd
  simp only [Value.slice.injEq, true_and] at e e2
  obtain ⟨rfl, rfl⟩ := e
  obtain ⟨rfl, rfl⟩ := e2
  refine ⟨ao, cap, rfl, hn, fun i hi => ?_⟩
  obtain ⟨b, off, x, e1, h1, h2, h3⟩ := hc i hi
  obtain ⟨b2, off2, x2, e2, _, _, h4⟩ := hc2 i hi
  rw [e1] at e2
  simp only [Option.some.injEq, Addr.mk.injEq, and_true] at e2
  obtain ⟨rfl, rfl⟩ := e2
  have := World.block_lt_of_cell? _ _ h4
  exact ⟨b, off, x, e1, h1, h2, (hb.cell (by simp at this ⊢; omega)).trans h3⟩

end Go.Proofs.YtblhmeidbjigaabGreatDoor

/- A program out of raw numbers. -/
set_option linter.unusedSimpArgs false
set_option linter.unusedVariables false
namespace Go.Proofs.YtblhmeidbjigaabGreatDoor
open Go.RowKit

theorem Rolls.away {w w0 : World} {R : Nat} {ao : Option Addr} {n cap k : Nat} (h : Rolls w R ao n cap k) (h0 : RdInts w0 (.slice ao n cap) n) {g i : Nat} (hg : w0.heap.size ≤ g) (hgR : R ≠ g) (u : Value) : Rolls (w.setCell ⟨g, i, none⟩ u) R ao n cap k := by
  refine ⟨h.row.unset (a := ⟨g, i, none⟩) hgR _, h.le, ?_, h.off⟩
  obtain ⟨ao', cap', e, hn, hc⟩ := h.rd
  obtain ⟨ao2, cap2, e2, _, hc2⟩ := h0
  simp only [Value.slice.injEq, true_and] at e e2
  obtain ⟨rfl, rfl⟩ := e
  obtain ⟨rfl, rfl⟩ := e2
  refine ⟨ao, cap, rfl, hn, fun i hi => ?_⟩
  obtain ⟨b, off, x, e1, h1, h2, h3⟩ := hc i hi
  obtain ⟨b2, off2, x2, e2, _, _, h4⟩ := hc2 i hi
  rw [e1] at e2
  simp only [Option.some.injEq, Addr.mk.injEq, and_true] at e2
  obtain ⟨rfl, rfl⟩ := e2
  have := World.block_lt_of_cell? _ _ h4
  exact ⟨b, off, x, e1, h1, h2, cell_unset (fun e => by simp at e; simp at this; omega) h3⟩

theorem Rolls.belowB {w w' w0 : World} {R : Nat} {ao : Option Addr} {n cap k : Nat} (h : Rolls w R ao n cap k) (h0 : RdInts w0 (.slice ao n cap) n) {B : Nat} (hb : Below B w w') (hB : w0.heap.size ≤ B) (hR : R < B) : Rolls w' R ao n cap k := by
  refine ⟨h.row.below hb hR, h.le, ?_, h.off⟩
  obtain ⟨ao', cap', e, hn, hc⟩ := h.rd
  obtain ⟨ao2, cap2, e2, _, hc2⟩ := h0
  simp only [Value.slice.injEq, true_and] at e e2
  obtain ⟨rfl, rfl⟩ := e
  obtain ⟨rfl, rfl⟩ := e2
  refine ⟨ao, cap, rfl, hn, fun i hi => ?_⟩
  obtain ⟨b, off, x, e1, h1, h2, h3⟩ := hc i hi
  obtain ⟨b2, off2, x2, e2, _, _, h4⟩ := hc2 i hi
  rw [e1] at e2
  simp only [Option.some.injEq, Addr.mk.injEq, and_true] at e2
  obtain ⟨rfl, rfl⟩ := e2
  have := World.block_lt_of_cell? _ _ h4
  exact ⟨b, off, x, e1, h1, h2, (hb.cell (by simp at this ⊢; omega)).trans h3⟩

theorem RdInts.keep {w w' : World} {v : Value} {n : Nat} (h : RdInts w v n) (hb : Below w.heap.size w w') : RdInts w' v n := by
  obtain ⟨ao', cap', e, hn, hc⟩ := h
  exact ⟨ao', cap', e, hn, fun i hi => let ⟨b, off, x, e1, h1, h2, h3⟩ := hc i hi; ⟨b, off, x, e1, h1, h2, cell_keep hb h3⟩⟩

/-- Rolls that begin, in a block that is new. -/
theorem Rolls.fresh {w w' : World} {R : Nat} {ao : Option Addr} {n cap : Nat} (h : RdInts w (.slice ao n cap) n) (hb : Below w.heap.size w w') (hrow : Row w' R 47 [.slice ao n cap, .int .i64 0]) (hR : w.heap.size ≤ R) : Rolls w' R ao n cap 0 := by
  refine ⟨hrow, Nat.zero_le _, h.keep hb, fun hn b o e => ?_⟩
  obtain ⟨ao', cap', e0, _, hc⟩ := h
  simp only [Value.slice.injEq, true_and] at e0
  obtain ⟨rfl, rfl⟩ := e0
  obtain ⟨b2, off2, x2, e2, _, _, h4⟩ := hc 0 hn
  rw [e] at e2
  simp only [Option.some.injEq, Addr.mk.injEq, and_true] at e2
  obtain ⟨rfl, rfl⟩ := e2
  have := World.block_lt_of_cell? _ _ h4
  simp at this
  omega

end Go.Proofs.YtblhmeidbjigaabGreatDoor

/- The reference's terms: Show. -/
set_option linter.unusedSimpArgs false
set_option linter.unusedVariables false
namespace Go.Proofs.YtblhmeidbjigaabGreatDoor
open Go.RowKit

theorem show_size {t : TD} (h : t.fine) (hs : t.size ≤ 4000000000000) : (str (showT t)).size ≤ 96000000000000 := by
  have := show_length h
  simp only [str, ByteArray.size, List.size_toArray]
  omega

theorem show_two (k : Int) (a b : TD) : (⟨#[40]⟩ : ByteArray) ++ str [signT k] ++ ⟨#[32]⟩ ++ str (showT a) ++ ⟨#[32]⟩ ++ str (showT b) ++ ⟨#[41]⟩ = str (showT (.two k a b)) := by
  show str [40] ++ str [signT k] ++ str [32] ++ str (showT a) ++ str [32] ++ str (showT b) ++ str [41] = _
  simp only [str_append, showT]
  congr 1
  simp

theorem show_three (k : Int) (a b c : TD) : (⟨#[40]⟩ : ByteArray) ++ str [signT k] ++ ⟨#[32]⟩ ++ str (showT a) ++ ⟨#[32]⟩ ++ str (showT b) ++ ⟨#[32]⟩ ++ str (showT c) ++ ⟨#[41]⟩ = str (showT (.three k a b c)) := by
  show str [40] ++ str [signT k] ++ str [32] ++ str (showT a) ++ str [32] ++ str (showT b) ++ str [32] ++ str (showT c) ++ str [41] = _
  simp only [str_append, showT]
  congr 1
  simp

theorem itoa_size {n : Int} (h : W64 n) : (str (Lib.itoa n)).size ≤ 21 := by
  have := Lib.itoa_length_le n h.1 h.2
  simp only [str, ByteArray.size, List.size_toArray]
  omega

end Go.Proofs.YtblhmeidbjigaabGreatDoor

/- The reference's terms: Same, turns, plus, thing, Apart. -/
set_option linter.unusedSimpArgs false
set_option linter.unusedVariables false
namespace Go.Proofs.YtblhmeidbjigaabGreatDoor
open Go.RowKit

noncomputable def sameT (t u : TD) : Bool := @decide (t = u) (Classical.propDecidable _)

theorem sameT_self (t : TD) : sameT t t = true := by unfold sameT; simp
theorem sameT_ne {t u : TD} (h : t ≠ u) : sameT t u = false := by unfold sameT; simp [h]
theorem sameT_iff (t u : TD) : sameT t u = true ↔ t = u := by unfold sameT; simp

end Go.Proofs.YtblhmeidbjigaabGreatDoor

/- The reference's terms: turns, plus, thing, Apart. -/
set_option linter.unusedSimpArgs false
set_option linter.unusedVariables false
namespace Go.Proofs.YtblhmeidbjigaabGreatDoor
open Go.RowKit

theorem turnsT_eq (k : Int) : turnsT k = true ↔ (k = 3 ∨ k = 5 ∨ k = 6 ∨ k = 7 ∨ k = 8 ∨ k = 10) := by unfold turnsT; simp

theorem turnsT_no {k : Int} (h : ¬ (k = 3 ∨ k = 5 ∨ k = 6 ∨ k = 7 ∨ k = 8 ∨ k = 10)) : turnsT k = false := by unfold turnsT; simpa using h

theorem apartT_iff (u v : TD) : apartT u v = true ↔ (thingT u).1 = (thingT v).1 ∧ (thingT u).2 ≠ (thingT v).2 := by unfold apartT; simp

theorem apartT_no {u v : TD} (h : ¬ ((thingT u).1 = (thingT v).1 ∧ (thingT u).2 ≠ (thingT v).2)) : apartT u v = false := by
  cases e : apartT u v with
  | false => rfl
  | true => exact absurd ((apartT_iff u v).1 e) h

end Go.Proofs.YtblhmeidbjigaabGreatDoor

/- The reference's terms: Made. -/
set_option linter.unusedSimpArgs false
set_option linter.unusedVariables false
namespace Go.Proofs.YtblhmeidbjigaabGreatDoor
open Go.RowKit

theorem made_num {kind a b : Int} {u v : TD} (hu : u.isNum = some a) (hv : v.isNum = some b) (h : ¬ (kind = 11 ∧ b = 0)) : madeT kind u v = tnum (calcW kind a b) := by
  simp only [madeT, hu, hv, if_neg h]

theorem made_div0 {kind a b : Int} {u v : TD} (hu : u.isNum = some a) (hv : v.isNum = some b) (h : kind = 11 ∧ b = 0) : madeT kind u v = rowT kind u v := by
  simp only [madeT, hu, hv, if_pos h]

theorem made_left {kind a : Int} {u v : TD} (hu : u.isNum = some a) (hv : v.isNum = none) : madeT kind u v = if turnsT kind = true then rowT kind v u else rowT kind u v := by
  simp only [madeT, hu, hv]

theorem made_right {kind b : Int} {u v : TD} (hu : u.isNum = none) (hv : v.isNum = some b) : madeT kind u v = rowT kind u v := by
  simp only [madeT, hu, hv]

theorem made_over {kind : Int} {u v : TD} (hu : u.isNum = none) (hv : v.isNum = none) (h : turnsT kind = true ∧ showT v < showT u) : madeT kind u v = rowT kind v u := by
  simp only [madeT, hu, hv, if_pos h]

theorem made_stay {kind : Int} {u v : TD} (hu : u.isNum = none) (hv : v.isNum = none) (h : ¬ (turnsT kind = true ∧ showT v < showT u)) : madeT kind u v = rowT kind u v := by
  simp only [madeT, hu, hv, if_neg h]

theorem bytesLess_lt : ∀ (x y : List UInt8), Op.bytesLess x y = true ↔ x < y
  | [], [] => by simp [Op.bytesLess]
  | _ :: _, [] => by simp [Op.bytesLess]
  | [], _ :: _ => by simp [Op.bytesLess]
  | a :: x, b :: y => by
    rw [Op.bytesLess, List.cons_lt_cons_iff]
    simp [bytesLess_lt x y]

theorem less_show (u v : TD) : Op.bytesLess (str (showT v)).toList (str (showT u)).toList = true ↔ showT v < showT u := by
  simp only [str, ByteArray.toList_mk]
  exact bytesLess_lt _ _

end Go.Proofs.YtblhmeidbjigaabGreatDoor

/- The reference's terms: Read, left, laid, Written. -/
set_option linter.unusedSimpArgs false
set_option linter.unusedVariables false
namespace Go.Proofs.YtblhmeidbjigaabGreatDoor
open Go.RowKit

theorem read_same {c a v u : TD} (h : a = u) : readT (.three 13 c a v) u = v := by rw [readT, if_pos h]
theorem read_far {c a v u : TD} (h : a ≠ u) (h2 : apartT a u = true) : readT (.three 13 c a v) u = readT c u := by rw [readT, if_neg h, if_pos h2]
theorem read_near {c a v u : TD} (h : a ≠ u) (h2 : apartT a u = false) : readT (.three 13 c a v) u = .two 12 (.three 13 c a v) u := by rw [readT, if_neg h, if_neg (by rw [h2]; simp)]
theorem read_else {m u : TD} (h : m.kind ≠ 13) : readT m u = .two 12 m u := by
  cases m with
  | leaf k n => rfl
  | two k a b => rfl
  | three k a b c =>
    simp only [TD.kind] at h
    unfold readT
    split
    · rename_i e; cases e; exact absurd rfl h
    · rfl

theorem left_same {c a v u : TD} (h : a = u) : leftT (.three 13 c a v) u = c := by rw [leftT, if_pos h]
theorem left_far {c a v u : TD} (h : a ≠ u) (h2 : apartT a u = true) : leftT (.three 13 c a v) u = .three 13 (leftT c u) a v := by rw [leftT, if_neg h, if_pos h2]
theorem left_near {c a v u : TD} (h : a ≠ u) (h2 : apartT a u = false) : leftT (.three 13 c a v) u = .three 13 c a v := by rw [leftT, if_neg h, if_neg (by rw [h2]; simp)]
theorem left_else {m u : TD} (h : m.kind ≠ 13) : leftT m u = m := by
  cases m with
  | leaf k n => rfl
  | two k a b => rfl
  | three k a b c =>
    simp only [TD.kind] at h
    unfold leftT
    split
    · rename_i e; cases e; exact absurd rfl h
    · rfl

theorem laid_over {c a w u v : TD} {n k : Int} (hu : u.isNum = some n) (ha : a.isNum = some k) (h : k > n) : laidT (.three 13 c a w) u v = .three 13 (laidT c u v) a w := by
  rw [laidT]; simp only [hu, ha, if_pos h]
theorem laid_else {m u v : TD} (h : ¬ ∃ c a w n k, m = .three 13 c a w ∧ u.isNum = some n ∧ a.isNum = some k ∧ k > n) : laidT m u v = .three 13 m u v := by
  cases m with
  | leaf k n => rfl
  | two k a b => rfl
  | three k a b c =>
    by_cases hk : k = 13
    · subst hk
      rw [laidT]
      split
      · rename_i n q e1 e2
        by_cases hq : q > n
        · exact absurd ⟨a, b, c, n, q, rfl, e1, e2, hq⟩ h
        · rw [if_neg hq]
      · rfl
    · unfold laidT
      split
      · rename_i e; cases e; exact absurd rfl hk
      · rfl

end Go.Proofs.YtblhmeidbjigaabGreatDoor

/- A program with lists of its own (twinkeep.clone). -/
set_option linter.unusedSimpArgs false
set_option linter.unusedVariables false
namespace Go.Proofs.YtblhmeidbjigaabGreatDoor
open Go.RowKit

theorem step_append_own {P : Program} {ops : Array Oper} {o : Oper} {a : Act} {w : World} {K : Act → World → Prop} {Q : Exit → Act → World → Prop} {E : Prop} (hg : o.guard = none) (s x : Operand) (t : TypeId)
    (ho : o.op = .call { callee := .builtin .append, args := #[s, x], argTypes := #[t, t] })
    (base : Nat) (e : TypeId) (i : TypeInfo) (z : Value) (size bytes : Nat) (ht : P.underlying t = some (.slice e)) (hi : P.info? e = some i) (hz : i.zero = some z)
    (hsize : i.size = size) (hby : i.bytes = bytes) (hzs : z.cells.size = size) (hsz : 0 < size)
    (v : Value) (n : Nat) (xs : List Value) (hs : a.eval s = v) (hown : w.ownsRow base e size v n xs)
    (ad : Addr) (m c : Nat) (news : List Value) (hx : a.eval x = .slice (some ad) m c) (hl : news.length = m * size) (hnews : ∀ j u, news[j]? = some u → w.cell? (ad.add j) = some u) (h1 : ∀ u ∈ news, u.oneCell' = true)
    (h63 : n + m ≤ maxLen) (hbytes : (n + m) * bytes ≤ 140737488355328) (hbase : base ≤ w.heap.size)
    (h : ∀ v' w', w'.ownsRow base e size v' (n + m) (xs ++ news) → w.grownBy w' v.ownBlock → (v' = .slice none 0 0 ↔ v = .slice none 0 0 ∧ m = 0) → K (a.put o.dst v') w') :
    if Region.wanted o (yielded ops a.tmps) = true then Oper.wp P o a w K Q else E := by
  have hw : Region.wanted o (yielded ops a.tmps) = true := by simp [Region.wanted, hg]
  rw [if_pos hw]
  exact wp_append_own w s x t ho base e i z size bytes ht hi hz hsize hby hzs hsz v n xs hs hown ad m c news hx hl hnews h1 h63 hbytes hbase h

theorem take_opsD {l : List OpD} {i : Nat} (h : i < l.length) : l.take (i + 1) = l.take i ++ [⟨okind l i, oa l i, ob l i, oc l i⟩] := take_getD l oz i h
theorem take_blksD {l : List BlockD} {i : Nat} (h : i < l.length) : l.take (i + 1) = l.take i ++ [⟨bops l i, ⟨bek l i, ber l i, bex l i, bey l i⟩⟩] := take_getD l bz i h

theorem bdat_snoc (bv : List (BlockD × Value)) (x : BlockD) (v : Value) : bdat (bv ++ [(x, v)]) = bdat bv ++ [x] := by simp [bdat]

set_option maxRecDepth 100000 in
set_option maxHeartbeats 8000000 in
theorem clone_cps (a0 a1 a2 a3 : Int) (po : Option Addr) (pc : Nat) (l : List BlockD) (w : World) (hr : RdBlocks w (.slice po l.length pc) l) (hl : l.length ≤ 6) (hops : ∀ b, b < l.length → (bops l b).length ≤ 12) (Post : Ending → World → Prop)
    (hp : ∀ v bv w', Hid (bdat bv = l) → OwnBlocks w' w.heap.size v bv → Below w.heap.size w w' → Post (.returned (.agg #[.int .i64 a0, .int .i64 a1, .int .i64 a2, .int .i64 a3, v])) w') :
    Calls Tryz.prog 11 #[.agg #[.int .i64 a0, .int .i64 a1, .int .i64 a2, .int .i64 a3, .slice po l.length pc]] w Post := by
  obtain ⟨i0, ii, iz0, iz1, iz2⟩ := info_parts Tryz.infoBlk
  obtain ⟨j0, ji, jz0, jz1, jz2⟩ := info_parts Tryz.infoOp
  obtain ⟨po', pc', e0, hll, hcc⟩ := hr
  simp only [Value.slice.injEq, true_and] at e0
  obtain ⟨rfl, rfl⟩ := e0
  obtain ⟨A, hA⟩ : ∃ A, A = ((w.alloc (.cells #[.int .i64 a0, .int .i64 a1, .int .i64 a2, .int .i64 a3, .slice po l.length pc] 25)).alloc (.cells #[.int .i64 0, .int .i64 0, .int .i64 0, .int .i64 0, .slice none 0 0] 25)).alloc (.cells #[.int .i64 a0, .int .i64 a1, .int .i64 a2, .int .i64 a3, .slice none 0 0] 25) := ⟨_, rfl⟩
  have rP : Row A w.heap.size 25 [.int .i64 a0, .int .i64 a1, .int .i64 a2, .int .i64 a3, .slice po l.length pc] := by subst hA; exact Row.alloc (Row.alloc (heap_alloc_new w _) _) _
  have rZ : Row A (w.heap.size + 1) 25 [.int .i64 0, .int .i64 0, .int .i64 0, .int .i64 0, .slice none 0 0] := by subst hA; exact Row.alloc (heap_alloc2_new w _ _) _
  have rQ : Row A (w.heap.size + 2) 25 [.int .i64 a0, .int .i64 a1, .int .i64 a2, .int .i64 a3, .slice none 0 0] := by
    subst hA
    have q := heap_alloc2_new (w.alloc (.cells #[.int .i64 a0, .int .i64 a1, .int .i64 a2, .int .i64 a3, .slice po l.length pc] 25)) (.cells #[.int .i64 0, .int .i64 0, .int .i64 0, .int .i64 0, .slice none 0 0] 25) (.cells #[.int .i64 a0, .int .i64 a1, .int .i64 a2, .int .i64 a3, .slice none 0 0] 25)
    simp only [World.size_alloc] at q
    exact q
  have ke : Keep (fun _ => False) w A := by subst hA; exact (((Keep.refl _ _).alloc _).alloc _).alloc _
  have hz : w.heap.size + 3 ≤ A.heap.size := by subst hA; simp
  have HA := Lib.hid hA
  clear hA
  go_enter Tryz.func11, Tryz.ntmps11
  go_wp2
  rw [← HA.out]
  clear HA
  go_loopw [4] (fun i wr => ∃ (j : Nat) (v : Value) (bv : List (BlockD × Value)), j ≤ l.length ∧ i = .int .i64 j ∧ Hid (bv.length = j) ∧ Hid (bdat bv = l.take j) ∧ Row wr w.heap.size 25 [.int .i64 a0, .int .i64 a1, .int .i64 a2, .int .i64 a3, .slice po l.length pc] ∧ Row wr (w.heap.size + 1) 25 [.int .i64 0, .int .i64 0, .int .i64 0, .int .i64 0, .slice none 0 0] ∧ Row wr (w.heap.size + 2) 25 [.int .i64 a0, .int .i64 a1, .int .i64 a2, .int .i64 a3, v] ∧
      OwnBlocks wr (w.heap.size + 3) v bv ∧ Keep (fun _ => False) w wr ∧ w.heap.size + 3 ≤ wr.heap.size)
    (fun i _ => l.length - (intOf i).toNat)
  case atStart => exact ⟨0, .slice none 0 0, [], Nat.zero_le _, rfl, rfl, rfl, rP, rZ, rQ, ownBlocks_nil _ _, ke, hz⟩
  case round =>
    clear rP rZ rQ ke hz A
    rename World => w1
    obtain ⟨j, v, bv, hj, rfl, hvl, hbd, rP, rZ, rQ, own, ke, hz⟩ := hrel
    obtain ⟨bo, bc, rfl⟩ := owns_slice own.row
    have c4 := rP.cell (i := 4) rfl
    by_cases hlt : j < l.length
    · obtain ⟨bb, off, sv, rfl, y0, y1, y2, y3, y4, hro⟩ := hcc j hlt
      obtain ⟨so, sc, rfl, hol, hoc⟩ := id hro
      have kb : Below w.heap.size w w1 := ke.toBelow (Nat.le_refl _) (fun g hg => hg.elim)
      have z0 := cell_keep kb y0
      have z1 := cell_keep kb y1
      have z2 := cell_keep kb y2
      have z3 := cell_keep kb y3
      have z4 := cell_keep kb y4
      have hn12 := hops j hlt
      have HS : Hid (l.take (j + 1) = l.take j ++ [⟨bops l j, ⟨bek l j, ber l j, bex l j, bey l j⟩⟩]) := take_blksD hlt
      have hji : (0 : Int) ≤ (j : Int) := by omega
      have hjj : (j : Int) < (l.length : Int) := by omega
      generalize bek l j = ek at *
      generalize ber l j = er at *
      generalize bex l j = ex at *
      generalize bey l j = ey at *
      generalize bops l j = os at *
      have rX1 : Row (w1.alloc (.cells #[.slice none 0 0, .int .i64 ek, .int .i64 er, .int .i64 ex, .int .i64 ey] 42)) w1.heap.size 42 [.slice none 0 0, .int .i64 ek, .int .i64 er, .int .i64 ex, .int .i64 ey] := heap_alloc_new w1 _
      have keX : Keep (fun _ => False) w1 (w1.alloc (.cells #[.slice none 0 0, .int .i64 ek, .int .i64 er, .int .i64 ex, .int .i64 ey] 42)) := (Keep.refl _ _).alloc _
      have w1z : w1.heap.size + 1 ≤ (w1.alloc (.cells #[.slice none 0 0, .int .i64 ek, .int .i64 er, .int .i64 ex, .int .i64 ey] 42)).heap.size := by simp
      clear y1 y2 y3 y4 hcc
      go_wp2
      go_loopw [6] (fun i wi => ∃ (p : Nat) (sv : Value), p ≤ os.length ∧ i = .int .i64 p ∧ Row wi w1.heap.size 42 [sv, .int .i64 ek, .int .i64 er, .int .i64 ex, .int .i64 ey] ∧ wi.ownsRow (w1.heap.size + 1) 36 4 sv p (opCells (os.take p)) ∧
          Keep (fun _ => False) w1 wi ∧ w1.heap.size + 1 ≤ wi.heap.size)
        (fun i _ => os.length - (intOf i).toNat)
      case atStart => exact ⟨0, _, by omega, rfl, rX1, World.ownsRow_nil _ _ _ _, keX, w1z⟩
      case round =>
        clear rX1 keX w1z c4 z0 z1 z2 z3 z4
        obtain ⟨p, sv, hpp, rfl, rX, pown, kei, hzi⟩ := hrel
        obtain ⟨xo, xc, rfl⟩ := owns_slice pown
        have rP2 := rP.kept kei (fun h => h)
        have kb2 : Below w.heap.size w wr := kb.trans ((kei.toBelow (Nat.le_refl _) (fun g hg => hg.elim)).mono kb.size)
        have d4 := rP2.cell (i := 4) rfl
        have t0 := cell_keep kb2 y0
        by_cases hp16 : p < os.length
        · obtain ⟨b2, off2, rfl, e0, e1, e2, e3⟩ := hoc p hp16
          have a0d := rX.cell (i := 0) rfl
          have a0f : ∀ o, (wr.alloc o).cell? ⟨w1.heap.size, 0, none⟩ = some (.slice xo p xc) := fun o => (rX.alloc o).cell (i := 0) rfl
          have g0 := cell_keep kb2 e0
          have g1 := cell_keep kb2 e1
          have g2 := cell_keep kb2 e2
          have g3 := cell_keep kb2 e3
          have hpi : (0 : Int) ≤ (p : Int) := by omega
          have hpj : (p : Int) < (os.length : Int) := by omega
          have HT : Hid (opCells (os.take (p + 1)) = opCells (os.take p) ++ [.int .i64 (okind os p), .int .i64 (oa os p), .int .i64 (ob os p), .int .i64 (oc os p)]) := by show _ = _; rw [take_opsD hp16, opCells_snoc]
          clear e0 e1 e2 e3 hoc rP2
          generalize okind os p = o0 at *
          generalize oa os p = o1 at *
          generalize ob os p = o2 at *
          generalize oc os p = o3 at *
          go_wp2
          go_region_law (refine step_append_own rfl (.tmp 35) (.tmp 45) 34 rfl (w1.heap.size + 1) 36 j0 (.agg #[.int .i64 0, .int .i64 0, .int .i64 0, .int .i64 0]) 4 32 Tryz.underlying34 ji jz0 jz1 jz2 rfl (by decide) (.slice xo p xc) p (opCells (os.take p)) (by first | rfl | simp [Act.eval, Act.put]) (owns_below (pown.alloc _) ((Below.refl _ _).drew) (Nat.le_refl _)) ⟨wr.heap.size, 0, none⟩ 1 1 [.int .i64 o0, .int .i64 o1, .int .i64 o2, .int .i64 o3] (by first | rfl | simp [Act.eval, Act.put]) rfl (by intro j u hj; exact four_new wr (.int .i64 o0) (.int .i64 o1) (.int .i64 o2) (.int .i64 o3) 36 j u hj) four_one (by unfold maxLen; omega) (by omega) (by first | omega | (simp; omega)) ?_; intro v' w5 hown5 hgrow5 _; rw [← HT.out] at hown5; have hb5 := (((Below.refl (w1.heap.size + 1) wr).alloc hzi (.cells #[.int .i64 o0, .int .i64 o1, .int .i64 o2, .int .i64 o3] 36)).drew).grown hgrow5 (by simp; omega) (fun g hg => (pown.lt g hg).1); have rX5 := rX.below hb5 (by omega); have ke5 := kei.below hb5 (by omega); have hz5 := hb5.size; have y0' := rX5.cell (i := 0) rfl; have yf := rX5.frozen 0; obtain ⟨bo', bc', hvv⟩ := owns_slice hown5; subst hvv; have rX6 := rX5.set 0 (.slice bo' (p + 1) bc'); have ke6 := ke5.setCell (p := ⟨w1.heap.size, 0, none⟩) (.inr (Nat.le_refl _)) (.slice bo' (p + 1) bc'); have own6 := ownsRow_setCell_below hown5 (a := ⟨w1.heap.size, 0, none⟩) (by show w1.heap.size < w1.heap.size + 1; omega) (.slice bo' (p + 1) bc'))
          all_goals (
            clear rX5 ke5 hown5 hgrow5 hb5 rX pown kei a0d g0 g1 g2 g3 t0 d4 a0f
            go_wp2
            go_roundw
            case rel => exact ⟨p + 1, _, by omega, by go_num, rX6, own6, ke6, by simp; omega⟩
            case measure => simp [intOf]; omega)
        · obtain rfl : p = os.length := by omega
          rw [List.take_length] at pown
          have rZ2 := rZ.kept kei (fun h => h)
          have rQ2 := rQ.kept kei (fun h => h)
          have own2 := own.apartFrom kei (fun g hg => hg.elim)
          have ke2 := ke.trans kei
          have hzl : w.heap.size + 3 ≤ wr.heap.size := by omega
          have h4 := rQ2.cell (i := 4) rfl
          have x0' := rX.cell (i := 0) rfl
          have x1' := rX.cell (i := 1) rfl
          have x2' := rX.cell (i := 2) rfl
          have x3' := rX.cell (i := 3) rfl
          have x4' := rX.cell (i := 4) rfl
          have hfree : ∀ y ∈ bv, ∀ g, y.2.ownBlock = some g → (Value.slice xo os.length xc).ownBlock ≠ some g := by
            intro y hy g hg e
            have q1 := ((own.each y hy).lt g hg).2
            have q2 := (pown.lt g e).1
            omega
          have HG : Hid (bdat (bv ++ [(⟨os, ⟨ek, er, ex, ey⟩⟩, Value.slice xo os.length xc)]) = l.take (j + 1)) := by
            show _ = _
            rw [bdat_snoc, hbd.out, HS.out]
          have pown2 := owns_base pown (show w.heap.size + 3 ≤ _ by omega)
          clear rP rZ rQ own ke kei pown hbd rX hoc kb kb2 y0
          go_wp2_with (at_builtin; refine wpList_append_own _ rfl _ _ 23 rfl (w.heap.size + 3) 42 i0 (.agg #[.slice none 0 0, .int .i64 0, .int .i64 0, .int .i64 0, .int .i64 0]) 5 56 Tryz.underlying23 ii iz0 iz1 iz2 rfl (by decide) _ _ _ rfl (own2.row.alloc _) ⟨wr.heap.size, 0, none⟩ 1 1 [.slice xo os.length xc, .int .i64 ek, .int .i64 er, .int .i64 ex, .int .i64 ey] rfl rfl ?c21 five_one ?c23 ?c24 ?c25 ?_)
          try (case c21 => simpa using five_new wr _ _ _ _ _ _)
          case c23 => have := hvl.out; unfold maxLen; omega
          case c24 => have := hvl.out; omega
          case c25 => first | omega | (simp; omega)
          intro v' w7 hown' hgrow _
          have own7 : OwnBlocks w7 (w.heap.size + 3) v' (bv ++ [(⟨os, ⟨ek, er, ex, ey⟩⟩, .slice xo os.length xc)]) := (own2.alloc _).snoc (pown2.alloc _) hfree hgrow hown'
          have hb7 := (((Below.refl (w.heap.size + 3) wr).alloc hzl _).grown hgrow (by simp; omega) (fun g hg => (own2.row.lt g hg).1))
          have rP7 := rP2.below hb7 (by omega)
          have rZ7 := rZ2.below hb7 (by omega)
          have rQ7 := rQ2.below hb7 (by omega)
          have ke7 := ke2.below hb7 (by omega)
          have hz7 := hb7.size
          have y4 := rQ7.cell (i := 4) rfl
          have yf := rQ7.frozen 4
          obtain ⟨bo', bc', hv'⟩ := owns_slice own7.row
          rw [List.length_append] at hv'
          simp only [List.length_cons, List.length_nil, Nat.zero_add] at hv'
          subst hv'
          have rQ8 := rQ7.set 4 (.slice bo' (bv.length + 1) bc')
          have rP8 := rP7.unset (a := ⟨w.heap.size + 2, 4, none⟩) (by show w.heap.size ≠ w.heap.size + 2; omega) (.slice bo' (bv.length + 1) bc')
          have rZ8 := rZ7.unset (a := ⟨w.heap.size + 2, 4, none⟩) (by show w.heap.size + 1 ≠ w.heap.size + 2; omega) (.slice bo' (bv.length + 1) bc')
          have ke8 := ke7.setCell (p := ⟨w.heap.size + 2, 4, none⟩) (.inr (by show w.heap.size ≤ w.heap.size + 2; omega)) (.slice bo' (bv.length + 1) bc')
          have own8 := own7.set (a := ⟨w.heap.size + 2, 4, none⟩) (by show w.heap.size + 2 < w.heap.size + 3; omega) (.slice bo' (bv.length + 1) bc')
          clear hgrow hown' hb7 rP2 rZ2 rQ2 own2 ke2 h4 x0' x1' x2' x3' x4' rP7 rZ7 rQ7 ke7 own7 pown2 hfree d4 t0
          go_wp2
          go_roundw
          case rel => exact ⟨j + 1, _, _, by omega, by go_num, by show List.length _ = _; have := hvl.out; simp; exact this, HG, rP8, rZ8, rQ8, own8, ke8, by simp; omega⟩
          case measure => simp [intOf]; omega
    · obtain rfl : j = l.length := by omega
      rw [List.take_length] at hbd
      have b0 := rQ.cell (i := 0) rfl
      have z0 := rZ.cell (i := 0) rfl
      have f0 := rZ.frozen 0
      have b1 := rQ.cell (i := 1) rfl
      have z1 := rZ.cell (i := 1) rfl
      have f1 := rZ.frozen 1
      have b2 := rQ.cell (i := 2) rfl
      have z2 := rZ.cell (i := 2) rfl
      have f2 := rZ.frozen 2
      have b3 := rQ.cell (i := 3) rfl
      have z3 := rZ.cell (i := 3) rfl
      have f3 := rZ.frozen 3
      have b4 := rQ.cell (i := 4) rfl
      have z4 := rZ.cell (i := 4) rfl
      have f4 := rZ.frozen 4
      have HF : Hid (Post (.returned (.agg #[.int .i64 a0, .int .i64 a1, .int .i64 a2, .int .i64 a3, .slice bo bv.length bc])) (((((w1.setCell ⟨w.heap.size + 1, 0, none⟩ (.int .i64 a0)).setCell ⟨w.heap.size + 1, 1, none⟩ (.int .i64 a1)).setCell ⟨w.heap.size + 1, 2, none⟩ (.int .i64 a2)).setCell ⟨w.heap.size + 1, 3, none⟩ (.int .i64 a3)).setCell ⟨w.heap.size + 1, 4, none⟩ (.slice bo bv.length bc))) :=
        hp (.slice bo bv.length bc) bv _ hbd ((((((own.set (by simp) _).set (by simp) _).set (by simp) _).set (by simp) _).set (by simp) _).base (by omega))
          ((((((ke.setCell (.inr (by simp)) _).setCell (.inr (by simp)) _).setCell (.inr (by simp)) _).setCell (.inr (by simp)) _).setCell (.inr (by simp)) _).toBelow (Nat.le_refl _) (fun g hg => hg.elim))
      clear hp own ke rP rZ rQ hcc
      go_wp2
      exact bodyPost_ret (v := .agg #[.int .i64 a0, .int .i64 a1, .int .i64 a2, .int .i64 a3, .slice bo bv.length bc]) (by simp [results, Tryz.results11, go_sem, z0, z1, z2, z3, z4]) rfl HF.out

end Go.Proofs.YtblhmeidbjigaabGreatDoor
