/- An operation out of raw numbers. -/
import Derived.Test.YtblhmeidbjigaabGreatDoorRows
import Derived.WalkKit
import Derived.WalkSpells
import Derived.WalkLawsBesides
import Derived.Laws.BytesArg
import Derived.Deep.QuietTactic
import Derived.BigQuiet
import Derived.Deep.RegionHeld3
import Derived.Deep.RegionLaw
import Derived.Deep.AppendLies
import Derived.Lib.ItoaNum
import Derived.Lib.ItoaLen
import Derived.OpenShut
import Derived.Maps.AppendAt
import Derived.Test.YtblhmeidbjigaabGreatDoorPTxtToKEndQuiet

set_option linter.unusedSimpArgs false
set_option linter.unusedVariables false
namespace Go.Proofs.YtblhmeidbjigaabGreatDoor
open Go.RowKit

set_option maxRecDepth 100000 in
set_option maxHeartbeats 4000000 in
theorem op_cps (R : Nat) (ao : Option Addr) (n cap k : Nat) (most regs slots : Int) (w : World) (h : Rolls w R ao n cap k) (hre : 1 ≤ regs ∧ regs ≤ 8) (hsl : 0 ≤ slots ∧ slots ≤ 8) (hmo : 1 ≤ most ∧ most ≤ 15) (hms : most ≤ 13 ∨ 1 ≤ slots) (Post : Ending → World → Prop)
    (hp : ∀ a b c d k' w', opGood regs slots ⟨a, b, c, d⟩ = true → Rolls w' R ao n cap k' → Keep (fun g => g = R) w w' → Post (.returned (.agg #[.int .i64 a, .int .i64 b, .int .i64 c, .int .i64 d])) w') :
    Calls Tryz.prog 14 #[.pointer (some ⟨R, 0, none⟩), .int .i64 most, .int .i64 regs, .int .i64 slots] w Post := by
  have hRw := h.row.lt
  have hA0 : Row (w.alloc (.cells #[.int .i64 0, .int .i64 0, .int .i64 0, .int .i64 0] 36)) w.heap.size 36 [.int .i64 0, .int .i64 0, .int .i64 0, .int .i64 0] := heap_alloc_new w _
  go_enter Tryz.func14, Tryz.ntmps14
  go_wp2_with fail
  refine next_cps R ao n cap k most _ (h.keep ((Below.refl _ _).alloc (Nat.le_refl _) _)) (by omega) _ ?_
  intro x k1 w1 hx0 hx3 hr1 hk1 hz1
  have hA := hA0.kept hk1 (by omega)
  simp only [World.size_alloc] at hz1
  have HZ : Hid (w1.heap.size = w.heap.size + 1) := hz1
  have hzl : w.heap.size < w1.heap.size := by omega
  have hRB : R < w1.heap.size := by omega
  clear hA0 hz1
  have hre' : 1 ≤ regs ∧ regs ≤ 1000 := by omega
  have hct : (1 : Int) ≤ 256 ∧ (256 : Int) ≤ 1000 := by omega
  obtain rfl | rfl | rfl | rfl | rfl | rfl | hxx : x = 0 ∨ x = 1 ∨ x = 11 ∨ x = 12 ∨ x = 13 ∨ x = 14 ∨ (2 ≤ x ∧ x ≤ 10) := by omega
  · have st : St w R ao n cap 36 w.heap.size w1.heap.size [.int .i64 1, .int .i64 0, .int .i64 0, .int .i64 0] (w1.alloc (.cells #[.int .i64 1, .int .i64 0, .int .i64 0, .int .i64 0] 36)) := St.start h hr1 hk1 hA HZ.out _
    obtain ⟨k0, hro0⟩ := st.rolls
    go_wp2_with fail
    refine next_cps R ao n cap k0 regs _ hro0 hre' _ ?_
    intro y0 kk0 v0 ya0 yb0 hr hk hzz
    have st := st.next hr hk
    have bc := st.rowB.cell (i := 1) rfl
    have bf := st.rowB.frozen 1
    have st' := st.store h 1 (.int .i64 y0)
    clear hr hk hzz
    replace st := st'
    obtain ⟨k1, hro1⟩ := st.rolls
    go_wp2_with fail
    refine next_cps R ao n cap k1 256 _ hro1 hct _ ?_
    intro y1 kk1 v1 ya1 yb1 hr hk hzz
    have st := st.next hr hk
    have bc := st.rowB.cell (i := 2) rfl
    have bf := st.rowB.frozen 2
    have st' := st.store h 2 (.int .i64 y1)
    clear hr hk hzz
    replace st := st'
    obtain ⟨k2, hro2⟩ := st.rolls
    go_wp2_with fail
    refine next_cps R ao n cap k2 256 _ hro2 hct _ ?_
    intro y2 kk2 v2 ya2 yb2 hr hk hzz
    have st := st.next hr hk
    have bc := st.rowB.cell (i := 3) rfl
    have bf := st.rowB.frozen 3
    have st' := st.store h 3 (.int .i64 y2)
    clear hr hk hzz
    have st2 := st'
    obtain ⟨kf, hrof⟩ := st2.rolls
    have hfin := hp 1 y0 y1 y2 kf (set4 (v2.setCell ⟨w1.heap.size, 3, none⟩ (.int .i64 y2)) w.heap.size 0 1 y0 y1 y2) (by simp [opGood, below]; omega) (((hrof.set h (Nat.le_refl _) _).set h (Nat.le_refl _) _ |>.set h (Nat.le_refl _) _).set h (Nat.le_refl _) _) (st2.keep.set4 (.inr (Nat.le_refl _)) _ _ _ _)
    have hne := st2.ne
    have a0 := st2.rowA.cell (i := 0) rfl
    have a1 := st2.rowA.cell (i := 1) rfl
    have a2 := st2.rowA.cell (i := 2) rfl
    have a3 := st2.rowA.cell (i := 3) rfl
    have f0 := st2.rowA.frozen 0
    have f1 := st2.rowA.frozen 1
    have f2 := st2.rowA.frozen 2
    have f3 := st2.rowA.frozen 3
    have q0 := st2.rowB.cell (i := 0) (u := .int .i64 1) rfl
    have q1 := st2.rowB.cell (i := 1) (u := .int .i64 y0) rfl
    have q2 := st2.rowB.cell (i := 2) (u := .int .i64 y1) rfl
    have q3 := st2.rowB.cell (i := 3) (u := .int .i64 y2) rfl
    clear st st' st2 hp h hr1 hk1 hA
    have HF : Hid (Post (.returned (.agg #[.int .i64 1, .int .i64 y0, .int .i64 y1, .int .i64 y2])) (set4 (v2.setCell ⟨w1.heap.size, 3, none⟩ (.int .i64 y2)) w.heap.size 0 1 y0 y1 y2)) := hfin
    clear hfin
    go_wp2
    exact bodyPost_ret (v := .agg #[.int .i64 1, .int .i64 y0, .int .i64 y1, .int .i64 y2]) (by simp [results, Tryz.results14, go_sem, a0, a1, a2, a3]) rfl HF.out
  · have st : St w R ao n cap 36 w.heap.size w1.heap.size [.int .i64 2, .int .i64 0, .int .i64 0, .int .i64 0] (w1.alloc (.cells #[.int .i64 2, .int .i64 0, .int .i64 0, .int .i64 0] 36)) := St.start h hr1 hk1 hA HZ.out _
    obtain ⟨k0, hro0⟩ := st.rolls
    go_wp2_with fail
    refine next_cps R ao n cap k0 regs _ hro0 hre' _ ?_
    intro y0 kk0 v0 ya0 yb0 hr hk hzz
    have st := st.next hr hk
    have bc := st.rowB.cell (i := 1) rfl
    have bf := st.rowB.frozen 1
    have st' := st.store h 1 (.int .i64 y0)
    clear hr hk hzz
    replace st := st'
    obtain ⟨k1, hro1⟩ := st.rolls
    go_wp2_with fail
    refine next_cps R ao n cap k1 regs _ hro1 hre' _ ?_
    intro y1 kk1 v1 ya1 yb1 hr hk hzz
    have st := st.next hr hk
    have bc := st.rowB.cell (i := 2) rfl
    have bf := st.rowB.frozen 2
    have st' := st.store h 2 (.int .i64 y1)
    clear hr hk hzz
    have st2 := st'
    obtain ⟨kf, hrof⟩ := st2.rolls
    have hfin := hp 2 y0 y1 0 kf (set4 (v1.setCell ⟨w1.heap.size, 2, none⟩ (.int .i64 y1)) w.heap.size 0 2 y0 y1 0) (by simp [opGood, below]; omega) (((hrof.set h (Nat.le_refl _) _).set h (Nat.le_refl _) _ |>.set h (Nat.le_refl _) _).set h (Nat.le_refl _) _) (st2.keep.set4 (.inr (Nat.le_refl _)) _ _ _ _)
    have hne := st2.ne
    have a0 := st2.rowA.cell (i := 0) rfl
    have a1 := st2.rowA.cell (i := 1) rfl
    have a2 := st2.rowA.cell (i := 2) rfl
    have a3 := st2.rowA.cell (i := 3) rfl
    have f0 := st2.rowA.frozen 0
    have f1 := st2.rowA.frozen 1
    have f2 := st2.rowA.frozen 2
    have f3 := st2.rowA.frozen 3
    have q0 := st2.rowB.cell (i := 0) (u := .int .i64 2) rfl
    have q1 := st2.rowB.cell (i := 1) (u := .int .i64 y0) rfl
    have q2 := st2.rowB.cell (i := 2) (u := .int .i64 y1) rfl
    have q3 := st2.rowB.cell (i := 3) (u := .int .i64 0) rfl
    clear st st' st2 hp h hr1 hk1 hA
    have HF : Hid (Post (.returned (.agg #[.int .i64 2, .int .i64 y0, .int .i64 y1, .int .i64 0])) (set4 (v1.setCell ⟨w1.heap.size, 2, none⟩ (.int .i64 y1)) w.heap.size 0 2 y0 y1 0)) := hfin
    clear hfin
    go_wp2
    exact bodyPost_ret (v := .agg #[.int .i64 2, .int .i64 y0, .int .i64 y1, .int .i64 0]) (by simp [results, Tryz.results14, go_sem, a0, a1, a2, a3]) rfl HF.out
  · have st : St w R ao n cap 36 w.heap.size w1.heap.size [.int .i64 12, .int .i64 0, .int .i64 0, .int .i64 0] (w1.alloc (.cells #[.int .i64 12, .int .i64 0, .int .i64 0, .int .i64 0] 36)) := St.start h hr1 hk1 hA HZ.out _
    obtain ⟨k0, hro0⟩ := st.rolls
    go_wp2_with fail
    refine next_cps R ao n cap k0 regs _ hro0 hre' _ ?_
    intro y0 kk0 v0 ya0 yb0 hr hk hzz
    have st := st.next hr hk
    have bc := st.rowB.cell (i := 1) rfl
    have bf := st.rowB.frozen 1
    have st' := st.store h 1 (.int .i64 y0)
    clear hr hk hzz
    replace st := st'
    obtain ⟨k1, hro1⟩ := st.rolls
    go_wp2_with fail
    refine next_cps R ao n cap k1 regs _ hro1 hre' _ ?_
    intro y1 kk1 v1 ya1 yb1 hr hk hzz
    have st := st.next hr hk
    have bc := st.rowB.cell (i := 2) rfl
    have bf := st.rowB.frozen 2
    have st' := st.store h 2 (.int .i64 y1)
    clear hr hk hzz
    have st2 := st'
    obtain ⟨kf, hrof⟩ := st2.rolls
    have hfin := hp 12 y0 y1 0 kf (set4 (v1.setCell ⟨w1.heap.size, 2, none⟩ (.int .i64 y1)) w.heap.size 0 12 y0 y1 0) (by simp [opGood, below]; omega) (((hrof.set h (Nat.le_refl _) _).set h (Nat.le_refl _) _ |>.set h (Nat.le_refl _) _).set h (Nat.le_refl _) _) (st2.keep.set4 (.inr (Nat.le_refl _)) _ _ _ _)
    have hne := st2.ne
    have a0 := st2.rowA.cell (i := 0) rfl
    have a1 := st2.rowA.cell (i := 1) rfl
    have a2 := st2.rowA.cell (i := 2) rfl
    have a3 := st2.rowA.cell (i := 3) rfl
    have f0 := st2.rowA.frozen 0
    have f1 := st2.rowA.frozen 1
    have f2 := st2.rowA.frozen 2
    have f3 := st2.rowA.frozen 3
    have q0 := st2.rowB.cell (i := 0) (u := .int .i64 12) rfl
    have q1 := st2.rowB.cell (i := 1) (u := .int .i64 y0) rfl
    have q2 := st2.rowB.cell (i := 2) (u := .int .i64 y1) rfl
    have q3 := st2.rowB.cell (i := 3) (u := .int .i64 0) rfl
    clear st st' st2 hp h hr1 hk1 hA
    have HF : Hid (Post (.returned (.agg #[.int .i64 12, .int .i64 y0, .int .i64 y1, .int .i64 0])) (set4 (v1.setCell ⟨w1.heap.size, 2, none⟩ (.int .i64 y1)) w.heap.size 0 12 y0 y1 0)) := hfin
    clear hfin
    go_wp2
    exact bodyPost_ret (v := .agg #[.int .i64 12, .int .i64 y0, .int .i64 y1, .int .i64 0]) (by simp [results, Tryz.results14, go_sem, a0, a1, a2, a3]) rfl HF.out
  · have st : St w R ao n cap 36 w.heap.size w1.heap.size [.int .i64 13, .int .i64 0, .int .i64 0, .int .i64 0] (w1.alloc (.cells #[.int .i64 13, .int .i64 0, .int .i64 0, .int .i64 0] 36)) := St.start h hr1 hk1 hA HZ.out _
    obtain ⟨k0, hro0⟩ := st.rolls
    go_wp2_with fail
    refine next_cps R ao n cap k0 regs _ hro0 hre' _ ?_
    intro y0 kk0 v0 ya0 yb0 hr hk hzz
    have st := st.next hr hk
    have bc := st.rowB.cell (i := 1) rfl
    have bf := st.rowB.frozen 1
    have st' := st.store h 1 (.int .i64 y0)
    clear hr hk hzz
    replace st := st'
    obtain ⟨k1, hro1⟩ := st.rolls
    go_wp2_with fail
    refine next_cps R ao n cap k1 regs _ hro1 hre' _ ?_
    intro y1 kk1 v1 ya1 yb1 hr hk hzz
    have st := st.next hr hk
    have bc := st.rowB.cell (i := 2) rfl
    have bf := st.rowB.frozen 2
    have st' := st.store h 2 (.int .i64 y1)
    clear hr hk hzz
    have st2 := st'
    obtain ⟨kf, hrof⟩ := st2.rolls
    have hfin := hp 13 y0 y1 0 kf (set4 (v1.setCell ⟨w1.heap.size, 2, none⟩ (.int .i64 y1)) w.heap.size 0 13 y0 y1 0) (by simp [opGood, below]; omega) (((hrof.set h (Nat.le_refl _) _).set h (Nat.le_refl _) _ |>.set h (Nat.le_refl _) _).set h (Nat.le_refl _) _) (st2.keep.set4 (.inr (Nat.le_refl _)) _ _ _ _)
    have hne := st2.ne
    have a0 := st2.rowA.cell (i := 0) rfl
    have a1 := st2.rowA.cell (i := 1) rfl
    have a2 := st2.rowA.cell (i := 2) rfl
    have a3 := st2.rowA.cell (i := 3) rfl
    have f0 := st2.rowA.frozen 0
    have f1 := st2.rowA.frozen 1
    have f2 := st2.rowA.frozen 2
    have f3 := st2.rowA.frozen 3
    have q0 := st2.rowB.cell (i := 0) (u := .int .i64 13) rfl
    have q1 := st2.rowB.cell (i := 1) (u := .int .i64 y0) rfl
    have q2 := st2.rowB.cell (i := 2) (u := .int .i64 y1) rfl
    have q3 := st2.rowB.cell (i := 3) (u := .int .i64 0) rfl
    clear st st' st2 hp h hr1 hk1 hA
    have HF : Hid (Post (.returned (.agg #[.int .i64 13, .int .i64 y0, .int .i64 y1, .int .i64 0])) (set4 (v1.setCell ⟨w1.heap.size, 2, none⟩ (.int .i64 y1)) w.heap.size 0 13 y0 y1 0)) := hfin
    clear hfin
    go_wp2
    exact bodyPost_ret (v := .agg #[.int .i64 13, .int .i64 y0, .int .i64 y1, .int .i64 0]) (by simp [results, Tryz.results14, go_sem, a0, a1, a2, a3]) rfl HF.out
  · have hsl' : 1 ≤ slots ∧ slots ≤ 1000 := by omega
    have st : St w R ao n cap 36 w.heap.size w1.heap.size [.int .i64 14, .int .i64 0, .int .i64 0, .int .i64 0] (w1.alloc (.cells #[.int .i64 14, .int .i64 0, .int .i64 0, .int .i64 0] 36)) := St.start h hr1 hk1 hA HZ.out _
    obtain ⟨k0, hro0⟩ := st.rolls
    go_wp2_with fail
    refine next_cps R ao n cap k0 slots _ hro0 hsl' _ ?_
    intro y0 kk0 v0 ya0 yb0 hr hk hzz
    have st := st.next hr hk
    have bc := st.rowB.cell (i := 1) rfl
    have bf := st.rowB.frozen 1
    have st' := st.store h 1 (.int .i64 y0)
    clear hr hk hzz
    replace st := st'
    obtain ⟨k1, hro1⟩ := st.rolls
    go_wp2_with fail
    refine next_cps R ao n cap k1 regs _ hro1 hre' _ ?_
    intro y1 kk1 v1 ya1 yb1 hr hk hzz
    have st := st.next hr hk
    have bc := st.rowB.cell (i := 2) rfl
    have bf := st.rowB.frozen 2
    have st' := st.store h 2 (.int .i64 y1)
    clear hr hk hzz
    have st2 := st'
    obtain ⟨kf, hrof⟩ := st2.rolls
    have hfin := hp 14 y0 y1 0 kf (set4 (v1.setCell ⟨w1.heap.size, 2, none⟩ (.int .i64 y1)) w.heap.size 0 14 y0 y1 0) (by simp [opGood, below]; omega) (((hrof.set h (Nat.le_refl _) _).set h (Nat.le_refl _) _ |>.set h (Nat.le_refl _) _).set h (Nat.le_refl _) _) (st2.keep.set4 (.inr (Nat.le_refl _)) _ _ _ _)
    have hne := st2.ne
    have a0 := st2.rowA.cell (i := 0) rfl
    have a1 := st2.rowA.cell (i := 1) rfl
    have a2 := st2.rowA.cell (i := 2) rfl
    have a3 := st2.rowA.cell (i := 3) rfl
    have f0 := st2.rowA.frozen 0
    have f1 := st2.rowA.frozen 1
    have f2 := st2.rowA.frozen 2
    have f3 := st2.rowA.frozen 3
    have q0 := st2.rowB.cell (i := 0) (u := .int .i64 14) rfl
    have q1 := st2.rowB.cell (i := 1) (u := .int .i64 y0) rfl
    have q2 := st2.rowB.cell (i := 2) (u := .int .i64 y1) rfl
    have q3 := st2.rowB.cell (i := 3) (u := .int .i64 0) rfl
    clear st st' st2 hp h hr1 hk1 hA
    have HF : Hid (Post (.returned (.agg #[.int .i64 14, .int .i64 y0, .int .i64 y1, .int .i64 0])) (set4 (v1.setCell ⟨w1.heap.size, 2, none⟩ (.int .i64 y1)) w.heap.size 0 14 y0 y1 0)) := hfin
    clear hfin
    go_wp2
    exact bodyPost_ret (v := .agg #[.int .i64 14, .int .i64 y0, .int .i64 y1, .int .i64 0]) (by simp [results, Tryz.results14, go_sem, a0, a1, a2, a3]) rfl HF.out
  · have hsl' : 1 ≤ slots ∧ slots ≤ 1000 := by omega
    have st : St w R ao n cap 36 w.heap.size w1.heap.size [.int .i64 15, .int .i64 0, .int .i64 0, .int .i64 0] (w1.alloc (.cells #[.int .i64 15, .int .i64 0, .int .i64 0, .int .i64 0] 36)) := St.start h hr1 hk1 hA HZ.out _
    obtain ⟨k0, hro0⟩ := st.rolls
    go_wp2_with fail
    refine next_cps R ao n cap k0 regs _ hro0 hre' _ ?_
    intro y0 kk0 v0 ya0 yb0 hr hk hzz
    have st := st.next hr hk
    have bc := st.rowB.cell (i := 1) rfl
    have bf := st.rowB.frozen 1
    have st' := st.store h 1 (.int .i64 y0)
    clear hr hk hzz
    replace st := st'
    obtain ⟨k1, hro1⟩ := st.rolls
    go_wp2_with fail
    refine next_cps R ao n cap k1 slots _ hro1 hsl' _ ?_
    intro y1 kk1 v1 ya1 yb1 hr hk hzz
    have st := st.next hr hk
    have bc := st.rowB.cell (i := 2) rfl
    have bf := st.rowB.frozen 2
    have st' := st.store h 2 (.int .i64 y1)
    clear hr hk hzz
    have st2 := st'
    obtain ⟨kf, hrof⟩ := st2.rolls
    have hfin := hp 15 y0 y1 0 kf (set4 (v1.setCell ⟨w1.heap.size, 2, none⟩ (.int .i64 y1)) w.heap.size 0 15 y0 y1 0) (by simp [opGood, below]; omega) (((hrof.set h (Nat.le_refl _) _).set h (Nat.le_refl _) _ |>.set h (Nat.le_refl _) _).set h (Nat.le_refl _) _) (st2.keep.set4 (.inr (Nat.le_refl _)) _ _ _ _)
    have hne := st2.ne
    have a0 := st2.rowA.cell (i := 0) rfl
    have a1 := st2.rowA.cell (i := 1) rfl
    have a2 := st2.rowA.cell (i := 2) rfl
    have a3 := st2.rowA.cell (i := 3) rfl
    have f0 := st2.rowA.frozen 0
    have f1 := st2.rowA.frozen 1
    have f2 := st2.rowA.frozen 2
    have f3 := st2.rowA.frozen 3
    have q0 := st2.rowB.cell (i := 0) (u := .int .i64 15) rfl
    have q1 := st2.rowB.cell (i := 1) (u := .int .i64 y0) rfl
    have q2 := st2.rowB.cell (i := 2) (u := .int .i64 y1) rfl
    have q3 := st2.rowB.cell (i := 3) (u := .int .i64 0) rfl
    clear st st' st2 hp h hr1 hk1 hA
    have HF : Hid (Post (.returned (.agg #[.int .i64 15, .int .i64 y0, .int .i64 y1, .int .i64 0])) (set4 (v1.setCell ⟨w1.heap.size, 2, none⟩ (.int .i64 y1)) w.heap.size 0 15 y0 y1 0)) := hfin
    clear hfin
    go_wp2
    exact bodyPost_ret (v := .agg #[.int .i64 15, .int .i64 y0, .int .i64 y1, .int .i64 0]) (by simp [results, Tryz.results14, go_sem, a0, a1, a2, a3]) rfl HF.out
  · have n1 : ((1 + x : Int) == 1) = false := by simp; omega
    have n2 : ((1 + x : Int) == 2) = false := by simp; omega
    have n12 : ((1 + x : Int) == 12) = false := by simp; omega
    have n13 : ((1 + x : Int) == 13) = false := by simp; omega
    have n14 : ((1 + x : Int) == 14) = false := by simp; omega
    have n15 : ((1 + x : Int) == 15) = false := by simp; omega
    have st : St w R ao n cap 36 w.heap.size w1.heap.size [.int .i64 (1 + x), .int .i64 0, .int .i64 0, .int .i64 0] (w1.alloc (.cells #[.int .i64 (1 + x), .int .i64 0, .int .i64 0, .int .i64 0] 36)) := St.start h hr1 hk1 hA HZ.out _
    obtain ⟨k0, hro0⟩ := st.rolls
    go_wp2_with fail
    refine next_cps R ao n cap k0 regs _ hro0 hre' _ ?_
    intro y0 kk0 v0 ya0 yb0 hr hk hzz
    have st := st.next hr hk
    have bc := st.rowB.cell (i := 1) rfl
    have bf := st.rowB.frozen 1
    have st' := st.store h 1 (.int .i64 y0)
    clear hr hk hzz
    replace st := st'
    obtain ⟨k1, hro1⟩ := st.rolls
    go_wp2_with fail
    refine next_cps R ao n cap k1 regs _ hro1 hre' _ ?_
    intro y1 kk1 v1 ya1 yb1 hr hk hzz
    have st := st.next hr hk
    have bc := st.rowB.cell (i := 2) rfl
    have bf := st.rowB.frozen 2
    have st' := st.store h 2 (.int .i64 y1)
    clear hr hk hzz
    replace st := st'
    obtain ⟨k2, hro2⟩ := st.rolls
    go_wp2_with fail
    refine next_cps R ao n cap k2 regs _ hro2 hre' _ ?_
    intro y2 kk2 v2 ya2 yb2 hr hk hzz
    have st := st.next hr hk
    have bc := st.rowB.cell (i := 3) rfl
    have bf := st.rowB.frozen 3
    have st' := st.store h 3 (.int .i64 y2)
    clear hr hk hzz
    have st2 := st'
    obtain ⟨kf, hrof⟩ := st2.rolls
    have hfin := hp (1 + x) y0 y1 y2 kf (set4 (v2.setCell ⟨w1.heap.size, 3, none⟩ (.int .i64 y2)) w.heap.size 0 (1 + x) y0 y1 y2) (by unfold opGood; rw [if_neg (by show ¬ (1 + x = 1); omega), if_pos (by show 3 ≤ 1 + x ∧ 1 + x ≤ 11; omega)]; simp [below]; omega) (((hrof.set h (Nat.le_refl _) _).set h (Nat.le_refl _) _ |>.set h (Nat.le_refl _) _).set h (Nat.le_refl _) _) (st2.keep.set4 (.inr (Nat.le_refl _)) _ _ _ _)
    have hne := st2.ne
    have a0 := st2.rowA.cell (i := 0) rfl
    have a1 := st2.rowA.cell (i := 1) rfl
    have a2 := st2.rowA.cell (i := 2) rfl
    have a3 := st2.rowA.cell (i := 3) rfl
    have f0 := st2.rowA.frozen 0
    have f1 := st2.rowA.frozen 1
    have f2 := st2.rowA.frozen 2
    have f3 := st2.rowA.frozen 3
    have q0 := st2.rowB.cell (i := 0) (u := .int .i64 (1 + x)) rfl
    have q1 := st2.rowB.cell (i := 1) (u := .int .i64 y0) rfl
    have q2 := st2.rowB.cell (i := 2) (u := .int .i64 y1) rfl
    have q3 := st2.rowB.cell (i := 3) (u := .int .i64 y2) rfl
    clear st st' st2 hp h hr1 hk1 hA
    have HF : Hid (Post (.returned (.agg #[.int .i64 (1 + x), .int .i64 y0, .int .i64 y1, .int .i64 y2])) (set4 (v2.setCell ⟨w1.heap.size, 3, none⟩ (.int .i64 y2)) w.heap.size 0 (1 + x) y0 y1 y2)) := hfin
    clear hfin
    go_wp2
    exact bodyPost_ret (v := .agg #[.int .i64 (1 + x), .int .i64 y0, .int .i64 y1, .int .i64 y2]) (by simp [results, Tryz.results14, go_sem, a0, a1, a2, a3]) rfl HF.out

end Go.Proofs.YtblhmeidbjigaabGreatDoor

/- A block out of raw numbers. -/
set_option linter.unusedSimpArgs false
set_option linter.unusedVariables false
namespace Go.Proofs.YtblhmeidbjigaabGreatDoor
open Go.RowKit

theorem owns_keep {S : Nat → Prop} {w w' : World} {base : Nat} {e : TypeId} {sz : Nat} {v : Value} {n : Nat} {xs : List Value} (h : w.ownsRow base e sz v n xs) (hk : Keep S w w') (hS : ∀ g, S g → g < base) : w'.ownsRow base e sz v n xs :=
  owns_same h fun g hg => hk.block g (h.lt g hg).2 (fun hs => by have := hS g hs; have := (h.lt g hg).1; omega)

theorem Rolls.below {w w' w0 : World} {R : Nat} {ao : Option Addr} {n cap k k0 : Nat} (h : Rolls w R ao n cap k) (h0 : Rolls w0 R ao n cap k0) {B : Nat} (hb : Below B w w') (hB : w0.heap.size ≤ B) : Rolls w' R ao n cap k := by
  have hR := h0.row.lt
  refine ⟨h.row.below hb (by omega), h.le, ?_, h.off⟩
  obtain ⟨ao', cap', e, hn, hc⟩ := h.rd
  obtain ⟨ao2, cap2, e2, _, hc2⟩ := h0.rd
  simp only [Value.slice.injEq, true_and] at e e2
  obtain ⟨rfl, rfl⟩ := e
  obtain ⟨rfl, rfl⟩ := e2
  refine ⟨ao, cap, rfl, hn, fun i hi => ?_⟩
  obtain ⟨b, off, x, e1, h1, h2, h3⟩ := hc i hi
  obtain ⟨b2, off2, x2, e2, _, _, h4⟩ := hc2 i hi
  rw [e1] at e2
  simp only [Option.some.injEq, Addr.mk.injEq, and_true] at e2
  obtain ⟨rfl, rfl⟩ := e2
  have := World.block_lt_of_cell? _ _ h4
  exact ⟨b, off, x, e1, h1, h2, (hb.cell (by simp at this ⊢; omega)).trans h3⟩

end Go.Proofs.YtblhmeidbjigaabGreatDoor

/- A program out of raw numbers. -/
set_option linter.unusedSimpArgs false
set_option linter.unusedVariables false
namespace Go.Proofs.YtblhmeidbjigaabGreatDoor
open Go.RowKit

theorem Rolls.away {w w0 : World} {R : Nat} {ao : Option Addr} {n cap k : Nat} (h : Rolls w R ao n cap k) (h0 : RdInts w0 (.slice ao n cap) n) {g i : Nat} (hg : w0.heap.size ≤ g) (hgR : R ≠ g) (u : Value) : Rolls (w.setCell ⟨g, i, none⟩ u) R ao n cap k := by
  refine ⟨h.row.unset (a := ⟨g, i, none⟩) hgR _, h.le, ?_, h.off⟩
  obtain ⟨ao', cap', e, hn, hc⟩ := h.rd
  obtain ⟨ao2, cap2, e2, _, hc2⟩ := h0
  simp only [Value.slice.injEq, true_and] at e e2
  obtain ⟨rfl, rfl⟩ := e
  obtain ⟨rfl, rfl⟩ := e2
  refine ⟨ao, cap, rfl, hn, fun i hi => ?_⟩
  obtain ⟨b, off, x, e1, h1, h2, h3⟩ := hc i hi
  obtain ⟨b2, off2, x2, e2, _, _, h4⟩ := hc2 i hi
  rw [e1] at e2
  simp only [Option.some.injEq, Addr.mk.injEq, and_true] at e2
  obtain ⟨rfl, rfl⟩ := e2
  have := World.block_lt_of_cell? _ _ h4
  exact ⟨b, off, x, e1, h1, h2, cell_unset (fun e => by simp at e; simp at this; omega) h3⟩

theorem Rolls.belowB {w w' w0 : World} {R : Nat} {ao : Option Addr} {n cap k : Nat} (h : Rolls w R ao n cap k) (h0 : RdInts w0 (.slice ao n cap) n) {B : Nat} (hb : Below B w w') (hB : w0.heap.size ≤ B) (hR : R < B) : Rolls w' R ao n cap k := by
  refine ⟨h.row.below hb hR, h.le, ?_, h.off⟩
  obtain ⟨ao', cap', e, hn, hc⟩ := h.rd
  obtain ⟨ao2, cap2, e2, _, hc2⟩ := h0
  simp only [Value.slice.injEq, true_and] at e e2
  obtain ⟨rfl, rfl⟩ := e
  obtain ⟨rfl, rfl⟩ := e2
  refine ⟨ao, cap, rfl, hn, fun i hi => ?_⟩
  obtain ⟨b, off, x, e1, h1, h2, h3⟩ := hc i hi
  obtain ⟨b2, off2, x2, e2, _, _, h4⟩ := hc2 i hi
  rw [e1] at e2
  simp only [Option.some.injEq, Addr.mk.injEq, and_true] at e2
  obtain ⟨rfl, rfl⟩ := e2
  have := World.block_lt_of_cell? _ _ h4
  exact ⟨b, off, x, e1, h1, h2, (hb.cell (by simp at this ⊢; omega)).trans h3⟩

theorem RdInts.keep {w w' : World} {v : Value} {n : Nat} (h : RdInts w v n) (hb : Below w.heap.size w w') : RdInts w' v n := by
  obtain ⟨ao', cap', e, hn, hc⟩ := h
  exact ⟨ao', cap', e, hn, fun i hi => let ⟨b, off, x, e1, h1, h2, h3⟩ := hc i hi; ⟨b, off, x, e1, h1, h2, cell_keep hb h3⟩⟩

/-- Rolls that begin, in a block that is new. -/
theorem Rolls.fresh {w w' : World} {R : Nat} {ao : Option Addr} {n cap : Nat} (h : RdInts w (.slice ao n cap) n) (hb : Below w.heap.size w w') (hrow : Row w' R 47 [.slice ao n cap, .int .i64 0]) (hR : w.heap.size ≤ R) : Rolls w' R ao n cap 0 := by
  refine ⟨hrow, Nat.zero_le _, h.keep hb, fun hn b o e => ?_⟩
  obtain ⟨ao', cap', e0, _, hc⟩ := h
  simp only [Value.slice.injEq, true_and] at e0
  obtain ⟨rfl, rfl⟩ := e0
  obtain ⟨b2, off2, x2, e2, _, _, h4⟩ := hc 0 hn
  rw [e] at e2
  simp only [Option.some.injEq, Addr.mk.injEq, and_true] at e2
  obtain ⟨rfl, rfl⟩ := e2
  have := World.block_lt_of_cell? _ _ h4
  simp at this
  omega

end Go.Proofs.YtblhmeidbjigaabGreatDoor

/- A program without slots out of raw numbers, of lo to hi registers, with at most ops operations in a block. -/
set_option linter.unusedSimpArgs false
set_option linter.unusedVariables false
namespace Go.Proofs.YtblhmeidbjigaabGreatDoor
open Go.RowKit

set_option maxRecDepth 100000 in
set_option maxHeartbeats 4000000 in
theorem blockN_cps (R : Nat) (ao : Option Addr) (n cap k : Nat) (ops most regs slots nb : Int) (w : World) (h : Rolls w R ao n cap k) (hre : 1 ≤ regs ∧ regs ≤ 8) (hsl : 0 ≤ slots ∧ slots ≤ 8) (hop : 0 ≤ ops ∧ ops ≤ 12) (hmo : 1 ≤ most ∧ most ≤ 15) (hms : most ≤ 13 ∨ 1 ≤ slots) (hnb : 1 ≤ nb ∧ nb ≤ 6) (Post : Ending → World → Prop)
    (hp : ∀ sv l a b c d k' w', blockGood regs slots nb ⟨l, ⟨a, b, c, d⟩⟩ = true → Hid ((l.length : Int) ≤ ops) → w'.ownsRow w.heap.size 36 4 sv l.length (opCells l) → Rolls w' R ao n cap k' → Keep (fun g => g = R) w w' → Post (.returned (.agg #[sv, .int .i64 a, .int .i64 b, .int .i64 c, .int .i64 d])) w') :
    Calls Tryz.prog 30 #[.pointer (some ⟨R, 0, none⟩), .int .i64 ops, .int .i64 most, .int .i64 regs, .int .i64 slots, .int .i64 nb] w Post := by
  obtain ⟨i0, ii, iz0, iz1, iz2⟩ := info_parts Tryz.infoOp
  have hRw := h.row.lt
  have hA0 : Row ((w.alloc (.cells #[.slice none 0 0, .int .i64 0, .int .i64 0, .int .i64 0, .int .i64 0] 42)).alloc (.cells #[.slice none 0 0, .int .i64 0, .int .i64 0, .int .i64 0, .int .i64 0] 42)) w.heap.size 42 zBlk5 := by
    have q : Row (w.alloc (.cells #[.slice none 0 0, .int .i64 0, .int .i64 0, .int .i64 0, .int .i64 0] 42)) w.heap.size 42 zBlk5 := heap_alloc_new w _
    exact q.alloc _
  have hB0 : Row ((w.alloc (.cells #[.slice none 0 0, .int .i64 0, .int .i64 0, .int .i64 0, .int .i64 0] 42)).alloc (.cells #[.slice none 0 0, .int .i64 0, .int .i64 0, .int .i64 0, .int .i64 0] 42)) (w.heap.size + 1) 42 [.slice none 0 0, .int .i64 0, .int .i64 0, .int .i64 0, .int .i64 0] := heap_alloc2_new w _ _
  go_enter Tryz.func30, Tryz.ntmps30
  go_wp2_with fail
  refine next_cps R ao n cap k (ops + 1) _ (h.keep (((Below.refl _ _).alloc (Nat.le_refl _) _).alloc (by simp) _)) (by omega) _ ?_
  intro c k1 w1 hc0 hc3 hr1 hk1 hz1
  have hA := hA0.kept hk1 (by omega)
  have hB := hB0.kept hk1 (by omega)
  have hk01 : Keep (fun g => g = R) w w1 := (((Keep.refl _ _).alloc _).alloc _).trans hk1
  simp only [World.size_alloc] at hz1
  have hz1' : w.heap.size + 2 ≤ w1.heap.size := by omega
  clear hA0 hB0 hz1 hk1
  go_wp2
  go_loopw [15] (fun i wr => ∃ (j : Nat) (sv : Value) (l : List OpD) (kk : Nat), j ≤ c.toNat ∧ i = .int .i64 j ∧ Hid (l.length = j) ∧ Hid (opsGood regs slots l = true) ∧ Row wr w.heap.size 42 zBlk5 ∧ Row wr (w.heap.size + 1) 42 [sv, .int .i64 0, .int .i64 0, .int .i64 0, .int .i64 0] ∧
      wr.ownsRow (w.heap.size + 2) 36 4 sv j (opCells l) ∧ Rolls wr R ao n cap kk ∧ Keep (fun g => g = R) w wr ∧ w.heap.size + 2 ≤ wr.heap.size)
    (fun i _ => c.toNat - (intOf i).toNat)
  case atStart => exact ⟨0, .slice none 0 0, [], k1, Nat.zero_le _, rfl, rfl, rfl, hA, hB, World.ownsRow_nil _ _ _ _, hr1, hk01, hz1'⟩
  case round =>
    clear hA hB hr1 hk01 hz1' w1
    obtain ⟨j, sv, l, kk, hj, rfl, hll, hlg, hA, hB, hown, hro, hke, hzz⟩ := hrel
    obtain ⟨lo, lc, rfl⟩ := owns_slice hown
    by_cases hlt : (j : Int) < c
    · go_wp2_with fail
      refine op_cps R ao n cap kk most regs slots _ hro hre hsl hmo hms _ ?_
      intro a b c' d k2 w2 hg hr2 hk2
      have hA2 := hA.kept hk2 (by omega)
      have hB2 := hB.kept hk2 (by omega)
      have own2 := owns_keep hown hk2 (fun g hg => by omega)
      have hke2 := hke.trans hk2
      have hz2 := hk2.size
      have hzl : w.heap.size + 1 < w2.heap.size := by omega
      have hzq : w.heap.size + 2 ≤ w2.heap.size := by omega
      have b0 := hB2.cell (i := 0) rfl
      have HX : Hid (opsGood regs slots (l ++ [⟨a, b, c', d⟩]) = true) := by
        show opsGood _ _ _ = true
        have := hlg.out
        simp only [opsGood, List.all_append, List.all_cons, List.all_nil, Bool.and_true, Bool.and_eq_true] at this ⊢
        exact ⟨this, hg⟩
      clear hown hro hke hzz hA hB hk2 hg hlg
      go_wp2_with (at_builtin; refine wpList_append_own _ rfl _ _ 34 rfl (w.heap.size + 2) 36 i0 (.agg #[.int .i64 0, .int .i64 0, .int .i64 0, .int .i64 0]) 4 32 Tryz.underlying34 ii iz0 iz1 iz2 rfl (by decide) _ _ _ rfl ((own2.alloc _).alloc _) ⟨w2.heap.size + 1, 0, none⟩ 1 1 [.int .i64 a, .int .i64 b, .int .i64 c', .int .i64 d] rfl rfl ?c1 four_one ?c3 ?c4 ?c5 ?_)
      case c1 => simpa using four_new (w2.alloc _) _ _ _ _ _
      case c3 => unfold maxLen; omega
      case c4 => omega
      case c5 => first | omega | (simp; omega)
      intro v' w3 hown' hgrow _
      rw [← opCells_snoc] at hown'
      have hb2 := ((((Below.refl (w.heap.size + 2) w2).alloc hzq _).alloc (by simp; omega) _).grown hgrow (by simp; omega) (fun g hg => (own2.lt g hg).1))
      have hA3 := hA2.below hb2 (by omega)
      have hB3 := hB2.below hb2 (by omega)
      have hr3 := hr2.below h hb2 (by omega)
      have hke3 := hke2.below hb2 (by omega)
      have hz3 := hb2.size
      have y0 := hB3.cell (i := 0) rfl
      have yf := hB3.frozen 0
      obtain ⟨lo', lc', rfl⟩ := owns_slice hown'
      have hB4 := hB3.set 0 (.slice lo' (j + 1) lc')
      have hA4 := hA3.unset (a := ⟨w.heap.size + 1, 0, none⟩) (by show w.heap.size ≠ w.heap.size + 1; omega) (.slice lo' (j + 1) lc')
      have hr4 := hr3.set h (g := w.heap.size + 1) (i := 0) (by omega) (.slice lo' (j + 1) lc')
      have hke4 := hke3.setCell (p := ⟨w.heap.size + 1, 0, none⟩) (.inr (by show w.heap.size ≤ w.heap.size + 1; omega)) (.slice lo' (j + 1) lc')
      have own4 := ownsRow_setCell_below hown' (a := ⟨w.heap.size + 1, 0, none⟩) (by show w.heap.size + 1 < w.heap.size + 2; omega) (.slice lo' (j + 1) lc')
      clear hgrow hown' hb2 hA2 hB2 own2 hr2 hke2 b0 hA3 hB3 hr3 hke3
      go_wp2
      go_roundw
      case rel => exact ⟨j + 1, _, l ++ [⟨a, b, c', d⟩], k2, by omega, by go_num, by show List.length _ = _; have := hll.out; simp; exact this, HX, hA4, hB4, own4, hr4, hke4, by simp; omega⟩
      case measure => simp [intOf]; omega
    · obtain rfl : j = c.toNat := by omega
      go_wp2_with fail
      refine end_cps R ao n cap kk regs nb _ hro hre hnb _ ?_
      intro a b c' d k2 w2 hg hr2 hk2
      have hA2 := hA.kept hk2 (by omega)
      have hB2 := hB.kept hk2 (by omega)
      have own2 := owns_keep hown hk2 (fun g hg => by omega)
      have hke2 := hke.trans hk2
      have b0 := hB2.cell (i := 0) rfl
      have b1 := hB2.cell (i := 1) rfl
      have b2 := hB2.cell (i := 2) rfl
      have b3 := hB2.cell (i := 3) rfl
      have b4 := hB2.cell (i := 4) rfl
      have g1 := hB2.frozen 1
      have g2 := hB2.frozen 2
      have g3 := hB2.frozen 3
      have g4 := hB2.frozen 4
      have a0 := hA2.cell (i := 0) rfl
      have a1 := hA2.cell (i := 1) rfl
      have a2 := hA2.cell (i := 2) rfl
      have a3 := hA2.cell (i := 3) rfl
      have a4 := hA2.cell (i := 4) rfl
      have f0 := hA2.frozen 0
      have f1 := hA2.frozen 1
      have f2 := hA2.frozen 2
      have f3 := hA2.frozen 3
      have f4 := hA2.frozen 4
      have hgood : blockGood regs slots nb ⟨l, ⟨a, b, c', d⟩⟩ = true := by
        have e1 := hll.out
        simp only [blockGood, Bool.and_eq_true, decide_eq_true_eq]
        exact ⟨⟨by show l.length ≤ 12; omega, hlg.out⟩, hg⟩
      have hfin := hp (.slice lo c.toNat lc) l a b c' d k2 (set4 ((set4 w2 (w.heap.size + 1) 1 a b c' d).setCell ⟨w.heap.size, 0, none⟩ (.slice lo c.toNat lc)) w.heap.size 1 a b c' d) hgood (by have := hll.out; show (l.length : Int) ≤ ops; omega)
        (by
          rw [hll.out]
          refine owns_base (base := w.heap.size + 2) ?_ (by omega)
          exact (ownsRow_setCell_below · (by simp) _) ((ownsRow_setCell_below · (by simp) _) ((ownsRow_setCell_below · (by simp) _) ((ownsRow_setCell_below · (by simp) _) ((ownsRow_setCell_below · (by simp) _) ((ownsRow_setCell_below · (by simp) _) ((ownsRow_setCell_below · (by simp) _) ((ownsRow_setCell_below · (by simp) _) ((ownsRow_setCell_below · (by simp) _) own2)))))))))
        (((((((((hr2.set h (by omega) _).set h (by omega) _).set h (by omega) _).set h (by omega) _).set h (by omega) _).set h (by omega) _).set h (by omega) _).set h (by omega) _).set h (by omega) _)
        (((hke2.set4 (.inr (by omega)) _ _ _ _).setCell (.inr (by simp)) _).set4 (.inr (by omega)) _ _ _ _)
      have HF : Hid (Post (.returned (.agg #[.slice lo c.toNat lc, .int .i64 a, .int .i64 b, .int .i64 c', .int .i64 d])) (set4 ((set4 w2 (w.heap.size + 1) 1 a b c' d).setCell ⟨w.heap.size, 0, none⟩ (.slice lo c.toNat lc)) w.heap.size 1 a b c' d)) := hfin
      clear hfin hp hgood hA hB hown hro hke hA2 hB2 own2 hke2 hk2 hr2 h
      go_wp2
      exact bodyPost_ret (v := .agg #[.slice lo c.toNat lc, .int .i64 a, .int .i64 b, .int .i64 c', .int .i64 d]) (by simp [results, Tryz.results30, go_sem, a0, a1, a2, a3, a4]) rfl HF.out

set_option maxRecDepth 100000 in
set_option maxHeartbeats 8000000 in
theorem built_cps (ao : Option Addr) (n cap : Nat) (lo hi ops : Int) (w : World) (hlo : 1 ≤ lo ∧ lo ≤ hi) (hhi : hi ≤ 8) (hop : 0 ≤ ops ∧ ops ≤ 12) (hraw : RdInts w (.slice ao n cap) n) (Post : Ending → World → Prop)
    (hp : ∀ a0 a1 a2 v bv w', progGood ⟨a0, a1, a2, 0, bdat bv⟩ = true → lo ≤ a1 → a1 ≤ hi → (∀ x ∈ bv, (x.1.ops.length : Int) ≤ ops) → OwnBlocks w' w.heap.size v bv → Below w.heap.size w w' → Post (.returned (.agg #[.int .i64 a0, .int .i64 a1, .int .i64 a2, .int .i64 0, v])) w') :
    Calls Tryz.prog 10 #[.slice ao n cap, .int .i64 lo, .int .i64 hi, .int .i64 ops] w Post := by
  obtain ⟨i0, ii, iz0, iz1, iz2⟩ := info_parts Tryz.infoBlk
  have rA : Row (((w.alloc (.cells #[.int .i64 0, .int .i64 0, .int .i64 0, .int .i64 0, .slice none 0 0] 25)).alloc (.cells #[.slice ao n cap, .int .i64 0] 47)).alloc (.cells #[.int .i64 0, .int .i64 0, .int .i64 0, .int .i64 0, .slice none 0 0] 25)) w.heap.size 25 [.int .i64 0, .int .i64 0, .int .i64 0, .int .i64 0, .slice none 0 0] := by
    have q : Row (w.alloc (.cells #[.int .i64 0, .int .i64 0, .int .i64 0, .int .i64 0, .slice none 0 0] 25)) w.heap.size 25 [.int .i64 0, .int .i64 0, .int .i64 0, .int .i64 0, .slice none 0 0] := heap_alloc_new w _
    exact (q.alloc _).alloc _
  have rR : Row (((w.alloc (.cells #[.int .i64 0, .int .i64 0, .int .i64 0, .int .i64 0, .slice none 0 0] 25)).alloc (.cells #[.slice ao n cap, .int .i64 0] 47)).alloc (.cells #[.int .i64 0, .int .i64 0, .int .i64 0, .int .i64 0, .slice none 0 0] 25)) (w.heap.size + 1) 47 [.slice ao n cap, .int .i64 0] := by
    have q : Row ((w.alloc (.cells #[.int .i64 0, .int .i64 0, .int .i64 0, .int .i64 0, .slice none 0 0] 25)).alloc (.cells #[.slice ao n cap, .int .i64 0] 47)) (w.heap.size + 1) 47 [.slice ao n cap, .int .i64 0] := heap_alloc2_new w _ _
    exact q.alloc _
  have rP : Row (((w.alloc (.cells #[.int .i64 0, .int .i64 0, .int .i64 0, .int .i64 0, .slice none 0 0] 25)).alloc (.cells #[.slice ao n cap, .int .i64 0] 47)).alloc (.cells #[.int .i64 0, .int .i64 0, .int .i64 0, .int .i64 0, .slice none 0 0] 25)) (w.heap.size + 2) 25 [.int .i64 0, .int .i64 0, .int .i64 0, .int .i64 0, .slice none 0 0] := by
    have q := heap_alloc2_new (w.alloc (.cells #[.int .i64 0, .int .i64 0, .int .i64 0, .int .i64 0, .slice none 0 0] 25)) (.cells #[.slice ao n cap, .int .i64 0] 47) (.cells #[.int .i64 0, .int .i64 0, .int .i64 0, .int .i64 0, .slice none 0 0] 25)
    simp only [World.size_alloc] at q
    exact q
  have hb0 : Below w.heap.size w (((w.alloc (.cells #[.int .i64 0, .int .i64 0, .int .i64 0, .int .i64 0, .slice none 0 0] 25)).alloc (.cells #[.slice ao n cap, .int .i64 0] 47)).alloc (.cells #[.int .i64 0, .int .i64 0, .int .i64 0, .int .i64 0, .slice none 0 0] 25)) := (((Below.refl w.heap.size w).alloc (Nat.le_refl _) _).alloc (by simp) _).alloc (by simp; omega) _
  have ro0 := Rolls.fresh hraw hb0 rR (by omega)
  have ke : Keep (fun g => g = w.heap.size + 1) w (((w.alloc (.cells #[.int .i64 0, .int .i64 0, .int .i64 0, .int .i64 0, .slice none 0 0] 25)).alloc (.cells #[.slice ao n cap, .int .i64 0] 47)).alloc (.cells #[.int .i64 0, .int .i64 0, .int .i64 0, .int .i64 0, .slice none 0 0] 25)) := (((Keep.refl _ _).alloc _).alloc _).alloc _
  clear rR hb0
  go_enter Tryz.func10, Tryz.ntmps10
  go_wp2_with fail
  refine next_cps (w.heap.size + 1) ao n cap _ (hi - lo + 1) _ ro0 (by omega) _ ?_
  intro x0 k0 w0 xa0 xb0 hr hk hzz
  have ro := hr
  have rA := rA.kept hk (by omega)
  have rP := rP.kept hk (by omega)
  have ke := ke.trans hk
  clear hr hk
  have pc := rP.cell (i := 1) rfl
  have pf := rP.frozen 1
  have ro1 := ro.away hraw (g := (w.heap.size + 2)) (i := 1) (by omega) (by omega) (.int .i64 (lo + x0))
  have rA := rA.unset (a := ⟨(w.heap.size + 2), 1, none⟩) (by show w.heap.size ≠ w.heap.size + 2; omega) (.int .i64 (lo + x0))
  have rP := rP.set 1 (.int .i64 (lo + x0))
  have ke := ke.setCell (p := ⟨(w.heap.size + 2), 1, none⟩) (.inr (by show w.heap.size ≤ w.heap.size + 2; omega)) (.int .i64 (lo + x0))
  clear ro
  have p1 := rP.cell (i := 1) (u := .int .i64 (lo + x0)) rfl
  go_wp2_with fail
  refine next_cps (w.heap.size + 1) ao n cap _ (lo + x0 + 1) _ ro1 (by omega) _ ?_
  intro x1 k1 w1 xa1 xb1 hr hk hzz
  have ro := hr
  have rA := rA.kept hk (by omega)
  have rP := rP.kept hk (by omega)
  have ke := ke.trans hk
  clear hr hk
  clear p1
  have pc := rP.cell (i := 0) rfl
  have pf := rP.frozen 0
  have ro2 := ro.away hraw (g := (w.heap.size + 2)) (i := 0) (by omega) (by omega) (.int .i64 x1)
  have rA := rA.unset (a := ⟨(w.heap.size + 2), 0, none⟩) (by show w.heap.size ≠ w.heap.size + 2; omega) (.int .i64 x1)
  have rP := rP.set 0 (.int .i64 x1)
  have ke := ke.setCell (p := ⟨(w.heap.size + 2), 0, none⟩) (.inr (by show w.heap.size ≤ w.heap.size + 2; omega)) (.int .i64 x1)
  clear ro
  go_wp2_with fail
  refine next_cps (w.heap.size + 1) ao n cap _ 9 _ ro2 (by omega) _ ?_
  intro x2 k2 w2 xa2 xb2 hr hk hzz
  have ro := hr
  have rA := rA.kept hk (by omega)
  have rP := rP.kept hk (by omega)
  have ke := ke.trans hk
  clear hr hk
  have pc := rP.cell (i := 2) rfl
  have pf := rP.frozen 2
  have ro3 := ro.away hraw (g := (w.heap.size + 2)) (i := 2) (by omega) (by omega) (.int .i64 x2)
  have rA := rA.unset (a := ⟨(w.heap.size + 2), 2, none⟩) (by show w.heap.size ≠ w.heap.size + 2; omega) (.int .i64 x2)
  have rP := rP.set 2 (.int .i64 x2)
  have ke := ke.setCell (p := ⟨(w.heap.size + 2), 2, none⟩) (.inr (by show w.heap.size ≤ w.heap.size + 2; omega)) (.int .i64 x2)
  clear ro
  go_wp2_with fail
  refine next_cps (w.heap.size + 1) ao n cap _ 6 _ ro3 (by omega) _ ?_
  intro x4 k4 w4 xa4 xb4 hr hk hz4
  have ro := hr
  have rA := rA.kept hk (by omega)
  have rP := rP.kept hk (by omega)
  have ke := ke.trans hk
  have hz : w.heap.size + 3 ≤ w4.heap.size := by have := rP.lt; omega
  clear hr hk ro3
  go_wp2
  go_loopw [12] (fun i wr => ∃ (j : Nat) (v : Value) (bv : List (BlockD × Value)) (kk : Nat), (j : Int) ≤ 1 + x4 ∧ i = .int .i64 j ∧ Hid (bv.length = j) ∧ Hid (∀ x ∈ bv, blockGood (lo + x0) 0 (1 + x4) x.1 = true ∧ (x.1.ops.length : Int) ≤ ops) ∧ Row wr w.heap.size 25 [.int .i64 0, .int .i64 0, .int .i64 0, .int .i64 0, .slice none 0 0] ∧ Row wr (w.heap.size + 2) 25 [.int .i64 x1, .int .i64 (lo + x0), .int .i64 x2, .int .i64 0, v] ∧
      OwnBlocks wr (w.heap.size + 3) v bv ∧ Rolls wr (w.heap.size + 1) ao n cap kk ∧ Keep (fun g => g = w.heap.size + 1) w wr ∧ w.heap.size + 3 ≤ wr.heap.size)
    (fun i _ => (1 + x4).toNat - (intOf i).toNat)
  case atStart => exact ⟨0, .slice none 0 0, [], _, by omega, rfl, rfl, (fun x hx => by cases hx), rA, rP, ownBlocks_nil _ _, ro, ke, hz⟩
  case round =>
    clear rA rP ke ro hz hz4 w4
    obtain ⟨j, v, bv, kk, hj, rfl, hvl, hbg, rA, rP, own, ro, ke, hz⟩ := hrel
    obtain ⟨bo, bc, rfl⟩ := owns_slice own.row
    have p1 := rP.cell (i := 1) rfl
    by_cases hlt : (j : Int) < 1 + x4
    · go_wp2_with fail
      refine blockN_cps (w.heap.size + 1) ao n cap kk ops 13 (lo + x0) 0 (1 + x4) _ ro (by omega) (by omega) hop (by omega) (.inl (by omega)) (by omega) _ ?_
      intro sv l a b c d k2 w2 hg hgl hsv hr2 hk2
      obtain ⟨so, sc, rfl⟩ := owns_slice hsv
      have rA2 := rA.kept hk2 (by omega)
      have rP2 := rP.kept hk2 (by omega)
      have own2 := own.apartFrom hk2 (fun g hg => by omega)
      have ke2 := ke.trans hk2
      have hz2 := hk2.size
      have hzl : w.heap.size + 2 < w2.heap.size := by omega
      have hzq : w.heap.size + 3 ≤ w2.heap.size := by omega
      have p4 := rP2.cell (i := 4) rfl
      have hfree : ∀ y ∈ bv, ∀ g, y.2.ownBlock = some g → (Value.slice so l.length sc).ownBlock ≠ some g := by
        intro y hy g hg e
        have q1 := ((own.each y hy).lt g hg).2
        have q2 := (hsv.lt g e).1
        omega
      have HG : Hid (∀ x ∈ bv ++ [(⟨l, ⟨a, b, c, d⟩⟩, Value.slice so l.length sc)], blockGood (lo + x0) 0 (1 + x4) x.1 = true ∧ (x.1.ops.length : Int) ≤ ops) := by
        intro x hx
        rcases List.mem_append.1 hx with hx | hx
        · exact hbg.out x hx
        · simp at hx; subst hx; exact ⟨hg, hgl.out⟩
      have hsv2 := owns_base hsv (show w.heap.size + 3 ≤ _ by omega)
      clear rA rP own ke hk2 p1 ro hsv hg hgl hbg
      go_wp2_with (at_builtin; refine wpList_append_own _ rfl _ _ 23 rfl (w.heap.size + 3) 42 i0 (.agg #[.slice none 0 0, .int .i64 0, .int .i64 0, .int .i64 0, .int .i64 0]) 5 56 Tryz.underlying23 ii iz0 iz1 iz2 rfl (by decide) _ _ _ rfl ((own2.row.alloc _).alloc _) ⟨w2.heap.size + 1, 0, none⟩ 1 1 [.slice so l.length sc, .int .i64 a, .int .i64 b, .int .i64 c, .int .i64 d] rfl rfl ?c113 five_one ?c313 ?c413 ?c513 ?_)
      case c113 => simpa using five_new (w2.alloc _) _ _ _ _ _ _
      case c313 => have := hvl.out; unfold maxLen; omega
      case c413 => have := hvl.out; omega
      case c513 => first | omega | (simp; omega)
      intro v' w3 hown' hgrow _
      have own3 : OwnBlocks w3 (w.heap.size + 3) v' (bv ++ [(⟨l, ⟨a, b, c, d⟩⟩, .slice so l.length sc)]) := ((own2.alloc _).alloc _).snoc ((hsv2.alloc _).alloc _) hfree hgrow hown'
      have hb2 := ((((Below.refl (w.heap.size + 3) w2).alloc hzq _).alloc (by simp; omega) _).grown hgrow (by simp; omega) (fun g hg => (own2.row.lt g hg).1))
      have rA3 := rA2.below hb2 (by omega)
      have rP3 := rP2.below hb2 (by omega)
      have ro3 := hr2.belowB hraw hb2 (by omega) (by omega)
      have ke3 := ke2.below hb2 (by omega)
      have hz3 := hb2.size
      have y4 := rP3.cell (i := 4) rfl
      have yf := rP3.frozen 4
      obtain ⟨bo', bc', hv'⟩ := owns_slice own3.row
      rw [List.length_append] at hv'
      simp only [List.length_cons, List.length_nil, Nat.zero_add] at hv'
      subst hv'
      have rP4 := rP3.set 4 (.slice bo' (bv.length + 1) bc')
      have rA4 := rA3.unset (a := ⟨(w.heap.size + 2), 4, none⟩) (by show w.heap.size ≠ w.heap.size + 2; omega) (.slice bo' (bv.length + 1) bc')
      have ro4 := ro3.away hraw (g := (w.heap.size + 2)) (i := 4) (by omega) (by omega) (.slice bo' (bv.length + 1) bc')
      have ke4 := ke3.setCell (p := ⟨(w.heap.size + 2), 4, none⟩) (.inr (by show w.heap.size ≤ w.heap.size + 2; omega)) (.slice bo' (bv.length + 1) bc')
      have own4 := own3.set (a := ⟨(w.heap.size + 2), 4, none⟩) (by show w.heap.size + 2 < w.heap.size + 3; omega) (.slice bo' (bv.length + 1) bc')
      clear hgrow hown' hb2 rA2 rP2 own2 hr2 ke2 p4 rA3 rP3 ro3 ke3 own3 hsv2 hfree
      go_wp2
      go_roundw
      case rel => exact ⟨j + 1, _, _, k2, by omega, by go_num, by show List.length _ = _; have := hvl.out; simp; exact this, HG, rA4, rP4, own4, ro4, ke4, by simp; omega⟩
      case measure => simp [intOf]; omega
    · have hje : (j : Int) = 1 + x4 := by omega
      have b0 := rP.cell (i := 0) rfl
      have b3 := rP.cell (i := 3) rfl
      have b2 := rP.cell (i := 2) rfl
      have b4 := rP.cell (i := 4) rfl
      have a0 := rA.cell (i := 0) rfl
      have a1 := rA.cell (i := 1) rfl
      have a2 := rA.cell (i := 2) rfl
      have a3 := rA.cell (i := 3) rfl
      have a4 := rA.cell (i := 4) rfl
      have f0 := rA.frozen 0
      have f1 := rA.frozen 1
      have f2 := rA.frozen 2
      have f3 := rA.frozen 3
      have f4 := rA.frozen 4
      have hgood : progGood ⟨x1, lo + x0, x2, 0, bdat bv⟩ = true := by
        have e := hvl.out
        simp only [progGood, blocksGood, Bool.and_eq_true, decide_eq_true_eq, List.all_eq_true, bdat_length]
        refine ⟨⟨⟨⟨⟨by omega, by omega⟩, by omega⟩, by omega⟩, by omega⟩, ?_⟩
        intro x hx
        obtain ⟨y, hy, rfl⟩ := List.mem_map.1 hx
        have := (hbg.out y hy).1
        rw [e, hje]
        exact this
      have hfin := hp x1 (lo + x0) x2 (.slice bo bv.length bc) bv (((((wr.setCell ⟨w.heap.size, 0, none⟩ (.int .i64 x1)).setCell ⟨w.heap.size, 1, none⟩ (.int .i64 (lo + x0))).setCell ⟨w.heap.size, 2, none⟩ (.int .i64 x2)).setCell ⟨w.heap.size, 3, none⟩ (.int .i64 0)).setCell ⟨w.heap.size, 4, none⟩ (.slice bo bv.length bc)) hgood (by omega) (by omega) (fun x hx => (hbg.out x hx).2)
        ((((((own.set (by simp) _).set (by simp) _).set (by simp) _).set (by simp) _).set (by simp) _).base (by omega))
        ((((((ke.setCell (.inr (by simp)) _).setCell (.inr (by simp)) _).setCell (.inr (by simp)) _).setCell (.inr (by simp)) _).setCell (.inr (by simp)) _).toBelow (Nat.le_refl _) (fun g hg => by omega))
      have HF : Hid (Post (.returned (.agg #[.int .i64 x1, .int .i64 (lo + x0), .int .i64 x2, .int .i64 0, .slice bo bv.length bc])) (((((wr.setCell ⟨w.heap.size, 0, none⟩ (.int .i64 x1)).setCell ⟨w.heap.size, 1, none⟩ (.int .i64 (lo + x0))).setCell ⟨w.heap.size, 2, none⟩ (.int .i64 x2)).setCell ⟨w.heap.size, 3, none⟩ (.int .i64 0)).setCell ⟨w.heap.size, 4, none⟩ (.slice bo bv.length bc))) := hfin
      clear hfin hp hgood own ro ke rA rP
      go_wp2
      exact bodyPost_ret (v := .agg #[.int .i64 x1, .int .i64 (lo + x0), .int .i64 x2, .int .i64 0, .slice bo bv.length bc]) (by simp [results, Tryz.results10, go_sem, a0, a1, a2, a3, a4]) rfl HF.out

end Go.Proofs.YtblhmeidbjigaabGreatDoor

/- A hint out of raw numbers. -/
set_option linter.unusedSimpArgs false
set_option linter.unusedVariables false
namespace Go.Proofs.YtblhmeidbjigaabGreatDoor
open Go.RowKit

theorem pairs_one (a b : Int) : ∀ u ∈ [Value.int .i64 a, Value.int .i64 b], u.oneCell' = true := by
  intro u hu; simp at hu; rcases hu with rfl | rfl <;> rfl

end Go.Proofs.YtblhmeidbjigaabGreatDoor

/- A block traps at the first of its marks that fails: pure. -/
set_option linter.unusedSimpArgs false
set_option linter.unusedVariables false
noncomputable section
namespace Go.Proofs.YtblhmeidbjigaabGreatDoor
open Go.RowKit Classical

/-- A mark: a cell's number, or two words that are divided. -/
inductive MD where
  | cell (u : TD)
  | div (u v : TD)

/-- The mark of the operation behind the first k ones, as it is before any is left out. -/
def rawMark (regs slots : Int) (names : List Int) (ops : List OpD) (k : Nat) : Option MD :=
  if (ops.getD k oz).kind = 11 then some (.div (behindT regs slots names ops k (ops.getD k oz).b) (behindT regs slots names ops k (ops.getD k oz).c))
  else if (ops.getD k oz).kind = 12 then some (.cell (behindT regs slots names ops k (ops.getD k oz).b))
  else if (ops.getD k oz).kind = 13 then some (.cell (behindT regs slots names ops k (ops.getD k oz).a))
  else none

/-- How a mark fails, worked out: 0: it does not. -/
def fails (r : EnvD) (data : Int) : MD → Int
  | .cell u => if 0 ≤ evW r u ∧ evW r u < data then 0 else 2
  | .div _ v => if evW r v = 0 then 3 else 0

/-- The first that fails. -/
def firstFail (r : EnvD) (data : Int) : List MD → Int
  | [] => 0
  | m :: l => if fails r data m ≠ 0 then fails r data m else firstFail r data l

theorem firstFail_snoc (r : EnvD) (data : Int) (l : List MD) (m : MD) : firstFail r data (l ++ [m]) = if firstFail r data l ≠ 0 then firstFail r data l else fails r data m := by
  induction l with
  | nil => simp only [List.nil_append, firstFail]; split <;> simp_all
  | cons x l ih =>
    simp only [List.cons_append, firstFail]
    by_cases h : fails r data x = 0
    · simp only [h, ne_eq, not_true_eq_false, if_false]; exact ih
    · simp only [ne_eq, h, not_false_eq_true, if_true]

theorem firstFail_mem {r : EnvD} {data : Int} {l : List MD} (h : firstFail r data l = 0) {m : MD} (hm : m ∈ l) : fails r data m = 0 := by
  induction l with
  | nil => cases hm
  | cons x l ih =>
    simp only [firstFail] at h
    by_cases hx : fails r data x = 0
    · simp only [hx, ne_eq, not_true_eq_false, if_false] at h
      rcases List.mem_cons.1 hm with rfl | hm
      · exact hx
      · exact ih h hm
    · simp only [ne_eq, hx, not_false_eq_true, if_true] at h

/-- An operation traps as its mark fails. -/
theorem step_fails {r : EnvD} {regs slots data : Int} {names : List Int} {ops : List OpD} {k : Nat} {s : RunD} (h : Holds r regs slots data names ops k s) (hg : opsGood regs slots ops = true) (hk : k < ops.length) (hz : Sized s regs data slots) (ht : s.trap = 0) :
    (stepOp s (ops.getD k oz)).trap = match rawMark regs slots names ops k with | some m => fails r data m | none => 0 := by
  have hf := good_fields (opsGood_getD hg hk)
  obtain ⟨zr, zc, zs⟩ := hz
  unfold rawMark
  generalize ops.getD k oz = o at *
  by_cases h11 : o.kind = 11
  · have hc : (0 ≤ o.c ∧ o.c < regs) := by omega
    rw [if_pos h11]
    simp only [fails]
    rw [h.reg _ hc.1 hc.2]
    unfold stepOp
    rw [if_neg (by omega), if_neg (by omega), if_neg (by omega), if_neg (by omega), if_neg (by omega), if_neg (by omega), if_pos h11]
    split
    · rfl
    · exact ht
  rw [if_neg h11]
  by_cases h12 : o.kind = 12
  · have hb : (0 ≤ o.b ∧ o.b < regs) := by omega
    rw [if_pos h12]
    simp only [fails]
    rw [h.reg _ hb.1 hb.2]
    unfold stepOp
    rw [if_neg (by omega), if_neg (by omega), if_pos h12, zc]
    split
    · exact ht
    · rfl
  rw [if_neg h12]
  by_cases h13 : o.kind = 13
  · have ha : (0 ≤ o.a ∧ o.a < regs) := by omega
    rw [if_pos h13]
    simp only [fails]
    rw [h.reg _ ha.1 ha.2]
    unfold stepOp
    rw [if_neg (by omega), if_neg (by omega), if_neg (by omega), if_pos h13, zc]
    split
    · exact ht
    · rfl
  rw [if_neg h13]
  simp only
  unfold stepOp
  repeat' split
  all_goals first | exact ht | omega

/-- The marks of the first k operations, none left out. -/
def rawMarks (regs slots : Int) (names : List Int) (ops : List OpD) : Nat → List MD
  | 0 => []
  | k + 1 => match rawMark regs slots names ops k with
    | some m => rawMarks regs slots names ops k ++ [m]
    | none => rawMarks regs slots names ops k

/-- A run of a block ends as the first of its marks that fails says. -/
theorem block_fails {r : EnvD} (hw : r.wide) {regs slots data : Int} {names : List Int} {ops : List OpD} {s : RunD} (h : Holds r regs slots data names ops 0 s) (hr : 0 ≤ regs ∧ regs ≤ 100) (hs : 0 ≤ slots ∧ slots ≤ 100) (hn : ∀ x ∈ names, x ≤ 1000) (hg : opsGood regs slots ops = true)
    (hz : Sized s regs data slots) (ht : s.trap = 0) : ∀ k, k ≤ ops.length → (doOps (ops.take k) s).trap = firstFail r data (rawMarks regs slots names ops k) := by
  intro k
  induction k with
  | zero => intro _; exact ht
  | succ k ih =>
    intro hk
    have ih := ih (by omega)
    have e := doOps_take (show k < ops.length by omega) s
    have ho : (⟨okind ops k, oa ops k, ob ops k, oc ops k⟩ : OpD) = ops.getD k oz := rfl
    rw [ho] at e
    rw [e]
    by_cases h0 : (doOps (ops.take k) s).trap = 0
    · rw [if_pos h0]
      have hh := h.all hw hr hs hn hg hz k (by omega) h0
      rw [step_fails hh hg (by omega) (hz.doOps _) h0]
      rw [h0] at ih
      simp only [rawMarks]
      cases hm : rawMark regs slots names ops k with
      | none => exact ih
      | some m => simp only; rw [firstFail_snoc, if_neg (by simp [← ih])]
    · rw [if_neg h0]
      simp only [rawMarks]
      cases hm : rawMark regs slots names ops k with
      | none => exact ih
      | some m => simp only; rw [firstFail_snoc, if_pos (by rw [← ih]; exact h0)]; exact ih

/-- A mark that is left out for its numbers. -/
def idle (data : Int) : MD → Bool
  | .cell u => match u.isNum with | some n => decide (0 ≤ n ∧ n < data) | none => false
  | .div u v => match u.isNum, v.isNum with | some _, some y => decide (y ≠ 0) | _, _ => false

theorem idle_fails {r : EnvD} {data : Int} {m : MD} (h : idle data m = true) : fails r data m = 0 := by
  cases m with
  | cell u =>
    simp only [idle] at h
    split at h
    · rename_i n hn
      simp only [decide_eq_true_eq] at h
      simp only [fails]
      rw [isNum_some hn, ev_num, if_pos h]
    · cases h
  | div u v =>
    simp only [idle] at h
    split at h
    · rename_i a y ha hy
      simp only [decide_eq_true_eq] at h
      simp only [fails]
      rw [isNum_some hy, ev_num, if_neg h]
    · cases h

/-- P11: the marks of the first k operations. -/
def marksD (regs slots data : Int) (names : List Int) (ops : List OpD) : Nat → List MD
  | 0 => []
  | k + 1 => match rawMark regs slots names ops k with
    | some m => if idle data m = true ∨ m ∈ marksD regs slots data names ops k then marksD regs slots data names ops k else marksD regs slots data names ops k ++ [m]
    | none => marksD regs slots data names ops k

/-- Marks that are left out never fail first. -/
theorem marks_fail (r : EnvD) (regs slots data : Int) (names : List Int) (ops : List OpD) (k : Nat) : firstFail r data (marksD regs slots data names ops k) = firstFail r data (rawMarks regs slots names ops k) := by
  induction k with
  | zero => rfl
  | succ k ih =>
    simp only [marksD, rawMarks]
    cases hm : rawMark regs slots names ops k with
    | none => exact ih
    | some m =>
      simp only
      rw [firstFail_snoc, ← ih]
      split
      · rename_i h
        split
        · rfl
        · rename_i h0
          have h0' : firstFail r data (marksD regs slots data names ops k) = 0 := by simpa using h0
          rw [h0']
          rcases h with h | h
          · exact (idle_fails h).symm
          · exact (firstFail_mem h0' h).symm
      · rw [firstFail_snoc]

/-- A block's run ends with the kind of the first of its marks that fails; it goes on if none does. -/
theorem block_marks {r : EnvD} (hw : r.wide) {regs slots data : Int} {names : List Int} {ops : List OpD} {s : RunD} (h : Holds r regs slots data names ops 0 s) (hr : 0 ≤ regs ∧ regs ≤ 100) (hs : 0 ≤ slots ∧ slots ≤ 100) (hn : ∀ x ∈ names, x ≤ 1000) (hg : opsGood regs slots ops = true)
    (hz : Sized s regs data slots) (ht : s.trap = 0) : (doOps ops s).trap = firstFail r data (marksD regs slots data names ops ops.length) := by
  have := block_fails hw h hr hs hn hg hz ht ops.length (Nat.le_refl _)
  rw [List.take_length] at this
  rw [this, marks_fail]

end Go.Proofs.YtblhmeidbjigaabGreatDoor
