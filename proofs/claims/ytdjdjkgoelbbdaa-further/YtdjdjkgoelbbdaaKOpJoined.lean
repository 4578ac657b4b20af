/- An operation out of raw numbers. -/
import Derived.Test.YtdjdjkgoelbbdaaKEndJoined
set_option linter.unusedSimpArgs false
set_option linter.unusedVariables false
namespace Go.Proofs.Ytdjdjkgoelbbdaa
open Go.RowKit

set_option maxRecDepth 100000 in
set_option maxHeartbeats 4000000 in
theorem op_cps (R : Nat) (ao : Option Addr) (n cap k : Nat) (most regs slots : Int) (w : World) (h : Rolls w R ao n cap k) (hre : 1 ≤ regs ∧ regs ≤ 8) (hsl : 0 ≤ slots ∧ slots ≤ 8) (hmo : 1 ≤ most ∧ most ≤ 15) (hms : most ≤ 13 ∨ 1 ≤ slots) (Post : Ending → World → Prop)
    (hp : ∀ a b c d k' w', opGood regs slots ⟨a, b, c, d⟩ = true → Rolls w' R ao n cap k' → Keep (fun g => g = R) w w' → Post (.returned (.agg #[.int .i64 a, .int .i64 b, .int .i64 c, .int .i64 d])) w') :
    Calls Try.prog 76 #[.pointer (some ⟨R, 0, none⟩), .int .i64 most, .int .i64 regs, .int .i64 slots] w Post := by
  have hRw := h.row.lt
  have hA0 : Row (w.alloc (.cells #[.int .i64 0, .int .i64 0, .int .i64 0, .int .i64 0] 78)) w.heap.size 78 [.int .i64 0, .int .i64 0, .int .i64 0, .int .i64 0] := heap_alloc_new w _
  go_enter Try.func76, Try.ntmps76
  go_wp2_with fail
  refine next_cps R ao n cap k most _ (h.keep ((Below.refl _ _).alloc (Nat.le_refl _) _)) (by omega) _ ?_
  intro x k1 w1 hx0 hx3 hr1 hk1 hz1
  have hA := hA0.kept hk1 (by omega)
  simp only [World.size_alloc] at hz1
  have HZ : Hid (w1.heap.size = w.heap.size + 1) := hz1
  have hzl : w.heap.size < w1.heap.size := by omega
  have hRB : R < w1.heap.size := by omega
  clear hA0 hz1
  have hre' : 1 ≤ regs ∧ regs ≤ 1000 := by omega
  have hct : (1 : Int) ≤ 256 ∧ (256 : Int) ≤ 1000 := by omega
  obtain rfl | rfl | rfl | rfl | rfl | rfl | hxx : x = 0 ∨ x = 1 ∨ x = 11 ∨ x = 12 ∨ x = 13 ∨ x = 14 ∨ (2 ≤ x ∧ x ≤ 10) := by omega
  · have st : St w R ao n cap 78 w.heap.size w1.heap.size [.int .i64 1, .int .i64 0, .int .i64 0, .int .i64 0] (w1.alloc (.cells #[.int .i64 1, .int .i64 0, .int .i64 0, .int .i64 0] 78)) := St.start h hr1 hk1 hA HZ.out _
    obtain ⟨k0, hro0⟩ := st.rolls
    go_wp2_with fail
    refine next_cps R ao n cap k0 regs _ hro0 hre' _ ?_
    intro y0 kk0 v0 ya0 yb0 hr hk hzz
    have st := st.next hr hk
    have bc := st.rowB.cell (i := 1) rfl
    have bf := st.rowB.frozen 1
    have st' := st.store h 1 (.int .i64 y0)
    clear hr hk hzz
    replace st := st'
    obtain ⟨k1, hro1⟩ := st.rolls
    go_wp2_with fail
    refine next_cps R ao n cap k1 256 _ hro1 hct _ ?_
    intro y1 kk1 v1 ya1 yb1 hr hk hzz
    have st := st.next hr hk
    have bc := st.rowB.cell (i := 2) rfl
    have bf := st.rowB.frozen 2
    have st' := st.store h 2 (.int .i64 y1)
    clear hr hk hzz
    replace st := st'
    obtain ⟨k2, hro2⟩ := st.rolls
    go_wp2_with fail
    refine next_cps R ao n cap k2 256 _ hro2 hct _ ?_
    intro y2 kk2 v2 ya2 yb2 hr hk hzz
    have st := st.next hr hk
    have bc := st.rowB.cell (i := 3) rfl
    have bf := st.rowB.frozen 3
    have st' := st.store h 3 (.int .i64 y2)
    clear hr hk hzz
    have st2 := st'
    obtain ⟨kf, hrof⟩ := st2.rolls
    have hfin := hp 1 y0 y1 y2 kf (set4 (v2.setCell ⟨w1.heap.size, 3, none⟩ (.int .i64 y2)) w.heap.size 0 1 y0 y1 y2) (by simp [opGood, below]; omega) (((hrof.set h (Nat.le_refl _) _).set h (Nat.le_refl _) _ |>.set h (Nat.le_refl _) _).set h (Nat.le_refl _) _) (st2.keep.set4 (.inr (Nat.le_refl _)) _ _ _ _)
    have hne := st2.ne
    have a0 := st2.rowA.cell (i := 0) rfl
    have a1 := st2.rowA.cell (i := 1) rfl
    have a2 := st2.rowA.cell (i := 2) rfl
    have a3 := st2.rowA.cell (i := 3) rfl
    have f0 := st2.rowA.frozen 0
    have f1 := st2.rowA.frozen 1
    have f2 := st2.rowA.frozen 2
    have f3 := st2.rowA.frozen 3
    have q0 := st2.rowB.cell (i := 0) (u := .int .i64 1) rfl
    have q1 := st2.rowB.cell (i := 1) (u := .int .i64 y0) rfl
    have q2 := st2.rowB.cell (i := 2) (u := .int .i64 y1) rfl
    have q3 := st2.rowB.cell (i := 3) (u := .int .i64 y2) rfl
    clear st st' st2 hp h hr1 hk1 hA
    have HF : Hid (Post (.returned (.agg #[.int .i64 1, .int .i64 y0, .int .i64 y1, .int .i64 y2])) (set4 (v2.setCell ⟨w1.heap.size, 3, none⟩ (.int .i64 y2)) w.heap.size 0 1 y0 y1 y2)) := hfin
    clear hfin
    go_wp2
    exact bodyPost_ret (v := .agg #[.int .i64 1, .int .i64 y0, .int .i64 y1, .int .i64 y2]) (by simp [results, Try.results76, go_sem, a0, a1, a2, a3]) rfl HF.out
  · have st : St w R ao n cap 78 w.heap.size w1.heap.size [.int .i64 2, .int .i64 0, .int .i64 0, .int .i64 0] (w1.alloc (.cells #[.int .i64 2, .int .i64 0, .int .i64 0, .int .i64 0] 78)) := St.start h hr1 hk1 hA HZ.out _
    obtain ⟨k0, hro0⟩ := st.rolls
    go_wp2_with fail
    refine next_cps R ao n cap k0 regs _ hro0 hre' _ ?_
    intro y0 kk0 v0 ya0 yb0 hr hk hzz
    have st := st.next hr hk
    have bc := st.rowB.cell (i := 1) rfl
    have bf := st.rowB.frozen 1
    have st' := st.store h 1 (.int .i64 y0)
    clear hr hk hzz
    replace st := st'
    obtain ⟨k1, hro1⟩ := st.rolls
    go_wp2_with fail
    refine next_cps R ao n cap k1 regs _ hro1 hre' _ ?_
    intro y1 kk1 v1 ya1 yb1 hr hk hzz
    have st := st.next hr hk
    have bc := st.rowB.cell (i := 2) rfl
    have bf := st.rowB.frozen 2
    have st' := st.store h 2 (.int .i64 y1)
    clear hr hk hzz
    have st2 := st'
    obtain ⟨kf, hrof⟩ := st2.rolls
    have hfin := hp 2 y0 y1 0 kf (set4 (v1.setCell ⟨w1.heap.size, 2, none⟩ (.int .i64 y1)) w.heap.size 0 2 y0 y1 0) (by simp [opGood, below]; omega) (((hrof.set h (Nat.le_refl _) _).set h (Nat.le_refl _) _ |>.set h (Nat.le_refl _) _).set h (Nat.le_refl _) _) (st2.keep.set4 (.inr (Nat.le_refl _)) _ _ _ _)
    have hne := st2.ne
    have a0 := st2.rowA.cell (i := 0) rfl
    have a1 := st2.rowA.cell (i := 1) rfl
    have a2 := st2.rowA.cell (i := 2) rfl
    have a3 := st2.rowA.cell (i := 3) rfl
    have f0 := st2.rowA.frozen 0
    have f1 := st2.rowA.frozen 1
    have f2 := st2.rowA.frozen 2
    have f3 := st2.rowA.frozen 3
    have q0 := st2.rowB.cell (i := 0) (u := .int .i64 2) rfl
    have q1 := st2.rowB.cell (i := 1) (u := .int .i64 y0) rfl
    have q2 := st2.rowB.cell (i := 2) (u := .int .i64 y1) rfl
    have q3 := st2.rowB.cell (i := 3) (u := .int .i64 0) rfl
    clear st st' st2 hp h hr1 hk1 hA
    have HF : Hid (Post (.returned (.agg #[.int .i64 2, .int .i64 y0, .int .i64 y1, .int .i64 0])) (set4 (v1.setCell ⟨w1.heap.size, 2, none⟩ (.int .i64 y1)) w.heap.size 0 2 y0 y1 0)) := hfin
    clear hfin
    go_wp2
    exact bodyPost_ret (v := .agg #[.int .i64 2, .int .i64 y0, .int .i64 y1, .int .i64 0]) (by simp [results, Try.results76, go_sem, a0, a1, a2, a3]) rfl HF.out
  · have st : St w R ao n cap 78 w.heap.size w1.heap.size [.int .i64 12, .int .i64 0, .int .i64 0, .int .i64 0] (w1.alloc (.cells #[.int .i64 12, .int .i64 0, .int .i64 0, .int .i64 0] 78)) := St.start h hr1 hk1 hA HZ.out _
    obtain ⟨k0, hro0⟩ := st.rolls
    go_wp2_with fail
    refine next_cps R ao n cap k0 regs _ hro0 hre' _ ?_
    intro y0 kk0 v0 ya0 yb0 hr hk hzz
    have st := st.next hr hk
    have bc := st.rowB.cell (i := 1) rfl
    have bf := st.rowB.frozen 1
    have st' := st.store h 1 (.int .i64 y0)
    clear hr hk hzz
    replace st := st'
    obtain ⟨k1, hro1⟩ := st.rolls
    go_wp2_with fail
    refine next_cps R ao n cap k1 regs _ hro1 hre' _ ?_
    intro y1 kk1 v1 ya1 yb1 hr hk hzz
    have st := st.next hr hk
    have bc := st.rowB.cell (i := 2) rfl
    have bf := st.rowB.frozen 2
    have st' := st.store h 2 (.int .i64 y1)
    clear hr hk hzz
    have st2 := st'
    obtain ⟨kf, hrof⟩ := st2.rolls
    have hfin := hp 12 y0 y1 0 kf (set4 (v1.setCell ⟨w1.heap.size, 2, none⟩ (.int .i64 y1)) w.heap.size 0 12 y0 y1 0) (by simp [opGood, below]; omega) (((hrof.set h (Nat.le_refl _) _).set h (Nat.le_refl _) _ |>.set h (Nat.le_refl _) _).set h (Nat.le_refl _) _) (st2.keep.set4 (.inr (Nat.le_refl _)) _ _ _ _)
    have hne := st2.ne
    have a0 := st2.rowA.cell (i := 0) rfl
    have a1 := st2.rowA.cell (i := 1) rfl
    have a2 := st2.rowA.cell (i := 2) rfl
    have a3 := st2.rowA.cell (i := 3) rfl
    have f0 := st2.rowA.frozen 0
    have f1 := st2.rowA.frozen 1
    have f2 := st2.rowA.frozen 2
    have f3 := st2.rowA.frozen 3
    have q0 := st2.rowB.cell (i := 0) (u := .int .i64 12) rfl
    have q1 := st2.rowB.cell (i := 1) (u := .int .i64 y0) rfl
    have q2 := st2.rowB.cell (i := 2) (u := .int .i64 y1) rfl
    have q3 := st2.rowB.cell (i := 3) (u := .int .i64 0) rfl
    clear st st' st2 hp h hr1 hk1 hA
    have HF : Hid (Post (.returned (.agg #[.int .i64 12, .int .i64 y0, .int .i64 y1, .int .i64 0])) (set4 (v1.setCell ⟨w1.heap.size, 2, none⟩ (.int .i64 y1)) w.heap.size 0 12 y0 y1 0)) := hfin
    clear hfin
    go_wp2
    exact bodyPost_ret (v := .agg #[.int .i64 12, .int .i64 y0, .int .i64 y1, .int .i64 0]) (by simp [results, Try.results76, go_sem, a0, a1, a2, a3]) rfl HF.out
  · have st : St w R ao n cap 78 w.heap.size w1.heap.size [.int .i64 13, .int .i64 0, .int .i64 0, .int .i64 0] (w1.alloc (.cells #[.int .i64 13, .int .i64 0, .int .i64 0, .int .i64 0] 78)) := St.start h hr1 hk1 hA HZ.out _
    obtain ⟨k0, hro0⟩ := st.rolls
    go_wp2_with fail
    refine next_cps R ao n cap k0 regs _ hro0 hre' _ ?_
    intro y0 kk0 v0 ya0 yb0 hr hk hzz
    have st := st.next hr hk
    have bc := st.rowB.cell (i := 1) rfl
    have bf := st.rowB.frozen 1
    have st' := st.store h 1 (.int .i64 y0)
    clear hr hk hzz
    replace st := st'
    obtain ⟨k1, hro1⟩ := st.rolls
    go_wp2_with fail
    refine next_cps R ao n cap k1 regs _ hro1 hre' _ ?_
    intro y1 kk1 v1 ya1 yb1 hr hk hzz
    have st := st.next hr hk
    have bc := st.rowB.cell (i := 2) rfl
    have bf := st.rowB.frozen 2
    have st' := st.store h 2 (.int .i64 y1)
    clear hr hk hzz
    have st2 := st'
    obtain ⟨kf, hrof⟩ := st2.rolls
    have hfin := hp 13 y0 y1 0 kf (set4 (v1.setCell ⟨w1.heap.size, 2, none⟩ (.int .i64 y1)) w.heap.size 0 13 y0 y1 0) (by simp [opGood, below]; omega) (((hrof.set h (Nat.le_refl _) _).set h (Nat.le_refl _) _ |>.set h (Nat.le_refl _) _).set h (Nat.le_refl _) _) (st2.keep.set4 (.inr (Nat.le_refl _)) _ _ _ _)
    have hne := st2.ne
    have a0 := st2.rowA.cell (i := 0) rfl
    have a1 := st2.rowA.cell (i := 1) rfl
    have a2 := st2.rowA.cell (i := 2) rfl
    have a3 := st2.rowA.cell (i := 3) rfl
    have f0 := st2.rowA.frozen 0
    have f1 := st2.rowA.frozen 1
    have f2 := st2.rowA.frozen 2
    have f3 := st2.rowA.frozen 3
    have q0 := st2.rowB.cell (i := 0) (u := .int .i64 13) rfl
    have q1 := st2.rowB.cell (i := 1) (u := .int .i64 y0) rfl
    have q2 := st2.rowB.cell (i := 2) (u := .int .i64 y1) rfl
    have q3 := st2.rowB.cell (i := 3) (u := .int .i64 0) rfl
    clear st st' st2 hp h hr1 hk1 hA
    have HF : Hid (Post (.returned (.agg #[.int .i64 13, .int .i64 y0, .int .i64 y1, .int .i64 0])) (set4 (v1.setCell ⟨w1.heap.size, 2, none⟩ (.int .i64 y1)) w.heap.size 0 13 y0 y1 0)) := hfin
    clear hfin
    go_wp2
    exact bodyPost_ret (v := .agg #[.int .i64 13, .int .i64 y0, .int .i64 y1, .int .i64 0]) (by simp [results, Try.results76, go_sem, a0, a1, a2, a3]) rfl HF.out
  · have hsl' : 1 ≤ slots ∧ slots ≤ 1000 := by omega
    have st : St w R ao n cap 78 w.heap.size w1.heap.size [.int .i64 14, .int .i64 0, .int .i64 0, .int .i64 0] (w1.alloc (.cells #[.int .i64 14, .int .i64 0, .int .i64 0, .int .i64 0] 78)) := St.start h hr1 hk1 hA HZ.out _
    obtain ⟨k0, hro0⟩ := st.rolls
    go_wp2_with fail
    refine next_cps R ao n cap k0 slots _ hro0 hsl' _ ?_
    intro y0 kk0 v0 ya0 yb0 hr hk hzz
    have st := st.next hr hk
    have bc := st.rowB.cell (i := 1) rfl
    have bf := st.rowB.frozen 1
    have st' := st.store h 1 (.int .i64 y0)
    clear hr hk hzz
    replace st := st'
    obtain ⟨k1, hro1⟩ := st.rolls
    go_wp2_with fail
    refine next_cps R ao n cap k1 regs _ hro1 hre' _ ?_
    intro y1 kk1 v1 ya1 yb1 hr hk hzz
    have st := st.next hr hk
    have bc := st.rowB.cell (i := 2) rfl
    have bf := st.rowB.frozen 2
    have st' := st.store h 2 (.int .i64 y1)
    clear hr hk hzz
    have st2 := st'
    obtain ⟨kf, hrof⟩ := st2.rolls
    have hfin := hp 14 y0 y1 0 kf (set4 (v1.setCell ⟨w1.heap.size, 2, none⟩ (.int .i64 y1)) w.heap.size 0 14 y0 y1 0) (by simp [opGood, below]; omega) (((hrof.set h (Nat.le_refl _) _).set h (Nat.le_refl _) _ |>.set h (Nat.le_refl _) _).set h (Nat.le_refl _) _) (st2.keep.set4 (.inr (Nat.le_refl _)) _ _ _ _)
    have hne := st2.ne
    have a0 := st2.rowA.cell (i := 0) rfl
    have a1 := st2.rowA.cell (i := 1) rfl
    have a2 := st2.rowA.cell (i := 2) rfl
    have a3 := st2.rowA.cell (i := 3) rfl
    have f0 := st2.rowA.frozen 0
    have f1 := st2.rowA.frozen 1
    have f2 := st2.rowA.frozen 2
    have f3 := st2.rowA.frozen 3
    have q0 := st2.rowB.cell (i := 0) (u := .int .i64 14) rfl
    have q1 := st2.rowB.cell (i := 1) (u := .int .i64 y0) rfl
    have q2 := st2.rowB.cell (i := 2) (u := .int .i64 y1) rfl
    have q3 := st2.rowB.cell (i := 3) (u := .int .i64 0) rfl
    clear st st' st2 hp h hr1 hk1 hA
    have HF : Hid (Post (.returned (.agg #[.int .i64 14, .int .i64 y0, .int .i64 y1, .int .i64 0])) (set4 (v1.setCell ⟨w1.heap.size, 2, none⟩ (.int .i64 y1)) w.heap.size 0 14 y0 y1 0)) := hfin
    clear hfin
    go_wp2
    exact bodyPost_ret (v := .agg #[.int .i64 14, .int .i64 y0, .int .i64 y1, .int .i64 0]) (by simp [results, Try.results76, go_sem, a0, a1, a2, a3]) rfl HF.out
  · have hsl' : 1 ≤ slots ∧ slots ≤ 1000 := by omega
    have st : St w R ao n cap 78 w.heap.size w1.heap.size [.int .i64 15, .int .i64 0, .int .i64 0, .int .i64 0] (w1.alloc (.cells #[.int .i64 15, .int .i64 0, .int .i64 0, .int .i64 0] 78)) := St.start h hr1 hk1 hA HZ.out _
    obtain ⟨k0, hro0⟩ := st.rolls
    go_wp2_with fail
    refine next_cps R ao n cap k0 regs _ hro0 hre' _ ?_
    intro y0 kk0 v0 ya0 yb0 hr hk hzz
    have st := st.next hr hk
    have bc := st.rowB.cell (i := 1) rfl
    have bf := st.rowB.frozen 1
    have st' := st.store h 1 (.int .i64 y0)
    clear hr hk hzz
    replace st := st'
    obtain ⟨k1, hro1⟩ := st.rolls
    go_wp2_with fail
    refine next_cps R ao n cap k1 slots _ hro1 hsl' _ ?_
    intro y1 kk1 v1 ya1 yb1 hr hk hzz
    have st := st.next hr hk
    have bc := st.rowB.cell (i := 2) rfl
    have bf := st.rowB.frozen 2
    have st' := st.store h 2 (.int .i64 y1)
    clear hr hk hzz
    have st2 := st'
    obtain ⟨kf, hrof⟩ := st2.rolls
    have hfin := hp 15 y0 y1 0 kf (set4 (v1.setCell ⟨w1.heap.size, 2, none⟩ (.int .i64 y1)) w.heap.size 0 15 y0 y1 0) (by simp [opGood, below]; omega) (((hrof.set h (Nat.le_refl _) _).set h (Nat.le_refl _) _ |>.set h (Nat.le_refl _) _).set h (Nat.le_refl _) _) (st2.keep.set4 (.inr (Nat.le_refl _)) _ _ _ _)
    have hne := st2.ne
    have a0 := st2.rowA.cell (i := 0) rfl
    have a1 := st2.rowA.cell (i := 1) rfl
    have a2 := st2.rowA.cell (i := 2) rfl
    have a3 := st2.rowA.cell (i := 3) rfl
    have f0 := st2.rowA.frozen 0
    have f1 := st2.rowA.frozen 1
    have f2 := st2.rowA.frozen 2
    have f3 := st2.rowA.frozen 3
    have q0 := st2.rowB.cell (i := 0) (u := .int .i64 15) rfl
    have q1 := st2.rowB.cell (i := 1) (u := .int .i64 y0) rfl
    have q2 := st2.rowB.cell (i := 2) (u := .int .i64 y1) rfl
    have q3 := st2.rowB.cell (i := 3) (u := .int .i64 0) rfl
    clear st st' st2 hp h hr1 hk1 hA
    have HF : Hid (Post (.returned (.agg #[.int .i64 15, .int .i64 y0, .int .i64 y1, .int .i64 0])) (set4 (v1.setCell ⟨w1.heap.size, 2, none⟩ (.int .i64 y1)) w.heap.size 0 15 y0 y1 0)) := hfin
    clear hfin
    go_wp2
    exact bodyPost_ret (v := .agg #[.int .i64 15, .int .i64 y0, .int .i64 y1, .int .i64 0]) (by simp [results, Try.results76, go_sem, a0, a1, a2, a3]) rfl HF.out
  · have n1 : ((1 + x : Int) == 1) = false := by simp; omega
    have n2 : ((1 + x : Int) == 2) = false := by simp; omega
    have n12 : ((1 + x : Int) == 12) = false := by simp; omega
    have n13 : ((1 + x : Int) == 13) = false := by simp; omega
    have n14 : ((1 + x : Int) == 14) = false := by simp; omega
    have n15 : ((1 + x : Int) == 15) = false := by simp; omega
    have st : St w R ao n cap 78 w.heap.size w1.heap.size [.int .i64 (1 + x), .int .i64 0, .int .i64 0, .int .i64 0] (w1.alloc (.cells #[.int .i64 (1 + x), .int .i64 0, .int .i64 0, .int .i64 0] 78)) := St.start h hr1 hk1 hA HZ.out _
    obtain ⟨k0, hro0⟩ := st.rolls
    go_wp2_with fail
    refine next_cps R ao n cap k0 regs _ hro0 hre' _ ?_
    intro y0 kk0 v0 ya0 yb0 hr hk hzz
    have st := st.next hr hk
    have bc := st.rowB.cell (i := 1) rfl
    have bf := st.rowB.frozen 1
    have st' := st.store h 1 (.int .i64 y0)
    clear hr hk hzz
    replace st := st'
    obtain ⟨k1, hro1⟩ := st.rolls
    go_wp2_with fail
    refine next_cps R ao n cap k1 regs _ hro1 hre' _ ?_
    intro y1 kk1 v1 ya1 yb1 hr hk hzz
    have st := st.next hr hk
    have bc := st.rowB.cell (i := 2) rfl
    have bf := st.rowB.frozen 2
    have st' := st.store h 2 (.int .i64 y1)
    clear hr hk hzz
    replace st := st'
    obtain ⟨k2, hro2⟩ := st.rolls
    go_wp2_with fail
    refine next_cps R ao n cap k2 regs _ hro2 hre' _ ?_
    intro y2 kk2 v2 ya2 yb2 hr hk hzz
    have st := st.next hr hk
    have bc := st.rowB.cell (i := 3) rfl
    have bf := st.rowB.frozen 3
    have st' := st.store h 3 (.int .i64 y2)
    clear hr hk hzz
    have st2 := st'
    obtain ⟨kf, hrof⟩ := st2.rolls
    have hfin := hp (1 + x) y0 y1 y2 kf (set4 (v2.setCell ⟨w1.heap.size, 3, none⟩ (.int .i64 y2)) w.heap.size 0 (1 + x) y0 y1 y2) (by unfold opGood; rw [if_neg (by show ¬ (1 + x = 1); omega), if_pos (by show 3 ≤ 1 + x ∧ 1 + x ≤ 11; omega)]; simp [below]; omega) (((hrof.set h (Nat.le_refl _) _).set h (Nat.le_refl _) _ |>.set h (Nat.le_refl _) _).set h (Nat.le_refl _) _) (st2.keep.set4 (.inr (Nat.le_refl _)) _ _ _ _)
    have hne := st2.ne
    have a0 := st2.rowA.cell (i := 0) rfl
    have a1 := st2.rowA.cell (i := 1) rfl
    have a2 := st2.rowA.cell (i := 2) rfl
    have a3 := st2.rowA.cell (i := 3) rfl
    have f0 := st2.rowA.frozen 0
    have f1 := st2.rowA.frozen 1
    have f2 := st2.rowA.frozen 2
    have f3 := st2.rowA.frozen 3
    have q0 := st2.rowB.cell (i := 0) (u := .int .i64 (1 + x)) rfl
    have q1 := st2.rowB.cell (i := 1) (u := .int .i64 y0) rfl
    have q2 := st2.rowB.cell (i := 2) (u := .int .i64 y1) rfl
    have q3 := st2.rowB.cell (i := 3) (u := .int .i64 y2) rfl
    clear st st' st2 hp h hr1 hk1 hA
    have HF : Hid (Post (.returned (.agg #[.int .i64 (1 + x), .int .i64 y0, .int .i64 y1, .int .i64 y2])) (set4 (v2.setCell ⟨w1.heap.size, 3, none⟩ (.int .i64 y2)) w.heap.size 0 (1 + x) y0 y1 y2)) := hfin
    clear hfin
    go_wp2
    exact bodyPost_ret (v := .agg #[.int .i64 (1 + x), .int .i64 y0, .int .i64 y1, .int .i64 y2]) (by simp [results, Try.results76, go_sem, a0, a1, a2, a3]) rfl HF.out

end Go.Proofs.Ytdjdjkgoelbbdaa
