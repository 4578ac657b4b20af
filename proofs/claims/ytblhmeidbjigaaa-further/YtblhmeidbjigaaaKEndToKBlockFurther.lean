/- An end out of raw numbers. -/
import Derived.Test.YtblhmeidbjigaaaRows
import Derived.WalkKit
import Derived.WalkSpells
import Derived.WalkLawsBesides
import Derived.Laws.BytesArg
import Derived.Deep.QuietTactic
import Derived.BigQuiet
import Derived.Deep.RegionHeld3
import Derived.Test.YtblhmeidbjigaaaPCodLToPLawNFurther

set_option linter.unusedSimpArgs false
set_option linter.unusedVariables false
namespace Go.Proofs.Ytblhmeidbjigaaa
open Go.RowKit

theorem Keep.trans {S : Nat → Prop} {w a b : World} (h : Keep S w a) (h2 : Keep S a b) : Keep S w b :=
  h.step h2.os h2.tape h2.output h2.size fun k hk hn => h2.block k (Nat.lt_of_lt_of_le hk h.size) hn

theorem Rolls.set {w w0 : World} {R : Nat} {ao : Option Addr} {n cap k k0 : Nat} (h : Rolls w R ao n cap k) (h0 : Rolls w0 R ao n cap k0) {g i : Nat} (hg : w0.heap.size ≤ g) (u : Value) : Rolls (w.setCell ⟨g, i, none⟩ u) R ao n cap k := by
  have hR := h0.row.lt
  refine ⟨h.row.unset (a := ⟨g, i, none⟩) (by show R ≠ g; omega) _, h.le, ?_, h.off⟩
  obtain ⟨ao', cap', e, hn, hc⟩ := h.rd
  obtain ⟨ao2, cap2, e2, _, hc2⟩ := h0.rd
  simp only [Value.slice.injEq, true_and] at e e2
  obtain ⟨rfl, rfl⟩ := e
  obtain ⟨rfl, rfl⟩ := e2
  refine ⟨ao, cap, rfl, hn, fun i hi => ?_⟩
  obtain ⟨b, off, x, e1, h1, h2, h3⟩ := hc i hi
  obtain ⟨b2, off2, x2, e2, _, _, h4⟩ := hc2 i hi
  rw [e1] at e2
  simp only [Option.some.injEq, Addr.mk.injEq, and_true] at e2
  obtain ⟨rfl, rfl⟩ := e2
  have := World.block_lt_of_cell? _ _ h4
  exact ⟨b, off, x, e1, h1, h2, cell_unset (fun e => by simp at e; simp at this; omega) h3⟩

/-- Underway: two blocks of four cells each, the answer's (still zero) and the one that is filled. -/
structure St (w : World) (R : Nat) (ao : Option Addr) (n cap : Nat) (t : TypeId) (A B : Nat) (xs : List Value) (w' : World) : Prop where
  rolls : ∃ k, Rolls w' R ao n cap k
  keep : Keep (fun g => g = R) w w'
  rowA : Row w' A t [.int .i64 0, .int .i64 0, .int .i64 0, .int .i64 0]
  rowB : Row w' B t xs
  geA : w.heap.size ≤ A
  geB : w.heap.size ≤ B
  ne : B ≠ A
  ltR : R < w.heap.size

theorem St.next {w w' w2 : World} {R : Nat} {ao : Option Addr} {n cap k : Nat} {t : TypeId} {A B : Nat} {xs : List Value} (h : St w R ao n cap t A B xs w') (hr : Rolls w2 R ao n cap k) (hk : Keep (fun g => g = R) w' w2) : St w R ao n cap t A B xs w2 :=
  ⟨⟨k, hr⟩, h.keep.trans hk, h.rowA.kept hk (by have := h.geA; have := h.ltR; omega), h.rowB.kept hk (by have := h.geB; have := h.ltR; omega), h.geA, h.geB, h.ne, h.ltR⟩

theorem St.store {w w' : World} {R : Nat} {ao : Option Addr} {n cap k : Nat} {t : TypeId} {A B : Nat} {xs : List Value} (h : St w R ao n cap t A B xs w') (h0 : Rolls w R ao n cap k) (i : Nat) (u : Value) : St w R ao n cap t A B (xs.set i u) (w'.setCell ⟨B, i, none⟩ u) :=
  ⟨let ⟨k, hr⟩ := h.rolls; ⟨k, hr.set h0 h.geB u⟩, h.keep.setCell (.inr h.geB) u, h.rowA.unset (a := ⟨B, i, none⟩) (fun e => h.ne e.symm) u, h.rowB.set i u, h.geA, h.geB, h.ne, h.ltR⟩

theorem St.start {w w1 : World} {R : Nat} {ao : Option Addr} {n cap k k1 : Nat} {t : TypeId} {O : Obj} (h : Rolls w R ao n cap k) (hr : Rolls w1 R ao n cap k1) (hk : Keep (fun g => g = R) (w.alloc O) w1) (hA : Row w1 w.heap.size t [.int .i64 0, .int .i64 0, .int .i64 0, .int .i64 0])
    (hz : w1.heap.size = w.heap.size + 1) (xs : List Value) : St w R ao n cap t w.heap.size w1.heap.size xs (w1.alloc (.cells xs.toArray t)) :=
  ⟨⟨k1, hr.keep ((Below.refl _ _).alloc (Nat.le_refl _) _)⟩, (((Keep.refl _ _).alloc O).trans hk).alloc _, hA.alloc _, heap_alloc_new w1 _, Nat.le_refl _, by omega, by omega, h.row.lt⟩

set_option maxRecDepth 100000 in
set_option maxHeartbeats 2000000 in
theorem end_cps (R : Nat) (ao : Option Addr) (n cap k : Nat) (regs nb : Int) (w : World) (h : Rolls w R ao n cap k) (hre : 1 ≤ regs ∧ regs ≤ 8) (hnb : 1 ≤ nb ∧ nb ≤ 6) (Post : Ending → World → Prop)
    (hp : ∀ a b c d k' w', endGood regs nb ⟨a, b, c, d⟩ = true → Rolls w' R ao n cap k' → Keep (fun g => g = R) w w' → Post (.returned (.agg #[.int .i64 a, .int .i64 b, .int .i64 c, .int .i64 d])) w') :
    Calls Try.prog 67 #[.pointer (some ⟨R, 0, none⟩), .int .i64 regs, .int .i64 nb] w Post := by
  have hRw := h.row.lt
  have hA0 : Row (w.alloc (.cells #[.int .i64 0, .int .i64 0, .int .i64 0, .int .i64 0] 88)) w.heap.size 88 [.int .i64 0, .int .i64 0, .int .i64 0, .int .i64 0] := heap_alloc_new w _
  go_enter Try.func67, Try.ntmps67
  go_wp2_with fail
  refine next_cps R ao n cap k 3 _ (h.keep ((Below.refl _ _).alloc (Nat.le_refl _) _)) (by omega) _ ?_
  intro x k1 w1 hx0 hx3 hr1 hk1 hz1
  have hA := hA0.kept hk1 (by omega)
  simp only [World.size_alloc] at hz1
  have HZ : Hid (w1.heap.size = w.heap.size + 1) := hz1
  have hzl : w.heap.size < w1.heap.size := by omega
  have hRB : R < w1.heap.size := by omega
  clear hA0 hz1
  have hnb' : 1 ≤ nb ∧ nb ≤ 1000 := by omega
  have hre' : 1 ≤ regs ∧ regs ≤ 1000 := by omega
  obtain rfl | rfl | rfl : x = 0 ∨ x = 1 ∨ x = 2 := by omega
  · have st : St w R ao n cap 88 w.heap.size w1.heap.size [.int .i64 1, .int .i64 0, .int .i64 0, .int .i64 0] (w1.alloc (.cells #[.int .i64 1, .int .i64 0, .int .i64 0, .int .i64 0] 88)) := St.start h hr1 hk1 hA HZ.out _
    obtain ⟨k0, hro0⟩ := st.rolls
    go_wp2_with fail
    refine next_cps R ao n cap k0 nb _ hro0 hnb' _ ?_
    intro y0 kk0 v0 ya0 yb0 hr hk hzz
    have st := st.next hr hk
    have bc := st.rowB.cell (i := 2) rfl
    have bf := st.rowB.frozen 2
    have st' := st.store h 2 (.int .i64 y0)
    clear hr hk hzz
    have st2 := st'
    obtain ⟨kf, hrof⟩ := st2.rolls
    have hfin := hp 1 0 y0 0 kf (set4 (v0.setCell ⟨w1.heap.size, 2, none⟩ (.int .i64 y0)) w.heap.size 0 1 0 y0 0) (by simp [endGood, below]; omega) (((hrof.set h (Nat.le_refl _) _).set h (Nat.le_refl _) _ |>.set h (Nat.le_refl _) _).set h (Nat.le_refl _) _) (st2.keep.set4 (.inr (Nat.le_refl _)) _ _ _ _)
    have hne := st2.ne
    have a0 := st2.rowA.cell (i := 0) rfl
    have a1 := st2.rowA.cell (i := 1) rfl
    have a2 := st2.rowA.cell (i := 2) rfl
    have a3 := st2.rowA.cell (i := 3) rfl
    have f0 := st2.rowA.frozen 0
    have f1 := st2.rowA.frozen 1
    have f2 := st2.rowA.frozen 2
    have f3 := st2.rowA.frozen 3
    have q0 := st2.rowB.cell (i := 0) (u := .int .i64 1) rfl
    have q1 := st2.rowB.cell (i := 1) (u := .int .i64 0) rfl
    have q2 := st2.rowB.cell (i := 2) (u := .int .i64 y0) rfl
    have q3 := st2.rowB.cell (i := 3) (u := .int .i64 0) rfl
    clear st st' st2 hp h hr1 hk1 hA
    have HF : Hid (Post (.returned (.agg #[.int .i64 1, .int .i64 0, .int .i64 y0, .int .i64 0])) (set4 (v0.setCell ⟨w1.heap.size, 2, none⟩ (.int .i64 y0)) w.heap.size 0 1 0 y0 0)) := hfin
    clear hfin
    go_wp2
    exact bodyPost_ret (v := .agg #[.int .i64 1, .int .i64 0, .int .i64 y0, .int .i64 0]) (by simp [results, Try.results67, go_sem, a0, a1, a2, a3]) rfl HF.out
  · have st : St w R ao n cap 88 w.heap.size w1.heap.size [.int .i64 2, .int .i64 0, .int .i64 0, .int .i64 0] (w1.alloc (.cells #[.int .i64 2, .int .i64 0, .int .i64 0, .int .i64 0] 88)) := St.start h hr1 hk1 hA HZ.out _
    obtain ⟨k0, hro0⟩ := st.rolls
    go_wp2_with fail
    refine next_cps R ao n cap k0 regs _ hro0 hre' _ ?_
    intro y0 kk0 v0 ya0 yb0 hr hk hzz
    have st := st.next hr hk
    have bc := st.rowB.cell (i := 1) rfl
    have bf := st.rowB.frozen 1
    have st' := st.store h 1 (.int .i64 y0)
    clear hr hk hzz
    replace st := st'
    obtain ⟨k1, hro1⟩ := st.rolls
    go_wp2_with fail
    refine next_cps R ao n cap k1 nb _ hro1 hnb' _ ?_
    intro y1 kk1 v1 ya1 yb1 hr hk hzz
    have st := st.next hr hk
    have bc := st.rowB.cell (i := 2) rfl
    have bf := st.rowB.frozen 2
    have st' := st.store h 2 (.int .i64 y1)
    clear hr hk hzz
    replace st := st'
    obtain ⟨k2, hro2⟩ := st.rolls
    go_wp2_with fail
    refine next_cps R ao n cap k2 nb _ hro2 hnb' _ ?_
    intro y2 kk2 v2 ya2 yb2 hr hk hzz
    have st := st.next hr hk
    have bc := st.rowB.cell (i := 3) rfl
    have bf := st.rowB.frozen 3
    have st' := st.store h 3 (.int .i64 y2)
    clear hr hk hzz
    have st2 := st'
    obtain ⟨kf, hrof⟩ := st2.rolls
    have hfin := hp 2 y0 y1 y2 kf (set4 (v2.setCell ⟨w1.heap.size, 3, none⟩ (.int .i64 y2)) w.heap.size 0 2 y0 y1 y2) (by simp [endGood, below]; omega) (((hrof.set h (Nat.le_refl _) _).set h (Nat.le_refl _) _ |>.set h (Nat.le_refl _) _).set h (Nat.le_refl _) _) (st2.keep.set4 (.inr (Nat.le_refl _)) _ _ _ _)
    have hne := st2.ne
    have a0 := st2.rowA.cell (i := 0) rfl
    have a1 := st2.rowA.cell (i := 1) rfl
    have a2 := st2.rowA.cell (i := 2) rfl
    have a3 := st2.rowA.cell (i := 3) rfl
    have f0 := st2.rowA.frozen 0
    have f1 := st2.rowA.frozen 1
    have f2 := st2.rowA.frozen 2
    have f3 := st2.rowA.frozen 3
    have q0 := st2.rowB.cell (i := 0) (u := .int .i64 2) rfl
    have q1 := st2.rowB.cell (i := 1) (u := .int .i64 y0) rfl
    have q2 := st2.rowB.cell (i := 2) (u := .int .i64 y1) rfl
    have q3 := st2.rowB.cell (i := 3) (u := .int .i64 y2) rfl
    clear st st' st2 hp h hr1 hk1 hA
    have HF : Hid (Post (.returned (.agg #[.int .i64 2, .int .i64 y0, .int .i64 y1, .int .i64 y2])) (set4 (v2.setCell ⟨w1.heap.size, 3, none⟩ (.int .i64 y2)) w.heap.size 0 2 y0 y1 y2)) := hfin
    clear hfin
    go_wp2
    exact bodyPost_ret (v := .agg #[.int .i64 2, .int .i64 y0, .int .i64 y1, .int .i64 y2]) (by simp [results, Try.results67, go_sem, a0, a1, a2, a3]) rfl HF.out
  · have st : St w R ao n cap 88 w.heap.size w1.heap.size [.int .i64 3, .int .i64 0, .int .i64 0, .int .i64 0] (w1.alloc (.cells #[.int .i64 3, .int .i64 0, .int .i64 0, .int .i64 0] 88)) := St.start h hr1 hk1 hA HZ.out _
    obtain ⟨k0, hro0⟩ := st.rolls
    go_wp2_with fail
    refine next_cps R ao n cap k0 regs _ hro0 hre' _ ?_
    intro y0 kk0 v0 ya0 yb0 hr hk hzz
    have st := st.next hr hk
    have bc := st.rowB.cell (i := 1) rfl
    have bf := st.rowB.frozen 1
    have st' := st.store h 1 (.int .i64 y0)
    clear hr hk hzz
    have st2 := st'
    obtain ⟨kf, hrof⟩ := st2.rolls
    have hfin := hp 3 y0 0 0 kf (set4 (v0.setCell ⟨w1.heap.size, 1, none⟩ (.int .i64 y0)) w.heap.size 0 3 y0 0 0) (by simp [endGood, below]; omega) (((hrof.set h (Nat.le_refl _) _).set h (Nat.le_refl _) _ |>.set h (Nat.le_refl _) _).set h (Nat.le_refl _) _) (st2.keep.set4 (.inr (Nat.le_refl _)) _ _ _ _)
    have hne := st2.ne
    have a0 := st2.rowA.cell (i := 0) rfl
    have a1 := st2.rowA.cell (i := 1) rfl
    have a2 := st2.rowA.cell (i := 2) rfl
    have a3 := st2.rowA.cell (i := 3) rfl
    have f0 := st2.rowA.frozen 0
    have f1 := st2.rowA.frozen 1
    have f2 := st2.rowA.frozen 2
    have f3 := st2.rowA.frozen 3
    have q0 := st2.rowB.cell (i := 0) (u := .int .i64 3) rfl
    have q1 := st2.rowB.cell (i := 1) (u := .int .i64 y0) rfl
    have q2 := st2.rowB.cell (i := 2) (u := .int .i64 0) rfl
    have q3 := st2.rowB.cell (i := 3) (u := .int .i64 0) rfl
    clear st st' st2 hp h hr1 hk1 hA
    have HF : Hid (Post (.returned (.agg #[.int .i64 3, .int .i64 y0, .int .i64 0, .int .i64 0])) (set4 (v0.setCell ⟨w1.heap.size, 1, none⟩ (.int .i64 y0)) w.heap.size 0 3 y0 0 0)) := hfin
    clear hfin
    go_wp2
    exact bodyPost_ret (v := .agg #[.int .i64 3, .int .i64 y0, .int .i64 0, .int .i64 0]) (by simp [results, Try.results67, go_sem, a0, a1, a2, a3]) rfl HF.out

end Go.Proofs.Ytblhmeidbjigaaa

/- An operation out of raw numbers. -/
set_option linter.unusedSimpArgs false
set_option linter.unusedVariables false
namespace Go.Proofs.Ytblhmeidbjigaaa
open Go.RowKit

set_option maxRecDepth 100000 in
set_option maxHeartbeats 4000000 in
theorem op_cps (R : Nat) (ao : Option Addr) (n cap k : Nat) (most regs slots : Int) (w : World) (h : Rolls w R ao n cap k) (hre : 1 ≤ regs ∧ regs ≤ 8) (hsl : 0 ≤ slots ∧ slots ≤ 8) (hmo : 1 ≤ most ∧ most ≤ 15) (hms : most ≤ 13 ∨ 1 ≤ slots) (Post : Ending → World → Prop)
    (hp : ∀ a b c d k' w', opGood regs slots ⟨a, b, c, d⟩ = true → Rolls w' R ao n cap k' → Keep (fun g => g = R) w w' → Post (.returned (.agg #[.int .i64 a, .int .i64 b, .int .i64 c, .int .i64 d])) w') :
    Calls Try.prog 66 #[.pointer (some ⟨R, 0, none⟩), .int .i64 most, .int .i64 regs, .int .i64 slots] w Post := by
  have hRw := h.row.lt
  have hA0 : Row (w.alloc (.cells #[.int .i64 0, .int .i64 0, .int .i64 0, .int .i64 0] 101)) w.heap.size 101 [.int .i64 0, .int .i64 0, .int .i64 0, .int .i64 0] := heap_alloc_new w _
  go_enter Try.func66, Try.ntmps66
  go_wp2_with fail
  refine next_cps R ao n cap k most _ (h.keep ((Below.refl _ _).alloc (Nat.le_refl _) _)) (by omega) _ ?_
  intro x k1 w1 hx0 hx3 hr1 hk1 hz1
  have hA := hA0.kept hk1 (by omega)
  simp only [World.size_alloc] at hz1
  have HZ : Hid (w1.heap.size = w.heap.size + 1) := hz1
  have hzl : w.heap.size < w1.heap.size := by omega
  have hRB : R < w1.heap.size := by omega
  clear hA0 hz1
  have hre' : 1 ≤ regs ∧ regs ≤ 1000 := by omega
  have hct : (1 : Int) ≤ 256 ∧ (256 : Int) ≤ 1000 := by omega
  obtain rfl | rfl | rfl | rfl | rfl | rfl | hxx : x = 0 ∨ x = 1 ∨ x = 11 ∨ x = 12 ∨ x = 13 ∨ x = 14 ∨ (2 ≤ x ∧ x ≤ 10) := by omega
  · have st : St w R ao n cap 101 w.heap.size w1.heap.size [.int .i64 1, .int .i64 0, .int .i64 0, .int .i64 0] (w1.alloc (.cells #[.int .i64 1, .int .i64 0, .int .i64 0, .int .i64 0] 101)) := St.start h hr1 hk1 hA HZ.out _
    obtain ⟨k0, hro0⟩ := st.rolls
    go_wp2_with fail
    refine next_cps R ao n cap k0 regs _ hro0 hre' _ ?_
    intro y0 kk0 v0 ya0 yb0 hr hk hzz
    have st := st.next hr hk
    have bc := st.rowB.cell (i := 1) rfl
    have bf := st.rowB.frozen 1
    have st' := st.store h 1 (.int .i64 y0)
    clear hr hk hzz
    replace st := st'
    obtain ⟨k1, hro1⟩ := st.rolls
    go_wp2_with fail
    refine next_cps R ao n cap k1 256 _ hro1 hct _ ?_
    intro y1 kk1 v1 ya1 yb1 hr hk hzz
    have st := st.next hr hk
    have bc := st.rowB.cell (i := 2) rfl
    have bf := st.rowB.frozen 2
    have st' := st.store h 2 (.int .i64 y1)
    clear hr hk hzz
    replace st := st'
    obtain ⟨k2, hro2⟩ := st.rolls
    go_wp2_with fail
    refine next_cps R ao n cap k2 256 _ hro2 hct _ ?_
    intro y2 kk2 v2 ya2 yb2 hr hk hzz
    have st := st.next hr hk
    have bc := st.rowB.cell (i := 3) rfl
    have bf := st.rowB.frozen 3
    have st' := st.store h 3 (.int .i64 y2)
    clear hr hk hzz
    have st2 := st'
    obtain ⟨kf, hrof⟩ := st2.rolls
    have hfin := hp 1 y0 y1 y2 kf (set4 (v2.setCell ⟨w1.heap.size, 3, none⟩ (.int .i64 y2)) w.heap.size 0 1 y0 y1 y2) (by simp [opGood, below]; omega) (((hrof.set h (Nat.le_refl _) _).set h (Nat.le_refl _) _ |>.set h (Nat.le_refl _) _).set h (Nat.le_refl _) _) (st2.keep.set4 (.inr (Nat.le_refl _)) _ _ _ _)
    have hne := st2.ne
    have a0 := st2.rowA.cell (i := 0) rfl
    have a1 := st2.rowA.cell (i := 1) rfl
    have a2 := st2.rowA.cell (i := 2) rfl
    have a3 := st2.rowA.cell (i := 3) rfl
    have f0 := st2.rowA.frozen 0
    have f1 := st2.rowA.frozen 1
    have f2 := st2.rowA.frozen 2
    have f3 := st2.rowA.frozen 3
    have q0 := st2.rowB.cell (i := 0) (u := .int .i64 1) rfl
    have q1 := st2.rowB.cell (i := 1) (u := .int .i64 y0) rfl
    have q2 := st2.rowB.cell (i := 2) (u := .int .i64 y1) rfl
    have q3 := st2.rowB.cell (i := 3) (u := .int .i64 y2) rfl
    clear st st' st2 hp h hr1 hk1 hA
    have HF : Hid (Post (.returned (.agg #[.int .i64 1, .int .i64 y0, .int .i64 y1, .int .i64 y2])) (set4 (v2.setCell ⟨w1.heap.size, 3, none⟩ (.int .i64 y2)) w.heap.size 0 1 y0 y1 y2)) := hfin
    clear hfin
    go_wp2
    exact bodyPost_ret (v := .agg #[.int .i64 1, .int .i64 y0, .int .i64 y1, .int .i64 y2]) (by simp [results, Try.results66, go_sem, a0, a1, a2, a3]) rfl HF.out
  · have st : St w R ao n cap 101 w.heap.size w1.heap.size [.int .i64 2, .int .i64 0, .int .i64 0, .int .i64 0] (w1.alloc (.cells #[.int .i64 2, .int .i64 0, .int .i64 0, .int .i64 0] 101)) := St.start h hr1 hk1 hA HZ.out _
    obtain ⟨k0, hro0⟩ := st.rolls
    go_wp2_with fail
    refine next_cps R ao n cap k0 regs _ hro0 hre' _ ?_
    intro y0 kk0 v0 ya0 yb0 hr hk hzz
    have st := st.next hr hk
    have bc := st.rowB.cell (i := 1) rfl
    have bf := st.rowB.frozen 1
    have st' := st.store h 1 (.int .i64 y0)
    clear hr hk hzz
    replace st := st'
    obtain ⟨k1, hro1⟩ := st.rolls
    go_wp2_with fail
    refine next_cps R ao n cap k1 regs _ hro1 hre' _ ?_
    intro y1 kk1 v1 ya1 yb1 hr hk hzz
    have st := st.next hr hk
    have bc := st.rowB.cell (i := 2) rfl
    have bf := st.rowB.frozen 2
    have st' := st.store h 2 (.int .i64 y1)
    clear hr hk hzz
    have st2 := st'
    obtain ⟨kf, hrof⟩ := st2.rolls
    have hfin := hp 2 y0 y1 0 kf (set4 (v1.setCell ⟨w1.heap.size, 2, none⟩ (.int .i64 y1)) w.heap.size 0 2 y0 y1 0) (by simp [opGood, below]; omega) (((hrof.set h (Nat.le_refl _) _).set h (Nat.le_refl _) _ |>.set h (Nat.le_refl _) _).set h (Nat.le_refl _) _) (st2.keep.set4 (.inr (Nat.le_refl _)) _ _ _ _)
    have hne := st2.ne
    have a0 := st2.rowA.cell (i := 0) rfl
    have a1 := st2.rowA.cell (i := 1) rfl
    have a2 := st2.rowA.cell (i := 2) rfl
    have a3 := st2.rowA.cell (i := 3) rfl
    have f0 := st2.rowA.frozen 0
    have f1 := st2.rowA.frozen 1
    have f2 := st2.rowA.frozen 2
    have f3 := st2.rowA.frozen 3
    have q0 := st2.rowB.cell (i := 0) (u := .int .i64 2) rfl
    have q1 := st2.rowB.cell (i := 1) (u := .int .i64 y0) rfl
    have q2 := st2.rowB.cell (i := 2) (u := .int .i64 y1) rfl
    have q3 := st2.rowB.cell (i := 3) (u := .int .i64 0) rfl
    clear st st' st2 hp h hr1 hk1 hA
    have HF : Hid (Post (.returned (.agg #[.int .i64 2, .int .i64 y0, .int .i64 y1, .int .i64 0])) (set4 (v1.setCell ⟨w1.heap.size, 2, none⟩ (.int .i64 y1)) w.heap.size 0 2 y0 y1 0)) := hfin
    clear hfin
    go_wp2
    exact bodyPost_ret (v := .agg #[.int .i64 2, .int .i64 y0, .int .i64 y1, .int .i64 0]) (by simp [results, Try.results66, go_sem, a0, a1, a2, a3]) rfl HF.out
  · have st : St w R ao n cap 101 w.heap.size w1.heap.size [.int .i64 12, .int .i64 0, .int .i64 0, .int .i64 0] (w1.alloc (.cells #[.int .i64 12, .int .i64 0, .int .i64 0, .int .i64 0] 101)) := St.start h hr1 hk1 hA HZ.out _
    obtain ⟨k0, hro0⟩ := st.rolls
    go_wp2_with fail
    refine next_cps R ao n cap k0 regs _ hro0 hre' _ ?_
    intro y0 kk0 v0 ya0 yb0 hr hk hzz
    have st := st.next hr hk
    have bc := st.rowB.cell (i := 1) rfl
    have bf := st.rowB.frozen 1
    have st' := st.store h 1 (.int .i64 y0)
    clear hr hk hzz
    replace st := st'
    obtain ⟨k1, hro1⟩ := st.rolls
    go_wp2_with fail
    refine next_cps R ao n cap k1 regs _ hro1 hre' _ ?_
    intro y1 kk1 v1 ya1 yb1 hr hk hzz
    have st := st.next hr hk
    have bc := st.rowB.cell (i := 2) rfl
    have bf := st.rowB.frozen 2
    have st' := st.store h 2 (.int .i64 y1)
    clear hr hk hzz
    have st2 := st'
    obtain ⟨kf, hrof⟩ := st2.rolls
    have hfin := hp 12 y0 y1 0 kf (set4 (v1.setCell ⟨w1.heap.size, 2, none⟩ (.int .i64 y1)) w.heap.size 0 12 y0 y1 0) (by simp [opGood, below]; omega) (((hrof.set h (Nat.le_refl _) _).set h (Nat.le_refl _) _ |>.set h (Nat.le_refl _) _).set h (Nat.le_refl _) _) (st2.keep.set4 (.inr (Nat.le_refl _)) _ _ _ _)
    have hne := st2.ne
    have a0 := st2.rowA.cell (i := 0) rfl
    have a1 := st2.rowA.cell (i := 1) rfl
    have a2 := st2.rowA.cell (i := 2) rfl
    have a3 := st2.rowA.cell (i := 3) rfl
    have f0 := st2.rowA.frozen 0
    have f1 := st2.rowA.frozen 1
    have f2 := st2.rowA.frozen 2
    have f3 := st2.rowA.frozen 3
    have q0 := st2.rowB.cell (i := 0) (u := .int .i64 12) rfl
    have q1 := st2.rowB.cell (i := 1) (u := .int .i64 y0) rfl
    have q2 := st2.rowB.cell (i := 2) (u := .int .i64 y1) rfl
    have q3 := st2.rowB.cell (i := 3) (u := .int .i64 0) rfl
    clear st st' st2 hp h hr1 hk1 hA
    have HF : Hid (Post (.returned (.agg #[.int .i64 12, .int .i64 y0, .int .i64 y1, .int .i64 0])) (set4 (v1.setCell ⟨w1.heap.size, 2, none⟩ (.int .i64 y1)) w.heap.size 0 12 y0 y1 0)) := hfin
    clear hfin
    go_wp2
    exact bodyPost_ret (v := .agg #[.int .i64 12, .int .i64 y0, .int .i64 y1, .int .i64 0]) (by simp [results, Try.results66, go_sem, a0, a1, a2, a3]) rfl HF.out
  · have st : St w R ao n cap 101 w.heap.size w1.heap.size [.int .i64 13, .int .i64 0, .int .i64 0, .int .i64 0] (w1.alloc (.cells #[.int .i64 13, .int .i64 0, .int .i64 0, .int .i64 0] 101)) := St.start h hr1 hk1 hA HZ.out _
    obtain ⟨k0, hro0⟩ := st.rolls
    go_wp2_with fail
    refine next_cps R ao n cap k0 regs _ hro0 hre' _ ?_
    intro y0 kk0 v0 ya0 yb0 hr hk hzz
    have st := st.next hr hk
    have bc := st.rowB.cell (i := 1) rfl
    have bf := st.rowB.frozen 1
    have st' := st.store h 1 (.int .i64 y0)
    clear hr hk hzz
    replace st := st'
    obtain ⟨k1, hro1⟩ := st.rolls
    go_wp2_with fail
    refine next_cps R ao n cap k1 regs _ hro1 hre' _ ?_
    intro y1 kk1 v1 ya1 yb1 hr hk hzz
    have st := st.next hr hk
    have bc := st.rowB.cell (i := 2) rfl
    have bf := st.rowB.frozen 2
    have st' := st.store h 2 (.int .i64 y1)
    clear hr hk hzz
    have st2 := st'
    obtain ⟨kf, hrof⟩ := st2.rolls
    have hfin := hp 13 y0 y1 0 kf (set4 (v1.setCell ⟨w1.heap.size, 2, none⟩ (.int .i64 y1)) w.heap.size 0 13 y0 y1 0) (by simp [opGood, below]; omega) (((hrof.set h (Nat.le_refl _) _).set h (Nat.le_refl _) _ |>.set h (Nat.le_refl _) _).set h (Nat.le_refl _) _) (st2.keep.set4 (.inr (Nat.le_refl _)) _ _ _ _)
    have hne := st2.ne
    have a0 := st2.rowA.cell (i := 0) rfl
    have a1 := st2.rowA.cell (i := 1) rfl
    have a2 := st2.rowA.cell (i := 2) rfl
    have a3 := st2.rowA.cell (i := 3) rfl
    have f0 := st2.rowA.frozen 0
    have f1 := st2.rowA.frozen 1
    have f2 := st2.rowA.frozen 2
    have f3 := st2.rowA.frozen 3
    have q0 := st2.rowB.cell (i := 0) (u := .int .i64 13) rfl
    have q1 := st2.rowB.cell (i := 1) (u := .int .i64 y0) rfl
    have q2 := st2.rowB.cell (i := 2) (u := .int .i64 y1) rfl
    have q3 := st2.rowB.cell (i := 3) (u := .int .i64 0) rfl
    clear st st' st2 hp h hr1 hk1 hA
    have HF : Hid (Post (.returned (.agg #[.int .i64 13, .int .i64 y0, .int .i64 y1, .int .i64 0])) (set4 (v1.setCell ⟨w1.heap.size, 2, none⟩ (.int .i64 y1)) w.heap.size 0 13 y0 y1 0)) := hfin
    clear hfin
    go_wp2
    exact bodyPost_ret (v := .agg #[.int .i64 13, .int .i64 y0, .int .i64 y1, .int .i64 0]) (by simp [results, Try.results66, go_sem, a0, a1, a2, a3]) rfl HF.out
  · have hsl' : 1 ≤ slots ∧ slots ≤ 1000 := by omega
    have st : St w R ao n cap 101 w.heap.size w1.heap.size [.int .i64 14, .int .i64 0, .int .i64 0, .int .i64 0] (w1.alloc (.cells #[.int .i64 14, .int .i64 0, .int .i64 0, .int .i64 0] 101)) := St.start h hr1 hk1 hA HZ.out _
    obtain ⟨k0, hro0⟩ := st.rolls
    go_wp2_with fail
    refine next_cps R ao n cap k0 slots _ hro0 hsl' _ ?_
    intro y0 kk0 v0 ya0 yb0 hr hk hzz
    have st := st.next hr hk
    have bc := st.rowB.cell (i := 1) rfl
    have bf := st.rowB.frozen 1
    have st' := st.store h 1 (.int .i64 y0)
    clear hr hk hzz
    replace st := st'
    obtain ⟨k1, hro1⟩ := st.rolls
    go_wp2_with fail
    refine next_cps R ao n cap k1 regs _ hro1 hre' _ ?_
    intro y1 kk1 v1 ya1 yb1 hr hk hzz
    have st := st.next hr hk
    have bc := st.rowB.cell (i := 2) rfl
    have bf := st.rowB.frozen 2
    have st' := st.store h 2 (.int .i64 y1)
    clear hr hk hzz
    have st2 := st'
    obtain ⟨kf, hrof⟩ := st2.rolls
    have hfin := hp 14 y0 y1 0 kf (set4 (v1.setCell ⟨w1.heap.size, 2, none⟩ (.int .i64 y1)) w.heap.size 0 14 y0 y1 0) (by simp [opGood, below]; omega) (((hrof.set h (Nat.le_refl _) _).set h (Nat.le_refl _) _ |>.set h (Nat.le_refl _) _).set h (Nat.le_refl _) _) (st2.keep.set4 (.inr (Nat.le_refl _)) _ _ _ _)
    have hne := st2.ne
    have a0 := st2.rowA.cell (i := 0) rfl
    have a1 := st2.rowA.cell (i := 1) rfl
    have a2 := st2.rowA.cell (i := 2) rfl
    have a3 := st2.rowA.cell (i := 3) rfl
    have f0 := st2.rowA.frozen 0
    have f1 := st2.rowA.frozen 1
    have f2 := st2.rowA.frozen 2
    have f3 := st2.rowA.frozen 3
    have q0 := st2.rowB.cell (i := 0) (u := .int .i64 14) rfl
    have q1 := st2.rowB.cell (i := 1) (u := .int .i64 y0) rfl
    have q2 := st2.rowB.cell (i := 2) (u := .int .i64 y1) rfl
    have q3 := st2.rowB.cell (i := 3) (u := .int .i64 0) rfl
    clear st st' st2 hp h hr1 hk1 hA
    have HF : Hid (Post (.returned (.agg #[.int .i64 14, .int .i64 y0, .int .i64 y1, .int .i64 0])) (set4 (v1.setCell ⟨w1.heap.size, 2, none⟩ (.int .i64 y1)) w.heap.size 0 14 y0 y1 0)) := hfin
    clear hfin
    go_wp2
    exact bodyPost_ret (v := .agg #[.int .i64 14, .int .i64 y0, .int .i64 y1, .int .i64 0]) (by simp [results, Try.results66, go_sem, a0, a1, a2, a3]) rfl HF.out
  · have hsl' : 1 ≤ slots ∧ slots ≤ 1000 := by omega
    have st : St w R ao n cap 101 w.heap.size w1.heap.size [.int .i64 15, .int .i64 0, .int .i64 0, .int .i64 0] (w1.alloc (.cells #[.int .i64 15, .int .i64 0, .int .i64 0, .int .i64 0] 101)) := St.start h hr1 hk1 hA HZ.out _
    obtain ⟨k0, hro0⟩ := st.rolls
    go_wp2_with fail
    refine next_cps R ao n cap k0 regs _ hro0 hre' _ ?_
    intro y0 kk0 v0 ya0 yb0 hr hk hzz
    have st := st.next hr hk
    have bc := st.rowB.cell (i := 1) rfl
    have bf := st.rowB.frozen 1
    have st' := st.store h 1 (.int .i64 y0)
    clear hr hk hzz
    replace st := st'
    obtain ⟨k1, hro1⟩ := st.rolls
    go_wp2_with fail
    refine next_cps R ao n cap k1 slots _ hro1 hsl' _ ?_
    intro y1 kk1 v1 ya1 yb1 hr hk hzz
    have st := st.next hr hk
    have bc := st.rowB.cell (i := 2) rfl
    have bf := st.rowB.frozen 2
    have st' := st.store h 2 (.int .i64 y1)
    clear hr hk hzz
    have st2 := st'
    obtain ⟨kf, hrof⟩ := st2.rolls
    have hfin := hp 15 y0 y1 0 kf (set4 (v1.setCell ⟨w1.heap.size, 2, none⟩ (.int .i64 y1)) w.heap.size 0 15 y0 y1 0) (by simp [opGood, below]; omega) (((hrof.set h (Nat.le_refl _) _).set h (Nat.le_refl _) _ |>.set h (Nat.le_refl _) _).set h (Nat.le_refl _) _) (st2.keep.set4 (.inr (Nat.le_refl _)) _ _ _ _)
    have hne := st2.ne
    have a0 := st2.rowA.cell (i := 0) rfl
    have a1 := st2.rowA.cell (i := 1) rfl
    have a2 := st2.rowA.cell (i := 2) rfl
    have a3 := st2.rowA.cell (i := 3) rfl
    have f0 := st2.rowA.frozen 0
    have f1 := st2.rowA.frozen 1
    have f2 := st2.rowA.frozen 2
    have f3 := st2.rowA.frozen 3
    have q0 := st2.rowB.cell (i := 0) (u := .int .i64 15) rfl
    have q1 := st2.rowB.cell (i := 1) (u := .int .i64 y0) rfl
    have q2 := st2.rowB.cell (i := 2) (u := .int .i64 y1) rfl
    have q3 := st2.rowB.cell (i := 3) (u := .int .i64 0) rfl
    clear st st' st2 hp h hr1 hk1 hA
    have HF : Hid (Post (.returned (.agg #[.int .i64 15, .int .i64 y0, .int .i64 y1, .int .i64 0])) (set4 (v1.setCell ⟨w1.heap.size, 2, none⟩ (.int .i64 y1)) w.heap.size 0 15 y0 y1 0)) := hfin
    clear hfin
    go_wp2
    exact bodyPost_ret (v := .agg #[.int .i64 15, .int .i64 y0, .int .i64 y1, .int .i64 0]) (by simp [results, Try.results66, go_sem, a0, a1, a2, a3]) rfl HF.out
  · have n1 : ((1 + x : Int) == 1) = false := by simp; omega
    have n2 : ((1 + x : Int) == 2) = false := by simp; omega
    have n12 : ((1 + x : Int) == 12) = false := by simp; omega
    have n13 : ((1 + x : Int) == 13) = false := by simp; omega
    have n14 : ((1 + x : Int) == 14) = false := by simp; omega
    have n15 : ((1 + x : Int) == 15) = false := by simp; omega
    have st : St w R ao n cap 101 w.heap.size w1.heap.size [.int .i64 (1 + x), .int .i64 0, .int .i64 0, .int .i64 0] (w1.alloc (.cells #[.int .i64 (1 + x), .int .i64 0, .int .i64 0, .int .i64 0] 101)) := St.start h hr1 hk1 hA HZ.out _
    obtain ⟨k0, hro0⟩ := st.rolls
    go_wp2_with fail
    refine next_cps R ao n cap k0 regs _ hro0 hre' _ ?_
    intro y0 kk0 v0 ya0 yb0 hr hk hzz
    have st := st.next hr hk
    have bc := st.rowB.cell (i := 1) rfl
    have bf := st.rowB.frozen 1
    have st' := st.store h 1 (.int .i64 y0)
    clear hr hk hzz
    replace st := st'
    obtain ⟨k1, hro1⟩ := st.rolls
    go_wp2_with fail
    refine next_cps R ao n cap k1 regs _ hro1 hre' _ ?_
    intro y1 kk1 v1 ya1 yb1 hr hk hzz
    have st := st.next hr hk
    have bc := st.rowB.cell (i := 2) rfl
    have bf := st.rowB.frozen 2
    have st' := st.store h 2 (.int .i64 y1)
    clear hr hk hzz
    replace st := st'
    obtain ⟨k2, hro2⟩ := st.rolls
    go_wp2_with fail
    refine next_cps R ao n cap k2 regs _ hro2 hre' _ ?_
    intro y2 kk2 v2 ya2 yb2 hr hk hzz
    have st := st.next hr hk
    have bc := st.rowB.cell (i := 3) rfl
    have bf := st.rowB.frozen 3
    have st' := st.store h 3 (.int .i64 y2)
    clear hr hk hzz
    have st2 := st'
    obtain ⟨kf, hrof⟩ := st2.rolls
    have hfin := hp (1 + x) y0 y1 y2 kf (set4 (v2.setCell ⟨w1.heap.size, 3, none⟩ (.int .i64 y2)) w.heap.size 0 (1 + x) y0 y1 y2) (by unfold opGood; rw [if_neg (by show ¬ (1 + x = 1); omega), if_pos (by show 3 ≤ 1 + x ∧ 1 + x ≤ 11; omega)]; simp [below]; omega) (((hrof.set h (Nat.le_refl _) _).set h (Nat.le_refl _) _ |>.set h (Nat.le_refl _) _).set h (Nat.le_refl _) _) (st2.keep.set4 (.inr (Nat.le_refl _)) _ _ _ _)
    have hne := st2.ne
    have a0 := st2.rowA.cell (i := 0) rfl
    have a1 := st2.rowA.cell (i := 1) rfl
    have a2 := st2.rowA.cell (i := 2) rfl
    have a3 := st2.rowA.cell (i := 3) rfl
    have f0 := st2.rowA.frozen 0
    have f1 := st2.rowA.frozen 1
    have f2 := st2.rowA.frozen 2
    have f3 := st2.rowA.frozen 3
    have q0 := st2.rowB.cell (i := 0) (u := .int .i64 (1 + x)) rfl
    have q1 := st2.rowB.cell (i := 1) (u := .int .i64 y0) rfl
    have q2 := st2.rowB.cell (i := 2) (u := .int .i64 y1) rfl
    have q3 := st2.rowB.cell (i := 3) (u := .int .i64 y2) rfl
    clear st st' st2 hp h hr1 hk1 hA
    have HF : Hid (Post (.returned (.agg #[.int .i64 (1 + x), .int .i64 y0, .int .i64 y1, .int .i64 y2])) (set4 (v2.setCell ⟨w1.heap.size, 3, none⟩ (.int .i64 y2)) w.heap.size 0 (1 + x) y0 y1 y2)) := hfin
    clear hfin
    go_wp2
    exact bodyPost_ret (v := .agg #[.int .i64 (1 + x), .int .i64 y0, .int .i64 y1, .int .i64 y2]) (by simp [results, Try.results66, go_sem, a0, a1, a2, a3]) rfl HF.out

end Go.Proofs.Ytblhmeidbjigaaa

/- A block out of raw numbers. -/
set_option linter.unusedSimpArgs false
set_option linter.unusedVariables false
namespace Go.Proofs.Ytblhmeidbjigaaa
open Go.RowKit

theorem owns_keep {S : Nat → Prop} {w w' : World} {base : Nat} {e : TypeId} {sz : Nat} {v : Value} {n : Nat} {xs : List Value} (h : w.ownsRow base e sz v n xs) (hk : Keep S w w') (hS : ∀ g, S g → g < base) : w'.ownsRow base e sz v n xs :=
  owns_same h fun g hg => hk.block g (h.lt g hg).2 (fun hs => by have := hS g hs; have := (h.lt g hg).1; omega)

theorem Rolls.below {w w' w0 : World} {R : Nat} {ao : Option Addr} {n cap k k0 : Nat} (h : Rolls w R ao n cap k) (h0 : Rolls w0 R ao n cap k0) {B : Nat} (hb : Below B w w') (hB : w0.heap.size ≤ B) : Rolls w' R ao n cap k := by
  have hR := h0.row.lt
  refine ⟨h.row.below hb (by omega), h.le, ?_, h.off⟩
  obtain ⟨ao', cap', e, hn, hc⟩ := h.rd
  obtain ⟨ao2, cap2, e2, _, hc2⟩ := h0.rd
  simp only [Value.slice.injEq, true_and] at e e2
  obtain ⟨rfl, rfl⟩ := e
  obtain ⟨rfl, rfl⟩ := e2
  refine ⟨ao, cap, rfl, hn, fun i hi => ?_⟩
  obtain ⟨b, off, x, e1, h1, h2, h3⟩ := hc i hi
  obtain ⟨b2, off2, x2, e2, _, _, h4⟩ := hc2 i hi
  rw [e1] at e2
  simp only [Option.some.injEq, Addr.mk.injEq, and_true] at e2
  obtain ⟨rfl, rfl⟩ := e2
  have := World.block_lt_of_cell? _ _ h4
  exact ⟨b, off, x, e1, h1, h2, (hb.cell (by simp at this ⊢; omega)).trans h3⟩

set_option maxRecDepth 100000 in
set_option maxHeartbeats 4000000 in
theorem block_cps (R : Nat) (ao : Option Addr) (n cap k : Nat) (most regs slots nb : Int) (w : World) (h : Rolls w R ao n cap k) (hre : 1 ≤ regs ∧ regs ≤ 8) (hsl : 0 ≤ slots ∧ slots ≤ 8) (hmo : 1 ≤ most ∧ most ≤ 15) (hms : most ≤ 13 ∨ 1 ≤ slots) (hnb : 1 ≤ nb ∧ nb ≤ 6) (Post : Ending → World → Prop)
    (hp : ∀ sv l a b c d k' w', blockGood regs slots nb ⟨l, ⟨a, b, c, d⟩⟩ = true → w'.ownsRow w.heap.size 101 4 sv l.length (opCells l) → Rolls w' R ao n cap k' → Keep (fun g => g = R) w w' → Post (.returned (.agg #[sv, .int .i64 a, .int .i64 b, .int .i64 c, .int .i64 d])) w') :
    Calls Try.prog 45 #[.pointer (some ⟨R, 0, none⟩), .int .i64 12, .int .i64 most, .int .i64 regs, .int .i64 slots, .int .i64 nb] w Post := by
  obtain ⟨i0, ii, iz0, iz1, iz2⟩ := info_parts Try.infoOp
  have hRw := h.row.lt
  have hA0 : Row ((w.alloc (.cells #[.slice none 0 0, .int .i64 0, .int .i64 0, .int .i64 0, .int .i64 0] 90)).alloc (.cells #[.slice none 0 0, .int .i64 0, .int .i64 0, .int .i64 0, .int .i64 0] 90)) w.heap.size 90 zBlk5 := by
    have q : Row (w.alloc (.cells #[.slice none 0 0, .int .i64 0, .int .i64 0, .int .i64 0, .int .i64 0] 90)) w.heap.size 90 zBlk5 := heap_alloc_new w _
    exact q.alloc _
  have hB0 : Row ((w.alloc (.cells #[.slice none 0 0, .int .i64 0, .int .i64 0, .int .i64 0, .int .i64 0] 90)).alloc (.cells #[.slice none 0 0, .int .i64 0, .int .i64 0, .int .i64 0, .int .i64 0] 90)) (w.heap.size + 1) 90 [.slice none 0 0, .int .i64 0, .int .i64 0, .int .i64 0, .int .i64 0] := heap_alloc2_new w _ _
  go_enter Try.func45, Try.ntmps45
  go_wp2_with fail
  refine next_cps R ao n cap k 13 _ (h.keep (((Below.refl _ _).alloc (Nat.le_refl _) _).alloc (by simp) _)) (by omega) _ ?_
  intro c k1 w1 hc0 hc3 hr1 hk1 hz1
  have hA := hA0.kept hk1 (by omega)
  have hB := hB0.kept hk1 (by omega)
  have hk01 : Keep (fun g => g = R) w w1 := (((Keep.refl _ _).alloc _).alloc _).trans hk1
  simp only [World.size_alloc] at hz1
  have hz1' : w.heap.size + 2 ≤ w1.heap.size := by omega
  clear hA0 hB0 hz1 hk1
  go_wp2
  go_loopw [15] (fun i wr => ∃ (j : Nat) (sv : Value) (l : List OpD) (kk : Nat), j ≤ c.toNat ∧ i = .int .i64 j ∧ Hid (l.length = j) ∧ Hid (opsGood regs slots l = true) ∧ Row wr w.heap.size 90 zBlk5 ∧ Row wr (w.heap.size + 1) 90 [sv, .int .i64 0, .int .i64 0, .int .i64 0, .int .i64 0] ∧
      wr.ownsRow (w.heap.size + 2) 101 4 sv j (opCells l) ∧ Rolls wr R ao n cap kk ∧ Keep (fun g => g = R) w wr ∧ w.heap.size + 2 ≤ wr.heap.size)
    (fun i _ => c.toNat - (intOf i).toNat)
  case atStart => exact ⟨0, .slice none 0 0, [], k1, Nat.zero_le _, rfl, rfl, rfl, hA, hB, World.ownsRow_nil _ _ _ _, hr1, hk01, hz1'⟩
  case round =>
    clear hA hB hr1 hk01 hz1' w1
    obtain ⟨j, sv, l, kk, hj, rfl, hll, hlg, hA, hB, hown, hro, hke, hzz⟩ := hrel
    obtain ⟨lo, lc, rfl⟩ := owns_slice hown
    by_cases hlt : (j : Int) < c
    · go_wp2_with fail
      refine op_cps R ao n cap kk most regs slots _ hro hre hsl hmo hms _ ?_
      intro a b c' d k2 w2 hg hr2 hk2
      have hA2 := hA.kept hk2 (by omega)
      have hB2 := hB.kept hk2 (by omega)
      have own2 := owns_keep hown hk2 (fun g hg => by omega)
      have hke2 := hke.trans hk2
      have hz2 := hk2.size
      have hzl : w.heap.size + 1 < w2.heap.size := by omega
      have hzq : w.heap.size + 2 ≤ w2.heap.size := by omega
      have b0 := hB2.cell (i := 0) rfl
      have HX : Hid (opsGood regs slots (l ++ [⟨a, b, c', d⟩]) = true) := by
        show opsGood _ _ _ = true
        have := hlg.out
        simp only [opsGood, List.all_append, List.all_cons, List.all_nil, Bool.and_true, Bool.and_eq_true] at this ⊢
        exact ⟨this, hg⟩
      clear hown hro hke hzz hA hB hk2 hg hlg
      go_wp2_with (at_builtin; refine wpList_append_own _ rfl _ _ 86 rfl (w.heap.size + 2) 101 i0 (.agg #[.int .i64 0, .int .i64 0, .int .i64 0, .int .i64 0]) 4 32 Try.underlying86 ii iz0 iz1 iz2 rfl (by decide) _ _ _ rfl ((own2.alloc _).alloc _) ⟨w2.heap.size + 1, 0, none⟩ 1 1 [.int .i64 a, .int .i64 b, .int .i64 c', .int .i64 d] rfl rfl ?c1 four_one ?c3 ?c4 ?c5 ?_)
      case c1 => simpa using four_new (w2.alloc _) _ _ _ _ _
      case c3 => unfold maxLen; omega
      case c4 => omega
      case c5 => first | omega | (simp; omega)
      intro v' w3 hown' hgrow _
      rw [← opCells_snoc] at hown'
      have hb2 := ((((Below.refl (w.heap.size + 2) w2).alloc hzq _).alloc (by simp; omega) _).grown hgrow (by simp; omega) (fun g hg => (own2.lt g hg).1))
      have hA3 := hA2.below hb2 (by omega)
      have hB3 := hB2.below hb2 (by omega)
      have hr3 := hr2.below h hb2 (by omega)
      have hke3 := hke2.below hb2 (by omega)
      have hz3 := hb2.size
      have y0 := hB3.cell (i := 0) rfl
      have yf := hB3.frozen 0
      obtain ⟨lo', lc', rfl⟩ := owns_slice hown'
      have hB4 := hB3.set 0 (.slice lo' (j + 1) lc')
      have hA4 := hA3.unset (a := ⟨w.heap.size + 1, 0, none⟩) (by show w.heap.size ≠ w.heap.size + 1; omega) (.slice lo' (j + 1) lc')
      have hr4 := hr3.set h (g := w.heap.size + 1) (i := 0) (by omega) (.slice lo' (j + 1) lc')
      have hke4 := hke3.setCell (p := ⟨w.heap.size + 1, 0, none⟩) (.inr (by show w.heap.size ≤ w.heap.size + 1; omega)) (.slice lo' (j + 1) lc')
      have own4 := ownsRow_setCell_below hown' (a := ⟨w.heap.size + 1, 0, none⟩) (by show w.heap.size + 1 < w.heap.size + 2; omega) (.slice lo' (j + 1) lc')
      clear hgrow hown' hb2 hA2 hB2 own2 hr2 hke2 b0 hA3 hB3 hr3 hke3
      go_wp2
      go_roundw
      case rel => exact ⟨j + 1, _, l ++ [⟨a, b, c', d⟩], k2, by omega, by go_num, by show List.length _ = _; have := hll.out; simp; exact this, HX, hA4, hB4, own4, hr4, hke4, by simp; omega⟩
      case measure => simp [intOf]; omega
    · obtain rfl : j = c.toNat := by omega
      go_wp2_with fail
      refine end_cps R ao n cap kk regs nb _ hro hre hnb _ ?_
      intro a b c' d k2 w2 hg hr2 hk2
      have hA2 := hA.kept hk2 (by omega)
      have hB2 := hB.kept hk2 (by omega)
      have own2 := owns_keep hown hk2 (fun g hg => by omega)
      have hke2 := hke.trans hk2
      have b0 := hB2.cell (i := 0) rfl
      have b1 := hB2.cell (i := 1) rfl
      have b2 := hB2.cell (i := 2) rfl
      have b3 := hB2.cell (i := 3) rfl
      have b4 := hB2.cell (i := 4) rfl
      have g1 := hB2.frozen 1
      have g2 := hB2.frozen 2
      have g3 := hB2.frozen 3
      have g4 := hB2.frozen 4
      have a0 := hA2.cell (i := 0) rfl
      have a1 := hA2.cell (i := 1) rfl
      have a2 := hA2.cell (i := 2) rfl
      have a3 := hA2.cell (i := 3) rfl
      have a4 := hA2.cell (i := 4) rfl
      have f0 := hA2.frozen 0
      have f1 := hA2.frozen 1
      have f2 := hA2.frozen 2
      have f3 := hA2.frozen 3
      have f4 := hA2.frozen 4
      have hgood : blockGood regs slots nb ⟨l, ⟨a, b, c', d⟩⟩ = true := by
        have e1 := hll.out
        simp only [blockGood, Bool.and_eq_true, decide_eq_true_eq]
        exact ⟨⟨by show l.length ≤ 12; omega, hlg.out⟩, hg⟩
      have hfin := hp (.slice lo c.toNat lc) l a b c' d k2 (set4 ((set4 w2 (w.heap.size + 1) 1 a b c' d).setCell ⟨w.heap.size, 0, none⟩ (.slice lo c.toNat lc)) w.heap.size 1 a b c' d) hgood
        (by
          rw [hll.out]
          refine owns_base (base := w.heap.size + 2) ?_ (by omega)
          exact (ownsRow_setCell_below · (by simp) _) ((ownsRow_setCell_below · (by simp) _) ((ownsRow_setCell_below · (by simp) _) ((ownsRow_setCell_below · (by simp) _) ((ownsRow_setCell_below · (by simp) _) ((ownsRow_setCell_below · (by simp) _) ((ownsRow_setCell_below · (by simp) _) ((ownsRow_setCell_below · (by simp) _) ((ownsRow_setCell_below · (by simp) _) own2)))))))))
        (((((((((hr2.set h (by omega) _).set h (by omega) _).set h (by omega) _).set h (by omega) _).set h (by omega) _).set h (by omega) _).set h (by omega) _).set h (by omega) _).set h (by omega) _)
        (((hke2.set4 (.inr (by omega)) _ _ _ _).setCell (.inr (by simp)) _).set4 (.inr (by omega)) _ _ _ _)
      have HF : Hid (Post (.returned (.agg #[.slice lo c.toNat lc, .int .i64 a, .int .i64 b, .int .i64 c', .int .i64 d])) (set4 ((set4 w2 (w.heap.size + 1) 1 a b c' d).setCell ⟨w.heap.size, 0, none⟩ (.slice lo c.toNat lc)) w.heap.size 1 a b c' d)) := hfin
      clear hfin hp hgood hA hB hown hro hke hA2 hB2 own2 hke2 hk2 hr2 h
      go_wp2
      exact bodyPost_ret (v := .agg #[.slice lo c.toNat lc, .int .i64 a, .int .i64 b, .int .i64 c', .int .i64 d]) (by simp [results, Try.results45, go_sem, a0, a1, a2, a3, a4]) rfl HF.out

end Go.Proofs.Ytblhmeidbjigaaa
