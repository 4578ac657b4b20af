/- An end out of raw numbers. -/
import Derived.Test.YtblhmeidbjigaabGreatDoorRows
import Derived.WalkKit
import Derived.WalkSpells
import Derived.WalkLawsBesides
import Derived.Laws.BytesArg
import Derived.Deep.QuietTactic
import Derived.BigQuiet
import Derived.Deep.RegionHeld3
import Derived.Maps.AppendAt
import Derived.StillTailTactics
import Derived.Lib.ItoaNum
import Derived.Lib.ItoaLen
import Derived.OpenShut
import Derived.Test.YtblhmeidbjigaabGreatDoorPCodLToPLawNIdle

set_option linter.unusedSimpArgs false
set_option linter.unusedVariables false
namespace Go.Proofs.YtblhmeidbjigaabGreatDoor
open Go.RowKit

theorem Keep.trans {S : Nat → Prop} {w a b : World} (h : Keep S w a) (h2 : Keep S a b) : Keep S w b :=
  h.step h2.os h2.tape h2.output h2.size fun k hk hn => h2.block k (Nat.lt_of_lt_of_le hk h.size) hn

theorem Rolls.set {w w0 : World} {R : Nat} {ao : Option Addr} {n cap k k0 : Nat} (h : Rolls w R ao n cap k) (h0 : Rolls w0 R ao n cap k0) {g i : Nat} (hg : w0.heap.size ≤ g) (u : Value) : Rolls (w.setCell ⟨g, i, none⟩ u) R ao n cap k := by
  have hR := h0.row.lt
  refine ⟨h.row.unset (a := ⟨g, i, none⟩) (by show R ≠ g; omega) _, h.le, ?_, h.off⟩
  obtain ⟨ao', cap', e, hn, hc⟩ := h.rd
  obtain ⟨ao2, cap2, e2, _, hc2⟩ := h0.rd
  simp only [Value.slice.injEq, true_and] at e e2
  obtain ⟨rfl, rfl⟩ := e
  obtain ⟨rfl, rfl⟩ := e2
  refine ⟨ao, cap, rfl, hn, fun i hi => ?_⟩
  obtain ⟨b, off, x, e1, h1, h2, h3⟩ := hc i hi
  obtain ⟨b2, off2, x2, e2, _, _, h4⟩ := hc2 i hi
  rw [e1] at e2
  simp only [Option.some.injEq, Addr.mk.injEq, and_true] at e2
  obtain ⟨rfl, rfl⟩ := e2
  have := World.block_lt_of_cell? _ _ h4
  exact ⟨b, off, x, e1, h1, h2, cell_unset (fun e => by simp at e; simp at this; omega) h3⟩

/-- Underway: two blocks of four cells each, the answer's (still zero) and the one that is filled. -/
structure St (w : World) (R : Nat) (ao : Option Addr) (n cap : Nat) (t : TypeId) (A B : Nat) (xs : List Value) (w' : World) : Prop where
  rolls : ∃ k, Rolls w' R ao n cap k
  keep : Keep (fun g => g = R) w w'
  rowA : Row w' A t [.int .i64 0, .int .i64 0, .int .i64 0, .int .i64 0]
  rowB : Row w' B t xs
  geA : w.heap.size ≤ A
  geB : w.heap.size ≤ B
  ne : B ≠ A
  ltR : R < w.heap.size

theorem St.next {w w' w2 : World} {R : Nat} {ao : Option Addr} {n cap k : Nat} {t : TypeId} {A B : Nat} {xs : List Value} (h : St w R ao n cap t A B xs w') (hr : Rolls w2 R ao n cap k) (hk : Keep (fun g => g = R) w' w2) : St w R ao n cap t A B xs w2 :=
  ⟨⟨k, hr⟩, h.keep.trans hk, h.rowA.kept hk (by have := h.geA; have := h.ltR; omega), h.rowB.kept hk (by have := h.geB; have := h.ltR; omega), h.geA, h.geB, h.ne, h.ltR⟩

theorem St.store {w w' : World} {R : Nat} {ao : Option Addr} {n cap k : Nat} {t : TypeId} {A B : Nat} {xs : List Value} (h : St w R ao n cap t A B xs w') (h0 : Rolls w R ao n cap k) (i : Nat) (u : Value) : St w R ao n cap t A B (xs.set i u) (w'.setCell ⟨B, i, none⟩ u) :=
  ⟨let ⟨k, hr⟩ := h.rolls; ⟨k, hr.set h0 h.geB u⟩, h.keep.setCell (.inr h.geB) u, h.rowA.unset (a := ⟨B, i, none⟩) (fun e => h.ne e.symm) u, h.rowB.set i u, h.geA, h.geB, h.ne, h.ltR⟩

theorem St.start {w w1 : World} {R : Nat} {ao : Option Addr} {n cap k k1 : Nat} {t : TypeId} {O : Obj} (h : Rolls w R ao n cap k) (hr : Rolls w1 R ao n cap k1) (hk : Keep (fun g => g = R) (w.alloc O) w1) (hA : Row w1 w.heap.size t [.int .i64 0, .int .i64 0, .int .i64 0, .int .i64 0])
    (hz : w1.heap.size = w.heap.size + 1) (xs : List Value) : St w R ao n cap t w.heap.size w1.heap.size xs (w1.alloc (.cells xs.toArray t)) :=
  ⟨⟨k1, hr.keep ((Below.refl _ _).alloc (Nat.le_refl _) _)⟩, (((Keep.refl _ _).alloc O).trans hk).alloc _, hA.alloc _, heap_alloc_new w1 _, Nat.le_refl _, by omega, by omega, h.row.lt⟩

set_option maxRecDepth 100000 in
set_option maxHeartbeats 2000000 in
theorem end_cps (R : Nat) (ao : Option Addr) (n cap k : Nat) (regs nb : Int) (w : World) (h : Rolls w R ao n cap k) (hre : 1 ≤ regs ∧ regs ≤ 8) (hnb : 1 ≤ nb ∧ nb ≤ 6) (Post : Ending → World → Prop)
    (hp : ∀ a b c d k' w', endGood regs nb ⟨a, b, c, d⟩ = true → Rolls w' R ao n cap k' → Keep (fun g => g = R) w w' → Post (.returned (.agg #[.int .i64 a, .int .i64 b, .int .i64 c, .int .i64 d])) w') :
    Calls Tryz.prog 53 #[.pointer (some ⟨R, 0, none⟩), .int .i64 regs, .int .i64 nb] w Post := by
  have hRw := h.row.lt
  have hA0 : Row (w.alloc (.cells #[.int .i64 0, .int .i64 0, .int .i64 0, .int .i64 0] 40)) w.heap.size 40 [.int .i64 0, .int .i64 0, .int .i64 0, .int .i64 0] := heap_alloc_new w _
  go_enter Tryz.func53, Tryz.ntmps53
  go_wp2_with fail
  refine next_cps R ao n cap k 3 _ (h.keep ((Below.refl _ _).alloc (Nat.le_refl _) _)) (by omega) _ ?_
  intro x k1 w1 hx0 hx3 hr1 hk1 hz1
  have hA := hA0.kept hk1 (by omega)
  simp only [World.size_alloc] at hz1
  have HZ : Hid (w1.heap.size = w.heap.size + 1) := hz1
  have hzl : w.heap.size < w1.heap.size := by omega
  have hRB : R < w1.heap.size := by omega
  clear hA0 hz1
  have hnb' : 1 ≤ nb ∧ nb ≤ 1000 := by omega
  have hre' : 1 ≤ regs ∧ regs ≤ 1000 := by omega
  obtain rfl | rfl | rfl : x = 0 ∨ x = 1 ∨ x = 2 := by omega
  · have st : St w R ao n cap 40 w.heap.size w1.heap.size [.int .i64 1, .int .i64 0, .int .i64 0, .int .i64 0] (w1.alloc (.cells #[.int .i64 1, .int .i64 0, .int .i64 0, .int .i64 0] 40)) := St.start h hr1 hk1 hA HZ.out _
    obtain ⟨k0, hro0⟩ := st.rolls
    go_wp2_with fail
    refine next_cps R ao n cap k0 nb _ hro0 hnb' _ ?_
    intro y0 kk0 v0 ya0 yb0 hr hk hzz
    have st := st.next hr hk
    have bc := st.rowB.cell (i := 2) rfl
    have bf := st.rowB.frozen 2
    have st' := st.store h 2 (.int .i64 y0)
    clear hr hk hzz
    have st2 := st'
    obtain ⟨kf, hrof⟩ := st2.rolls
    have hfin := hp 1 0 y0 0 kf (set4 (v0.setCell ⟨w1.heap.size, 2, none⟩ (.int .i64 y0)) w.heap.size 0 1 0 y0 0) (by simp [endGood, below]; omega) (((hrof.set h (Nat.le_refl _) _).set h (Nat.le_refl _) _ |>.set h (Nat.le_refl _) _).set h (Nat.le_refl _) _) (st2.keep.set4 (.inr (Nat.le_refl _)) _ _ _ _)
    have hne := st2.ne
    have a0 := st2.rowA.cell (i := 0) rfl
    have a1 := st2.rowA.cell (i := 1) rfl
    have a2 := st2.rowA.cell (i := 2) rfl
    have a3 := st2.rowA.cell (i := 3) rfl
    have f0 := st2.rowA.frozen 0
    have f1 := st2.rowA.frozen 1
    have f2 := st2.rowA.frozen 2
    have f3 := st2.rowA.frozen 3
    have q0 := st2.rowB.cell (i := 0) (u := .int .i64 1) rfl
    have q1 := st2.rowB.cell (i := 1) (u := .int .i64 0) rfl
    have q2 := st2.rowB.cell (i := 2) (u := .int .i64 y0) rfl
    have q3 := st2.rowB.cell (i := 3) (u := .int .i64 0) rfl
    clear st st' st2 hp h hr1 hk1 hA
    have HF : Hid (Post (.returned (.agg #[.int .i64 1, .int .i64 0, .int .i64 y0, .int .i64 0])) (set4 (v0.setCell ⟨w1.heap.size, 2, none⟩ (.int .i64 y0)) w.heap.size 0 1 0 y0 0)) := hfin
    clear hfin
    go_wp2
    exact bodyPost_ret (v := .agg #[.int .i64 1, .int .i64 0, .int .i64 y0, .int .i64 0]) (by simp [results, Tryz.results53, go_sem, a0, a1, a2, a3]) rfl HF.out
  · have st : St w R ao n cap 40 w.heap.size w1.heap.size [.int .i64 2, .int .i64 0, .int .i64 0, .int .i64 0] (w1.alloc (.cells #[.int .i64 2, .int .i64 0, .int .i64 0, .int .i64 0] 40)) := St.start h hr1 hk1 hA HZ.out _
    obtain ⟨k0, hro0⟩ := st.rolls
    go_wp2_with fail
    refine next_cps R ao n cap k0 regs _ hro0 hre' _ ?_
    intro y0 kk0 v0 ya0 yb0 hr hk hzz
    have st := st.next hr hk
    have bc := st.rowB.cell (i := 1) rfl
    have bf := st.rowB.frozen 1
    have st' := st.store h 1 (.int .i64 y0)
    clear hr hk hzz
    replace st := st'
    obtain ⟨k1, hro1⟩ := st.rolls
    go_wp2_with fail
    refine next_cps R ao n cap k1 nb _ hro1 hnb' _ ?_
    intro y1 kk1 v1 ya1 yb1 hr hk hzz
    have st := st.next hr hk
    have bc := st.rowB.cell (i := 2) rfl
    have bf := st.rowB.frozen 2
    have st' := st.store h 2 (.int .i64 y1)
    clear hr hk hzz
    replace st := st'
    obtain ⟨k2, hro2⟩ := st.rolls
    go_wp2_with fail
    refine next_cps R ao n cap k2 nb _ hro2 hnb' _ ?_
    intro y2 kk2 v2 ya2 yb2 hr hk hzz
    have st := st.next hr hk
    have bc := st.rowB.cell (i := 3) rfl
    have bf := st.rowB.frozen 3
    have st' := st.store h 3 (.int .i64 y2)
    clear hr hk hzz
    have st2 := st'
    obtain ⟨kf, hrof⟩ := st2.rolls
    have hfin := hp 2 y0 y1 y2 kf (set4 (v2.setCell ⟨w1.heap.size, 3, none⟩ (.int .i64 y2)) w.heap.size 0 2 y0 y1 y2) (by simp [endGood, below]; omega) (((hrof.set h (Nat.le_refl _) _).set h (Nat.le_refl _) _ |>.set h (Nat.le_refl _) _).set h (Nat.le_refl _) _) (st2.keep.set4 (.inr (Nat.le_refl _)) _ _ _ _)
    have hne := st2.ne
    have a0 := st2.rowA.cell (i := 0) rfl
    have a1 := st2.rowA.cell (i := 1) rfl
    have a2 := st2.rowA.cell (i := 2) rfl
    have a3 := st2.rowA.cell (i := 3) rfl
    have f0 := st2.rowA.frozen 0
    have f1 := st2.rowA.frozen 1
    have f2 := st2.rowA.frozen 2
    have f3 := st2.rowA.frozen 3
    have q0 := st2.rowB.cell (i := 0) (u := .int .i64 2) rfl
    have q1 := st2.rowB.cell (i := 1) (u := .int .i64 y0) rfl
    have q2 := st2.rowB.cell (i := 2) (u := .int .i64 y1) rfl
    have q3 := st2.rowB.cell (i := 3) (u := .int .i64 y2) rfl
    clear st st' st2 hp h hr1 hk1 hA
    have HF : Hid (Post (.returned (.agg #[.int .i64 2, .int .i64 y0, .int .i64 y1, .int .i64 y2])) (set4 (v2.setCell ⟨w1.heap.size, 3, none⟩ (.int .i64 y2)) w.heap.size 0 2 y0 y1 y2)) := hfin
    clear hfin
    go_wp2
    exact bodyPost_ret (v := .agg #[.int .i64 2, .int .i64 y0, .int .i64 y1, .int .i64 y2]) (by simp [results, Tryz.results53, go_sem, a0, a1, a2, a3]) rfl HF.out
  · have st : St w R ao n cap 40 w.heap.size w1.heap.size [.int .i64 3, .int .i64 0, .int .i64 0, .int .i64 0] (w1.alloc (.cells #[.int .i64 3, .int .i64 0, .int .i64 0, .int .i64 0] 40)) := St.start h hr1 hk1 hA HZ.out _
    obtain ⟨k0, hro0⟩ := st.rolls
    go_wp2_with fail
    refine next_cps R ao n cap k0 regs _ hro0 hre' _ ?_
    intro y0 kk0 v0 ya0 yb0 hr hk hzz
    have st := st.next hr hk
    have bc := st.rowB.cell (i := 1) rfl
    have bf := st.rowB.frozen 1
    have st' := st.store h 1 (.int .i64 y0)
    clear hr hk hzz
    have st2 := st'
    obtain ⟨kf, hrof⟩ := st2.rolls
    have hfin := hp 3 y0 0 0 kf (set4 (v0.setCell ⟨w1.heap.size, 1, none⟩ (.int .i64 y0)) w.heap.size 0 3 y0 0 0) (by simp [endGood, below]; omega) (((hrof.set h (Nat.le_refl _) _).set h (Nat.le_refl _) _ |>.set h (Nat.le_refl _) _).set h (Nat.le_refl _) _) (st2.keep.set4 (.inr (Nat.le_refl _)) _ _ _ _)
    have hne := st2.ne
    have a0 := st2.rowA.cell (i := 0) rfl
    have a1 := st2.rowA.cell (i := 1) rfl
    have a2 := st2.rowA.cell (i := 2) rfl
    have a3 := st2.rowA.cell (i := 3) rfl
    have f0 := st2.rowA.frozen 0
    have f1 := st2.rowA.frozen 1
    have f2 := st2.rowA.frozen 2
    have f3 := st2.rowA.frozen 3
    have q0 := st2.rowB.cell (i := 0) (u := .int .i64 3) rfl
    have q1 := st2.rowB.cell (i := 1) (u := .int .i64 y0) rfl
    have q2 := st2.rowB.cell (i := 2) (u := .int .i64 0) rfl
    have q3 := st2.rowB.cell (i := 3) (u := .int .i64 0) rfl
    clear st st' st2 hp h hr1 hk1 hA
    have HF : Hid (Post (.returned (.agg #[.int .i64 3, .int .i64 y0, .int .i64 0, .int .i64 0])) (set4 (v0.setCell ⟨w1.heap.size, 1, none⟩ (.int .i64 y0)) w.heap.size 0 3 y0 0 0)) := hfin
    clear hfin
    go_wp2
    exact bodyPost_ret (v := .agg #[.int .i64 3, .int .i64 y0, .int .i64 0, .int .i64 0]) (by simp [results, Tryz.results53, go_sem, a0, a1, a2, a3]) rfl HF.out

end Go.Proofs.YtblhmeidbjigaabGreatDoor

/- The machine lets words out. -/
set_option linter.unusedSimpArgs false
set_option linter.unusedVariables false
namespace Go.Proofs.YtblhmeidbjigaabGreatDoor
open Go.RowKit

theorem Row.grown {w w' : World} {M : Nat} {t : TypeId} {xs : List Value} {row : Option Nat} (h : Row w M t xs) (hg : w.grownBy w' row) (hne : row ≠ some M) : Row w' M t xs := h.same (hg.block M h.lt (fun e => hne e.symm))

theorem Keep.mono {S S' : Nat → Prop} {w w' : World} (h : Keep S w w') (hs : ∀ g, S g → S' g) : Keep S' w w' := ⟨h.os, h.tape, h.output, h.size, fun k hk hn => h.block k hk (fun e => hn (hs k e))⟩

end Go.Proofs.YtblhmeidbjigaabGreatDoor

/- The machine's Load. -/
set_option linter.unusedSimpArgs false
set_option linter.unusedVariables false
namespace Go.Proofs.YtblhmeidbjigaabGreatDoor
open Go.RowKit

/-- A region that reads, then one store (or what follows of itself). -/
theorem wp_tail {P : Program} {id : Nat} {Q : Exit → Act → World → Prop} {a : Act} {w : World} {l : List Oper} (n : Nat) (hm : P.follows .mixedOrders = true) (hB : Region.lexTailB .any l.toArray n = true)
    (h : wpStill P l.toArray w.drew (fun a' => wpList P l.toArray Q (l.drop n) a' w.drew) (l.take n) a) : (Code.region id l.toArray true).wp P Q a w :=
  wp_region_still_tail n hm hB h

end Go.Proofs.YtblhmeidbjigaabGreatDoor

/- The machine does an operation; the operations of a block; where it goes on. -/
set_option linter.unusedSimpArgs false
set_option linter.unusedVariables false
namespace Go.Proofs.YtblhmeidbjigaabGreatDoor
open Go.RowKit

theorem opGood_kind {regs slots : Int} {o : OpD} (h : opGood regs slots o = true) : 1 ≤ o.kind ∧ o.kind ≤ 15 := by
  unfold opGood at h
  repeat' split at h
  all_goals first | omega | simp at h

end Go.Proofs.YtblhmeidbjigaabGreatDoor

/- The machine does the operations of a block; where it goes on. -/
set_option linter.unusedSimpArgs false
set_option linter.unusedVariables false
namespace Go.Proofs.YtblhmeidbjigaabGreatDoor
open Go.RowKit

theorem opsGood_at {regs slots : Int} {l : List OpD} (h : opsGood regs slots l = true) {k : Nat} (hk : k < l.length) : opGood regs slots ⟨okind l k, oa l k, ob l k, oc l k⟩ = true := by
  have := List.all_eq_true.1 h (l.getD k oz) (getD_mem' hk)
  exact this

end Go.Proofs.YtblhmeidbjigaabGreatDoor

/- The machine runs. -/
set_option linter.unusedSimpArgs false
set_option linter.unusedVariables false
namespace Go.Proofs.YtblhmeidbjigaabGreatDoor
open Go.RowKit

theorem blocksGood_at {regs slots n : Int} {l : List BlockD} (h : blocksGood regs slots n l = true) {k : Nat} (hk : k < l.length) : (bops l k).length ≤ 12 ∧ opsGood regs slots (bops l k) = true ∧ endGood regs n (bfin l k) = true := by
  have := List.all_eq_true.1 h (l.getD k bz) (getD_mem' hk)
  simp only [blockGood, Bool.and_eq_true, decide_eq_true_eq] at this
  exact ⟨this.1.1, this.1.2, this.2⟩

end Go.Proofs.YtblhmeidbjigaabGreatDoor

/- Lists of words that are read. -/
set_option linter.unusedSimpArgs false
set_option linter.unusedVariables false
namespace Go.Proofs.YtblhmeidbjigaabGreatDoor
open Go.RowKit

/-- A list of words that is read. -/
def RdWords (w : World) (v : Value) (l : List Int) : Prop :=
  ∃ ao cap, v = .slice ao l.length cap ∧ l.length ≤ 9223372036854775807 ∧ ∀ i, i < l.length → ∃ b off, ao = some ⟨b, off, none⟩ ∧ w.cell? ⟨b, off + i, none⟩ = some (.int .i64 (l.getD i 0))

theorem RdWords.keep {w w' : World} {v : Value} {l : List Int} (h : RdWords w v l) (hb : Below w.heap.size w w') : RdWords w' v l := by
  obtain ⟨ao, cap, rfl, hl, hc⟩ := h
  exact ⟨ao, cap, rfl, hl, fun i hi => let ⟨b, off, e, h1⟩ := hc i hi; ⟨b, off, e, cell_keep hb h1⟩⟩

theorem rdWords_nil (w : World) : RdWords w (.slice none 0 0) [] := ⟨none, 0, rfl, by simp, fun i hi => by simp at hi⟩

end Go.Proofs.YtblhmeidbjigaabGreatDoor

/- Twins end alike: pure. -/
set_option linter.unusedSimpArgs false
set_option linter.unusedVariables false
noncomputable section
namespace Go.Proofs.YtblhmeidbjigaabGreatDoor
open Go.RowKit Classical

/-- The end of a block; a Branch whose register's term is a number counts as a Jump. -/
def effT (e : EndD) (t : TD) : EndD := if e.kind = 2 then (match t.isNum with | some n => ⟨1, 0, if n ≠ 0 then e.x else e.y, 0⟩ | none => e) else e

section
variable (p q : ProgD) (h : List PingD) (b : Nat)
def srcOps : List OpD := bops p.blocks (hsrc h b).toNat
def srcT (i : Int) : TD := behindT p.regs 0 (plainNames p.regs 0) (srcOps p h b) (srcOps p h b).length i
def tgtT (i : Int) : TD := behindT q.regs q.slots (namesOf (hpairs h b) (q.regs + q.slots).toNat) (bops q.blocks b) (bops q.blocks b).length i
def srcEnd : EndD := effT (bfin p.blocks (hsrc h b).toNat) (srcT p h b (bfin p.blocks (hsrc h b).toNat).r)
def tgtEnd : EndD := effT (bfin q.blocks b) (tgtT q h b (bfin q.blocks b).r)

/-- An edge: where the source goes on with c and the target with d. -/
def edgeOk (c d : Int) : Prop := hsrc h d.toNat = c ∧ ∀ x ∈ hpairs h d.toNat, srcT p h b x.reg = tgtT q h b x.place

/-- P12 (4), of block b of the target. -/
structure BlockOk : Prop where
  src : 0 ≤ hsrc h b ∧ hsrc h b < p.blocks.length
  pairs : ∀ x ∈ hpairs h b, 0 ≤ x.reg ∧ x.reg < p.regs ∧ 0 ≤ x.place ∧ x.place < q.regs + q.slots
  marks : marksD p.regs 0 p.data (plainNames p.regs 0) (srcOps p h b) (srcOps p h b).length = marksD q.regs q.slots q.data (namesOf (hpairs h b) (q.regs + q.slots).toNat) (bops q.blocks b) (bops q.blocks b).length
  cells : srcT p h b p.regs = tgtT q h b (q.regs + q.slots)
  kind : (srcEnd p h b).kind = (tgtEnd q h b).kind
  term : ((srcEnd p h b).kind = 2 ∨ (srcEnd p h b).kind = 3) → srcT p h b (srcEnd p h b).r = tgtT q h b (tgtEnd q h b).r
  edgeX : (srcEnd p h b).kind ≠ 3 → edgeOk p q h b (srcEnd p h b).x (tgtEnd q h b).x
  edgeY : (srcEnd p h b).kind = 2 → edgeOk p q h b (srcEnd p h b).y (tgtEnd q h b).y
end

theorem end_kind {regs n : Int} {e : EndD} (h : endGood regs n e = true) : e.kind = 1 ∨ e.kind = 2 ∨ e.kind = 3 := by
  unfold endGood at h
  repeat' split at h
  all_goals first | omega | simp at h

theorem end_reg {regs n : Int} {e : EndD} (h : endGood regs n e = true) (hk : e.kind = 2 ∨ e.kind = 3) : 0 ≤ e.r ∧ e.r < regs := by
  unfold endGood at h
  rcases hk with hk | hk
  · simp [hk, below] at h; omega
  · simp [hk, below] at h; omega

end Go.Proofs.YtblhmeidbjigaabGreatDoor

/- P12 in the document's words: pure. -/
set_option linter.unusedSimpArgs false
set_option linter.unusedVariables false
noncomputable section
namespace Go.Proofs.YtblhmeidbjigaabGreatDoor
open Go.RowKit Classical

/-- P12 (2): is the hint one for these programs? -/
def suitsD (p q : ProgD) (h : List PingD) : Prop :=
  h.length = q.blocks.length ∧ ∀ b, b < h.length → hsrc h b < p.blocks.length ∧ ∀ x ∈ hpairs h b, x.reg < p.regs ∧ x.place < q.regs + q.slots

/-- P12 (3). -/
def startsD (q : ProgD) (h : List PingD) : Prop :=
  hsrc h 0 = 0 ∧ ∀ x ∈ hpairs h 0, x.place < q.regs ∧ (x.reg = x.place ∨ (q.args ≤ x.reg ∧ q.args ≤ x.place))

section
variable (p q : ProgD) (h : List PingD) (b : Nat)
def pairsOkD (l : List PairD) : Prop := ∀ x ∈ l, srcT p h b x.reg = tgtT q h b x.place


/-- P12 (4): what is wrong at block b of the target; 0: nothing. -/
def wrongD : Int :=
  if bigT p.regs 0 (plainNames p.regs 0) (srcOps p h b) = true ∨ bigT q.regs q.slots (namesOf (hpairs h b) (q.regs + q.slots).toNat) (bops q.blocks b) = true then 5
  else if marksD p.regs 0 p.data (plainNames p.regs 0) (srcOps p h b) (srcOps p h b).length ≠ marksD q.regs q.slots q.data (namesOf (hpairs h b) (q.regs + q.slots).toNat) (bops q.blocks b) (bops q.blocks b).length then 10
  else if srcT p h b p.regs ≠ tgtT q h b (q.regs + q.slots) then 11
  else if (srcEnd p h b).kind ≠ (tgtEnd q h b).kind then 12
  else if ((srcEnd p h b).kind = 2 ∨ (srcEnd p h b).kind = 3) ∧ srcT p h b (srcEnd p h b).r ≠ tgtT q h b (tgtEnd q h b).r then 12
  else if (srcEnd p h b).kind = 3 then 0
  else if hsrc h (tgtEnd q h b).x.toNat ≠ (srcEnd p h b).x then 13
  else if (srcEnd p h b).kind = 2 ∧ hsrc h (tgtEnd q h b).y.toNat ≠ (srcEnd p h b).y then 13
  else if ¬ pairsOkD p q h b (hpairs h (tgtEnd q h b).x.toNat) then 14
  else if (srcEnd p h b).kind = 2 ∧ ¬ pairsOkD p q h b (hpairs h (tgtEnd q h b).y.toNat) then 14
  else 0
end

/-- P12: what Validate answers of texts that are read as p, q and h. -/
def JudgedD (p q : ProgD) (h : List PingD) (e n : Int) : Prop :=
  (e = 9 ∧ n = 0 ∧ ¬ startsD q h) ∨ (startsD q h ∧
    ((∃ b : Nat, b < q.blocks.length ∧ n = b ∧ e = wrongD p q h b ∧ e ≠ 0 ∧ ∀ c, c < b → wrongD p q h c = 0) ∨ (e = 0 ∧ n = 0 ∧ ∀ b, b < q.blocks.length → wrongD p q h b = 0)))

/-- P12: what Validate answers. -/
def ValAns (s t g : ByteArray) (e n : Int) : Prop :=
  (e = 6 ∧ n = 0 ∧ ∀ p, progGood p = true → str (progText p) = s → p.slots ≠ 0) ∨
  ∃ p, progGood p = true ∧ str (progText p) = s ∧ p.slots = 0 ∧
    ((e = 7 ∧ n = 0 ∧ ∀ q, progGood q = true → str (progText q) ≠ t) ∨
      ∃ q, progGood q = true ∧ str (progText q) = t ∧
        ((e = 8 ∧ n = 0 ∧ ¬ (p.args = q.args ∧ p.data = q.data)) ∨ ((p.args = q.args ∧ p.data = q.data) ∧
          ((e = 2 ∧ n = 0 ∧ ∀ h, goodHint h = true → str (hintText h) = g → ¬ suitsD p q h) ∨
            ∃ h, goodHint h = true ∧ str (hintText h) = g ∧ suitsD p q h ∧ JudgedD p q h e n))))

theorem JudgedD.one {p q : ProgD} {h : List PingD} {e n e' n' : Int} (a : JudgedD p q h e n) (b : JudgedD p q h e' n') : e = e' ∧ n = n' := by
  rcases a with ⟨rfl, rfl, a1⟩ | ⟨a0, a1⟩
  · rcases b with ⟨rfl, rfl, _⟩ | ⟨b0, _⟩
    · exact ⟨rfl, rfl⟩
    · exact absurd b0 a1
  · rcases b with ⟨_, _, b1⟩ | ⟨_, b1⟩
    · exact absurd a0 b1
    · rcases a1 with ⟨x, x1, rfl, rfl, x2, x3⟩ | ⟨rfl, rfl, x1⟩
      · rcases b1 with ⟨y, y1, rfl, rfl, y2, y3⟩ | ⟨_, _, y1⟩
        · have : x = y := by
            rcases Nat.lt_trichotomy x y with c | c | c
            · exact absurd (y3 x c) x2
            · exact c
            · exact absurd (x3 y c) y2
          subst this
          exact ⟨rfl, rfl⟩
        · exact absurd (y1 x x1) x2
      · rcases b1 with ⟨y, y1, rfl, rfl, y2, y3⟩ | ⟨rfl, rfl, y1⟩
        · exact absurd (x1 y y1) y2
        · exact ⟨rfl, rfl⟩

theorem ValAns.one {s t g : ByteArray} {e n e' n' : Int} (a : ValAns s t g e n) (b : ValAns s t g e' n') : e = e' ∧ n = n' := by
  rcases a with ⟨rfl, rfl, a1⟩ | ⟨p, pg, pt, p0, a1⟩
  · rcases b with ⟨rfl, rfl, _⟩ | ⟨p, pg, pt, p0, _⟩
    · exact ⟨rfl, rfl⟩
    · exact absurd p0 (a1 p pg pt)
  rcases b with ⟨_, _, b1⟩ | ⟨p', pg', pt', p0', b1⟩
  · exact absurd p0 (b1 p pg pt)
  obtain rfl : p = p' := prog_one pg pg' (pt.trans pt'.symm)
  rcases a1 with ⟨rfl, rfl, a1⟩ | ⟨q, qg, qt, a1⟩
  · rcases b1 with ⟨rfl, rfl, _⟩ | ⟨q, qg, qt, _⟩
    · exact ⟨rfl, rfl⟩
    · exact absurd qt (a1 q qg)
  rcases b1 with ⟨_, _, b1⟩ | ⟨q', qg', qt', b1⟩
  · exact absurd qt (b1 q qg)
  obtain rfl : q = q' := prog_one qg qg' (qt.trans qt'.symm)
  rcases a1 with ⟨rfl, rfl, a1⟩ | ⟨a0, a1⟩
  · rcases b1 with ⟨rfl, rfl, _⟩ | ⟨b0, _⟩
    · exact ⟨rfl, rfl⟩
    · exact absurd b0 a1
  rcases b1 with ⟨_, _, b1⟩ | ⟨_, b1⟩
  · exact absurd a0 b1
  rcases a1 with ⟨rfl, rfl, a1⟩ | ⟨h, hg, ht, hs, a1⟩
  · rcases b1 with ⟨rfl, rfl, _⟩ | ⟨h, hg, ht, hs, _⟩
    · exact ⟨rfl, rfl⟩
    · exact absurd hs (a1 h hg ht)
  rcases b1 with ⟨_, _, b1⟩ | ⟨h', hg', ht', hs', b1⟩
  · exact absurd hs (b1 h hg ht)
  obtain rfl : h = h' := hint_one hg hg' (ht.trans ht'.symm)
  exact a1.one b1

theorem goodPairs_all {l : List PairD} {last : Int} (h : goodPairs last l = true) : ∀ x ∈ l, 0 ≤ x.reg ∧ 0 ≤ x.place := by
  induction l generalizing last with
  | nil => intro x hx; cases hx
  | cons y l ih =>
    simp only [goodPairs, Bool.and_eq_true, below, decide_eq_true_eq] at h
    intro x hx
    rcases List.mem_cons.1 hx with rfl | hx
    · omega
    · exact ih h.2 x hx

theorem goodHint_at {h : List PingD} (g : goodHint h = true) {b : Nat} (hb : b < h.length) : 0 ≤ hsrc h b ∧ ∀ x ∈ hpairs h b, 0 ≤ x.reg ∧ 0 ≤ x.place := by
  simp only [goodHint, goodPings, Bool.and_eq_true, decide_eq_true_eq, List.all_eq_true] at g
  have hm : h.getD b hz ∈ h := by simp [List.getD, hb]
  have := g.2 _ hm
  simp only [goodPing, Bool.and_eq_true, below, decide_eq_true_eq] at this
  exact ⟨this.1.1.1, goodPairs_all this.2⟩

/-- Where nothing is wrong, P12 (4) holds. -/
theorem blockOk_of {p q : ProgD} {h : List PingD} (hg : goodHint h = true) (hs : suitsD p q h) {b : Nat} (hb : b < q.blocks.length) (hw : wrongD p q h b = 0) : BlockOk p q h b := by
  have hbl : b < h.length := by rw [hs.1]; exact hb
  obtain ⟨s1, s2⟩ := hs.2 b hbl
  obtain ⟨g1, g2⟩ := goodHint_at hg hbl
  unfold wrongD at hw
  split at hw; · omega
  split at hw; · omega
  rename_i hm
  split at hw; · omega
  rename_i hc
  split at hw; · omega
  rename_i hk
  split at hw; · omega
  rename_i ht
  have hm := Decidable.not_not.1 hm
  have hc := Decidable.not_not.1 hc
  have hk := Decidable.not_not.1 hk
  have ht : ((srcEnd p h b).kind = 2 ∨ (srcEnd p h b).kind = 3) → srcT p h b (srcEnd p h b).r = tgtT q h b (tgtEnd q h b).r := fun a => Decidable.not_not.1 fun c => ht ⟨a, c⟩
  have hp : ∀ x ∈ hpairs h b, 0 ≤ x.reg ∧ x.reg < p.regs ∧ 0 ≤ x.place ∧ x.place < q.regs + q.slots := fun x hx => ⟨(g2 x hx).1, (s2 x hx).1, (g2 x hx).2, (s2 x hx).2⟩
  split at hw
  · rename_i h3
    exact ⟨⟨g1, s1⟩, hp, hm, hc, hk, ht, fun c => absurd h3 c, fun c => by omega⟩
  split at hw; · omega
  rename_i x1
  split at hw; · omega
  rename_i x2
  split at hw; · omega
  rename_i x3
  split at hw; · omega
  rename_i x4
  have x1 := Decidable.not_not.1 x1
  have x3 := Decidable.not_not.1 x3
  exact ⟨⟨g1, s1⟩, hp, hm, hc, hk, ht, fun _ => ⟨x1, x3⟩, fun c => ⟨Decidable.not_not.1 fun d => x2 ⟨c, d⟩, Decidable.not_not.1 fun d => x4 ⟨c, d⟩⟩⟩

/-- What is taken for twins. -/
theorem ValAns.ok {s t g : ByteArray} {n : Int} (a : ValAns s t g 0 n) : ∃ p q h, progGood p = true ∧ str (progText p) = s ∧ progGood q = true ∧ str (progText q) = t ∧ goodHint h = true ∧ str (hintText h) = g ∧ p.slots = 0 ∧ p.args = q.args ∧ p.data = q.data ∧
    (∀ b, b < q.blocks.length → BlockOk p q h b) ∧ hsrc h 0 = 0 ∧ (∀ x ∈ hpairs h 0, x.place < q.regs ∧ (x.reg = x.place ∨ (p.args ≤ x.reg ∧ p.args ≤ x.place))) := by
  rcases a with ⟨c, _⟩ | ⟨p, pg, pt, p0, a⟩
  · omega
  rcases a with ⟨c, _⟩ | ⟨q, qg, qt, a⟩
  · omega
  rcases a with ⟨c, _⟩ | ⟨⟨e1, e2⟩, a⟩
  · omega
  rcases a with ⟨c, _⟩ | ⟨h, hg, ht, hs, a⟩
  · omega
  rcases a with ⟨c, _⟩ | ⟨st, a⟩
  · omega
  rcases a with ⟨b, _, _, c, d, _⟩ | ⟨_, _, a⟩
  · omega
  exact ⟨p, q, h, pg, pt, qg, qt, hg, ht, p0, e1, e2, fun b hb => blockOk_of hg hs hb (a b hb), st.1, by rw [e1]; exact st.2⟩

end Go.Proofs.YtblhmeidbjigaabGreatDoor

/- P15: a source is its own twin; pure. -/
set_option linter.unusedSimpArgs false
set_option linter.unusedVariables false
noncomputable section
namespace Go.Proofs.YtblhmeidbjigaabGreatDoor
open Go.RowKit Classical

def idPairs (n : Nat) : List PairD := (List.range n).map fun (i : Nat) => ⟨i, i⟩
def idHint (p : ProgD) : List PingD := (List.range p.blocks.length).map fun (b : Nat) => ⟨b, idPairs p.regs.toNat⟩

theorem idPairs_mem {n : Nat} {x : PairD} (h : x ∈ idPairs n) : ∃ i : Nat, i < n ∧ x = ⟨i, i⟩ := by
  simp only [idPairs, List.mem_map, List.mem_range] at h
  obtain ⟨i, hi, rfl⟩ := h
  exact ⟨i, hi, rfl⟩

theorem good_from {n : Nat} (hn : n ≤ 8) : ∀ (k : Nat) (last : Int), last < ((n - k : Nat) : Int) → k ≤ n → goodPairs last ((List.range' (n - k) k).map fun (i : Nat) => (⟨i, i⟩ : PairD)) = true := by
  intro k
  induction k with
  | zero => intro last _ _; rfl
  | succ k ih =>
    intro last hl hk
    rw [List.range'_succ]
    simp only [List.map_cons, goodPairs, Bool.and_eq_true, below, decide_eq_true_eq]
    refine ⟨⟨⟨by omega, by omega⟩, hl⟩, ?_⟩
    have := ih ((n - (k + 1) : Nat) : Int) (by omega) (by omega)
    rw [show n - (k + 1) + 1 = n - k by omega]
    exact this

theorem idPairs_good {n : Nat} (hn : n ≤ 8) : goodPairs (-1) (idPairs n) = true := by
  have := good_from hn n (-1) (by omega) (Nat.le_refl _)
  rw [Nat.sub_self, ← List.range_eq_range'] at this
  exact this

theorem idHint_at {p : ProgD} {b : Nat} (hb : b < p.blocks.length) : hsrc (idHint p) b = b ∧ hpairs (idHint p) b = idPairs p.regs.toNat := by
  simp [hsrc, hpairs, idHint, List.getD, hb]

theorem idHint_good {p : ProgD} (gp : progGood p = true) : goodHint (idHint p) = true := by
  simp only [progGood, Bool.and_eq_true, decide_eq_true_eq] at gp
  obtain ⟨⟨⟨⟨⟨p1, p2⟩, p3⟩, p4⟩, p5⟩, p6⟩ := gp
  simp only [goodHint, goodPings, Bool.and_eq_true, decide_eq_true_eq, List.all_eq_true]
  refine ⟨by simp [idHint]; omega, fun x hx => ?_⟩
  simp only [idHint, List.mem_map, List.mem_range] at hx
  obtain ⟨b, hb, rfl⟩ := hx
  simp only [goodPing, Bool.and_eq_true, below, decide_eq_true_eq]
  exact ⟨⟨by omega, by simp [idPairs]; omega⟩, idPairs_good (by omega)⟩

theorem find_id (n : Nat) : ∀ (k a : Nat), (p : Nat) → a ≤ p → p < a + k → ((List.range' a k).map fun (i : Nat) => (⟨i, i⟩ : PairD)).find? (fun x => decide (x.place = (p : Int))) = some ⟨p, p⟩ := by
  intro k
  induction k with
  | zero => intro a p h1 h2; omega
  | succ k ih =>
    intro a p h1 h2
    rw [List.range'_succ, List.map_cons, List.find?_cons]
    by_cases he : a = p
    · subst he; simp
    · rw [show decide (((a : Nat) : Int) = (p : Int)) = false by simp; omega]
      exact ih (a + 1) p (by omega) (by omega)

theorem namesOf_id {regs : Int} (h : 0 ≤ regs) : namesOf (idPairs regs.toNat) (regs + 0).toNat = plainNames regs 0 := by
  unfold namesOf plainNames
  apply List.map_congr_left
  intro p hp
  simp only [List.mem_range] at hp
  have := find_id regs.toNat regs.toNat 0 p (by omega) (by omega)
  rw [← List.range_eq_range'] at this
  unfold idPairs
  rw [this, if_pos (by omega)]

end Go.Proofs.YtblhmeidbjigaabGreatDoor

/- P15: when a target whose blocks go as the source's do is taken; pure. -/
set_option linter.unusedSimpArgs false
set_option linter.unusedVariables false
noncomputable section
namespace Go.Proofs.YtblhmeidbjigaabGreatDoor
open Go.RowKit Classical

/-- Block by block the same way: nothing is wrong where marks, cells, the end's register and the pairs have the same terms. -/
theorem like_wrong {p q : ProgD} {h : List PingD} {b : Nat} (hgood : blocksGood p.regs 0 p.blocks.length p.blocks = true) (hb : b < p.blocks.length) (hl : q.blocks.length = p.blocks.length)
    (hsrcs : ∀ d, d < p.blocks.length → hsrc h d = d)
    (big1 : bigT p.regs 0 (plainNames p.regs 0) (bops p.blocks b) = false) (big2 : bigT q.regs q.slots (namesOf (hpairs h b) (q.regs + q.slots).toNat) (bops q.blocks b) = false)
    (marks : marksD p.regs 0 p.data (plainNames p.regs 0) (bops p.blocks b) (bops p.blocks b).length = marksD q.regs q.slots q.data (namesOf (hpairs h b) (q.regs + q.slots).toNat) (bops q.blocks b) (bops q.blocks b).length)
    (cells : srcT p h b p.regs = tgtT q h b (q.regs + q.slots))
    (ends : (bfin q.blocks b).kind = (bfin p.blocks b).kind ∧ (bfin q.blocks b).x = (bfin p.blocks b).x ∧ (bfin q.blocks b).y = (bfin p.blocks b).y)
    (reg : (bfin p.blocks b).kind ≠ 1 → srcT p h b (bfin p.blocks b).r = tgtT q h b (bfin q.blocks b).r)
    (pairs : ∀ d, d < p.blocks.length → ∀ x ∈ hpairs h d, srcT p h b x.reg = tgtT q h b x.place) : wrongD p q h b = 0 := by
  have i1 := hsrcs b hb
  have so : srcOps p h b = bops p.blocks b := by unfold srcOps; rw [i1]; congr 1
  obtain ⟨g12, gops, gend⟩ := blocksGood_at hgood hb
  have fb : bfin p.blocks (hsrc h b).toNat = bfin p.blocks b := by rw [i1]; congr 1
  obtain ⟨ek, ex, ey⟩ := ends
  have k := end_kind gend
  have hg := gend
  unfold endGood at hg
  have pk : ∀ d : Int, 0 ≤ d → d < p.blocks.length → hsrc h d.toNat = d ∧ pairsOkD p q h b (hpairs h d.toNat) := by
    intro d d0 d1
    exact ⟨by rw [hsrcs d.toNat (by omega)]; omega, pairs d.toNat (by omega)⟩
  -- the ends as they count
  have ends2 : (srcEnd p h b).kind = (tgtEnd q h b).kind ∧ (((srcEnd p h b).kind = 2 ∨ (srcEnd p h b).kind = 3) → srcT p h b (srcEnd p h b).r = tgtT q h b (tgtEnd q h b).r) ∧
      ((srcEnd p h b).kind ≠ 3 → (tgtEnd q h b).x = (srcEnd p h b).x ∧ 0 ≤ (srcEnd p h b).x ∧ (srcEnd p h b).x < p.blocks.length) ∧
      ((srcEnd p h b).kind = 2 → (tgtEnd q h b).y = (srcEnd p h b).y ∧ 0 ≤ (srcEnd p h b).y ∧ (srcEnd p h b).y < p.blocks.length) := by
    unfold srcEnd tgtEnd effT
    rw [fb]
    by_cases k2 : (bfin p.blocks b).kind = 2
    · have hr := reg (by omega)
      have hg2 : (0 ≤ (bfin p.blocks b).x ∧ (bfin p.blocks b).x < p.blocks.length) ∧ (0 ≤ (bfin p.blocks b).y ∧ (bfin p.blocks b).y < p.blocks.length) := by
        simp [k2, below] at hg; omega
      rw [if_pos k2, if_pos (by rw [ek]; exact k2), ← hr]
      cases ht : (srcT p h b (bfin p.blocks b).r).isNum with
      | some n =>
        refine ⟨rfl, fun c => by simp at c, fun _ => ?_, fun c => by simp at c⟩
        simp only [ex, ey]
        refine ⟨trivial, ?_⟩
        split
        · exact hg2.1
        · exact hg2.2
      | none => exact ⟨ek.symm, fun _ => hr, fun _ => ⟨ex, hg2.1⟩, fun _ => ⟨ey, hg2.2⟩⟩
    · rw [if_neg k2, if_neg (by rw [ek]; exact k2)]
      refine ⟨ek.symm, fun c => reg (by omega), fun c => ⟨ex, ?_⟩, fun c => absurd c k2⟩
      have k1 : (bfin p.blocks b).kind = 1 := by omega
      simp [k1, below] at hg; omega
  obtain ⟨c1, c2, c3, c4⟩ := ends2
  unfold wrongD
  rw [so, big1, big2]
  rw [if_neg (by simp), if_neg (by rw [marks]; simp), if_neg (by rw [cells]; simp), if_neg (by rw [c1]; simp), if_neg (fun c => c.2 (c2 c.1))]
  by_cases h3 : (srcEnd p h b).kind = 3
  · rw [if_pos h3]
  · rw [if_neg h3]
    obtain ⟨x1, x2, x3⟩ := c3 h3
    obtain ⟨a1, a2⟩ := pk _ x2 x3
    rw [x1, if_neg (by rw [a1]; simp)]
    by_cases k2 : (srcEnd p h b).kind = 2
    · obtain ⟨y1, y2, y3⟩ := c4 k2
      obtain ⟨b1, b2⟩ := pk _ y2 y3
      rw [y1, if_neg (by rw [b1]; simp), if_neg (by simpa using a2), if_neg (fun c => c.2 b2)]
    · rw [if_neg (fun c => k2 c.1), if_neg (by simpa using a2), if_neg (fun c => k2 c.1)]

end Go.Proofs.YtblhmeidbjigaabGreatDoor

/- Terms and marks of a list of operations, step by step; pure. -/
set_option linter.unusedSimpArgs false
set_option linter.unusedVariables false
noncomputable section
namespace Go.Proofs.YtblhmeidbjigaabGreatDoor
open Go.RowKit Classical

/-- What an operation makes. -/
def givesT (regs slots : Int) (was : Int → TD) (o : OpD) : TD :=
  if o.kind = 1 then tnum (256 * o.b + o.c - 32768)
  else if o.kind = 2 ∨ o.kind = 14 then was o.b
  else if o.kind = 15 then was (regs + o.b)
  else if o.kind = 12 then readT (was (regs + slots)) (was o.b)
  else if o.kind = 13 then writtenT (was (regs + slots)) (was o.a) (was o.b)
  else madeT o.kind (was o.b) (was o.c)

/-- Behind an operation. -/
def stepT (regs slots : Int) (was : Int → TD) (o : OpD) : Int → TD := fun place => if writesT regs slots o ≠ place then was place else givesT regs slots was o

def foldT (regs slots : Int) : List OpD → (Int → TD) → (Int → TD)
  | [], was => was
  | o :: l, was => foldT regs slots l (stepT regs slots was o)

/-- The mark of an operation. -/
def opMark (was : Int → TD) (o : OpD) : Option MD :=
  if o.kind = 11 then some (.div (was o.b) (was o.c)) else if o.kind = 12 then some (.cell (was o.b)) else if o.kind = 13 then some (.cell (was o.a)) else none

def addM (data : Int) (l : List MD) : Option MD → List MD
  | some m => if idle data m = true ∨ m ∈ l then l else l ++ [m]
  | none => l

def foldM (regs slots data : Int) : List OpD → (Int → TD) → List MD → List MD
  | [], _, l => l
  | o :: r, was, l => foldM regs slots data r (stepT regs slots was o) (addM data l (opMark was o))

theorem foldT_append (regs slots : Int) (l m : List OpD) (was : Int → TD) : foldT regs slots (l ++ m) was = foldT regs slots m (foldT regs slots l was) := by
  induction l generalizing was with
  | nil => rfl
  | cons o l ih => exact ih _

theorem foldM_append (regs slots data : Int) (l m : List OpD) (was : Int → TD) (a : List MD) : foldM regs slots data (l ++ m) was a = foldM regs slots data m (foldT regs slots l was) (foldM regs slots data l was a) := by
  induction l generalizing was a with
  | nil => rfl
  | cons o l ih => exact ih _ _

theorem behind_succ (regs slots : Int) (names : List Int) (ops : List OpD) (k : Nat) : behindT regs slots names ops (k + 1) = stepT regs slots (behindT regs slots names ops k) (ops.getD k oz) := by
  funext place
  simp only [behindT, stepT, givesT]

theorem take_succ' {ops : List OpD} {k : Nat} (h : k < ops.length) : ops.take (k + 1) = ops.take k ++ [ops.getD k oz] := by
  rw [List.take_add_one, List.getElem?_eq_getElem h]
  simp [List.getD, h]

theorem behind_fold (regs slots : Int) (names : List Int) (ops : List OpD) : ∀ k, k ≤ ops.length → behindT regs slots names ops k = foldT regs slots (ops.take k) (firstT names) := by
  intro k
  induction k with
  | zero => intro _; funext p; simp [behindT, foldT]
  | succ k ih =>
    intro hk
    rw [behind_succ, ih (by omega), take_succ' (by omega), foldT_append]
    rfl

theorem behind_all (regs slots : Int) (names : List Int) (ops : List OpD) : behindT regs slots names ops ops.length = foldT regs slots ops (firstT names) := by
  rw [behind_fold _ _ _ _ _ (Nat.le_refl _), List.take_length]

theorem marks_fold (regs slots data : Int) (names : List Int) (ops : List OpD) : ∀ k, k ≤ ops.length → marksD regs slots data names ops k = foldM regs slots data (ops.take k) (firstT names) [] := by
  intro k
  induction k with
  | zero => intro _; simp [marksD, foldM]
  | succ k ih =>
    intro hk
    have ih := ih (by omega)
    rw [take_succ' (by omega), foldM_append, ← ih, ← behind_fold _ _ _ _ _ (by omega)]
    simp only [marksD, foldM]
    have : rawMark regs slots names ops k = opMark (behindT regs slots names ops k) (ops.getD k oz) := rfl
    rw [this]
    unfold addM
    rfl

theorem marks_all (regs slots data : Int) (names : List Int) (ops : List OpD) : marksD regs slots data names ops ops.length = foldM regs slots data ops (firstT names) [] := by
  rw [marks_fold _ _ _ _ _ _ (Nat.le_refl _), List.take_length]

end Go.Proofs.YtblhmeidbjigaabGreatDoor

/- Operations that change over, operations that nobody asks for: terms and marks; pure. -/
set_option linter.unusedSimpArgs false
set_option linter.unusedVariables false
noncomputable section
namespace Go.Proofs.YtblhmeidbjigaabGreatDoor
open Go.RowKit Classical

def tellsT (o : OpD) : Prop := o.kind = 11 ∨ o.kind = 12 ∨ o.kind = 13

theorem mark_none {o : OpD} (h : ¬ tellsT o) (w : Int → TD) : opMark w o = none := by
  unfold tellsT at h
  unfold opMark
  rw [if_neg (fun c => h (.inl c)), if_neg (fun c => h (.inr (.inl c))), if_neg (fun c => h (.inr (.inr c)))]

end Go.Proofs.YtblhmeidbjigaabGreatDoor

/- What an operation writes, reads and lets out (twinkeep.writes, reads, tells, loose). -/
set_option linter.unusedSimpArgs false
set_option linter.unusedVariables false
namespace Go.Proofs.YtblhmeidbjigaabGreatDoor
open Go.RowKit

theorem op_plain {regs : Int} {o : OpD} (g : opGood regs 0 o = true) : (1 ≤ o.kind ∧ o.kind ≤ 13) ∧ (0 ≤ o.a ∧ o.a < regs) ∧ (o.kind ≠ 1 → 0 ≤ o.b ∧ o.b < regs) ∧ (3 ≤ o.kind ∧ o.kind ≤ 11 → 0 ≤ o.c ∧ o.c < regs) := by
  unfold opGood at g
  repeat' split at g
  all_goals (first | (simp only [Bool.and_eq_true, below, decide_eq_true_eq] at g; omega) | (cases g))

end Go.Proofs.YtblhmeidbjigaabGreatDoor

/- Other registers, the same terms; pure. -/
set_option linter.unusedSimpArgs false
set_option linter.unusedVariables false
noncomputable section
namespace Go.Proofs.YtblhmeidbjigaabGreatDoor
open Go.RowKit Classical

/-- An operation (no Put, no Get) on other registers. -/
def renOp (f : Int → Int) (o : OpD) : OpD :=
  if o.kind = 1 then ⟨o.kind, f o.a, o.b, o.c⟩ else if o.kind = 2 ∨ o.kind = 12 ∨ o.kind = 13 then ⟨o.kind, f o.a, f o.b, o.c⟩ else ⟨o.kind, f o.a, f o.b, f o.c⟩

theorem renOp_kind (f : Int → Int) (o : OpD) : (renOp f o).kind = o.kind := by
  unfold renOp
  repeat' split
  all_goals rfl

/-- The target's view w' holds what the source's w does, at other places. -/
structure Ren (f : Int → Int) (regs cs ct : Int) (w w' : Int → TD) : Prop where
  reg : ∀ i, 0 ≤ i → i < regs → w' (f i) = w i
  cell : w' ct = w cs

theorem Ren.step {f : Int → Int} {regs regs' slots' : Int} (hi : ∀ i j, 0 ≤ i → i < regs → 0 ≤ j → j < regs → f i = f j → i = j) (hc : ∀ i, 0 ≤ i → i < regs → f i ≠ regs' + slots') {w w' : Int → TD} (h : Ren f regs (regs + 0) (regs' + slots') w w') {o : OpD} (hg : opGood regs 0 o = true) :
    Ren f regs (regs + 0) (regs' + slots') (stepT regs 0 w o) (stepT regs' slots' w' (renOp f o)) ∧ opMark w' (renOp f o) = opMark w o := by
  have hf := good_fields hg
  have ha : 0 ≤ o.a ∧ o.a < regs := by omega
  have hk : o.kind ≠ 14 ∧ o.kind ≠ 15 := by omega
  have ra := h.reg o.a ha.1 ha.2
  have gv : givesT regs' slots' w' (renOp f o) = givesT regs 0 w o ∧ opMark w' (renOp f o) = opMark w o ∧ (renOp f o).a = f o.a := by
    rcases hf with ⟨k, _⟩ | ⟨k, _, b⟩ | ⟨k, _, b, c⟩ | ⟨k, _⟩ | ⟨k, _⟩
    · simp [renOp, givesT, opMark, k]
    · have rb := h.reg o.b b.1 b.2
      have rc := h.cell
      rcases k with k | k | k
      · simp [renOp, givesT, opMark, k, rb]
      · simp [renOp, givesT, opMark, k, rb, rc]
      · simp [renOp, givesT, opMark, k, ra, rb, rc]
    · have rb := h.reg o.b b.1 b.2
      have rc := h.reg o.c c.1 c.2
      have k1 : o.kind ≠ 1 := by omega
      have k2 : o.kind ≠ 2 := by omega
      have k12 : o.kind ≠ 12 := by omega
      have k13 : o.kind ≠ 13 := by omega
      simp only [renOp, givesT, opMark, k1, k2, k12, k13, hk.1, hk.2, if_false, or_self, rb, rc, and_self]
    · omega
    · omega
  obtain ⟨g1, g2, g3⟩ := gv
  refine ⟨⟨fun i i0 i1 => ?_, ?_⟩, g2⟩
  · unfold stepT writesT
    rw [g1, renOp_kind, g3, h.reg i i0 i1]
    simp only [hk.1, if_false]
    by_cases k13 : o.kind = 13
    · simp only [k13, if_true]
      rw [if_pos (fun c => hc i i0 i1 c.symm), if_pos (by omega)]
    · simp only [k13, if_false]
      by_cases e : o.a = i
      · subst e; simp
      · rw [if_pos (fun c => e (hi _ _ ha.1 ha.2 i0 i1 c)), if_pos e]
  · unfold stepT writesT
    rw [g1, renOp_kind, g3, h.cell]
    simp only [hk.1, if_false]
    by_cases k13 : o.kind = 13
    · simp only [k13, if_true]
      simp
    · simp only [k13, if_false]
      rw [if_pos (hc _ ha.1 ha.2), if_pos (by omega)]

end Go.Proofs.YtblhmeidbjigaabGreatDoor

/- Operations that nobody asks for, registers kept in slots: the same terms; pure. -/
set_option linter.unusedSimpArgs false
set_option linter.unusedVariables false
noncomputable section
namespace Go.Proofs.YtblhmeidbjigaabGreatDoor
open Go.RowKit Classical

theorem renOp_id (o : OpD) : renOp (fun i => i) o = o := by
  unfold renOp
  repeat' split
  all_goals rfl

/-- The second list is the first with more operations put in. -/
inductive Woven (junk : OpD → Prop) : List OpD → List OpD → Prop
  | nil : Woven junk [] []
  | keep (o : OpD) {l m : List OpD} : Woven junk l m → Woven junk (o :: l) (o :: m)
  | put (o : OpD) {l m : List OpD} : junk o → Woven junk l m → Woven junk l (o :: m)

theorem Woven.self (junk : OpD → Prop) (l : List OpD) : Woven junk l l := by
  induction l with
  | nil => exact .nil
  | cons o l ih => exact .keep o ih

theorem Woven.insert {junk : OpD → Prop} {l m : List OpD} (h : Woven junk l m) {o : OpD} (ho : junk o) (k : Nat) : Woven junk l (m.take k ++ o :: m.drop k) := by
  induction h generalizing k with
  | nil => simp; exact .put o ho .nil
  | keep u h ih =>
    cases k with
    | zero => exact .put o ho (.keep u h)
    | succ k => exact .keep u (ih k)
  | put u hu h ih =>
    cases k with
    | zero => exact .put o ho (.put u hu h)
    | succ k => exact .put u hu (ih k)

theorem Woven.good {junk : OpD → Prop} {l m : List OpD} (h : Woven junk l m) {P : OpD → Prop} (hl : ∀ o ∈ l, P o) (hj : ∀ o, junk o → P o) : ∀ o ∈ m, P o := by
  induction h with
  | nil => intro o ho; cases ho
  | keep u h ih =>
    intro o ho
    rcases List.mem_cons.1 ho with rfl | ho
    · exact hl _ (by simp)
    · exact ih (fun x hx => hl x (by simp [hx])) o ho
  | put u hu h ih =>
    intro o ho
    rcases List.mem_cons.1 ho with rfl | ho
    · exact hj _ hu
    · exact ih hl o ho

/-- Work into a register that nobody asks for. -/
theorem Ren.junk {f : Int → Int} {regs cs regs' slots' : Int} {w w' : Int → TD} (h : Ren f regs cs (regs' + slots') w w') {o : OpD} (h1 : ∀ i, 0 ≤ i → i < regs → f i ≠ writesT regs' slots' o) (h2 : writesT regs' slots' o ≠ regs' + slots') : Ren f regs cs (regs' + slots') w (stepT regs' slots' w' o) := by
  refine ⟨fun i i0 i1 => ?_, ?_⟩
  · unfold stepT; rw [if_pos (fun c => h1 i i0 i1 c.symm)]; exact h.reg i i0 i1
  · unfold stepT; rw [if_pos h2]; exact h.cell

/-- An operation from 1 to 10 into the register behind the source's. -/
def junkAt (regs : Int) (o : OpD) : Prop := (1 ≤ o.kind ∧ o.kind ≤ 10) ∧ o.a = regs

theorem Ren.woven {regs data : Int} {l m : List OpD} (hm : Woven (junkAt regs) l m) (hg : opsGood regs 0 l = true) {w w' : Int → TD} (h : Ren (fun i => i) regs (regs + 0) ((regs + 1) + 0) w w') (a : List MD) :
    Ren (fun i => i) regs (regs + 0) ((regs + 1) + 0) (foldT regs 0 l w) (foldT (regs + 1) 0 m w') ∧ foldM (regs + 1) 0 data m w' a = foldM regs 0 data l w a := by
  induction hm generalizing w w' a with
  | nil => exact ⟨h, rfl⟩
  | keep o hm ih =>
    simp only [opsGood, List.all_cons, Bool.and_eq_true] at hg
    obtain ⟨s1, s2⟩ := h.step (fun i j _ _ _ _ e => e) (fun i i0 i1 => by omega) hg.1
    rw [renOp_id] at s1 s2
    simp only [foldT, foldM, s2]
    exact ih hg.2 s1 _
  | put o ho hm ih =>
    obtain ⟨k, ea⟩ := ho
    have hw : writesT (regs + 1) 0 o = regs := by unfold writesT; rw [if_neg (by omega), if_neg (by omega)]; exact ea
    have s1 := h.junk (o := o) (fun i i0 i1 => by rw [hw]; omega) (by rw [hw]; omega)
    simp only [foldT, foldM]
    rw [mark_none (by unfold tellsT; omega)]
    exact ih hg s1 _

/-- Get, register by register. -/
def getOps (n : Nat) : List OpD := (List.range n).map fun (i : Nat) => ⟨15, i, i, 0⟩
end Go.Proofs.YtblhmeidbjigaabGreatDoor

/- Big blocks, step by step; pure. -/
set_option linter.unusedSimpArgs false
set_option linter.unusedVariables false
noncomputable section
namespace Go.Proofs.YtblhmeidbjigaabGreatDoor
open Go.RowKit Classical

def bigOp (regs slots : Int) (was : Int → TD) (o : OpD) : Bool := decide (3 ≤ o.kind ∧ o.kind ≤ 13 ∧ 4095 < (givesT regs slots was o).size)

def bigF (regs slots : Int) : List OpD → (Int → TD) → Bool
  | [], _ => false
  | o :: l, was => bigOp regs slots was o || bigF regs slots l (stepT regs slots was o)

theorem bigF_append (regs slots : Int) (l m : List OpD) (was : Int → TD) : bigF regs slots (l ++ m) was = (bigF regs slots l was || bigF regs slots m (foldT regs slots l was)) := by
  induction l generalizing was with
  | nil => simp [bigF, foldT]
  | cons o l ih => simp only [List.cons_append, bigF, foldT, ih, Bool.or_assoc]

theorem step_writes (regs slots : Int) (was : Int → TD) (o : OpD) : stepT regs slots was o (writesT regs slots o) = givesT regs slots was o := by
  unfold stepT; simp

theorem big_fold (regs slots : Int) (names : List Int) (ops : List OpD) : ∀ k, k ≤ ops.length →
    ((List.range k).any fun k => decide (3 ≤ okind ops k ∧ okind ops k ≤ 13 ∧ 4095 < (behindT regs slots names ops (k + 1) (writesT regs slots (ops.getD k oz))).size)) = bigF regs slots (ops.take k) (firstT names) := by
  intro k
  induction k with
  | zero => intro _; simp [bigF]
  | succ k ih =>
    intro hk
    rw [List.range_succ, List.any_append, ih (by omega), take_succ' (by omega), bigF_append, ← behind_fold _ _ _ _ _ (by omega)]
    simp only [List.any_cons, List.any_nil, Bool.or_false, bigF]
    rw [behind_succ, step_writes]
    rfl

theorem big_all (regs slots : Int) (names : List Int) (ops : List OpD) : bigT regs slots names ops = bigF regs slots ops (firstT names) := by
  have := big_fold regs slots names ops ops.length (Nat.le_refl _)
  rw [List.take_length] at this
  exact this

end Go.Proofs.YtblhmeidbjigaabGreatDoor

/- Operations that change over; pure. -/
set_option linter.unusedSimpArgs false
set_option linter.unusedVariables false
namespace Go.Proofs.YtblhmeidbjigaabGreatDoor
open Go.RowKit

theorem bops_set {m : List BlockD} {b : Nat} (hb : b < m.length) (B : BlockD) (c : Nat) : bops (m.set b B) c = if c = b then B.ops else bops m c := by
  unfold bops
  by_cases h : c = b
  · subst h; simp [List.getD, hb]
  · rw [if_neg h]; simp [List.getD, List.getElem?_set_ne (fun e => h e.symm)]

theorem bfin_set {m : List BlockD} {b : Nat} (hb : b < m.length) (B : BlockD) (c : Nat) : bfin (m.set b B) c = if c = b then B.fin else bfin m c := by
  unfold bfin
  by_cases h : c = b
  · subst h; simp [List.getD, hb]
  · rw [if_neg h]; simp [List.getD, List.getElem?_set_ne (fun e => h e.symm)]

theorem good_at {a0 a1 a2 a3 : Int} {m : List BlockD} (g : progGood ⟨a0, a1, a2, a3, m⟩ = true) {b : Nat} (hb : b < m.length) : blockGood a1 a3 m.length ⟨bops m b, bfin m b⟩ = true :=
  progGood_block g (m.getD b bz) (getD_mem' hb)

end Go.Proofs.YtblhmeidbjigaabGreatDoor
