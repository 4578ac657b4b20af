/- An end out of raw numbers. -/
import Derived.Test.YtblhmeidbjigaabGreatDoorRows
import Derived.WalkKit
import Derived.WalkSpells
import Derived.WalkLawsBesides
import Derived.Laws.BytesArg
import Derived.Deep.QuietTactic
import Derived.BigQuiet
import Derived.Deep.RegionHeld3
import Derived.Maps.AppendAt
import Derived.StillTailTactics
import Derived.Lib.ItoaNum
import Derived.Lib.ItoaLen
import Derived.OpenShut
import Derived.Test.YtblhmeidbjigaabGreatDoorPCodLToPLawNShared

set_option linter.unusedSimpArgs false
set_option linter.unusedVariables false
namespace Go.Proofs.YtblhmeidbjigaabGreatDoor
open Go.RowKit

theorem Keep.trans {S : Nat → Prop} {w a b : World} (h : Keep S w a) (h2 : Keep S a b) : Keep S w b :=
  h.step h2.os h2.tape h2.output h2.size fun k hk hn => h2.block k (Nat.lt_of_lt_of_le hk h.size) hn

theorem Rolls.set {w w0 : World} {R : Nat} {ao : Option Addr} {n cap k k0 : Nat} (h : Rolls w R ao n cap k) (h0 : Rolls w0 R ao n cap k0) {g i : Nat} (hg : w0.heap.size ≤ g) (u : Value) : Rolls (w.setCell ⟨g, i, none⟩ u) R ao n cap k := by
  have hR := h0.row.lt
  refine ⟨h.row.unset (a := ⟨g, i, none⟩) (by show R ≠ g; omega) _, h.le, ?_, h.off⟩
  obtain ⟨ao', cap', e, hn, hc⟩ := h.rd
  obtain ⟨ao2, cap2, e2, _, hc2⟩ := h0.rd
  simp only [Value.slice.injEq, true_and] at e e2
  obtain ⟨rfl, rfl⟩ := e
  obtain ⟨rfl, rfl⟩ := e2
  refine ⟨ao, cap, rfl, hn, fun i hi => ?_⟩
  obtain ⟨b, off, x, e1, h1, h2, h3⟩ := hc i hi
  obtain ⟨b2, off2, x2, e2, _, _, h4⟩ := hc2 i hi
  rw [e1] at e2
  simp only [Option.some.injEq, Addr.mk.injEq, and_true] at e2
  obtain ⟨rfl, rfl⟩ := e2
  have := World.block_lt_of_cell? _ _ h4
  exact ⟨b, off, x, e1, h1, h2, cell_unset (fun e => by simp at e; simp at this; omega) h3⟩

/-- Underway: two blocks of four cells each, the answer's (still zero) and the one that is filled. -/
structure St (w : World) (R : Nat) (ao : Option Addr) (n cap : Nat) (t : TypeId) (A B : Nat) (xs : List Value) (w' : World) : Prop where
  rolls : ∃ k, Rolls w' R ao n cap k
  keep : Keep (fun g => g = R) w w'
  rowA : Row w' A t [.int .i64 0, .int .i64 0, .int .i64 0, .int .i64 0]
  rowB : Row w' B t xs
  geA : w.heap.size ≤ A
  geB : w.heap.size ≤ B
  ne : B ≠ A
  ltR : R < w.heap.size

theorem St.next {w w' w2 : World} {R : Nat} {ao : Option Addr} {n cap k : Nat} {t : TypeId} {A B : Nat} {xs : List Value} (h : St w R ao n cap t A B xs w') (hr : Rolls w2 R ao n cap k) (hk : Keep (fun g => g = R) w' w2) : St w R ao n cap t A B xs w2 :=
  ⟨⟨k, hr⟩, h.keep.trans hk, h.rowA.kept hk (by have := h.geA; have := h.ltR; omega), h.rowB.kept hk (by have := h.geB; have := h.ltR; omega), h.geA, h.geB, h.ne, h.ltR⟩

theorem St.store {w w' : World} {R : Nat} {ao : Option Addr} {n cap k : Nat} {t : TypeId} {A B : Nat} {xs : List Value} (h : St w R ao n cap t A B xs w') (h0 : Rolls w R ao n cap k) (i : Nat) (u : Value) : St w R ao n cap t A B (xs.set i u) (w'.setCell ⟨B, i, none⟩ u) :=
  ⟨let ⟨k, hr⟩ := h.rolls; ⟨k, hr.set h0 h.geB u⟩, h.keep.setCell (.inr h.geB) u, h.rowA.unset (a := ⟨B, i, none⟩) (fun e => h.ne e.symm) u, h.rowB.set i u, h.geA, h.geB, h.ne, h.ltR⟩

theorem St.start {w w1 : World} {R : Nat} {ao : Option Addr} {n cap k k1 : Nat} {t : TypeId} {O : Obj} (h : Rolls w R ao n cap k) (hr : Rolls w1 R ao n cap k1) (hk : Keep (fun g => g = R) (w.alloc O) w1) (hA : Row w1 w.heap.size t [.int .i64 0, .int .i64 0, .int .i64 0, .int .i64 0])
    (hz : w1.heap.size = w.heap.size + 1) (xs : List Value) : St w R ao n cap t w.heap.size w1.heap.size xs (w1.alloc (.cells xs.toArray t)) :=
  ⟨⟨k1, hr.keep ((Below.refl _ _).alloc (Nat.le_refl _) _)⟩, (((Keep.refl _ _).alloc O).trans hk).alloc _, hA.alloc _, heap_alloc_new w1 _, Nat.le_refl _, by omega, by omega, h.row.lt⟩

set_option maxRecDepth 100000 in
set_option maxHeartbeats 2000000 in
theorem end_cps (R : Nat) (ao : Option Addr) (n cap k : Nat) (regs nb : Int) (w : World) (h : Rolls w R ao n cap k) (hre : 1 ≤ regs ∧ regs ≤ 8) (hnb : 1 ≤ nb ∧ nb ≤ 6) (Post : Ending → World → Prop)
    (hp : ∀ a b c d k' w', endGood regs nb ⟨a, b, c, d⟩ = true → Rolls w' R ao n cap k' → Keep (fun g => g = R) w w' → Post (.returned (.agg #[.int .i64 a, .int .i64 b, .int .i64 c, .int .i64 d])) w') :
    Calls Tryz.prog 53 #[.pointer (some ⟨R, 0, none⟩), .int .i64 regs, .int .i64 nb] w Post := by
  have hRw := h.row.lt
  have hA0 : Row (w.alloc (.cells #[.int .i64 0, .int .i64 0, .int .i64 0, .int .i64 0] 40)) w.heap.size 40 [.int .i64 0, .int .i64 0, .int .i64 0, .int .i64 0] := heap_alloc_new w _
  go_enter Tryz.func53, Tryz.ntmps53
  go_wp2_with fail
  refine next_cps R ao n cap k 3 _ (h.keep ((Below.refl _ _).alloc (Nat.le_refl _) _)) (by omega) _ ?_
  intro x k1 w1 hx0 hx3 hr1 hk1 hz1
  have hA := hA0.kept hk1 (by omega)
  simp only [World.size_alloc] at hz1
  have HZ : Hid (w1.heap.size = w.heap.size + 1) := hz1
  have hzl : w.heap.size < w1.heap.size := by omega
  have hRB : R < w1.heap.size := by omega
  clear hA0 hz1
  have hnb' : 1 ≤ nb ∧ nb ≤ 1000 := by omega
  have hre' : 1 ≤ regs ∧ regs ≤ 1000 := by omega
  obtain rfl | rfl | rfl : x = 0 ∨ x = 1 ∨ x = 2 := by omega
  · have st : St w R ao n cap 40 w.heap.size w1.heap.size [.int .i64 1, .int .i64 0, .int .i64 0, .int .i64 0] (w1.alloc (.cells #[.int .i64 1, .int .i64 0, .int .i64 0, .int .i64 0] 40)) := St.start h hr1 hk1 hA HZ.out _
    obtain ⟨k0, hro0⟩ := st.rolls
    go_wp2_with fail
    refine next_cps R ao n cap k0 nb _ hro0 hnb' _ ?_
    intro y0 kk0 v0 ya0 yb0 hr hk hzz
    have st := st.next hr hk
    have bc := st.rowB.cell (i := 2) rfl
    have bf := st.rowB.frozen 2
    have st' := st.store h 2 (.int .i64 y0)
    clear hr hk hzz
    have st2 := st'
    obtain ⟨kf, hrof⟩ := st2.rolls
    have hfin := hp 1 0 y0 0 kf (set4 (v0.setCell ⟨w1.heap.size, 2, none⟩ (.int .i64 y0)) w.heap.size 0 1 0 y0 0) (by simp [endGood, below]; omega) (((hrof.set h (Nat.le_refl _) _).set h (Nat.le_refl _) _ |>.set h (Nat.le_refl _) _).set h (Nat.le_refl _) _) (st2.keep.set4 (.inr (Nat.le_refl _)) _ _ _ _)
    have hne := st2.ne
    have a0 := st2.rowA.cell (i := 0) rfl
    have a1 := st2.rowA.cell (i := 1) rfl
    have a2 := st2.rowA.cell (i := 2) rfl
    have a3 := st2.rowA.cell (i := 3) rfl
    have f0 := st2.rowA.frozen 0
    have f1 := st2.rowA.frozen 1
    have f2 := st2.rowA.frozen 2
    have f3 := st2.rowA.frozen 3
    have q0 := st2.rowB.cell (i := 0) (u := .int .i64 1) rfl
    have q1 := st2.rowB.cell (i := 1) (u := .int .i64 0) rfl
    have q2 := st2.rowB.cell (i := 2) (u := .int .i64 y0) rfl
    have q3 := st2.rowB.cell (i := 3) (u := .int .i64 0) rfl
    clear st st' st2 hp h hr1 hk1 hA
    have HF : Hid (Post (.returned (.agg #[.int .i64 1, .int .i64 0, .int .i64 y0, .int .i64 0])) (set4 (v0.setCell ⟨w1.heap.size, 2, none⟩ (.int .i64 y0)) w.heap.size 0 1 0 y0 0)) := hfin
    clear hfin
    go_wp2
    exact bodyPost_ret (v := .agg #[.int .i64 1, .int .i64 0, .int .i64 y0, .int .i64 0]) (by simp [results, Tryz.results53, go_sem, a0, a1, a2, a3]) rfl HF.out
  · have st : St w R ao n cap 40 w.heap.size w1.heap.size [.int .i64 2, .int .i64 0, .int .i64 0, .int .i64 0] (w1.alloc (.cells #[.int .i64 2, .int .i64 0, .int .i64 0, .int .i64 0] 40)) := St.start h hr1 hk1 hA HZ.out _
    obtain ⟨k0, hro0⟩ := st.rolls
    go_wp2_with fail
    refine next_cps R ao n cap k0 regs _ hro0 hre' _ ?_
    intro y0 kk0 v0 ya0 yb0 hr hk hzz
    have st := st.next hr hk
    have bc := st.rowB.cell (i := 1) rfl
    have bf := st.rowB.frozen 1
    have st' := st.store h 1 (.int .i64 y0)
    clear hr hk hzz
    replace st := st'
    obtain ⟨k1, hro1⟩ := st.rolls
    go_wp2_with fail
    refine next_cps R ao n cap k1 nb _ hro1 hnb' _ ?_
    intro y1 kk1 v1 ya1 yb1 hr hk hzz
    have st := st.next hr hk
    have bc := st.rowB.cell (i := 2) rfl
    have bf := st.rowB.frozen 2
    have st' := st.store h 2 (.int .i64 y1)
    clear hr hk hzz
    replace st := st'
    obtain ⟨k2, hro2⟩ := st.rolls
    go_wp2_with fail
    refine next_cps R ao n cap k2 nb _ hro2 hnb' _ ?_
    intro y2 kk2 v2 ya2 yb2 hr hk hzz
    have st := st.next hr hk
    have bc := st.rowB.cell (i := 3) rfl
    have bf := st.rowB.frozen 3
    have st' := st.store h 3 (.int .i64 y2)
    clear hr hk hzz
    have st2 := st'
    obtain ⟨kf, hrof⟩ := st2.rolls
    have hfin := hp 2 y0 y1 y2 kf (set4 (v2.setCell ⟨w1.heap.size, 3, none⟩ (.int .i64 y2)) w.heap.size 0 2 y0 y1 y2) (by simp [endGood, below]; omega) (((hrof.set h (Nat.le_refl _) _).set h (Nat.le_refl _) _ |>.set h (Nat.le_refl _) _).set h (Nat.le_refl _) _) (st2.keep.set4 (.inr (Nat.le_refl _)) _ _ _ _)
    have hne := st2.ne
    have a0 := st2.rowA.cell (i := 0) rfl
    have a1 := st2.rowA.cell (i := 1) rfl
    have a2 := st2.rowA.cell (i := 2) rfl
    have a3 := st2.rowA.cell (i := 3) rfl
    have f0 := st2.rowA.frozen 0
    have f1 := st2.rowA.frozen 1
    have f2 := st2.rowA.frozen 2
    have f3 := st2.rowA.frozen 3
    have q0 := st2.rowB.cell (i := 0) (u := .int .i64 2) rfl
    have q1 := st2.rowB.cell (i := 1) (u := .int .i64 y0) rfl
    have q2 := st2.rowB.cell (i := 2) (u := .int .i64 y1) rfl
    have q3 := st2.rowB.cell (i := 3) (u := .int .i64 y2) rfl
    clear st st' st2 hp h hr1 hk1 hA
    have HF : Hid (Post (.returned (.agg #[.int .i64 2, .int .i64 y0, .int .i64 y1, .int .i64 y2])) (set4 (v2.setCell ⟨w1.heap.size, 3, none⟩ (.int .i64 y2)) w.heap.size 0 2 y0 y1 y2)) := hfin
    clear hfin
    go_wp2
    exact bodyPost_ret (v := .agg #[.int .i64 2, .int .i64 y0, .int .i64 y1, .int .i64 y2]) (by simp [results, Tryz.results53, go_sem, a0, a1, a2, a3]) rfl HF.out
  · have st : St w R ao n cap 40 w.heap.size w1.heap.size [.int .i64 3, .int .i64 0, .int .i64 0, .int .i64 0] (w1.alloc (.cells #[.int .i64 3, .int .i64 0, .int .i64 0, .int .i64 0] 40)) := St.start h hr1 hk1 hA HZ.out _
    obtain ⟨k0, hro0⟩ := st.rolls
    go_wp2_with fail
    refine next_cps R ao n cap k0 regs _ hro0 hre' _ ?_
    intro y0 kk0 v0 ya0 yb0 hr hk hzz
    have st := st.next hr hk
    have bc := st.rowB.cell (i := 1) rfl
    have bf := st.rowB.frozen 1
    have st' := st.store h 1 (.int .i64 y0)
    clear hr hk hzz
    have st2 := st'
    obtain ⟨kf, hrof⟩ := st2.rolls
    have hfin := hp 3 y0 0 0 kf (set4 (v0.setCell ⟨w1.heap.size, 1, none⟩ (.int .i64 y0)) w.heap.size 0 3 y0 0 0) (by simp [endGood, below]; omega) (((hrof.set h (Nat.le_refl _) _).set h (Nat.le_refl _) _ |>.set h (Nat.le_refl _) _).set h (Nat.le_refl _) _) (st2.keep.set4 (.inr (Nat.le_refl _)) _ _ _ _)
    have hne := st2.ne
    have a0 := st2.rowA.cell (i := 0) rfl
    have a1 := st2.rowA.cell (i := 1) rfl
    have a2 := st2.rowA.cell (i := 2) rfl
    have a3 := st2.rowA.cell (i := 3) rfl
    have f0 := st2.rowA.frozen 0
    have f1 := st2.rowA.frozen 1
    have f2 := st2.rowA.frozen 2
    have f3 := st2.rowA.frozen 3
    have q0 := st2.rowB.cell (i := 0) (u := .int .i64 3) rfl
    have q1 := st2.rowB.cell (i := 1) (u := .int .i64 y0) rfl
    have q2 := st2.rowB.cell (i := 2) (u := .int .i64 0) rfl
    have q3 := st2.rowB.cell (i := 3) (u := .int .i64 0) rfl
    clear st st' st2 hp h hr1 hk1 hA
    have HF : Hid (Post (.returned (.agg #[.int .i64 3, .int .i64 y0, .int .i64 0, .int .i64 0])) (set4 (v0.setCell ⟨w1.heap.size, 1, none⟩ (.int .i64 y0)) w.heap.size 0 3 y0 0 0)) := hfin
    clear hfin
    go_wp2
    exact bodyPost_ret (v := .agg #[.int .i64 3, .int .i64 y0, .int .i64 0, .int .i64 0]) (by simp [results, Tryz.results53, go_sem, a0, a1, a2, a3]) rfl HF.out

end Go.Proofs.YtblhmeidbjigaabGreatDoor

/- The machine lets words out. -/
set_option linter.unusedSimpArgs false
set_option linter.unusedVariables false
namespace Go.Proofs.YtblhmeidbjigaabGreatDoor
open Go.RowKit

theorem Row.grown {w w' : World} {M : Nat} {t : TypeId} {xs : List Value} {row : Option Nat} (h : Row w M t xs) (hg : w.grownBy w' row) (hne : row ≠ some M) : Row w' M t xs := h.same (hg.block M h.lt (fun e => hne e.symm))

theorem Keep.mono {S S' : Nat → Prop} {w w' : World} (h : Keep S w w') (hs : ∀ g, S g → S' g) : Keep S' w w' := ⟨h.os, h.tape, h.output, h.size, fun k hk hn => h.block k hk (fun e => hn (hs k e))⟩

end Go.Proofs.YtblhmeidbjigaabGreatDoor

/- The machine's Load. -/
set_option linter.unusedSimpArgs false
set_option linter.unusedVariables false
namespace Go.Proofs.YtblhmeidbjigaabGreatDoor
open Go.RowKit

/-- A region that reads, then one store (or what follows of itself). -/
theorem wp_tail {P : Program} {id : Nat} {Q : Exit → Act → World → Prop} {a : Act} {w : World} {l : List Oper} (n : Nat) (hm : P.follows .mixedOrders = true) (hB : Region.lexTailB .any l.toArray n = true)
    (h : wpStill P l.toArray w.drew (fun a' => wpList P l.toArray Q (l.drop n) a' w.drew) (l.take n) a) : (Code.region id l.toArray true).wp P Q a w :=
  wp_region_still_tail n hm hB h

end Go.Proofs.YtblhmeidbjigaabGreatDoor

/- The machine does an operation; the operations of a block; where it goes on. -/
set_option linter.unusedSimpArgs false
set_option linter.unusedVariables false
namespace Go.Proofs.YtblhmeidbjigaabGreatDoor
open Go.RowKit

theorem opGood_kind {regs slots : Int} {o : OpD} (h : opGood regs slots o = true) : 1 ≤ o.kind ∧ o.kind ≤ 15 := by
  unfold opGood at h
  repeat' split at h
  all_goals first | omega | simp at h

end Go.Proofs.YtblhmeidbjigaabGreatDoor

/- The machine does the operations of a block; where it goes on. -/
set_option linter.unusedSimpArgs false
set_option linter.unusedVariables false
namespace Go.Proofs.YtblhmeidbjigaabGreatDoor
open Go.RowKit

theorem opsGood_at {regs slots : Int} {l : List OpD} (h : opsGood regs slots l = true) {k : Nat} (hk : k < l.length) : opGood regs slots ⟨okind l k, oa l k, ob l k, oc l k⟩ = true := by
  have := List.all_eq_true.1 h (l.getD k oz) (getD_mem' hk)
  exact this

end Go.Proofs.YtblhmeidbjigaabGreatDoor

/- The machine runs. -/
set_option linter.unusedSimpArgs false
set_option linter.unusedVariables false
namespace Go.Proofs.YtblhmeidbjigaabGreatDoor
open Go.RowKit

theorem blocksGood_at {regs slots n : Int} {l : List BlockD} (h : blocksGood regs slots n l = true) {k : Nat} (hk : k < l.length) : (bops l k).length ≤ 12 ∧ opsGood regs slots (bops l k) = true ∧ endGood regs n (bfin l k) = true := by
  have := List.all_eq_true.1 h (l.getD k bz) (getD_mem' hk)
  simp only [blockGood, Bool.and_eq_true, decide_eq_true_eq] at this
  exact ⟨this.1.1, this.1.2, this.2⟩

end Go.Proofs.YtblhmeidbjigaabGreatDoor

/- Lists of words that are read. -/
set_option linter.unusedSimpArgs false
set_option linter.unusedVariables false
namespace Go.Proofs.YtblhmeidbjigaabGreatDoor
open Go.RowKit

/-- A list of words that is read. -/
def RdWords (w : World) (v : Value) (l : List Int) : Prop :=
  ∃ ao cap, v = .slice ao l.length cap ∧ l.length ≤ 9223372036854775807 ∧ ∀ i, i < l.length → ∃ b off, ao = some ⟨b, off, none⟩ ∧ w.cell? ⟨b, off + i, none⟩ = some (.int .i64 (l.getD i 0))

theorem RdWords.keep {w w' : World} {v : Value} {l : List Int} (h : RdWords w v l) (hb : Below w.heap.size w w') : RdWords w' v l := by
  obtain ⟨ao, cap, rfl, hl, hc⟩ := h
  exact ⟨ao, cap, rfl, hl, fun i hi => let ⟨b, off, e, h1⟩ := hc i hi; ⟨b, off, e, cell_keep hb h1⟩⟩

theorem rdWords_nil (w : World) : RdWords w (.slice none 0 0) [] := ⟨none, 0, rfl, by simp, fun i hi => by simp at hi⟩

end Go.Proofs.YtblhmeidbjigaabGreatDoor

/- Twins end alike: pure. -/
set_option linter.unusedSimpArgs false
set_option linter.unusedVariables false
noncomputable section
namespace Go.Proofs.YtblhmeidbjigaabGreatDoor
open Go.RowKit Classical

/-- The end of a block; a Branch whose register's term is a number counts as a Jump. -/
def effT (e : EndD) (t : TD) : EndD := if e.kind = 2 then (match t.isNum with | some n => ⟨1, 0, if n ≠ 0 then e.x else e.y, 0⟩ | none => e) else e

section
variable (p q : ProgD) (h : List PingD) (b : Nat)
def srcOps : List OpD := bops p.blocks (hsrc h b).toNat
def srcT (i : Int) : TD := behindT p.regs 0 (plainNames p.regs 0) (srcOps p h b) (srcOps p h b).length i
def tgtT (i : Int) : TD := behindT q.regs q.slots (namesOf (hpairs h b) (q.regs + q.slots).toNat) (bops q.blocks b) (bops q.blocks b).length i
def srcEnd : EndD := effT (bfin p.blocks (hsrc h b).toNat) (srcT p h b (bfin p.blocks (hsrc h b).toNat).r)
def tgtEnd : EndD := effT (bfin q.blocks b) (tgtT q h b (bfin q.blocks b).r)

/-- An edge: where the source goes on with c and the target with d. -/
def edgeOk (c d : Int) : Prop := hsrc h d.toNat = c ∧ ∀ x ∈ hpairs h d.toNat, srcT p h b x.reg = tgtT q h b x.place

/-- P12 (4), of block b of the target. -/
structure BlockOk : Prop where
  src : 0 ≤ hsrc h b ∧ hsrc h b < p.blocks.length
  pairs : ∀ x ∈ hpairs h b, 0 ≤ x.reg ∧ x.reg < p.regs ∧ 0 ≤ x.place ∧ x.place < q.regs + q.slots
  marks : marksD p.regs 0 p.data (plainNames p.regs 0) (srcOps p h b) (srcOps p h b).length = marksD q.regs q.slots q.data (namesOf (hpairs h b) (q.regs + q.slots).toNat) (bops q.blocks b) (bops q.blocks b).length
  cells : srcT p h b p.regs = tgtT q h b (q.regs + q.slots)
  kind : (srcEnd p h b).kind = (tgtEnd q h b).kind
  term : ((srcEnd p h b).kind = 2 ∨ (srcEnd p h b).kind = 3) → srcT p h b (srcEnd p h b).r = tgtT q h b (tgtEnd q h b).r
  edgeX : (srcEnd p h b).kind ≠ 3 → edgeOk p q h b (srcEnd p h b).x (tgtEnd q h b).x
  edgeY : (srcEnd p h b).kind = 2 → edgeOk p q h b (srcEnd p h b).y (tgtEnd q h b).y
end

theorem end_kind {regs n : Int} {e : EndD} (h : endGood regs n e = true) : e.kind = 1 ∨ e.kind = 2 ∨ e.kind = 3 := by
  unfold endGood at h
  repeat' split at h
  all_goals first | omega | simp at h

end Go.Proofs.YtblhmeidbjigaabGreatDoor

/- P12 in the document's words: pure. -/
set_option linter.unusedSimpArgs false
set_option linter.unusedVariables false
noncomputable section
namespace Go.Proofs.YtblhmeidbjigaabGreatDoor
open Go.RowKit Classical

/-- P12 (2): is the hint one for these programs? -/
def suitsD (p q : ProgD) (h : List PingD) : Prop :=
  h.length = q.blocks.length ∧ ∀ b, b < h.length → hsrc h b < p.blocks.length ∧ ∀ x ∈ hpairs h b, x.reg < p.regs ∧ x.place < q.regs + q.slots

/-- P12 (3). -/
def startsD (q : ProgD) (h : List PingD) : Prop :=
  hsrc h 0 = 0 ∧ ∀ x ∈ hpairs h 0, x.place < q.regs ∧ (x.reg = x.place ∨ (q.args ≤ x.reg ∧ q.args ≤ x.place))

section
variable (p q : ProgD) (h : List PingD) (b : Nat)
def pairsOkD (l : List PairD) : Prop := ∀ x ∈ l, srcT p h b x.reg = tgtT q h b x.place


/-- P12 (4): what is wrong at block b of the target; 0: nothing. -/
def wrongD : Int :=
  if bigT p.regs 0 (plainNames p.regs 0) (srcOps p h b) = true ∨ bigT q.regs q.slots (namesOf (hpairs h b) (q.regs + q.slots).toNat) (bops q.blocks b) = true then 5
  else if marksD p.regs 0 p.data (plainNames p.regs 0) (srcOps p h b) (srcOps p h b).length ≠ marksD q.regs q.slots q.data (namesOf (hpairs h b) (q.regs + q.slots).toNat) (bops q.blocks b) (bops q.blocks b).length then 10
  else if srcT p h b p.regs ≠ tgtT q h b (q.regs + q.slots) then 11
  else if (srcEnd p h b).kind ≠ (tgtEnd q h b).kind then 12
  else if ((srcEnd p h b).kind = 2 ∨ (srcEnd p h b).kind = 3) ∧ srcT p h b (srcEnd p h b).r ≠ tgtT q h b (tgtEnd q h b).r then 12
  else if (srcEnd p h b).kind = 3 then 0
  else if hsrc h (tgtEnd q h b).x.toNat ≠ (srcEnd p h b).x then 13
  else if (srcEnd p h b).kind = 2 ∧ hsrc h (tgtEnd q h b).y.toNat ≠ (srcEnd p h b).y then 13
  else if ¬ pairsOkD p q h b (hpairs h (tgtEnd q h b).x.toNat) then 14
  else if (srcEnd p h b).kind = 2 ∧ ¬ pairsOkD p q h b (hpairs h (tgtEnd q h b).y.toNat) then 14
  else 0
end

/-- P12: what Validate answers of texts that are read as p, q and h. -/
def JudgedD (p q : ProgD) (h : List PingD) (e n : Int) : Prop :=
  (e = 9 ∧ n = 0 ∧ ¬ startsD q h) ∨ (startsD q h ∧
    ((∃ b : Nat, b < q.blocks.length ∧ n = b ∧ e = wrongD p q h b ∧ e ≠ 0 ∧ ∀ c, c < b → wrongD p q h c = 0) ∨ (e = 0 ∧ n = 0 ∧ ∀ b, b < q.blocks.length → wrongD p q h b = 0)))

/-- P12: what Validate answers. -/
def ValAns (s t g : ByteArray) (e n : Int) : Prop :=
  (e = 6 ∧ n = 0 ∧ ∀ p, progGood p = true → str (progText p) = s → p.slots ≠ 0) ∨
  ∃ p, progGood p = true ∧ str (progText p) = s ∧ p.slots = 0 ∧
    ((e = 7 ∧ n = 0 ∧ ∀ q, progGood q = true → str (progText q) ≠ t) ∨
      ∃ q, progGood q = true ∧ str (progText q) = t ∧
        ((e = 8 ∧ n = 0 ∧ ¬ (p.args = q.args ∧ p.data = q.data)) ∨ ((p.args = q.args ∧ p.data = q.data) ∧
          ((e = 2 ∧ n = 0 ∧ ∀ h, goodHint h = true → str (hintText h) = g → ¬ suitsD p q h) ∨
            ∃ h, goodHint h = true ∧ str (hintText h) = g ∧ suitsD p q h ∧ JudgedD p q h e n))))

theorem JudgedD.one {p q : ProgD} {h : List PingD} {e n e' n' : Int} (a : JudgedD p q h e n) (b : JudgedD p q h e' n') : e = e' ∧ n = n' := by
  rcases a with ⟨rfl, rfl, a1⟩ | ⟨a0, a1⟩
  · rcases b with ⟨rfl, rfl, _⟩ | ⟨b0, _⟩
    · exact ⟨rfl, rfl⟩
    · exact absurd b0 a1
  · rcases b with ⟨_, _, b1⟩ | ⟨_, b1⟩
    · exact absurd a0 b1
    · rcases a1 with ⟨x, x1, rfl, rfl, x2, x3⟩ | ⟨rfl, rfl, x1⟩
      · rcases b1 with ⟨y, y1, rfl, rfl, y2, y3⟩ | ⟨_, _, y1⟩
        · have : x = y := by
            rcases Nat.lt_trichotomy x y with c | c | c
            · exact absurd (y3 x c) x2
            · exact c
            · exact absurd (x3 y c) y2
          subst this
          exact ⟨rfl, rfl⟩
        · exact absurd (y1 x x1) x2
      · rcases b1 with ⟨y, y1, rfl, rfl, y2, y3⟩ | ⟨rfl, rfl, y1⟩
        · exact absurd (x1 y y1) y2
        · exact ⟨rfl, rfl⟩

theorem ValAns.one {s t g : ByteArray} {e n e' n' : Int} (a : ValAns s t g e n) (b : ValAns s t g e' n') : e = e' ∧ n = n' := by
  rcases a with ⟨rfl, rfl, a1⟩ | ⟨p, pg, pt, p0, a1⟩
  · rcases b with ⟨rfl, rfl, _⟩ | ⟨p, pg, pt, p0, _⟩
    · exact ⟨rfl, rfl⟩
    · exact absurd p0 (a1 p pg pt)
  rcases b with ⟨_, _, b1⟩ | ⟨p', pg', pt', p0', b1⟩
  · exact absurd p0 (b1 p pg pt)
  obtain rfl : p = p' := prog_one pg pg' (pt.trans pt'.symm)
  rcases a1 with ⟨rfl, rfl, a1⟩ | ⟨q, qg, qt, a1⟩
  · rcases b1 with ⟨rfl, rfl, _⟩ | ⟨q, qg, qt, _⟩
    · exact ⟨rfl, rfl⟩
    · exact absurd qt (a1 q qg)
  rcases b1 with ⟨_, _, b1⟩ | ⟨q', qg', qt', b1⟩
  · exact absurd qt (b1 q qg)
  obtain rfl : q = q' := prog_one qg qg' (qt.trans qt'.symm)
  rcases a1 with ⟨rfl, rfl, a1⟩ | ⟨a0, a1⟩
  · rcases b1 with ⟨rfl, rfl, _⟩ | ⟨b0, _⟩
    · exact ⟨rfl, rfl⟩
    · exact absurd b0 a1
  rcases b1 with ⟨_, _, b1⟩ | ⟨_, b1⟩
  · exact absurd a0 b1
  rcases a1 with ⟨rfl, rfl, a1⟩ | ⟨h, hg, ht, hs, a1⟩
  · rcases b1 with ⟨rfl, rfl, _⟩ | ⟨h, hg, ht, hs, _⟩
    · exact ⟨rfl, rfl⟩
    · exact absurd hs (a1 h hg ht)
  rcases b1 with ⟨_, _, b1⟩ | ⟨h', hg', ht', hs', b1⟩
  · exact absurd hs (b1 h hg ht)
  obtain rfl : h = h' := hint_one hg hg' (ht.trans ht'.symm)
  exact a1.one b1

theorem goodPairs_all {l : List PairD} {last : Int} (h : goodPairs last l = true) : ∀ x ∈ l, 0 ≤ x.reg ∧ 0 ≤ x.place := by
  induction l generalizing last with
  | nil => intro x hx; cases hx
  | cons y l ih =>
    simp only [goodPairs, Bool.and_eq_true, below, decide_eq_true_eq] at h
    intro x hx
    rcases List.mem_cons.1 hx with rfl | hx
    · omega
    · exact ih h.2 x hx

theorem goodHint_at {h : List PingD} (g : goodHint h = true) {b : Nat} (hb : b < h.length) : 0 ≤ hsrc h b ∧ ∀ x ∈ hpairs h b, 0 ≤ x.reg ∧ 0 ≤ x.place := by
  simp only [goodHint, goodPings, Bool.and_eq_true, decide_eq_true_eq, List.all_eq_true] at g
  have hm : h.getD b hz ∈ h := by simp [List.getD, hb]
  have := g.2 _ hm
  simp only [goodPing, Bool.and_eq_true, below, decide_eq_true_eq] at this
  exact ⟨this.1.1.1, goodPairs_all this.2⟩

/-- Where nothing is wrong, P12 (4) holds. -/
theorem blockOk_of {p q : ProgD} {h : List PingD} (hg : goodHint h = true) (hs : suitsD p q h) {b : Nat} (hb : b < q.blocks.length) (hw : wrongD p q h b = 0) : BlockOk p q h b := by
  have hbl : b < h.length := by rw [hs.1]; exact hb
  obtain ⟨s1, s2⟩ := hs.2 b hbl
  obtain ⟨g1, g2⟩ := goodHint_at hg hbl
  unfold wrongD at hw
  split at hw; · omega
  split at hw; · omega
  rename_i hm
  split at hw; · omega
  rename_i hc
  split at hw; · omega
  rename_i hk
  split at hw; · omega
  rename_i ht
  have hm := Decidable.not_not.1 hm
  have hc := Decidable.not_not.1 hc
  have hk := Decidable.not_not.1 hk
  have ht : ((srcEnd p h b).kind = 2 ∨ (srcEnd p h b).kind = 3) → srcT p h b (srcEnd p h b).r = tgtT q h b (tgtEnd q h b).r := fun a => Decidable.not_not.1 fun c => ht ⟨a, c⟩
  have hp : ∀ x ∈ hpairs h b, 0 ≤ x.reg ∧ x.reg < p.regs ∧ 0 ≤ x.place ∧ x.place < q.regs + q.slots := fun x hx => ⟨(g2 x hx).1, (s2 x hx).1, (g2 x hx).2, (s2 x hx).2⟩
  split at hw
  · rename_i h3
    exact ⟨⟨g1, s1⟩, hp, hm, hc, hk, ht, fun c => absurd h3 c, fun c => by omega⟩
  split at hw; · omega
  rename_i x1
  split at hw; · omega
  rename_i x2
  split at hw; · omega
  rename_i x3
  split at hw; · omega
  rename_i x4
  have x1 := Decidable.not_not.1 x1
  have x3 := Decidable.not_not.1 x3
  exact ⟨⟨g1, s1⟩, hp, hm, hc, hk, ht, fun _ => ⟨x1, x3⟩, fun c => ⟨Decidable.not_not.1 fun d => x2 ⟨c, d⟩, Decidable.not_not.1 fun d => x4 ⟨c, d⟩⟩⟩

/-- What is taken for twins. -/
theorem ValAns.ok {s t g : ByteArray} {n : Int} (a : ValAns s t g 0 n) : ∃ p q h, progGood p = true ∧ str (progText p) = s ∧ progGood q = true ∧ str (progText q) = t ∧ goodHint h = true ∧ str (hintText h) = g ∧ p.slots = 0 ∧ p.args = q.args ∧ p.data = q.data ∧
    (∀ b, b < q.blocks.length → BlockOk p q h b) ∧ hsrc h 0 = 0 ∧ (∀ x ∈ hpairs h 0, x.place < q.regs ∧ (x.reg = x.place ∨ (p.args ≤ x.reg ∧ p.args ≤ x.place))) := by
  rcases a with ⟨c, _⟩ | ⟨p, pg, pt, p0, a⟩
  · omega
  rcases a with ⟨c, _⟩ | ⟨q, qg, qt, a⟩
  · omega
  rcases a with ⟨c, _⟩ | ⟨⟨e1, e2⟩, a⟩
  · omega
  rcases a with ⟨c, _⟩ | ⟨h, hg, ht, hs, a⟩
  · omega
  rcases a with ⟨c, _⟩ | ⟨st, a⟩
  · omega
  rcases a with ⟨b, _, _, c, d, _⟩ | ⟨_, _, a⟩
  · omega
  exact ⟨p, q, h, pg, pt, qg, qt, hg, ht, p0, e1, e2, fun b hb => blockOk_of hg hs hb (a b hb), st.1, by rw [e1]; exact st.2⟩

end Go.Proofs.YtblhmeidbjigaabGreatDoor

/- P15: a source is its own twin; pure. -/
set_option linter.unusedSimpArgs false
set_option linter.unusedVariables false
noncomputable section
namespace Go.Proofs.YtblhmeidbjigaabGreatDoor
open Go.RowKit Classical

def idPairs (n : Nat) : List PairD := (List.range n).map fun (i : Nat) => ⟨i, i⟩
def idHint (p : ProgD) : List PingD := (List.range p.blocks.length).map fun (b : Nat) => ⟨b, idPairs p.regs.toNat⟩

theorem idPairs_mem {n : Nat} {x : PairD} (h : x ∈ idPairs n) : ∃ i : Nat, i < n ∧ x = ⟨i, i⟩ := by
  simp only [idPairs, List.mem_map, List.mem_range] at h
  obtain ⟨i, hi, rfl⟩ := h
  exact ⟨i, hi, rfl⟩

theorem good_from {n : Nat} (hn : n ≤ 8) : ∀ (k : Nat) (last : Int), last < ((n - k : Nat) : Int) → k ≤ n → goodPairs last ((List.range' (n - k) k).map fun (i : Nat) => (⟨i, i⟩ : PairD)) = true := by
  intro k
  induction k with
  | zero => intro last _ _; rfl
  | succ k ih =>
    intro last hl hk
    rw [List.range'_succ]
    simp only [List.map_cons, goodPairs, Bool.and_eq_true, below, decide_eq_true_eq]
    refine ⟨⟨⟨by omega, by omega⟩, hl⟩, ?_⟩
    have := ih ((n - (k + 1) : Nat) : Int) (by omega) (by omega)
    rw [show n - (k + 1) + 1 = n - k by omega]
    exact this

theorem idPairs_good {n : Nat} (hn : n ≤ 8) : goodPairs (-1) (idPairs n) = true := by
  have := good_from hn n (-1) (by omega) (Nat.le_refl _)
  rw [Nat.sub_self, ← List.range_eq_range'] at this
  exact this

theorem idHint_at {p : ProgD} {b : Nat} (hb : b < p.blocks.length) : hsrc (idHint p) b = b ∧ hpairs (idHint p) b = idPairs p.regs.toNat := by
  simp [hsrc, hpairs, idHint, List.getD, hb]

theorem idHint_good {p : ProgD} (gp : progGood p = true) : goodHint (idHint p) = true := by
  simp only [progGood, Bool.and_eq_true, decide_eq_true_eq] at gp
  obtain ⟨⟨⟨⟨⟨p1, p2⟩, p3⟩, p4⟩, p5⟩, p6⟩ := gp
  simp only [goodHint, goodPings, Bool.and_eq_true, decide_eq_true_eq, List.all_eq_true]
  refine ⟨by simp [idHint]; omega, fun x hx => ?_⟩
  simp only [idHint, List.mem_map, List.mem_range] at hx
  obtain ⟨b, hb, rfl⟩ := hx
  simp only [goodPing, Bool.and_eq_true, below, decide_eq_true_eq]
  exact ⟨⟨by omega, by simp [idPairs]; omega⟩, idPairs_good (by omega)⟩

theorem find_id (n : Nat) : ∀ (k a : Nat), (p : Nat) → a ≤ p → p < a + k → ((List.range' a k).map fun (i : Nat) => (⟨i, i⟩ : PairD)).find? (fun x => decide (x.place = (p : Int))) = some ⟨p, p⟩ := by
  intro k
  induction k with
  | zero => intro a p h1 h2; omega
  | succ k ih =>
    intro a p h1 h2
    rw [List.range'_succ, List.map_cons, List.find?_cons]
    by_cases he : a = p
    · subst he; simp
    · rw [show decide (((a : Nat) : Int) = (p : Int)) = false by simp; omega]
      exact ih (a + 1) p (by omega) (by omega)

theorem namesOf_id {regs : Int} (h : 0 ≤ regs) : namesOf (idPairs regs.toNat) (regs + 0).toNat = plainNames regs 0 := by
  unfold namesOf plainNames
  apply List.map_congr_left
  intro p hp
  simp only [List.mem_range] at hp
  have := find_id regs.toNat regs.toNat 0 p (by omega) (by omega)
  rw [← List.range_eq_range'] at this
  unfold idPairs
  rw [this, if_pos (by omega)]

end Go.Proofs.YtblhmeidbjigaabGreatDoor

/- P15: when a target whose blocks go as the source's do is taken; pure. -/
set_option linter.unusedSimpArgs false
set_option linter.unusedVariables false
noncomputable section
namespace Go.Proofs.YtblhmeidbjigaabGreatDoor
open Go.RowKit Classical

/-- Block by block the same way: nothing is wrong where marks, cells, the end's register and the pairs have the same terms. -/
theorem like_wrong {p q : ProgD} {h : List PingD} {b : Nat} (hgood : blocksGood p.regs 0 p.blocks.length p.blocks = true) (hb : b < p.blocks.length) (hl : q.blocks.length = p.blocks.length)
    (hsrcs : ∀ d, d < p.blocks.length → hsrc h d = d)
    (big1 : bigT p.regs 0 (plainNames p.regs 0) (bops p.blocks b) = false) (big2 : bigT q.regs q.slots (namesOf (hpairs h b) (q.regs + q.slots).toNat) (bops q.blocks b) = false)
    (marks : marksD p.regs 0 p.data (plainNames p.regs 0) (bops p.blocks b) (bops p.blocks b).length = marksD q.regs q.slots q.data (namesOf (hpairs h b) (q.regs + q.slots).toNat) (bops q.blocks b) (bops q.blocks b).length)
    (cells : srcT p h b p.regs = tgtT q h b (q.regs + q.slots))
    (ends : (bfin q.blocks b).kind = (bfin p.blocks b).kind ∧ (bfin q.blocks b).x = (bfin p.blocks b).x ∧ (bfin q.blocks b).y = (bfin p.blocks b).y)
    (reg : (bfin p.blocks b).kind ≠ 1 → srcT p h b (bfin p.blocks b).r = tgtT q h b (bfin q.blocks b).r)
    (pairs : ∀ d, d < p.blocks.length → ∀ x ∈ hpairs h d, srcT p h b x.reg = tgtT q h b x.place) : wrongD p q h b = 0 := by
  have i1 := hsrcs b hb
  have so : srcOps p h b = bops p.blocks b := by unfold srcOps; rw [i1]; congr 1
  obtain ⟨g12, gops, gend⟩ := blocksGood_at hgood hb
  have fb : bfin p.blocks (hsrc h b).toNat = bfin p.blocks b := by rw [i1]; congr 1
  obtain ⟨ek, ex, ey⟩ := ends
  have k := end_kind gend
  have hg := gend
  unfold endGood at hg
  have pk : ∀ d : Int, 0 ≤ d → d < p.blocks.length → hsrc h d.toNat = d ∧ pairsOkD p q h b (hpairs h d.toNat) := by
    intro d d0 d1
    exact ⟨by rw [hsrcs d.toNat (by omega)]; omega, pairs d.toNat (by omega)⟩
  -- the ends as they count
  have ends2 : (srcEnd p h b).kind = (tgtEnd q h b).kind ∧ (((srcEnd p h b).kind = 2 ∨ (srcEnd p h b).kind = 3) → srcT p h b (srcEnd p h b).r = tgtT q h b (tgtEnd q h b).r) ∧
      ((srcEnd p h b).kind ≠ 3 → (tgtEnd q h b).x = (srcEnd p h b).x ∧ 0 ≤ (srcEnd p h b).x ∧ (srcEnd p h b).x < p.blocks.length) ∧
      ((srcEnd p h b).kind = 2 → (tgtEnd q h b).y = (srcEnd p h b).y ∧ 0 ≤ (srcEnd p h b).y ∧ (srcEnd p h b).y < p.blocks.length) := by
    unfold srcEnd tgtEnd effT
    rw [fb]
    by_cases k2 : (bfin p.blocks b).kind = 2
    · have hr := reg (by omega)
      have hg2 : (0 ≤ (bfin p.blocks b).x ∧ (bfin p.blocks b).x < p.blocks.length) ∧ (0 ≤ (bfin p.blocks b).y ∧ (bfin p.blocks b).y < p.blocks.length) := by
        simp [k2, below] at hg; omega
      rw [if_pos k2, if_pos (by rw [ek]; exact k2), ← hr]
      cases ht : (srcT p h b (bfin p.blocks b).r).isNum with
      | some n =>
        refine ⟨rfl, fun c => by simp at c, fun _ => ?_, fun c => by simp at c⟩
        simp only [ex, ey]
        refine ⟨trivial, ?_⟩
        split
        · exact hg2.1
        · exact hg2.2
      | none => exact ⟨ek.symm, fun _ => hr, fun _ => ⟨ex, hg2.1⟩, fun _ => ⟨ey, hg2.2⟩⟩
    · rw [if_neg k2, if_neg (by rw [ek]; exact k2)]
      refine ⟨ek.symm, fun c => reg (by omega), fun c => ⟨ex, ?_⟩, fun c => absurd c k2⟩
      have k1 : (bfin p.blocks b).kind = 1 := by omega
      simp [k1, below] at hg; omega
  obtain ⟨c1, c2, c3, c4⟩ := ends2
  unfold wrongD
  rw [so, big1, big2]
  rw [if_neg (by simp), if_neg (by rw [marks]; simp), if_neg (by rw [cells]; simp), if_neg (by rw [c1]; simp), if_neg (fun c => c.2 (c2 c.1))]
  by_cases h3 : (srcEnd p h b).kind = 3
  · rw [if_pos h3]
  · rw [if_neg h3]
    obtain ⟨x1, x2, x3⟩ := c3 h3
    obtain ⟨a1, a2⟩ := pk _ x2 x3
    rw [x1, if_neg (by rw [a1]; simp)]
    by_cases k2 : (srcEnd p h b).kind = 2
    · obtain ⟨y1, y2, y3⟩ := c4 k2
      obtain ⟨b1, b2⟩ := pk _ y2 y3
      rw [y1, if_neg (by rw [b1]; simp), if_neg (by simpa using a2), if_neg (fun c => c.2 b2)]
    · rw [if_neg (fun c => k2 c.1), if_neg (by simpa using a2), if_neg (fun c => k2 c.1)]

end Go.Proofs.YtblhmeidbjigaabGreatDoor

/- Terms and marks of a list of operations, step by step; pure. -/
set_option linter.unusedSimpArgs false
set_option linter.unusedVariables false
noncomputable section
namespace Go.Proofs.YtblhmeidbjigaabGreatDoor
open Go.RowKit Classical

/-- What an operation makes. -/
def givesT (regs slots : Int) (was : Int → TD) (o : OpD) : TD :=
  if o.kind = 1 then tnum (256 * o.b + o.c - 32768)
  else if o.kind = 2 ∨ o.kind = 14 then was o.b
  else if o.kind = 15 then was (regs + o.b)
  else if o.kind = 12 then readT (was (regs + slots)) (was o.b)
  else if o.kind = 13 then writtenT (was (regs + slots)) (was o.a) (was o.b)
  else madeT o.kind (was o.b) (was o.c)

/-- Behind an operation. -/
def stepT (regs slots : Int) (was : Int → TD) (o : OpD) : Int → TD := fun place => if writesT regs slots o ≠ place then was place else givesT regs slots was o

def foldT (regs slots : Int) : List OpD → (Int → TD) → (Int → TD)
  | [], was => was
  | o :: l, was => foldT regs slots l (stepT regs slots was o)

/-- The mark of an operation. -/
def opMark (was : Int → TD) (o : OpD) : Option MD :=
  if o.kind = 11 then some (.div (was o.b) (was o.c)) else if o.kind = 12 then some (.cell (was o.b)) else if o.kind = 13 then some (.cell (was o.a)) else none

def addM (data : Int) (l : List MD) : Option MD → List MD
  | some m => if idle data m = true ∨ m ∈ l then l else l ++ [m]
  | none => l

def foldM (regs slots data : Int) : List OpD → (Int → TD) → List MD → List MD
  | [], _, l => l
  | o :: r, was, l => foldM regs slots data r (stepT regs slots was o) (addM data l (opMark was o))

theorem foldT_append (regs slots : Int) (l m : List OpD) (was : Int → TD) : foldT regs slots (l ++ m) was = foldT regs slots m (foldT regs slots l was) := by
  induction l generalizing was with
  | nil => rfl
  | cons o l ih => exact ih _

theorem foldM_append (regs slots data : Int) (l m : List OpD) (was : Int → TD) (a : List MD) : foldM regs slots data (l ++ m) was a = foldM regs slots data m (foldT regs slots l was) (foldM regs slots data l was a) := by
  induction l generalizing was a with
  | nil => rfl
  | cons o l ih => exact ih _ _

theorem behind_succ (regs slots : Int) (names : List Int) (ops : List OpD) (k : Nat) : behindT regs slots names ops (k + 1) = stepT regs slots (behindT regs slots names ops k) (ops.getD k oz) := by
  funext place
  simp only [behindT, stepT, givesT]

theorem take_succ' {ops : List OpD} {k : Nat} (h : k < ops.length) : ops.take (k + 1) = ops.take k ++ [ops.getD k oz] := by
  rw [List.take_add_one, List.getElem?_eq_getElem h]
  simp [List.getD, h]

theorem behind_fold (regs slots : Int) (names : List Int) (ops : List OpD) : ∀ k, k ≤ ops.length → behindT regs slots names ops k = foldT regs slots (ops.take k) (firstT names) := by
  intro k
  induction k with
  | zero => intro _; funext p; simp [behindT, foldT]
  | succ k ih =>
    intro hk
    rw [behind_succ, ih (by omega), take_succ' (by omega), foldT_append]
    rfl

theorem behind_all (regs slots : Int) (names : List Int) (ops : List OpD) : behindT regs slots names ops ops.length = foldT regs slots ops (firstT names) := by
  rw [behind_fold _ _ _ _ _ (Nat.le_refl _), List.take_length]

theorem marks_fold (regs slots data : Int) (names : List Int) (ops : List OpD) : ∀ k, k ≤ ops.length → marksD regs slots data names ops k = foldM regs slots data (ops.take k) (firstT names) [] := by
  intro k
  induction k with
  | zero => intro _; simp [marksD, foldM]
  | succ k ih =>
    intro hk
    have ih := ih (by omega)
    rw [take_succ' (by omega), foldM_append, ← ih, ← behind_fold _ _ _ _ _ (by omega)]
    simp only [marksD, foldM]
    have : rawMark regs slots names ops k = opMark (behindT regs slots names ops k) (ops.getD k oz) := rfl
    rw [this]
    unfold addM
    rfl

theorem marks_all (regs slots data : Int) (names : List Int) (ops : List OpD) : marksD regs slots data names ops ops.length = foldM regs slots data ops (firstT names) [] := by
  rw [marks_fold _ _ _ _ _ _ (Nat.le_refl _), List.take_length]

end Go.Proofs.YtblhmeidbjigaabGreatDoor

/- Operations that change over, operations that nobody asks for: terms and marks; pure. -/
set_option linter.unusedSimpArgs false
set_option linter.unusedVariables false
noncomputable section
namespace Go.Proofs.YtblhmeidbjigaabGreatDoor
open Go.RowKit Classical

/-- Does an operation (no Put, no Get) read a place? -/
def readsT (regs slots : Int) (o : OpD) (p : Int) : Prop :=
  if o.kind = 1 then False
  else if o.kind = 2 then o.b = p
  else if o.kind = 12 then o.b = p ∨ regs + slots = p
  else if o.kind = 13 then o.a = p ∨ o.b = p ∨ regs + slots = p
  else o.b = p ∨ o.c = p

/-- What is made, and its mark, hang on what is read. -/
theorem gives_congr {regs slots : Int} {o : OpD} (hk : o.kind ≠ 14 ∧ o.kind ≠ 15) {w w' : Int → TD} (h : ∀ p, readsT regs slots o p → w p = w' p) : givesT regs slots w o = givesT regs slots w' o ∧ opMark w o = opMark w' o := by
  unfold readsT at h
  unfold givesT opMark
  by_cases h1 : o.kind = 1
  · simp [h1]
  simp only [h1, if_false] at h ⊢
  by_cases h2 : o.kind = 2
  · simp only [h2, if_true] at h
    simp [h2, h o.b rfl]
  simp only [h2, if_false] at h
  by_cases h12 : o.kind = 12
  · simp only [h12, if_true] at h
    have a := h o.b (.inl rfl)
    have b := h _ (.inr rfl)
    simp [h12, a, b]
  simp only [h12, if_false] at h
  by_cases h13 : o.kind = 13
  · simp only [h13, if_true] at h
    have a := h o.a (.inl rfl)
    have b := h o.b (.inr (.inl rfl))
    have c := h _ (.inr (.inr rfl))
    simp [h13, a, b, c]
  simp only [h13, if_false] at h
  have a := h o.b (.inl rfl)
  have b := h o.c (.inr rfl)
  simp only [h2, h12, h13, hk.1, hk.2, if_false, or_self, a, b, and_self]

end Go.Proofs.YtblhmeidbjigaabGreatDoor

/- What an operation writes, reads and lets out (twinkeep.writes, reads, tells, loose). -/
set_option linter.unusedSimpArgs false
set_option linter.unusedVariables false
namespace Go.Proofs.YtblhmeidbjigaabGreatDoor
open Go.RowKit

/-- The register that an operation writes; -1: none. -/
def writesK (o : OpD) : Int := if o.kind = 13 then -1 else o.a
/-- Does an operation read the register n? -/
def readsK (o : OpD) (n : Int) : Prop := if o.kind = 1 then False else if o.kind = 2 ∨ o.kind = 12 then o.b = n else if o.kind = 13 then o.a = n ∨ o.b = n else o.b = n ∨ o.c = n
set_option maxRecDepth 100000 in
set_option maxHeartbeats 1000000 in
theorem kWrites_cps (k a b c : Int) (w : World) (Post : Ending → World → Prop) (hp : ∀ w', Below w.heap.size w w' → Post (.returned (.int .i64 (writesK ⟨k, a, b, c⟩))) w') :
    Calls Tryz.prog 18 #[.agg #[.int .i64 k, .int .i64 a, .int .i64 b, .int .i64 c]] w Post := by
  have b0 : Below w.heap.size w (w.alloc (.cells #[.int .i64 k, .int .i64 a, .int .i64 b, .int .i64 c] 36)) := (Below.refl _ _).alloc (Nat.le_refl _) _
  have HF := Lib.hid (hp _ b0)
  clear hp b0
  by_cases h : k = 13
  · subst h
    have e : writesK ⟨13, a, b, c⟩ = -1 := by simp [writesK]
    rw [e] at HF
    clear e
    go_enter Tryz.func18, Tryz.ntmps18
    go_wp2
    exact HF.out
  · have e : writesK ⟨k, a, b, c⟩ = a := by simp [writesK, h]
    have e1 : (k == 13) = false := by simp [h]
    rw [e] at HF
    clear e h
    go_enter Tryz.func18, Tryz.ntmps18
    go_wp2
    exact HF.out

set_option maxRecDepth 100000 in
set_option maxHeartbeats 1000000 in
theorem kReads_cps (k a b c n : Int) (w : World) (Post : Ending → World → Prop) (hp : ∀ z w', (z = true ↔ readsK ⟨k, a, b, c⟩ n) → Below w.heap.size w w' → Post (.returned (.bool z)) w') :
    Calls Tryz.prog 19 #[.agg #[.int .i64 k, .int .i64 a, .int .i64 b, .int .i64 c], .int .i64 n] w Post := by
  have b0 : Below w.heap.size w (w.alloc (.cells #[.int .i64 k, .int .i64 a, .int .i64 b, .int .i64 c] 36)) := (Below.refl _ _).alloc (Nat.le_refl _) _
  by_cases h1 : k = 1
  · subst h1
    have HF := Lib.hid (hp false _ (by simp [readsK]) b0)
    clear hp b0
    go_enter Tryz.func19, Tryz.ntmps19
    go_wp2
    exact HF.out
  have e1 : (k == 1) = false := by simp [h1]
  by_cases h2 : k = 2
  · subst h2
    by_cases hx : b = n
    · have q1 : (b == n) = true := by simp [hx]
      have HF := Lib.hid (hp true _ (by simp [readsK, hx]) b0)
      clear hp b0 hx
      go_enter Tryz.func19, Tryz.ntmps19
      go_wp2
      exact HF.out
    · have q1 : (b == n) = false := by simp [hx]
      have HF := Lib.hid (hp false _ (by simp [readsK, hx]) b0)
      clear hp b0 hx
      go_enter Tryz.func19, Tryz.ntmps19
      go_wp2
      exact HF.out
  have e2 : (k == 2) = false := by simp [h2]
  by_cases h3 : k = 12
  · subst h3
    by_cases hx : b = n
    · have q1 : (b == n) = true := by simp [hx]
      have HF := Lib.hid (hp true _ (by simp [readsK, hx]) b0)
      clear hp b0 hx
      go_enter Tryz.func19, Tryz.ntmps19
      go_wp2
      exact HF.out
    · have q1 : (b == n) = false := by simp [hx]
      have HF := Lib.hid (hp false _ (by simp [readsK, hx]) b0)
      clear hp b0 hx
      go_enter Tryz.func19, Tryz.ntmps19
      go_wp2
      exact HF.out
  have e3 : (k == 12) = false := by simp [h3]
  by_cases h4 : k = 13
  · subst h4
    by_cases hx : a = n
    · have q1 : (a == n) = true := by simp [hx]
      have HF := Lib.hid (hp true _ (by simp [readsK, hx]) b0)
      clear hp b0 hx
      go_enter Tryz.func19, Tryz.ntmps19
      go_wp2
      exact HF.out
    · have q1 : (a == n) = false := by simp [hx]
      by_cases hy : b = n
      · have q2 : (b == n) = true := by simp [hy]
        have HF := Lib.hid (hp true _ (by simp [readsK, hx, hy]) b0)
        clear hp b0 hx hy
        go_enter Tryz.func19, Tryz.ntmps19
        go_wp2
        exact HF.out
      · have q2 : (b == n) = false := by simp [hy]
        have HF := Lib.hid (hp false _ (by simp [readsK, hx, hy]) b0)
        clear hp b0 hx hy
        go_enter Tryz.func19, Tryz.ntmps19
        go_wp2
        exact HF.out
  have e4 : (k == 13) = false := by simp [h4]
  by_cases hx : b = n
  · have q1 : (b == n) = true := by simp [hx]
    have HF := Lib.hid (hp true _ (by simp [readsK, h1, h2, h3, h4, hx]) b0)
    clear hp b0 hx
    go_enter Tryz.func19, Tryz.ntmps19
    go_wp2
    exact HF.out
  · have q1 : (b == n) = false := by simp [hx]
    by_cases hy : c = n
    · have q2 : (c == n) = true := by simp [hy]
      have HF := Lib.hid (hp true _ (by simp [readsK, h1, h2, h3, h4, hx, hy]) b0)
      clear hp b0 hx hy
      go_enter Tryz.func19, Tryz.ntmps19
      go_wp2
      exact HF.out
    · have q2 : (c == n) = false := by simp [hy]
      have HF := Lib.hid (hp false _ (by simp [readsK, h1, h2, h3, h4, hx, hy]) b0)
      clear hp b0 hx hy
      go_enter Tryz.func19, Tryz.ntmps19
      go_wp2
      exact HF.out

theorem op_plain {regs : Int} {o : OpD} (g : opGood regs 0 o = true) : (1 ≤ o.kind ∧ o.kind ≤ 13) ∧ (0 ≤ o.a ∧ o.a < regs) ∧ (o.kind ≠ 1 → 0 ≤ o.b ∧ o.b < regs) ∧ (3 ≤ o.kind ∧ o.kind ≤ 11 → 0 ≤ o.c ∧ o.c < regs) := by
  unfold opGood at g
  repeat' split at g
  all_goals (first | (simp only [Bool.and_eq_true, below, decide_eq_true_eq] at g; omega) | (cases g))

end Go.Proofs.YtblhmeidbjigaabGreatDoor

/- What was done already may be moved instead; pure. -/
set_option linter.unusedSimpArgs false
set_option linter.unusedVariables false
noncomputable section
namespace Go.Proofs.YtblhmeidbjigaabGreatDoor
open Go.RowKit Classical

/-- What is not written stays. -/
theorem keep_fold {regs slots p : Int} (l : List OpD) (h : ∀ o ∈ l, writesT regs slots o ≠ p) (w : Int → TD) : foldT regs slots l w p = w p := by
  induction l generalizing w with
  | nil => rfl
  | cons o l ih =>
    simp only [foldT]
    rw [ih (fun u hu => h u (by simp [hu]))]
    unfold stepT
    rw [if_pos (h o (by simp))]

/-- A mark has its place: it stands in the list, or is left out for its numbers, or there is none. -/
def stands (data : Int) (a : List MD) : Option MD → Prop
  | some m => idle data m = true ∨ m ∈ a
  | none => True

theorem addM_stands (data : Int) (a : List MD) (m : Option MD) : stands data (addM data a m) m := by
  cases m with
  | none => trivial
  | some m =>
    unfold addM stands
    simp only
    split
    · assumption
    · exact .inr (by simp)

theorem addM_keeps {data : Int} {a : List MD} {m : Option MD} (h : stands data a m) (x : Option MD) : stands data (addM data a x) m := by
  cases m with
  | none => trivial
  | some m =>
    rcases h with h | h
    · exact .inl h
    · refine .inr ?_
      cases x with
      | none => exact h
      | some x =>
        unfold addM
        simp only
        split
        · exact h
        · simp [h]

theorem foldM_keeps {regs slots data : Int} (l : List OpD) {a : List MD} {m : Option MD} (h : stands data a m) (w : Int → TD) : stands data (foldM regs slots data l w a) m := by
  induction l generalizing w a with
  | nil => exact h
  | cons o l ih => exact ih (addM_keeps h _) _

theorem addM_again {data : Int} {a : List MD} {m : Option MD} (h : stands data a m) : addM data a m = a := by
  cases m with
  | none => rfl
  | some m => unfold addM; simp only; exact if_pos h

/-- An operation from 3 to 12, again, into another register: or Move. -/
theorem share_fold {regs slots data : Int} {d : OpD} (hk : 3 ≤ d.kind ∧ d.kind ≤ 12) (h1 : ¬ readsT regs slots d d.a) (l : List OpD) (h2 : ∀ o ∈ l, writesT regs slots o ≠ d.a) (h3 : ∀ o ∈ l, ∀ p, readsT regs slots d p → writesT regs slots o ≠ p) (x c : Int) (w : Int → TD) (a : List MD) :
    foldT regs slots (d :: l ++ [⟨d.kind, x, d.b, d.c⟩]) w = foldT regs slots (d :: l ++ [⟨2, x, d.a, c⟩]) w ∧ foldM regs slots data (d :: l ++ [⟨d.kind, x, d.b, d.c⟩]) w a = foldM regs slots data (d :: l ++ [⟨2, x, d.a, c⟩]) w a := by
  have hw : writesT regs slots d = d.a := by unfold writesT; rw [if_neg (by omega), if_neg (by omega)]
  have hw2 : writesT regs slots ⟨d.kind, x, d.b, d.c⟩ = x := by unfold writesT; rw [if_neg (by simp only; omega), if_neg (by simp only; omega)]
  have hw3 : writesT regs slots ⟨2, x, d.a, c⟩ = x := by unfold writesT; rw [if_neg (by simp), if_neg (by simp)]
  have kp := fun (p : Int) (hp : ∀ o ∈ l, writesT regs slots o ≠ p) => keep_fold l hp (stepT regs slots w d)
  have ka : foldT regs slots l (stepT regs slots w d) d.a = givesT regs slots w d := by
    rw [kp _ h2]; unfold stepT; rw [hw]; simp
  have cg := gives_congr (o := d) (regs := regs) (slots := slots) (by omega) (w := foldT regs slots l (stepT regs slots w d)) (w' := w) (fun p hp => by
    rw [kp p (fun o ho => h3 o ho p hp)]
    unfold stepT
    rw [hw, if_pos (by rintro rfl; exact h1 hp)])
  have g1 : givesT regs slots (foldT regs slots l (stepT regs slots w d)) ⟨d.kind, x, d.b, d.c⟩ = givesT regs slots w d := by
    rw [← cg.1]
    unfold givesT
    simp only [show d.kind ≠ 13 by omega, if_false]
  have g2 : givesT regs slots (foldT regs slots l (stepT regs slots w d)) ⟨2, x, d.a, c⟩ = givesT regs slots w d := by
    unfold givesT
    simp only [show ¬ ((2 : Int) = 1) by omega, if_false, true_or, if_true]
    exact ka
  have m1 : opMark (foldT regs slots l (stepT regs slots w d)) ⟨d.kind, x, d.b, d.c⟩ = opMark w d := by
    rw [← cg.2]
    unfold opMark
    simp only
    by_cases k11 : d.kind = 11
    · rw [if_pos k11, if_pos k11]
    · rw [if_neg k11, if_neg k11]
      by_cases k12 : d.kind = 12
      · rw [if_pos k12, if_pos k12]
      · rw [if_neg k12, if_neg k12, if_neg (by omega), if_neg (by omega)]
  have m2 : opMark (foldT regs slots l (stepT regs slots w d)) ⟨2, x, d.a, c⟩ = none := by
    unfold opMark
    simp
  simp only [List.cons_append]
  simp only [foldT, foldM]
  rw [foldT_append, foldT_append, foldM_append, foldM_append]
  simp only [foldT, foldM]
  rw [m1, m2]
  refine ⟨?_, ?_⟩
  · funext p
    unfold stepT
    rw [hw2, hw3]
    have e1 := g1
    have e2 := g2
    unfold stepT at e1 e2
    rw [e1, e2]
  · rw [addM_again (foldM_keeps l (addM_stands data a _) _)]
    rfl

end Go.Proofs.YtblhmeidbjigaabGreatDoor

/- Operations that nobody asks for, registers kept in slots: the same terms; pure. -/
set_option linter.unusedSimpArgs false
set_option linter.unusedVariables false
noncomputable section
namespace Go.Proofs.YtblhmeidbjigaabGreatDoor
open Go.RowKit Classical

/-- Get, register by register. -/
def getOps (n : Nat) : List OpD := (List.range n).map fun (i : Nat) => ⟨15, i, i, 0⟩
end Go.Proofs.YtblhmeidbjigaabGreatDoor

/- Big blocks, step by step; pure. -/
set_option linter.unusedSimpArgs false
set_option linter.unusedVariables false
noncomputable section
namespace Go.Proofs.YtblhmeidbjigaabGreatDoor
open Go.RowKit Classical

def bigOp (regs slots : Int) (was : Int → TD) (o : OpD) : Bool := decide (3 ≤ o.kind ∧ o.kind ≤ 13 ∧ 4095 < (givesT regs slots was o).size)

def bigF (regs slots : Int) : List OpD → (Int → TD) → Bool
  | [], _ => false
  | o :: l, was => bigOp regs slots was o || bigF regs slots l (stepT regs slots was o)

theorem bigF_append (regs slots : Int) (l m : List OpD) (was : Int → TD) : bigF regs slots (l ++ m) was = (bigF regs slots l was || bigF regs slots m (foldT regs slots l was)) := by
  induction l generalizing was with
  | nil => simp [bigF, foldT]
  | cons o l ih => simp only [List.cons_append, bigF, foldT, ih, Bool.or_assoc]

theorem step_writes (regs slots : Int) (was : Int → TD) (o : OpD) : stepT regs slots was o (writesT regs slots o) = givesT regs slots was o := by
  unfold stepT; simp

theorem big_fold (regs slots : Int) (names : List Int) (ops : List OpD) : ∀ k, k ≤ ops.length →
    ((List.range k).any fun k => decide (3 ≤ okind ops k ∧ okind ops k ≤ 13 ∧ 4095 < (behindT regs slots names ops (k + 1) (writesT regs slots (ops.getD k oz))).size)) = bigF regs slots (ops.take k) (firstT names) := by
  intro k
  induction k with
  | zero => intro _; simp [bigF]
  | succ k ih =>
    intro hk
    rw [List.range_succ, List.any_append, ih (by omega), take_succ' (by omega), bigF_append, ← behind_fold _ _ _ _ _ (by omega)]
    simp only [List.any_cons, List.any_nil, Bool.or_false, bigF]
    rw [behind_succ, step_writes]
    rfl

theorem big_all (regs slots : Int) (names : List Int) (ops : List OpD) : bigT regs slots names ops = bigF regs slots ops (firstT names) := by
  have := big_fold regs slots names ops ops.length (Nat.le_refl _)
  rw [List.take_length] at this
  exact this

end Go.Proofs.YtblhmeidbjigaabGreatDoor

/- P15: targets on the same registers: pure. -/
set_option linter.unusedSimpArgs false
set_option linter.unusedVariables false
noncomputable section
namespace Go.Proofs.YtblhmeidbjigaabGreatDoor
open Go.RowKit Classical

/-- Two well made programs of one shape on the same registers, the ends the same, and block by block the same terms and marks: twins by the plain hint. -/
theorem twin_id {p q : ProgD} (gp : progGood p = true) (gq : progGood q = true) (hp0 : p.slots = 0) (hq0 : q.slots = 0) (hr : q.regs = p.regs) (ha : q.args = p.args) (hd : q.data = p.data) (hl : q.blocks.length = p.blocks.length)
    (sp : ∀ b, b < p.blocks.length → (bops p.blocks b).length ≤ 7) (sq : ∀ b, b < p.blocks.length → (bops q.blocks b).length ≤ 7)
    (ends : ∀ b, b < p.blocks.length → bfin q.blocks b = bfin p.blocks b)
    (terms : ∀ b, b < p.blocks.length → ∀ w a, foldT p.regs 0 (bops q.blocks b) w = foldT p.regs 0 (bops p.blocks b) w ∧ foldM p.regs 0 p.data (bops q.blocks b) w a = foldM p.regs 0 p.data (bops p.blocks b) w a) :
    ValAns (str (progText p)) (str (progText q)) (str (hintText (idHint p))) 0 0 := by
  have gp' := gp
  simp only [progGood, Bool.and_eq_true, decide_eq_true_eq] at gp'
  obtain ⟨⟨⟨⟨⟨p1, p2⟩, p3⟩, p4⟩, p5⟩, p6⟩ := gp'
  rw [hp0] at p6
  obtain ⟨i1, i2⟩ := idHint_at (p := p) (b := 0) (by omega)
  have hn := namesOf_id (regs := p.regs) (by omega)
  refine .inr ⟨p, gp, rfl, hp0, .inr ⟨q, gq, rfl, .inr ⟨⟨ha.symm, hd.symm⟩, .inr ⟨idHint p, idHint_good gp, rfl, ⟨by simp [idHint, hl], fun b hb => ?_⟩, .inr ⟨⟨by rw [i1]; rfl, fun x hx => ?_⟩, .inr ⟨rfl, rfl, fun b hb => ?_⟩⟩⟩⟩⟩⟩
  · have hb' : b < p.blocks.length := by simpa [idHint] using hb
    obtain ⟨j1, j2⟩ := idHint_at hb'
    rw [j1, j2]
    refine ⟨by omega, fun x hx => ?_⟩
    obtain ⟨i, hi, rfl⟩ := idPairs_mem hx
    simp only
    omega
  · rw [i2] at hx
    obtain ⟨i, hi, rfl⟩ := idPairs_mem hx
    exact ⟨by simp only; omega, .inl rfl⟩
  · rw [hl] at hb
    obtain ⟨j1, j2⟩ := idHint_at (p := p) hb
    have so : srcOps p (idHint p) b = bops p.blocks b := by unfold srcOps; rw [j1]; congr 1
    have tt : ∀ i, srcT p (idHint p) b i = tgtT q (idHint p) b i := by
      intro i
      unfold tgtT srcT
      rw [so, j2, hr, hq0, hn, behind_all, behind_all, (terms b hb _ []).1]
    refine like_wrong p6 hb hl (fun d hd => (idHint_at hd).1) (bigT_short (sp b hb)) (bigT_short (sq b hb)) ?_ ?_ ?_ (fun _ => ?_) (fun d hd x hx => ?_)
    · rw [j2, hr, hq0, hn, hd, marks_all, marks_all, (terms b hb _ _).2]
    · rw [hr, hq0, Int.add_zero]; exact tt _
    · rw [ends b hb]; exact ⟨rfl, rfl, rfl⟩
    · rw [ends b hb]; exact tt _
    · rw [(idHint_at hd).2] at hx
      obtain ⟨i, _, rfl⟩ := idPairs_mem hx
      exact tt _

end Go.Proofs.YtblhmeidbjigaabGreatDoor

/- Operations that change over; pure. -/
set_option linter.unusedSimpArgs false
set_option linter.unusedVariables false
namespace Go.Proofs.YtblhmeidbjigaabGreatDoor
open Go.RowKit

theorem bops_set {m : List BlockD} {b : Nat} (hb : b < m.length) (B : BlockD) (c : Nat) : bops (m.set b B) c = if c = b then B.ops else bops m c := by
  unfold bops
  by_cases h : c = b
  · subst h; simp [List.getD, hb]
  · rw [if_neg h]; simp [List.getD, List.getElem?_set_ne (fun e => h e.symm)]

theorem bfin_set {m : List BlockD} {b : Nat} (hb : b < m.length) (B : BlockD) (c : Nat) : bfin (m.set b B) c = if c = b then B.fin else bfin m c := by
  unfold bfin
  by_cases h : c = b
  · subst h; simp [List.getD, hb]
  · rw [if_neg h]; simp [List.getD, List.getElem?_set_ne (fun e => h e.symm)]

theorem good_at {a0 a1 a2 a3 : Int} {m : List BlockD} (g : progGood ⟨a0, a1, a2, a3, m⟩ = true) {b : Nat} (hb : b < m.length) : blockGood a1 a3 m.length ⟨bops m b, bfin m b⟩ = true :=
  progGood_block g (m.getD b bz) (getD_mem' hb)

end Go.Proofs.YtblhmeidbjigaabGreatDoor
