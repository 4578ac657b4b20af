/- Well made blocks and programs, in the codec. -/
import Derived.Test.YtblhmeidbjigaaaRows
import Derived.WalkKit
import Derived.WalkSpells
import Derived.WalkLawsBesides
import Derived.Laws.BytesArg
import Derived.Deep.QuietTactic
import Derived.BigQuiet
import Derived.Deep.RegionHeld3
import Derived.Test.YtblhmeidbjigaaaPRefDToPCodERuns

set_option linter.unusedSimpArgs false
set_option linter.unusedVariables false
namespace Go.Proofs.Ytblhmeidbjigaaa
open Go.RowKit

set_option maxRecDepth 100000 in
set_option maxHeartbeats 2000000 in
theorem wmBlock_any (args regs data slots : Int) (bo : Option Addr) (bn bc : Nat) (sv : Value) (l : List OpD) (k r x y : Int) (w : World) (hr : RdOps w sv l) :
    Calls Try.prog 88 #[.agg #[.int .i64 args, .int .i64 regs, .int .i64 data, .int .i64 slots, .slice bo bn bc], .agg #[sv, .int .i64 k, .int .i64 r, .int .i64 x, .int .i64 y]] w fun e w' => e = .returned (.bool (blockGood regs slots bn ⟨l, ⟨k, r, x, y⟩⟩)) ∧ Below w.heap.size w w' := by
  obtain ⟨ao, cap, rfl, hl, hc⟩ := hr
  obtain ⟨G, hG⟩ : ∃ G, blockGood regs slots bn ⟨l, ⟨k, r, x, y⟩⟩ = G := ⟨_, rfl⟩
  rw [hG]
  by_cases h1 : (12 : Int) < l.length
  · have hGf : G = false := by rw [← hG]; simp only [blockGood]; rw [show decide (l.length ≤ 12) = false by simp; omega]; rfl
    subst hGf
    clear hG
    go_enter Try.func88, Try.ntmps88
    go_wp2
    go_ret
    exact ⟨rfl, ((Below.refl _ _).alloc (Nat.le_refl _) _).alloc (by simp) _⟩
  have HG : Hid (G = (ogFrom regs slots l 0 && endGood regs bn ⟨k, r, x, y⟩)) := by show G = _; rw [← hG]; simp [blockGood, ogFrom, show l.length ≤ 12 by omega]
  clear hG
  go_enter Try.func88, Try.ntmps88
  go_wp2
  go_loopw [5] (fun i wr => ∃ (j : Nat), j ≤ l.length ∧ i = .int .i64 j ∧ Hid (G = (ogFrom regs slots l j && endGood regs bn ⟨k, r, x, y⟩)) ∧ Below (w.heap.size + 2) ((w.alloc (.cells #[.int .i64 args, .int .i64 regs, .int .i64 data, .int .i64 slots, .slice bo bn bc] 24)).alloc (.cells #[.slice ao l.length cap, .int .i64 k, .int .i64 r, .int .i64 x, .int .i64 y] 90)) wr)
    (fun i _ => l.length - (intOf i).toNat)
  case atStart => exact ⟨0, Nat.zero_le _, rfl, HG, Below.refl _ _⟩
  case round =>
    obtain ⟨j, hj, rfl, hg, hbel⟩ := hrel
    clear HG
    have hb0 : Below w.heap.size w wr := (((Below.refl w.heap.size w).alloc (Nat.le_refl _) _).alloc (by simp) _).trans (hbel.mono (by omega))
    have p0 : wr.cell? ⟨w.heap.size, 0, none⟩ = some (.int .i64 args) := (hbel.cell (by simp)).trans (by simp)
    have p1 : wr.cell? ⟨w.heap.size, 1, none⟩ = some (.int .i64 regs) := (hbel.cell (by simp)).trans (by simp)
    have p2 : wr.cell? ⟨w.heap.size, 2, none⟩ = some (.int .i64 data) := (hbel.cell (by simp)).trans (by simp)
    have p3 : wr.cell? ⟨w.heap.size, 3, none⟩ = some (.int .i64 slots) := (hbel.cell (by simp)).trans (by simp)
    have p4 : wr.cell? ⟨w.heap.size, 4, none⟩ = some (.slice bo bn bc) := (hbel.cell (by simp)).trans (by simp)
    have q0 : wr.cell? ⟨w.heap.size + 1, 0, none⟩ = some (.slice ao l.length cap) := (hbel.cell (by simp)).trans (by simp)
    have q1 : wr.cell? ⟨w.heap.size + 1, 1, none⟩ = some (.int .i64 k) := (hbel.cell (by simp)).trans (by simp)
    have q2 : wr.cell? ⟨w.heap.size + 1, 2, none⟩ = some (.int .i64 r) := (hbel.cell (by simp)).trans (by simp)
    have q3 : wr.cell? ⟨w.heap.size + 1, 3, none⟩ = some (.int .i64 x) := (hbel.cell (by simp)).trans (by simp)
    have q4 : wr.cell? ⟨w.heap.size + 1, 4, none⟩ = some (.int .i64 y) := (hbel.cell (by simp)).trans (by simp)
    have hz := hbel.size
    simp at hz
    by_cases hlt : j < l.length
    · obtain ⟨b, off, rfl, c1, c2, c3, c4⟩ := hc j hlt
      have e1 := cell_keep hb0 c1
      have e2 := cell_keep hb0 c2
      have e3 := cell_keep hb0 c3
      have e4 := cell_keep hb0 c4
      have u0 := fun z : Past wr.heap.size wr => z.cell p0
      have u1 := fun z : Past wr.heap.size wr => z.cell p1
      have u2 := fun z : Past wr.heap.size wr => z.cell p2
      have u3 := fun z : Past wr.heap.size wr => z.cell p3
      have u4 := fun z : Past wr.heap.size wr => z.cell p4
      have v0 := fun z : Past wr.heap.size wr => z.cell q0
      have f1 := fun z : Past wr.heap.size wr => z.cell e1
      have f2 := fun z : Past wr.heap.size wr => z.cell e2
      have f3 := fun z : Past wr.heap.size wr => z.cell e3
      have f4 := fun z : Past wr.heap.size wr => z.cell e4
      have np := Past.any wr.heap.size wr
      have HS : Hid (ogFrom regs slots l j = (opGood regs slots ⟨okind l j, oa l j, ob l j, oc l j⟩ && ogFrom regs slots l (j + 1))) := ogFrom_step hlt
      go_wp2
      refine wp_region_past wr.heap.size (by kernel_rfl) (by kernel_rfl) ?_
      repeat (go_big_quiet_step (exact Calls.past_of (Nat.le_refl _) (wmOp_any _ _ _ _ _ _ _ _ _ _ _ _)))
      refine wpQuiet_nil ?_
      rintro _ ⟨z, rfl⟩
      have hb1 := hbel.trans (z.ok.mono (by omega))
      have hb01 := hb0.trans (z.ok.mono (by omega))
      clear u0 u1 u2 u3 u4 v0 f1 f2 f3 f4 np p0 p1 p2 p3 p4 q0 q1 q2 q3 q4 e1 e2 e3 e4
      cases h3 : opGood regs slots ⟨okind l j, oa l j, ob l j, oc l j⟩
      · have hGf : G = false := by rw [hg.out, HS.out, h3]; rfl
        subst hGf
        clear hg HS
        go_wp2
        go_ret
        exact ⟨rfl, hb01⟩
      · have hG' : Hid (G = (ogFrom regs slots l (j + 1) && endGood regs bn ⟨k, r, x, y⟩)) := by show G = _; rw [hg.out, HS.out, h3]; rfl
        clear hg HS
        go_wp2
        go_roundw
        case rel => exact ⟨j + 1, by omega, by go_num, hG', hb1⟩
        case measure => simp [intOf]; omega
    · have hGt : G = endGood regs bn ⟨k, r, x, y⟩ := by rw [hg.out, ogFrom_end (by omega)]; rfl
      have HGT : Hid (G = endGood regs bn ⟨k, r, x, y⟩) := hGt
      clear hg hGt
      go_wp2_with fail
      refine (wmEnd_any _ _ _ _ _ _ _ _ _ _ _ _).mono ?_
      rintro e w1 ⟨rfl, hb1⟩
      have hb01 := hb0.trans (hb1.mono (by omega))
      go_wp2
      go_ret
      exact ⟨by rw [HGT.out]; rfl, hb01⟩

set_option maxRecDepth 100000 in
set_option maxHeartbeats 4000000 in
theorem wmProg_any (args regs data slots : Int) (v : Value) (l : List BlockD) (w : World) (hr : RdBlocks w v l) :
    Calls Try.prog 72 #[.agg #[.int .i64 args, .int .i64 regs, .int .i64 data, .int .i64 slots, v]] w fun e w' => e = .returned (.bool (progGood ⟨args, regs, data, slots, l⟩)) ∧ Below w.heap.size w w' := by
  obtain ⟨ao, cap, rfl, hl, hc⟩ := hr
  obtain ⟨G, hG⟩ : ∃ G, progGood ⟨args, regs, data, slots, l⟩ = G := ⟨_, rfl⟩
  rw [hG]
  have hno : ¬ (1 ≤ regs ∧ regs ≤ 8 ∧ 0 ≤ args ∧ args ≤ regs ∧ 0 ≤ data ∧ data ≤ 8 ∧ 0 ≤ slots ∧ slots ≤ 8 ∧ 1 ≤ l.length ∧ l.length ≤ 6) → G = false := by
    intro h
    rw [← hG]
    apply Bool.eq_false_iff.2
    intro hh
    simp [progGood] at hh
    exact h (by omega)
  have bfr : Below w.heap.size w (w.alloc (.cells #[.int .i64 args, .int .i64 regs, .int .i64 data, .int .i64 slots, .slice ao l.length cap] 24)) := (Below.refl _ _).alloc (Nat.le_refl _) _
  have HB : Hid (Below w.heap.size w (w.alloc (.cells #[.int .i64 args, .int .i64 regs, .int .i64 data, .int .i64 slots, .slice ao l.length cap] 24))) := bfr
  clear bfr
  by_cases t0 : regs < 1
  · have hGf : G = false := hno (by omega)
    subst hGf
    clear hG hno
    go_enter Try.func72, Try.ntmps72
    go_wp2
    go_ret
    exact ⟨rfl, HB.out⟩
  by_cases t1 : 8 < regs
  · have hGf : G = false := hno (by omega)
    subst hGf
    clear hG hno
    go_enter Try.func72, Try.ntmps72
    go_wp2
    go_ret
    exact ⟨rfl, HB.out⟩
  by_cases t2 : args < 0
  · have hGf : G = false := hno (by omega)
    subst hGf
    clear hG hno
    go_enter Try.func72, Try.ntmps72
    go_wp2
    go_ret
    exact ⟨rfl, HB.out⟩
  by_cases t3 : regs < args
  · have hGf : G = false := hno (by omega)
    subst hGf
    clear hG hno
    go_enter Try.func72, Try.ntmps72
    go_wp2
    go_ret
    exact ⟨rfl, HB.out⟩
  by_cases t4 : data < 0
  · have hGf : G = false := hno (by omega)
    subst hGf
    clear hG hno
    go_enter Try.func72, Try.ntmps72
    go_wp2
    go_ret
    exact ⟨rfl, HB.out⟩
  by_cases t5 : 8 < data
  · have hGf : G = false := hno (by omega)
    subst hGf
    clear hG hno
    go_enter Try.func72, Try.ntmps72
    go_wp2
    go_ret
    exact ⟨rfl, HB.out⟩
  by_cases t6 : slots < 0
  · have hGf : G = false := hno (by omega)
    subst hGf
    clear hG hno
    go_enter Try.func72, Try.ntmps72
    go_wp2
    go_ret
    exact ⟨rfl, HB.out⟩
  by_cases t7 : 8 < slots
  · have hGf : G = false := hno (by omega)
    subst hGf
    clear hG hno
    go_enter Try.func72, Try.ntmps72
    go_wp2
    go_ret
    exact ⟨rfl, HB.out⟩
  by_cases t8 : (l.length : Int) < 1
  · have hGf : G = false := hno (by omega)
    subst hGf
    clear hG hno
    go_enter Try.func72, Try.ntmps72
    go_wp2
    go_ret
    exact ⟨rfl, HB.out⟩
  by_cases t9 : (6 : Int) < l.length
  · have hGf : G = false := hno (by omega)
    subst hGf
    clear hG hno
    go_enter Try.func72, Try.ntmps72
    go_wp2
    go_ret
    exact ⟨rfl, HB.out⟩
  have HG : Hid (G = bgFrom regs slots l.length l 0) := by
    show G = _
    rw [← hG]
    simp only [progGood, bgFrom, List.drop_zero]
    rw [show decide (1 ≤ regs ∧ regs ≤ 8) = true by simp; omega, show decide (0 ≤ args ∧ args ≤ regs) = true by simp; omega, show decide (0 ≤ data ∧ data ≤ 8) = true by simp; omega, show decide (0 ≤ slots ∧ slots ≤ 8) = true by simp; omega, show decide (1 ≤ l.length ∧ l.length ≤ 6) = true by simp; omega]
    rfl
  clear hG hno HB
  go_enter Try.func72, Try.ntmps72
  go_wp2
  go_loopw [3] (fun i wr => ∃ (k : Nat), k ≤ l.length ∧ i = .int .i64 k ∧ Hid (G = bgFrom regs slots l.length l k) ∧ Below (w.heap.size + 1) (w.alloc (.cells #[.int .i64 args, .int .i64 regs, .int .i64 data, .int .i64 slots, .slice ao l.length cap] 24)) wr)
    (fun i _ => l.length - (intOf i).toNat)
  case atStart => exact ⟨0, Nat.zero_le _, rfl, HG, Below.refl _ _⟩
  case round =>
    obtain ⟨k, hk, rfl, hg, hbel⟩ := hrel
    clear HG
    have hb0 := Below.under hbel
    have p0 : wr.cell? ⟨w.heap.size, 0, none⟩ = some (.int .i64 args) := (hbel.cell (by simp)).trans (by simp)
    have p1 : wr.cell? ⟨w.heap.size, 1, none⟩ = some (.int .i64 regs) := (hbel.cell (by simp)).trans (by simp)
    have p2 : wr.cell? ⟨w.heap.size, 2, none⟩ = some (.int .i64 data) := (hbel.cell (by simp)).trans (by simp)
    have p3 : wr.cell? ⟨w.heap.size, 3, none⟩ = some (.int .i64 slots) := (hbel.cell (by simp)).trans (by simp)
    have p4 : wr.cell? ⟨w.heap.size, 4, none⟩ = some (.slice ao l.length cap) := (hbel.cell (by simp)).trans (by simp)
    have hz := hbel.size
    simp at hz
    by_cases hlt : k < l.length
    · obtain ⟨b, off, sv, rfl, c1, c2, c3, c4, c5, c6⟩ := hc k hlt
      have e1 := cell_keep hb0 c1
      have e2 := cell_keep hb0 c2
      have e3 := cell_keep hb0 c3
      have e4 := cell_keep hb0 c4
      have e5 := cell_keep hb0 c5
      have e6 := c6.keep hb0
      obtain ⟨so, sc, es, _, _⟩ := id e6
      subst es
      have u0 := fun z : Past wr.heap.size wr => z.cell p0
      have u1 := fun z : Past wr.heap.size wr => z.cell p1
      have u2 := fun z : Past wr.heap.size wr => z.cell p2
      have u3 := fun z : Past wr.heap.size wr => z.cell p3
      have u4 := fun z : Past wr.heap.size wr => z.cell p4
      have f1 := fun z : Past wr.heap.size wr => z.cell e1
      have f2 := fun z : Past wr.heap.size wr => z.cell e2
      have f3 := fun z : Past wr.heap.size wr => z.cell e3
      have f4 := fun z : Past wr.heap.size wr => z.cell e4
      have f5 := fun z : Past wr.heap.size wr => z.cell e5
      have np := Past.any wr.heap.size wr
      have HS : Hid (bgFrom regs slots l.length l k = (blockGood regs slots l.length ⟨bops l k, ⟨bek l k, ber l k, bex l k, bey l k⟩⟩ && bgFrom regs slots l.length l (k + 1))) := bgFrom_step hlt
      go_wp2
      refine wp_region_past wr.heap.size (by kernel_rfl) (by kernel_rfl) ?_
      repeat (go_big_quiet_step (exact Calls.past_of (Nat.le_refl _) (wmBlock_any _ _ _ _ _ _ _ _ _ _ _ _ _ _ (e6.keep (Past.ok _)))))
      refine wpQuiet_nil ?_
      rintro _ ⟨z, rfl⟩
      have hb1 := hbel.trans (z.ok.mono (by omega))
      have hb01 := hb0.trans (z.ok.mono (by omega))
      clear u0 u1 u2 u3 u4 f1 f2 f3 f4 f5 np p0 p1 p2 p3 p4 e1 e2 e3 e4 e5
      cases h3 : blockGood regs slots l.length ⟨bops l k, ⟨bek l k, ber l k, bex l k, bey l k⟩⟩
      · have hGf : G = false := by rw [hg.out, HS.out, h3]; rfl
        subst hGf
        clear hg HS
        go_wp2
        go_ret
        exact ⟨rfl, hb01⟩
      · have hG' : Hid (G = bgFrom regs slots l.length l (k + 1)) := by show G = _; rw [hg.out, HS.out, h3]; rfl
        clear hg HS
        go_wp2
        go_roundw
        case rel => exact ⟨k + 1, by omega, by go_num, hG', hb1⟩
        case measure => simp [intOf]; omega
    · have hGt : G = true := by rw [hg.out, bgFrom_end (by omega)]
      subst hGt
      clear hg
      go_wp2
      go_ret
      exact ⟨rfl, hb0⟩

end Go.Proofs.Ytblhmeidbjigaaa

/- Programs that lie in memory of their own, each list for itself. -/
set_option linter.unusedSimpArgs false
set_option linter.unusedVariables false
namespace Go.Proofs.Ytblhmeidbjigaaa
open Go.RowKit

def opCells (l : List OpD) : List Value := l.flatMap fun o => [.int .i64 o.kind, .int .i64 o.a, .int .i64 o.b, .int .i64 o.c]

theorem opCells_snoc (l : List OpD) (k a b c : Int) : opCells (l ++ [⟨k, a, b, c⟩]) = opCells l ++ [.int .i64 k, .int .i64 a, .int .i64 b, .int .i64 c] := by simp [opCells]

theorem opCells_length (l : List OpD) : (opCells l).length = l.length * 4 := by
  induction l with
  | nil => rfl
  | cons p r ih => simp only [opCells, List.flatMap_cons, List.length_append, List.length_cons, List.length_nil] at *; omega

theorem opCells_get (l : List OpD) (i : Nat) (hi : i < l.length) : (opCells l)[i * 4]? = some (.int .i64 (okind l i)) ∧ (opCells l)[i * 4 + 1]? = some (.int .i64 (oa l i)) ∧ (opCells l)[i * 4 + 2]? = some (.int .i64 (ob l i)) ∧ (opCells l)[i * 4 + 3]? = some (.int .i64 (oc l i)) := by
  induction l generalizing i with
  | nil => simp at hi
  | cons p r ih =>
    cases i with
    | zero => exact ⟨rfl, rfl, rfl, rfl⟩
    | succ i =>
      have h := ih i (by simpa using hi)
      have e1 : (i + 1) * 4 = i * 4 + 1 + 1 + 1 + 1 := by omega
      rw [e1]
      exact h

def blkCells (bv : List (BlockD × Value)) : List Value := bv.flatMap fun x => [x.2, .int .i64 x.1.fin.kind, .int .i64 x.1.fin.r, .int .i64 x.1.fin.x, .int .i64 x.1.fin.y]

theorem blkCells_snoc (bv : List (BlockD × Value)) (l : List OpD) (k r x y : Int) (sv : Value) : blkCells (bv ++ [(⟨l, ⟨k, r, x, y⟩⟩, sv)]) = blkCells bv ++ [sv, .int .i64 k, .int .i64 r, .int .i64 x, .int .i64 y] := by simp [blkCells]

theorem blkCells_length (bv : List (BlockD × Value)) : (blkCells bv).length = bv.length * 5 := by
  induction bv with
  | nil => rfl
  | cons p r ih => simp only [blkCells, List.flatMap_cons, List.length_append, List.length_cons, List.length_nil] at *; omega

theorem blkCells_get (bv : List (BlockD × Value)) (i : Nat) (hi : i < bv.length) : (blkCells bv)[i * 5]? = some bv[i].2 ∧ (blkCells bv)[i * 5 + 1]? = some (.int .i64 bv[i].1.fin.kind) ∧ (blkCells bv)[i * 5 + 2]? = some (.int .i64 bv[i].1.fin.r) ∧ (blkCells bv)[i * 5 + 3]? = some (.int .i64 bv[i].1.fin.x) ∧ (blkCells bv)[i * 5 + 4]? = some (.int .i64 bv[i].1.fin.y) := by
  induction bv generalizing i with
  | nil => simp at hi
  | cons p r ih =>
    cases i with
    | zero => exact ⟨rfl, rfl, rfl, rfl, rfl⟩
    | succ i =>
      have h := ih i (by simpa using hi)
      have e1 : (i + 1) * 5 = i * 5 + 1 + 1 + 1 + 1 + 1 := by omega
      rw [e1]
      exact h

/-- The blocks bv lie at v, in memory from block base on, each list in a block of its own. -/
structure OwnBlocks (w : World) (base : Nat) (v : Value) (bv : List (BlockD × Value)) : Prop where
  row : w.ownsRow base 90 5 v bv.length (blkCells bv)
  each : ∀ x ∈ bv, w.ownsRow base 101 4 x.2 x.1.ops.length (opCells x.1.ops)
  apart : bv.Pairwise fun x y => ∀ g, x.2.ownBlock = some g → y.2.ownBlock ≠ some g

def bdat (bv : List (BlockD × Value)) : List BlockD := bv.map (·.1)

theorem bdat_length (bv : List (BlockD × Value)) : (bdat bv).length = bv.length := by simp [bdat]

theorem bdat_get (bv : List (BlockD × Value)) {i : Nat} (hi : i < bv.length) : bops (bdat bv) i = bv[i].1.ops ∧ bfin (bdat bv) i = bv[i].1.fin := by
  constructor <;> simp [bops, bfin, bdat, hi]

theorem ownBlocks_nil (w : World) (base : Nat) : OwnBlocks w base (.slice none 0 0) [] :=
  ⟨World.ownsRow_nil _ _ _ _, fun x hx => by simp at hx, List.Pairwise.nil⟩

theorem OwnBlocks.below {w w' : World} {base : Nat} {v : Value} {bv : List (BlockD × Value)} (h : OwnBlocks w base v bv) {B : Nat} (hb : Below B w w') (hB : w.heap.size ≤ B) : OwnBlocks w' base v bv :=
  ⟨owns_below h.row hb hB, fun x hx => owns_below (h.each x hx) hb hB, h.apart⟩

theorem OwnBlocks.alloc {w : World} {base : Nat} {v : Value} {bv : List (BlockD × Value)} (h : OwnBlocks w base v bv) (o : Obj) : OwnBlocks (w.alloc o) base v bv :=
  ⟨h.row.alloc o, fun x hx => (h.each x hx).alloc o, h.apart⟩

theorem OwnBlocks.set {w : World} {base : Nat} {v : Value} {bv : List (BlockD × Value)} (h : OwnBlocks w base v bv) {a : Addr} (ha : a.block < base) (u : Value) : OwnBlocks (w.setCell a u) base v bv :=
  ⟨ownsRow_setCell_below h.row ha u, fun x hx => ownsRow_setCell_below (h.each x hx) ha u, h.apart⟩

theorem OwnBlocks.base {w : World} {base base' : Nat} {v : Value} {bv : List (BlockD × Value)} (h : OwnBlocks w base v bv) (hb : base' ≤ base) : OwnBlocks w base' v bv :=
  ⟨owns_base h.row hb, fun x hx => owns_base (h.each x hx) hb, h.apart⟩

theorem OwnBlocks.snoc {w w' : World} {base : Nat} {v v' : Value} {bv : List (BlockD × Value)} (h : OwnBlocks w base v bv) {l : List OpD} {k r x y : Int} {sv : Value}
    (hx : w.ownsRow base 101 4 sv l.length (opCells l)) (hfree : ∀ y ∈ bv, ∀ g, y.2.ownBlock = some g → sv.ownBlock ≠ some g)
    (hg : w.grownBy w' v.ownBlock) (hown : w'.ownsRow base 90 5 v' (bv.length + 1) (blkCells bv ++ [sv, .int .i64 k, .int .i64 r, .int .i64 x, .int .i64 y])) : OwnBlocks w' base v' (bv ++ [(⟨l, ⟨k, r, x, y⟩⟩, sv)]) := by
  have keep : ∀ (u : Value) (ps : List OpD), w.ownsRow base 101 4 u ps.length (opCells ps) → w'.ownsRow base 101 4 u ps.length (opCells ps) := by
    intro u ps hu
    refine hu.kept hg ?_
    cases hb : u.ownBlock with
    | none => exact .inl rfl
    | some g => exact .inr (fun e => owns_apart hu h.row (by decide) g hb e.symm)
  refine ⟨by rw [blkCells_snoc]; simpa using hown, ?_, ?_⟩
  · intro y hy
    rcases List.mem_append.1 hy with hy | hy
    · exact keep _ _ (h.each y hy)
    · simp at hy; subst hy; exact keep _ _ hx
  · rw [List.pairwise_append]
    refine ⟨h.apart, by simp, ?_⟩
    intro a ha b hb
    simp at hb
    subst hb
    exact hfree a ha

theorem owns_ops_at {w : World} {base : Nat} {so : Option Addr} {n sc : Nat} {l : List OpD} (h : w.ownsRow base 101 4 (.slice so n sc) l.length (opCells l)) {j : Nat} (hj : j < l.length) :
    ∃ b, so = some ⟨b, 0, none⟩ ∧ base ≤ b ∧ w.cell? ⟨b, j * 4, none⟩ = some (.int .i64 (okind l j)) ∧ w.cell? ⟨b, j * 4 + 1, none⟩ = some (.int .i64 (oa l j)) ∧ w.cell? ⟨b, j * 4 + 2, none⟩ = some (.int .i64 (ob l j)) ∧ w.cell? ⟨b, j * 4 + 3, none⟩ = some (.int .i64 (oc l j)) ∧ ∀ o, w.frozen? ⟨b, o, none⟩ = false := by
  obtain ⟨ao', cap', hv'⟩ := owns_slice h
  simp only [Value.slice.injEq] at hv'
  obtain ⟨rfl, rfl, rfl⟩ := hv'
  have hl := opCells_length l
  obtain ⟨b, hao, hbs, hb, hc⟩ := owns_cell h rfl (i := j * 4) (by omega)
  obtain ⟨g1, g2, g3, g4⟩ := opCells_get l j hj
  have key : ∀ i u, (opCells l)[i]? = some u → w.cell? ⟨b, i, none⟩ = some u := by
    intro i u hu
    have := h.cells (g := b) hb i u hu
    rwa [Addr.add_lit, Nat.zero_add] at this
  exact ⟨b, hao, hbs, key _ _ g1, key _ _ g2, key _ _ g3, key _ _ g4, fun o => owns_frozen h hb o⟩

theorem ownBlocks_at {w : World} {base : Nat} {ao : Option Addr} {n cap : Nat} {bv : List (BlockD × Value)} (h : OwnBlocks w base (.slice ao n cap) bv) {i : Nat} (hi : i < bv.length) :
    ∃ b, ao = some ⟨b, 0, none⟩ ∧ base ≤ b ∧ w.cell? ⟨b, i * 5, none⟩ = some bv[i].2 ∧ w.cell? ⟨b, i * 5 + 1, none⟩ = some (.int .i64 bv[i].1.fin.kind) ∧ w.cell? ⟨b, i * 5 + 2, none⟩ = some (.int .i64 bv[i].1.fin.r) ∧ w.cell? ⟨b, i * 5 + 3, none⟩ = some (.int .i64 bv[i].1.fin.x) ∧ w.cell? ⟨b, i * 5 + 4, none⟩ = some (.int .i64 bv[i].1.fin.y) ∧ ∀ o, w.frozen? ⟨b, o, none⟩ = false := by
  obtain ⟨ao', cap', hv'⟩ := owns_slice h.row
  simp only [Value.slice.injEq] at hv'
  obtain ⟨rfl, rfl, rfl⟩ := hv'
  have hl := blkCells_length bv
  obtain ⟨b, hao, hbs, hb, hc⟩ := owns_cell h.row rfl (i := i * 5) (by omega)
  obtain ⟨g1, g2, g3, g4, g5⟩ := blkCells_get bv i hi
  have key : ∀ i u, (blkCells bv)[i]? = some u → w.cell? ⟨b, i, none⟩ = some u := by
    intro i u hu
    have := h.row.cells (g := b) hb i u hu
    rwa [Addr.add_lit, Nat.zero_add] at this
  exact ⟨b, hao, hbs, key _ _ g1, key _ _ g2, key _ _ g3, key _ _ g4, key _ _ g5, fun o => owns_frozen h.row hb o⟩

theorem owns_rdOps {w : World} {base : Nat} {v : Value} {l : List OpD} (h : w.ownsRow base 101 4 v l.length (opCells l)) : RdOps w v l := by
  obtain ⟨ao, cap, rfl⟩ := owns_slice h
  refine ⟨ao, cap, rfl, owns_le h, fun i hi => ?_⟩
  obtain ⟨b, e, _, c1, c2, c3, c4, _⟩ := owns_ops_at h hi
  exact ⟨b, 0, e, by rw [Nat.zero_add]; exact c1, by rw [Nat.zero_add]; exact c2, by rw [Nat.zero_add]; exact c3, by rw [Nat.zero_add]; exact c4⟩

theorem OwnBlocks.rd {w : World} {base : Nat} {v : Value} {bv : List (BlockD × Value)} (h : OwnBlocks w base v bv) : RdBlocks w v (bdat bv) := by
  obtain ⟨ao, cap, rfl⟩ := owns_slice h.row
  refine ⟨ao, cap, by rw [bdat_length], by rw [bdat_length]; exact owns_le h.row, fun i hi => ?_⟩
  rw [bdat_length] at hi
  obtain ⟨e1, e2⟩ := bdat_get bv hi
  obtain ⟨b, e, _, c0, c1, c2, c3, c4, _⟩ := ownBlocks_at h hi
  refine ⟨b, 0, bv[i].2, e, by rw [Nat.zero_add]; exact c0, ?_, ?_, ?_, ?_, ?_⟩
  · rw [Nat.zero_add]; unfold bek; rw [e2]; exact c1
  · rw [Nat.zero_add]; unfold ber; rw [e2]; exact c2
  · rw [Nat.zero_add]; unfold bex; rw [e2]; exact c3
  · rw [Nat.zero_add]; unfold bey; rw [e2]; exact c4
  · rw [e1]; exact owns_rdOps (h.each _ (by simp))

end Go.Proofs.Ytblhmeidbjigaaa

/- Reading a block in the codec. -/
set_option linter.unusedSimpArgs false
set_option linter.unusedVariables false
namespace Go.Proofs.Ytblhmeidbjigaaa
open Go.RowKit

theorem Try.infoOp : (Try.prog.info? 101).map (fun i => (i.zero, i.size, i.bytes)) = some (some (.agg #[.int .i64 0, .int .i64 0, .int .i64 0, .int .i64 0]), 4, 32) := by kernel_rfl
theorem Try.infoBlk : (Try.prog.info? 90).map (fun i => (i.zero, i.size, i.bytes)) = some (some (.agg #[.slice none 0 0, .int .i64 0, .int .i64 0, .int .i64 0, .int .i64 0]), 5, 56) := by kernel_rfl

def opsAt (d : Int) (s : ByteArray) (next : Int) : Nat → List OpD
  | 0 => []
  | k + 1 => opsAt d s next k ++ [⟨byteOr d s (next + 4 * k), byteOr d s (next + 4 * k + 1), byteOr d s (next + 4 * k + 2), byteOr d s (next + 4 * k + 3)⟩]

theorem opsAt_length (d : Int) (s : ByteArray) (next : Int) (k : Nat) : (opsAt d s next k).length = k := by
  induction k with
  | zero => rfl
  | succ k ih => simp [opsAt, ih]

def finAt (d : Int) (s : ByteArray) (next : Int) : EndD := ⟨byteOr d s next, byteOr d s (next + 1), byteOr d s (next + 2), byteOr d s (next + 3)⟩

theorem four_new (w : World) (a b c d : Value) (t : TypeId) : ∀ j u, [a, b, c, d][j]? = some u → (w.alloc (.cells #[a, b, c, d] t)).cell? ((⟨w.heap.size, 0, none⟩ : Addr).add j) = some u := by
  intro j u hj
  match j, hj with
  | 0, hj => simp at hj; subst hj; simp [Addr.add]
  | 1, hj => simp at hj; subst hj; simp [Addr.add]
  | 2, hj => simp at hj; subst hj; simp [Addr.add]
  | 3, hj => simp at hj; subst hj; simp [Addr.add]

theorem five_new (w : World) (a b c d e : Value) (t : TypeId) : ∀ j u, [a, b, c, d, e][j]? = some u → (w.alloc (.cells #[a, b, c, d, e] t)).cell? ((⟨w.heap.size, 0, none⟩ : Addr).add j) = some u := by
  intro j u hj
  match j, hj with
  | 0, hj => simp at hj; subst hj; simp [Addr.add]
  | 1, hj => simp at hj; subst hj; simp [Addr.add]
  | 2, hj => simp at hj; subst hj; simp [Addr.add]
  | 3, hj => simp at hj; subst hj; simp [Addr.add]
  | 4, hj => simp at hj; subst hj; simp [Addr.add]

theorem four_one {a b c d : Int} : ∀ u ∈ [Value.int .i64 a, .int .i64 b, .int .i64 c, .int .i64 d], u.oneCell' = true := by
  intro u hu
  simp at hu
  rcases hu with rfl | rfl | rfl | rfl <;> rfl

theorem five_one {so : Option Addr} {n sc : Nat} {a b c d : Int} : ∀ u ∈ [Value.slice so n sc, .int .i64 a, .int .i64 b, .int .i64 c, .int .i64 d], u.oneCell' = true := by
  intro u hu
  simp at hu
  rcases hu with rfl | rfl | rfl | rfl | rfl <;> rfl

set_option maxRecDepth 100000 in
set_option maxHeartbeats 2000000 in
theorem blockAt_cps (s : ByteArray) (at_ : Int) (w : World) (hs : s.size ≤ maxLen) (ha : 0 ≤ at_) (ha2 : at_ ≤ 1000000) (Post : Ending → World → Prop)
    (hyes : ∀ sv w', w'.ownsRow w.heap.size 101 4 sv (byteOr (-1) s at_).toNat (opCells (opsAt (-1) s (at_ + 1) (byteOr (-1) s at_).toNat)) → Below w.heap.size w w' →
      Post (.returned (.agg #[sv, .int .i64 (byteOr (-1) s (at_ + 1 + 4 * (byteOr (-1) s at_).toNat)), .int .i64 (byteOr (-1) s (at_ + 1 + 4 * (byteOr (-1) s at_).toNat + 1)), .int .i64 (byteOr (-1) s (at_ + 1 + 4 * (byteOr (-1) s at_).toNat + 2)), .int .i64 (byteOr (-1) s (at_ + 1 + 4 * (byteOr (-1) s at_).toNat + 3))])) w') :
    Calls Try.prog 70 #[.string s, .int .i64 at_] w Post := by
  obtain ⟨i0, ii, iz0, iz1, iz2⟩ := info_parts Try.infoOp
  have hcb := byteOr_bd (-1) s at_ (by omega)
  generalize hcn : byteOr (-1) s at_ = c at *
  go_enter Try.func70, Try.ntmps70
  go_wp2_with (go_at_call 69; refine (byteAt_any _ _ _ hs).mono ?_; rintro e w' ⟨rfl, rfl⟩)
  clear hcn
  go_loopw [7, 8] (fun nx i wr => ∃ (k : Nat) (sv : Value), k ≤ c.toNat ∧ i = .int .i64 k ∧ nx = .int .i64 (at_ + 1 + 4 * k) ∧ wr.cell? ⟨w.heap.size + 1, 0, none⟩ = some sv ∧
      wr.cell? ⟨w.heap.size + 1, 1, none⟩ = some (.int .i64 0) ∧ wr.cell? ⟨w.heap.size + 1, 2, none⟩ = some (.int .i64 0) ∧ wr.cell? ⟨w.heap.size + 1, 3, none⟩ = some (.int .i64 0) ∧ wr.cell? ⟨w.heap.size + 1, 4, none⟩ = some (.int .i64 0) ∧ (∀ o, wr.frozen? ⟨w.heap.size + 1, o, none⟩ = false) ∧
      wr.ownsRow (w.heap.size + 2) 101 4 sv k (opCells (opsAt (-1) s (at_ + 1) k)) ∧ Below (w.heap.size + 1) (w.alloc (.cells #[.slice none 0 0, .int .i64 0, .int .i64 0, .int .i64 0, .int .i64 0] 90)) wr ∧ w.heap.size + 2 ≤ wr.heap.size)
    (fun _ i _ => c.toNat - (intOf i).toNat)
  case atStart =>
    refine ⟨0, .slice none 0 0, Nat.zero_le _, rfl, by simp, by simp, by simp, by simp, by simp, by simp, by simp, World.ownsRow_nil _ _ _ _, ?_, by simp⟩
    exact (Below.refl _ _).alloc (by simp) _
  case round =>
    obtain ⟨k, sv, hk, rfl, rfl, hx0, hx1, hx2, hx3, hx4, hxf, hown, hbel, hz⟩ := hrel
    obtain ⟨ao, cp, rfl⟩ := owns_slice hown
    have hzl : w.heap.size + 1 < wr.heap.size := by omega
    have hzm : w.heap.size < wr.heap.size := by omega
    have f0 := hxf 0
    have f1 := hxf 1
    have f2 := hxf 2
    have f3 := hxf 3
    have f4 := hxf 4
    by_cases hlt : (k : Int) < c
    · have HS : Hid (opsAt (-1) s (at_ + 1) (k + 1) = opsAt (-1) s (at_ + 1) k ++ [⟨byteOr (-1) s (at_ + 1 + 4 * k), byteOr (-1) s (at_ + 1 + 4 * k + 1), byteOr (-1) s (at_ + 1 + 4 * k + 2), byteOr (-1) s (at_ + 1 + 4 * k + 3)⟩]) := rfl
      go_wp2_with (first | (go_at_call 69; refine (byteAt_any _ _ _ hs).mono ?_; rintro e w' ⟨rfl, rfl⟩) | (at_builtin; refine wpList_append_own _ rfl _ _ 86 rfl (w.heap.size + 2) 101 i0 (.agg #[.int .i64 0, .int .i64 0, .int .i64 0, .int .i64 0]) 4 32 Try.underlying86 ii iz0 iz1 iz2 rfl (by decide) _ _ _ rfl ((hown.alloc _).alloc _) ⟨wr.heap.size + 1, 0, none⟩ 1 1 [.int .i64 (byteOr (-1) s (at_ + 1 + 4 * k)), .int .i64 (byteOr (-1) s (at_ + 1 + 4 * k + 1)), .int .i64 (byteOr (-1) s (at_ + 1 + 4 * k + 2)), .int .i64 (byteOr (-1) s (at_ + 1 + 4 * k + 3))] rfl rfl ?c1 four_one ?c3 ?c4 ?c5 ?_))
      case c1 => simpa using four_new (wr.alloc _) _ _ _ _ _
      case c3 => unfold maxLen; omega
      case c4 => omega
      case c5 => first | omega | (simp; omega)
      intro v' w1 hown' hgrow _
      rw [← opCells_snoc, ← HS.out] at hown'
      have hb2 := ((((Below.refl (w.heap.size + 2) wr).alloc hz _).alloc (by simp; omega) _).grown hgrow (by simp; omega) (fun g hg => (hown.lt g hg).1))
      have y0 := (hb2.cell (p := ⟨w.heap.size + 1, 0, none⟩) (by simp)).trans hx0
      have y1 := (hb2.cell (p := ⟨w.heap.size + 1, 1, none⟩) (by simp)).trans hx1
      have y2 := (hb2.cell (p := ⟨w.heap.size + 1, 2, none⟩) (by simp)).trans hx2
      have y3 := (hb2.cell (p := ⟨w.heap.size + 1, 3, none⟩) (by simp)).trans hx3
      have y4 := (hb2.cell (p := ⟨w.heap.size + 1, 4, none⟩) (by simp)).trans hx4
      have yf : ∀ o, w1.frozen? ⟨w.heap.size + 1, o, none⟩ = false := fun o => (hb2.frozen (p := ⟨w.heap.size + 1, o, none⟩) (by simp)).trans (hxf o)
      have yf0 := yf 0
      have hz2 := hb2.size
      have hb3 := (hbel.trans (hb2.mono (by omega)))
      obtain ⟨ao', cp', rfl⟩ := owns_slice hown'
      clear hgrow hown hx0 hx1 hx2 hx3 hx4 hxf f0 f1 f2 f3 f4 hb2 hbel
      have YF : Hid (∀ o, w1.frozen? ⟨w.heap.size + 1, o, none⟩ = false) := yf
      clear yf
      go_wp2
      go_roundw
      case rel =>
        refine ⟨k + 1, _, by omega, by go_num, by go_num, cell_set y0, cell_unset (by simp) y1, cell_unset (by simp) y2, cell_unset (by simp) y3, cell_unset (by simp) y4, fun o => by simp [YF.out o], ownsRow_setCell_below hown' (by simp) _, hb3.setCell (by simp) _, by simp; omega⟩
      case measure => simp [intOf]; omega
    · obtain rfl : k = c.toNat := by omega
      have r0 : wr.cell? ⟨w.heap.size, 0, none⟩ = some (.slice none 0 0) := (hbel.cell (by simp)).trans (by simp)
      have r1 : wr.cell? ⟨w.heap.size, 1, none⟩ = some (.int .i64 0) := (hbel.cell (by simp)).trans (by simp)
      have r2 : wr.cell? ⟨w.heap.size, 2, none⟩ = some (.int .i64 0) := (hbel.cell (by simp)).trans (by simp)
      have r3 : wr.cell? ⟨w.heap.size, 3, none⟩ = some (.int .i64 0) := (hbel.cell (by simp)).trans (by simp)
      have r4 : wr.cell? ⟨w.heap.size, 4, none⟩ = some (.int .i64 0) := (hbel.cell (by simp)).trans (by simp)
      have g0 : wr.frozen? ⟨w.heap.size, 0, none⟩ = false := (hbel.frozen (by simp)).trans (by simp)
      have g1 : wr.frozen? ⟨w.heap.size, 1, none⟩ = false := (hbel.frozen (by simp)).trans (by simp)
      have g2 : wr.frozen? ⟨w.heap.size, 2, none⟩ = false := (hbel.frozen (by simp)).trans (by simp)
      have g3 : wr.frozen? ⟨w.heap.size, 3, none⟩ = false := (hbel.frozen (by simp)).trans (by simp)
      have g4 : wr.frozen? ⟨w.heap.size, 4, none⟩ = false := (hbel.frozen (by simp)).trans (by simp)
      have HY : Hid (∀ sv w', w'.ownsRow w.heap.size 101 4 sv c.toNat (opCells (opsAt (-1) s (at_ + 1) c.toNat)) → Below w.heap.size w w' → Post (.returned (.agg #[sv, .int .i64 (byteOr (-1) s (at_ + 1 + 4 * c.toNat)), .int .i64 (byteOr (-1) s (at_ + 1 + 4 * c.toNat + 1)), .int .i64 (byteOr (-1) s (at_ + 1 + 4 * c.toNat + 2)), .int .i64 (byteOr (-1) s (at_ + 1 + 4 * c.toNat + 3))])) w') := hyes
      clear hyes
      have hb0 := Below.under hbel
      go_wp2_with (go_at_call 69; refine (byteAt_any _ _ _ hs).mono ?_; rintro e w' ⟨rfl, rfl⟩)
      refine bodyPost_ret (v := .agg #[.slice ao c.toNat cp, .int .i64 (byteOr (-1) s (at_ + 1 + 4 * c.toNat)), .int .i64 (byteOr (-1) s (at_ + 1 + 4 * c.toNat + 1)), .int .i64 (byteOr (-1) s (at_ + 1 + 4 * c.toNat + 2)), .int .i64 (byteOr (-1) s (at_ + 1 + 4 * c.toNat + 3))]) (by simp [results, Try.results70, go_sem, r0, r1, r2, r3, r4]) rfl (HY.out _ _ ?_ ?_)
      · refine owns_base (base := w.heap.size + 2) ?_ (by omega)
        repeat (refine ownsRow_setCell_below ?_ (by simp) _)
        exact hown
      · repeat (refine Below.setCell ?_ (by simp) _)
        exact hb0

end Go.Proofs.Ytblhmeidbjigaaa

/- DecodeProgram in the codec. -/
set_option linter.unusedSimpArgs false
set_option linter.unusedVariables false
namespace Go.Proofs.Ytblhmeidbjigaaa
open Go.RowKit

set_option maxHeartbeats 400000 in
theorem blockSize_any (so : Option Addr) (n sc : Nat) (k r x y : Int) (w : World) (hn : n ≤ 1000) :
    Calls Try.prog 71 #[.agg #[.slice so n sc, .int .i64 k, .int .i64 r, .int .i64 x, .int .i64 y]] w fun e w' => e = .returned (.int .i64 (1 + 4 * n + 4)) ∧ Below w.heap.size w w' := by
  go_enter Try.func71, Try.ntmps71
  go_wp2
  go_ret
  exact ⟨by simp, (Below.refl _ _).alloc (Nat.le_refl _) _⟩

/-- Where the k-th block begins. -/
def patOf (s : ByteArray) : Nat → Int
  | 0 => 7
  | k + 1 => patOf s k + (1 + 4 * (byteOr (-1) s (patOf s k)).toNat + 4)

def blkAt (d : Int) (s : ByteArray) (p : Int) (n : Nat) : BlockD := ⟨opsAt d s (p + 1) n, finAt d s (p + 1 + 4 * n)⟩

/-- The first k blocks that are read. -/
def blocksOf (s : ByteArray) : Nat → List BlockD
  | 0 => []
  | k + 1 => blocksOf s k ++ [blkAt (-1) s (patOf s k) (byteOr (-1) s (patOf s k)).toNat]

theorem patOf_bd (s : ByteArray) (k : Nat) : 7 ≤ patOf s k ∧ patOf s k ≤ 7 + 1025 * k := by
  induction k with
  | zero => simp [patOf]
  | succ k ih =>
    have := byteOr_bd (-1) s (patOf s k) (by omega)
    simp only [patOf]
    omega

/-- The program that is read. -/
def progOf (s : ByteArray) : ProgD := ⟨byteOr (-1) s 2, byteOr (-1) s 3, byteOr (-1) s 4, byteOr (-1) s 5, blocksOf s (byteOr (-1) s 6).toNat⟩

def readsProg (s : ByteArray) : Bool :=
  decide (byteOr (-1) s 0 = 84) && decide (byteOr (-1) s 1 = 87) && decide (patOf s (byteOr (-1) s 6).toNat = s.size) && progGood (progOf s)

set_option maxRecDepth 100000 in
set_option maxHeartbeats 4000000 in
theorem cDecode_cps (s : ByteArray) (w : World) (hs : s.size ≤ maxLen) (Post : Ending → World → Prop)
    (hyes : ∀ v bv w', readsProg s = true → OwnBlocks w' w.heap.size v bv → bdat bv = (progOf s).blocks → Below w.heap.size w w' → Post (.returned (.tuple #[.agg #[.int .i64 (byteOr (-1) s 2), .int .i64 (byteOr (-1) s 3), .int .i64 (byteOr (-1) s 4), .int .i64 (byteOr (-1) s 5), v], .int .i64 0])) w')
    (hno : ∀ w', readsProg s = false → Below w.heap.size w w' → Post (.returned (.tuple #[.agg #[.int .i64 0, .int .i64 0, .int .i64 0, .int .i64 0, .slice none 0 0], .int .i64 1])) w') :
    Calls Try.prog 48 #[.string s] w Post := by
  obtain ⟨i0, ii, iz0, iz1, iz2⟩ := info_parts Try.infoBlk
  have hcb := byteOr_bd (-1) s 6 (by omega)
  have hsz := hs
  unfold maxLen at hsz
  by_cases h0 : byteOr (-1) s 0 = 84
  case neg =>
    have hRf : readsProg s = false := by simp [readsProg, h0]
    have hno' := fun w' => hno w' hRf
    clear hno hyes hRf
    have hb : (byteOr (-1) s 0 != 84) = true := by simp [h0]
    go_enter Try.func48, Try.ntmps48
    go_wp2_with (go_at_call 69; refine (byteAt_any _ _ _ hs).mono ?_; rintro e w' ⟨rfl, rfl⟩)
    exact bodyPost_ret (v := .tuple #[.agg #[.int .i64 0, .int .i64 0, .int .i64 0, .int .i64 0, .slice none 0 0], .int .i64 1]) (by simp [results, Try.results48, go_sem]) rfl (hno' _ ((Below.refl _ _).alloc (Nat.le_refl _) _))
  by_cases h1 : byteOr (-1) s 1 = 87
  case neg =>
    have hRf : readsProg s = false := by simp [readsProg, h1]
    have hno' := fun w' => hno w' hRf
    clear hno hyes hRf
    have hb : (byteOr (-1) s 1 != 87) = true := by simp [h1]
    go_enter Try.func48, Try.ntmps48
    go_wp2_with (go_at_call 69; refine (byteAt_any _ _ _ hs).mono ?_; rintro e w' ⟨rfl, rfl⟩)
    exact bodyPost_ret (v := .tuple #[.agg #[.int .i64 0, .int .i64 0, .int .i64 0, .int .i64 0, .slice none 0 0], .int .i64 1]) (by simp [results, Try.results48, go_sem]) rfl (hno' _ ((Below.refl _ _).alloc (Nat.le_refl _) _))
  have HR : Hid (readsProg s = (decide (patOf s (byteOr (-1) s 6).toNat = s.size) && progGood (progOf s))) := by show _ = _; simp [readsProg, h0, h1]
  have HPO : Hid (progOf s = ⟨byteOr (-1) s 2, byteOr (-1) s 3, byteOr (-1) s 4, byteOr (-1) s 5, blocksOf s (byteOr (-1) s 6).toNat⟩) := rfl
  generalize hcn : byteOr (-1) s 6 = c at *
  generalize ha2 : byteOr (-1) s 2 = a2 at *
  generalize ha3 : byteOr (-1) s 3 = a3 at *
  generalize ha4 : byteOr (-1) s 4 = a4 at *
  generalize ha5 : byteOr (-1) s 5 = a5 at *
  have HY : Hid (∀ v bv w', readsProg s = true → OwnBlocks w' w.heap.size v bv → bdat bv = (progOf s).blocks → Below w.heap.size w w' → Post (.returned (.tuple #[.agg #[.int .i64 a2, .int .i64 a3, .int .i64 a4, .int .i64 a5, v], .int .i64 0])) w') := hyes
  have HN : Hid (∀ w', readsProg s = false → Below w.heap.size w w' → Post (.returned (.tuple #[.agg #[.int .i64 0, .int .i64 0, .int .i64 0, .int .i64 0, .slice none 0 0], .int .i64 1])) w') := hno
  clear hyes hno
  go_enter Try.func48, Try.ntmps48
  go_wp2_with (go_at_call 69; refine (byteAt_any _ _ _ hs).mono ?_; rintro e w' ⟨rfl, rfl⟩)
  clear hcn h0 h1 ha2 ha3 ha4 ha5
  go_loopw [6, 7] (fun p i wr => ∃ (k : Nat) (v : Value) (bv : List (BlockD × Value)), k ≤ c.toNat ∧ i = .int .i64 k ∧ p = .int .i64 (patOf s k) ∧ wr.cell? ⟨w.heap.size + 1, 0, none⟩ = some (.int .i64 a2) ∧ wr.cell? ⟨w.heap.size + 1, 1, none⟩ = some (.int .i64 a3) ∧ wr.cell? ⟨w.heap.size + 1, 2, none⟩ = some (.int .i64 a4) ∧ wr.cell? ⟨w.heap.size + 1, 3, none⟩ = some (.int .i64 a5) ∧
      wr.cell? ⟨w.heap.size + 1, 4, none⟩ = some v ∧ wr.frozen? ⟨w.heap.size + 1, 4, none⟩ = false ∧ OwnBlocks wr (w.heap.size + 2) v bv ∧ Hid (bdat bv = blocksOf s k) ∧ Hid (bv.length = k) ∧ Below (w.heap.size + 1) (w.alloc (.cells #[.int .i64 0, .int .i64 0, .int .i64 0, .int .i64 0, .slice none 0 0] 24)) wr ∧ w.heap.size + 2 ≤ wr.heap.size)
    (fun _ i _ => c.toNat - (intOf i).toNat)
  case atStart =>
    refine ⟨0, .slice none 0 0, [], Nat.zero_le _, rfl, rfl, by simp, by simp, by simp, by simp, by simp, by simp, ownBlocks_nil _ _, rfl, rfl, ?_, by simp⟩
    exact (Below.refl _ _).alloc (by simp) _
  case round =>
    obtain ⟨k, v, bv, hk, rfl, rfl, hx0, hx1, hx2, hx3, hx4, hxf, hown, hdt, hvl, hbel, hz⟩ := hrel
    obtain ⟨ao, cp, rfl⟩ := owns_slice hown.row
    have hzl : w.heap.size + 1 < wr.heap.size := by omega
    have hzm : w.heap.size < wr.heap.size := by omega
    have hab := patOf_bd s k
    by_cases hlt : (k : Int) < c
    · go_wp2_with fail
      refine blockAt_cps s _ _ hs (by omega) (by omega) _ ?_
      intro sv w1 hsv hb1
      have HX : Hid (blocksOf s (k + 1) = blocksOf s k ++ [⟨opsAt (-1) s (patOf s k + 1) (byteOr (-1) s (patOf s k)).toNat, ⟨byteOr (-1) s (patOf s k + 1 + 4 * (byteOr (-1) s (patOf s k)).toNat), byteOr (-1) s (patOf s k + 1 + 4 * (byteOr (-1) s (patOf s k)).toNat + 1), byteOr (-1) s (patOf s k + 1 + 4 * (byteOr (-1) s (patOf s k)).toNat + 2), byteOr (-1) s (patOf s k + 1 + 4 * (byteOr (-1) s (patOf s k)).toNat + 3)⟩⟩]) := rfl
      have HA : Hid (patOf s (k + 1) = patOf s k + (1 + 4 * (byteOr (-1) s (patOf s k)).toNat + 4)) := rfl
      have hmb := byteOr_bd (-1) s (patOf s k) (by omega)
      have hpl := opsAt_length (-1) s (patOf s k + 1) (byteOr (-1) s (patOf s k)).toNat
      have hm : (byteOr (-1) s (patOf s k)).toNat ≤ 255 := by omega
      clear hmb
      generalize (byteOr (-1) s (patOf s k)).toNat = m at *
      generalize byteOr (-1) s (patOf s k + 1 + 4 * m) = e1 at *
      generalize byteOr (-1) s (patOf s k + 1 + 4 * m + 1) = e2 at *
      generalize byteOr (-1) s (patOf s k + 1 + 4 * m + 2) = e3 at *
      generalize byteOr (-1) s (patOf s k + 1 + 4 * m + 3) = e4 at *
      generalize opsAt (-1) s (patOf s k + 1) m = ps at *
      subst hpl
      obtain ⟨so, sc, rfl⟩ := owns_slice hsv
      have own1 := hown.below hb1 (Nat.le_refl _)
      have x0 := (hb1.cell (p := ⟨w.heap.size + 1, 0, none⟩) hzl).trans hx0
      have x1 := (hb1.cell (p := ⟨w.heap.size + 1, 1, none⟩) hzl).trans hx1
      have x2 := (hb1.cell (p := ⟨w.heap.size + 1, 2, none⟩) hzl).trans hx2
      have x3 := (hb1.cell (p := ⟨w.heap.size + 1, 3, none⟩) hzl).trans hx3
      have x4 := (hb1.cell (p := ⟨w.heap.size + 1, 4, none⟩) hzl).trans hx4
      have xf := (hb1.frozen (p := ⟨w.heap.size + 1, 4, none⟩) hzl).trans hxf
      have hz1 := hb1.size
      have hzl1 : w.heap.size + 1 < w1.heap.size := by omega
      go_wp2_with (at_builtin; refine wpList_append_own _ rfl _ _ 22 rfl (w.heap.size + 2) 90 i0 (.agg #[.slice none 0 0, .int .i64 0, .int .i64 0, .int .i64 0, .int .i64 0]) 5 56 Try.underlying22 ii iz0 iz1 iz2 rfl (by decide) _ _ _ rfl ((own1.row.alloc _).alloc _) ⟨w1.heap.size + 1, 0, none⟩ 1 1 [.slice so ps.length sc, .int .i64 e1, .int .i64 e2, .int .i64 e3, .int .i64 e4] rfl rfl ?c1 five_one ?c3 ?c4 ?c5 ?_)
      case c1 => simpa using five_new (w1.alloc _) _ _ _ _ _ _
      case c3 => have := hvl.out; unfold maxLen; omega
      case c4 => have := hvl.out; omega
      case c5 => first | omega | (simp; omega)
      intro v' w2 hown' hgrow _
      have hne : ∀ g, w1.heap.size ≤ g → some g ≠ (Value.slice ao bv.length cp).ownBlock := fun g hg e => by have := (own1.row.lt _ e.symm).2; omega
      have own2 : OwnBlocks w2 (w.heap.size + 2) v' (bv ++ [(⟨ps, ⟨e1, e2, e3, e4⟩⟩, .slice so ps.length sc)]) := by
        refine ((own1.alloc _).alloc _).snoc ((owns_base hsv (by omega)).alloc _ |>.alloc _) ?_ hgrow hown'
        intro y hy g hg e
        have q1 := ((hown.each y hy).lt g hg).2
        have q2 := (hsv.lt g e).1
        omega
      have hb2 := ((((Below.refl (w.heap.size + 2) w1).alloc (by omega) _).alloc (by simp; omega) _).grown hgrow (by simp; omega) (fun g hg => (own1.row.lt g hg).1))
      have y0 := (hb2.cell (p := ⟨w.heap.size + 1, 0, none⟩) (by simp)).trans x0
      have y1 := (hb2.cell (p := ⟨w.heap.size + 1, 1, none⟩) (by simp)).trans x1
      have y2 := (hb2.cell (p := ⟨w.heap.size + 1, 2, none⟩) (by simp)).trans x2
      have y3 := (hb2.cell (p := ⟨w.heap.size + 1, 3, none⟩) (by simp)).trans x3
      have y4 := (hb2.cell (p := ⟨w.heap.size + 1, 4, none⟩) (by simp)).trans x4
      have yf := (hb2.frozen (p := ⟨w.heap.size + 1, 4, none⟩) (by simp)).trans xf
      have z0 : w2.cell? ⟨w1.heap.size, 0, none⟩ = some (.slice so ps.length sc) := hgrow.cell (by simp) (hne _ (Nat.le_refl _))
      have z1 : w2.cell? ⟨w1.heap.size, 1, none⟩ = some (.int .i64 e1) := hgrow.cell (by simp) (hne _ (Nat.le_refl _))
      have z2 : w2.cell? ⟨w1.heap.size, 2, none⟩ = some (.int .i64 e2) := hgrow.cell (by simp) (hne _ (Nat.le_refl _))
      have z3 : w2.cell? ⟨w1.heap.size, 3, none⟩ = some (.int .i64 e3) := hgrow.cell (by simp) (hne _ (Nat.le_refl _))
      have z4 : w2.cell? ⟨w1.heap.size, 4, none⟩ = some (.int .i64 e4) := hgrow.cell (by simp) (hne _ (Nat.le_refl _))
      have hz2 := hb2.size
      have hzl2 : w.heap.size + 1 < w2.heap.size := by omega
      have hzn : w1.heap.size ≠ w.heap.size + 1 := by omega
      have hb3 := (hbel.trans (hb1.mono (by omega))).trans (hb2.mono (by omega))
      obtain ⟨ao', cp', hv'⟩ := owns_slice own2.row
      rw [List.length_append] at hv'
      simp only [List.length_cons, List.length_nil, Nat.zero_add] at hv'
      subst hv'
      have z0' : ∀ u, (w2.setCell ⟨w.heap.size + 1, 4, none⟩ u).cell? ⟨w1.heap.size, 0, none⟩ = some (.slice so ps.length sc) := fun u => cell_unset (by simp) z0
      have z1' : ∀ u, (w2.setCell ⟨w.heap.size + 1, 4, none⟩ u).cell? ⟨w1.heap.size, 1, none⟩ = some (.int .i64 e1) := fun u => cell_unset (by simp) z1
      have z2' : ∀ u, (w2.setCell ⟨w.heap.size + 1, 4, none⟩ u).cell? ⟨w1.heap.size, 2, none⟩ = some (.int .i64 e2) := fun u => cell_unset (by simp) z2
      have z3' : ∀ u, (w2.setCell ⟨w.heap.size + 1, 4, none⟩ u).cell? ⟨w1.heap.size, 3, none⟩ = some (.int .i64 e3) := fun u => cell_unset (by simp) z3
      have z4' : ∀ u, (w2.setCell ⟨w.heap.size + 1, 4, none⟩ u).cell? ⟨w1.heap.size, 4, none⟩ = some (.int .i64 e4) := fun u => cell_unset (by simp) z4
      clear hgrow hown hown' own1 hsv hx0 hx1 hx2 hx3 hx4 hxf x0 x1 x2 x3 x4 xf hb2 hbel hne
      go_wp2_with fail
      refine (blockSize_any _ _ _ _ _ _ _ _ (by omega)).mono ?_
      rintro e w3 ⟨rfl, hb4⟩
      have own3 := (own2.set (a := ⟨w.heap.size + 1, 4, none⟩) (by simp) _).below hb4 (Nat.le_refl _)
      have hs3 := hb4.size
      have hlt3 : w.heap.size + 1 < (w2.setCell ⟨w.heap.size + 1, 4, none⟩ (.slice ao' (bv.length + 1) cp')).heap.size := by simp; omega
      have v0 := (hb4.cell (p := ⟨w.heap.size + 1, 0, none⟩) hlt3).trans (cell_unset (by simp) y0)
      have v1 := (hb4.cell (p := ⟨w.heap.size + 1, 1, none⟩) hlt3).trans (cell_unset (by simp) y1)
      have v2 := (hb4.cell (p := ⟨w.heap.size + 1, 2, none⟩) hlt3).trans (cell_unset (by simp) y2)
      have v3 := (hb4.cell (p := ⟨w.heap.size + 1, 3, none⟩) hlt3).trans (cell_unset (by simp) y3)
      have v4 := (hb4.cell (p := ⟨w.heap.size + 1, 4, none⟩) hlt3).trans (cell_set y4)
      have vf := (hb4.frozen (p := ⟨w.heap.size + 1, 4, none⟩) hlt3).trans (by simpa using yf)
      have hb5 := (hb3.setCell (p := ⟨w.heap.size + 1, 4, none⟩) (by simp) _).trans (hb4.mono (by simp; omega))
      simp at hs3
      clear hb4 own2 hb3 y0 y1 y2 y3 y4 yf z0 z1 z2 z3 z4 z0' z1' z2' z3' z4' hlt3
      go_wp2
      go_roundw
      case rel =>
        refine ⟨k + 1, _, _, by omega, by go_num, by rw [HA.out], v0, v1, v2, v3, v4, vf, own3, ?_, ?_, hb5, by omega⟩
        · show bdat _ = _
          rw [HX.out, ← hdt.out]; simp [bdat]
        · show List.length _ = _
          have := hvl.out
          simp; exact this
      case measure => simp [intOf]; omega
    · obtain rfl : k = c.toNat := by omega
      have r0 : wr.cell? ⟨w.heap.size, 0, none⟩ = some (.int .i64 0) := (hbel.cell (by simp)).trans (by simp)
      have r1 : wr.cell? ⟨w.heap.size, 1, none⟩ = some (.int .i64 0) := (hbel.cell (by simp)).trans (by simp)
      have r2 : wr.cell? ⟨w.heap.size, 2, none⟩ = some (.int .i64 0) := (hbel.cell (by simp)).trans (by simp)
      have r3 : wr.cell? ⟨w.heap.size, 3, none⟩ = some (.int .i64 0) := (hbel.cell (by simp)).trans (by simp)
      have r4 : wr.cell? ⟨w.heap.size, 4, none⟩ = some (.slice none 0 0) := (hbel.cell (by simp)).trans (by simp)
      have rf : ∀ o, wr.frozen? ⟨w.heap.size, o, none⟩ = false := fun o => (hbel.frozen (by simp)).trans (by simp)
      have hb0 := Below.under hbel
      have hrd := hown.rd
      rw [hdt.out] at hrd
      have hwm := wmProg_any a2 a3 a4 a5 _ _ wr hrd
      have hpe : Hid (progGood (progOf s) = progGood ⟨a2, a3, a4, a5, blocksOf s c.toNat⟩) := by show _ = _; rw [HPO.out]
      by_cases he : patOf s c.toNat = s.size
      case neg =>
        have hRf : readsProg s = false := by rw [HR.out]; simp [he]
        have hno' := fun w' => HN.out w' hRf
        clear HN HY hRf HR hpe HPO hwm
        have hb : (patOf s c.toNat != (s.size : Int)) = true := by simp [he]
        have f0 := rf 0
        have f1 := rf 1
        have f2 := rf 2
        have f3 := rf 3
        have f4 := rf 4
        clear rf
        go_wp2
        refine bodyPost_ret (v := .tuple #[.agg #[.int .i64 0, .int .i64 0, .int .i64 0, .int .i64 0, .slice none 0 0], .int .i64 1]) (by simp [results, Try.results48, go_sem, r0, r1, r2, r3, r4]) rfl (hno' _ ?_)
        repeat (refine Below.setCell ?_ (by simp) _)
        exact hb0
      have hb : (patOf s c.toNat != (s.size : Int)) = false := by simp [he]
      go_wp2_with fail
      refine hwm.mono ?_
      clear hwm
      rintro e w1 ⟨rfl, hb1⟩
      have x0 := cell_keep hb1 r0
      have x1 := cell_keep hb1 r1
      have x2 := cell_keep hb1 r2
      have x3 := cell_keep hb1 r3
      have x4 := cell_keep hb1 r4
      have xf : ∀ o, w1.frozen? ⟨w.heap.size, o, none⟩ = false := fun o => (hb1.frozen (p := ⟨w.heap.size, o, none⟩) hzm).trans (rf o)
      have f0 := xf 0
      have f1 := xf 1
      have f2 := xf 2
      have f3 := xf 3
      have f4 := xf 4
      have y0 := cell_keep hb1 hx0
      have y1 := cell_keep hb1 hx1
      have y2 := cell_keep hb1 hx2
      have y3 := cell_keep hb1 hx3
      have y4 := cell_keep hb1 hx4
      have hb2 := hb0.trans (hb1.mono (by omega))
      have own1 := hown.below hb1 (Nat.le_refl _)
      clear rf xf r0 r1 r2 r3 r4 hx0 hx1 hx2 hx3 hx4 hxf hrd hown hb1
      cases hg : progGood ⟨a2, a3, a4, a5, blocksOf s c.toNat⟩
      · have hRf : readsProg s = false := by rw [HR.out, hpe.out, hg]; simp
        have hno' := fun w' => HN.out w' hRf
        clear HN HY hRf HR hpe HPO
        go_wp2
        refine bodyPost_ret (v := .tuple #[.agg #[.int .i64 0, .int .i64 0, .int .i64 0, .int .i64 0, .slice none 0 0], .int .i64 1]) (by simp [results, Try.results48, go_sem, x0, x1, x2, x3, x4]) rfl (hno' _ ?_)
        repeat (refine Below.setCell ?_ (by simp) _)
        exact hb2
      · have hRf : readsProg s = true := by rw [HR.out, hpe.out, hg]; simp [he]
        have HY' : Hid (∀ w', OwnBlocks w' w.heap.size (.slice ao bv.length cp) bv → Below w.heap.size w w' → Post (.returned (.tuple #[.agg #[.int .i64 a2, .int .i64 a3, .int .i64 a4, .int .i64 a5, .slice ao bv.length cp], .int .i64 0])) w') :=
          fun w' h1 h2 => HY.out _ bv w' hRf h1 (by rw [HPO.out]; exact hdt.out) h2
        clear HN HY hRf HR hpe HPO
        go_wp2
        refine bodyPost_ret (v := .tuple #[.agg #[.int .i64 a2, .int .i64 a3, .int .i64 a4, .int .i64 a5, .slice ao bv.length cp], .int .i64 0]) (by simp [results, Try.results48, go_sem, x0, x1, x2, x3, x4]) rfl (HY'.out _ ?_ ?_)
        · refine OwnBlocks.base (base := w.heap.size + 2) ?_ (by omega)
          repeat (refine OwnBlocks.set ?_ (by simp) _)
          exact own1
        · repeat (refine Below.setCell ?_ (by simp) _)
          exact hb2

end Go.Proofs.Ytblhmeidbjigaaa
