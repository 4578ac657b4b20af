/- Programs that lie in memory of their own, each list for itself. -/
import Derived.Test.YtdjdjkgoelbbdaaPDat
import Derived.Test.YtdjdjkgoelbbdaaSto
set_option linter.unusedSimpArgs false
set_option linter.unusedVariables false
namespace Go.Proofs.Ytdjdjkgoelbbdaa
open Go.RowKit

def opCells (l : List OpD) : List Value := l.flatMap fun o => [.int .i64 o.kind, .int .i64 o.a, .int .i64 o.b, .int .i64 o.c]

theorem opCells_snoc (l : List OpD) (k a b c : Int) : opCells (l ++ [⟨k, a, b, c⟩]) = opCells l ++ [.int .i64 k, .int .i64 a, .int .i64 b, .int .i64 c] := by simp [opCells]

theorem opCells_length (l : List OpD) : (opCells l).length = l.length * 4 := by
  induction l with
  | nil => rfl
  | cons p r ih => simp only [opCells, List.flatMap_cons, List.length_append, List.length_cons, List.length_nil] at *; omega

theorem opCells_get (l : List OpD) (i : Nat) (hi : i < l.length) : (opCells l)[i * 4]? = some (.int .i64 (okind l i)) ∧ (opCells l)[i * 4 + 1]? = some (.int .i64 (oa l i)) ∧ (opCells l)[i * 4 + 2]? = some (.int .i64 (ob l i)) ∧ (opCells l)[i * 4 + 3]? = some (.int .i64 (oc l i)) := by
  induction l generalizing i with
  | nil => simp at hi
  | cons p r ih =>
    cases i with
    | zero => exact ⟨rfl, rfl, rfl, rfl⟩
    | succ i =>
      have h := ih i (by simpa using hi)
      have e1 : (i + 1) * 4 = i * 4 + 1 + 1 + 1 + 1 := by omega
      rw [e1]
      exact h

def blkCells (bv : List (BlockD × Value)) : List Value := bv.flatMap fun x => [x.2, .int .i64 x.1.fin.kind, .int .i64 x.1.fin.r, .int .i64 x.1.fin.x, .int .i64 x.1.fin.y]

theorem blkCells_snoc (bv : List (BlockD × Value)) (l : List OpD) (k r x y : Int) (sv : Value) : blkCells (bv ++ [(⟨l, ⟨k, r, x, y⟩⟩, sv)]) = blkCells bv ++ [sv, .int .i64 k, .int .i64 r, .int .i64 x, .int .i64 y] := by simp [blkCells]

theorem blkCells_length (bv : List (BlockD × Value)) : (blkCells bv).length = bv.length * 5 := by
  induction bv with
  | nil => rfl
  | cons p r ih => simp only [blkCells, List.flatMap_cons, List.length_append, List.length_cons, List.length_nil] at *; omega

theorem blkCells_get (bv : List (BlockD × Value)) (i : Nat) (hi : i < bv.length) : (blkCells bv)[i * 5]? = some bv[i].2 ∧ (blkCells bv)[i * 5 + 1]? = some (.int .i64 bv[i].1.fin.kind) ∧ (blkCells bv)[i * 5 + 2]? = some (.int .i64 bv[i].1.fin.r) ∧ (blkCells bv)[i * 5 + 3]? = some (.int .i64 bv[i].1.fin.x) ∧ (blkCells bv)[i * 5 + 4]? = some (.int .i64 bv[i].1.fin.y) := by
  induction bv generalizing i with
  | nil => simp at hi
  | cons p r ih =>
    cases i with
    | zero => exact ⟨rfl, rfl, rfl, rfl, rfl⟩
    | succ i =>
      have h := ih i (by simpa using hi)
      have e1 : (i + 1) * 5 = i * 5 + 1 + 1 + 1 + 1 + 1 := by omega
      rw [e1]
      exact h

/-- The blocks bv lie at v, in memory from block base on, each list in a block of its own. -/
structure OwnBlocks (w : World) (base : Nat) (v : Value) (bv : List (BlockD × Value)) : Prop where
  row : w.ownsRow base 76 5 v bv.length (blkCells bv)
  each : ∀ x ∈ bv, w.ownsRow base 78 4 x.2 x.1.ops.length (opCells x.1.ops)
  apart : bv.Pairwise fun x y => ∀ g, x.2.ownBlock = some g → y.2.ownBlock ≠ some g

def bdat (bv : List (BlockD × Value)) : List BlockD := bv.map (·.1)

theorem bdat_length (bv : List (BlockD × Value)) : (bdat bv).length = bv.length := by simp [bdat]

theorem bdat_get (bv : List (BlockD × Value)) {i : Nat} (hi : i < bv.length) : bops (bdat bv) i = bv[i].1.ops ∧ bfin (bdat bv) i = bv[i].1.fin := by
  constructor <;> simp [bops, bfin, bdat, hi]

theorem ownBlocks_nil (w : World) (base : Nat) : OwnBlocks w base (.slice none 0 0) [] :=
  ⟨World.ownsRow_nil _ _ _ _, fun x hx => by simp at hx, List.Pairwise.nil⟩

theorem OwnBlocks.below {w w' : World} {base : Nat} {v : Value} {bv : List (BlockD × Value)} (h : OwnBlocks w base v bv) {B : Nat} (hb : Below B w w') (hB : w.heap.size ≤ B) : OwnBlocks w' base v bv :=
  ⟨owns_below h.row hb hB, fun x hx => owns_below (h.each x hx) hb hB, h.apart⟩

theorem OwnBlocks.alloc {w : World} {base : Nat} {v : Value} {bv : List (BlockD × Value)} (h : OwnBlocks w base v bv) (o : Obj) : OwnBlocks (w.alloc o) base v bv :=
  ⟨h.row.alloc o, fun x hx => (h.each x hx).alloc o, h.apart⟩

theorem OwnBlocks.set {w : World} {base : Nat} {v : Value} {bv : List (BlockD × Value)} (h : OwnBlocks w base v bv) {a : Addr} (ha : a.block < base) (u : Value) : OwnBlocks (w.setCell a u) base v bv :=
  ⟨ownsRow_setCell_below h.row ha u, fun x hx => ownsRow_setCell_below (h.each x hx) ha u, h.apart⟩

theorem OwnBlocks.base {w : World} {base base' : Nat} {v : Value} {bv : List (BlockD × Value)} (h : OwnBlocks w base v bv) (hb : base' ≤ base) : OwnBlocks w base' v bv :=
  ⟨owns_base h.row hb, fun x hx => owns_base (h.each x hx) hb, h.apart⟩

theorem OwnBlocks.snoc {w w' : World} {base : Nat} {v v' : Value} {bv : List (BlockD × Value)} (h : OwnBlocks w base v bv) {l : List OpD} {k r x y : Int} {sv : Value}
    (hx : w.ownsRow base 78 4 sv l.length (opCells l)) (hfree : ∀ y ∈ bv, ∀ g, y.2.ownBlock = some g → sv.ownBlock ≠ some g)
    (hg : w.grownBy w' v.ownBlock) (hown : w'.ownsRow base 76 5 v' (bv.length + 1) (blkCells bv ++ [sv, .int .i64 k, .int .i64 r, .int .i64 x, .int .i64 y])) : OwnBlocks w' base v' (bv ++ [(⟨l, ⟨k, r, x, y⟩⟩, sv)]) := by
  have keep : ∀ (u : Value) (ps : List OpD), w.ownsRow base 78 4 u ps.length (opCells ps) → w'.ownsRow base 78 4 u ps.length (opCells ps) := by
    intro u ps hu
    refine hu.kept hg ?_
    cases hb : u.ownBlock with
    | none => exact .inl rfl
    | some g => exact .inr (fun e => owns_apart hu h.row (by decide) g hb e.symm)
  refine ⟨by rw [blkCells_snoc]; simpa using hown, ?_, ?_⟩
  · intro y hy
    rcases List.mem_append.1 hy with hy | hy
    · exact keep _ _ (h.each y hy)
    · simp at hy; subst hy; exact keep _ _ hx
  · rw [List.pairwise_append]
    refine ⟨h.apart, by simp, ?_⟩
    intro a ha b hb
    simp at hb
    subst hb
    exact hfree a ha

theorem owns_ops_at {w : World} {base : Nat} {so : Option Addr} {n sc : Nat} {l : List OpD} (h : w.ownsRow base 78 4 (.slice so n sc) l.length (opCells l)) {j : Nat} (hj : j < l.length) :
    ∃ b, so = some ⟨b, 0, none⟩ ∧ base ≤ b ∧ w.cell? ⟨b, j * 4, none⟩ = some (.int .i64 (okind l j)) ∧ w.cell? ⟨b, j * 4 + 1, none⟩ = some (.int .i64 (oa l j)) ∧ w.cell? ⟨b, j * 4 + 2, none⟩ = some (.int .i64 (ob l j)) ∧ w.cell? ⟨b, j * 4 + 3, none⟩ = some (.int .i64 (oc l j)) ∧ ∀ o, w.frozen? ⟨b, o, none⟩ = false := by
  obtain ⟨ao', cap', hv'⟩ := owns_slice h
  simp only [Value.slice.injEq] at hv'
  obtain ⟨rfl, rfl, rfl⟩ := hv'
  have hl := opCells_length l
  obtain ⟨b, hao, hbs, hb, hc⟩ := owns_cell h rfl (i := j * 4) (by omega)
  obtain ⟨g1, g2, g3, g4⟩ := opCells_get l j hj
  have key : ∀ i u, (opCells l)[i]? = some u → w.cell? ⟨b, i, none⟩ = some u := by
    intro i u hu
    have := h.cells (g := b) hb i u hu
    rwa [Addr.add_lit, Nat.zero_add] at this
  exact ⟨b, hao, hbs, key _ _ g1, key _ _ g2, key _ _ g3, key _ _ g4, fun o => owns_frozen h hb o⟩

theorem ownBlocks_at {w : World} {base : Nat} {ao : Option Addr} {n cap : Nat} {bv : List (BlockD × Value)} (h : OwnBlocks w base (.slice ao n cap) bv) {i : Nat} (hi : i < bv.length) :
    ∃ b, ao = some ⟨b, 0, none⟩ ∧ base ≤ b ∧ w.cell? ⟨b, i * 5, none⟩ = some bv[i].2 ∧ w.cell? ⟨b, i * 5 + 1, none⟩ = some (.int .i64 bv[i].1.fin.kind) ∧ w.cell? ⟨b, i * 5 + 2, none⟩ = some (.int .i64 bv[i].1.fin.r) ∧ w.cell? ⟨b, i * 5 + 3, none⟩ = some (.int .i64 bv[i].1.fin.x) ∧ w.cell? ⟨b, i * 5 + 4, none⟩ = some (.int .i64 bv[i].1.fin.y) ∧ ∀ o, w.frozen? ⟨b, o, none⟩ = false := by
  obtain ⟨ao', cap', hv'⟩ := owns_slice h.row
  simp only [Value.slice.injEq] at hv'
  obtain ⟨rfl, rfl, rfl⟩ := hv'
  have hl := blkCells_length bv
  obtain ⟨b, hao, hbs, hb, hc⟩ := owns_cell h.row rfl (i := i * 5) (by omega)
  obtain ⟨g1, g2, g3, g4, g5⟩ := blkCells_get bv i hi
  have key : ∀ i u, (blkCells bv)[i]? = some u → w.cell? ⟨b, i, none⟩ = some u := by
    intro i u hu
    have := h.row.cells (g := b) hb i u hu
    rwa [Addr.add_lit, Nat.zero_add] at this
  exact ⟨b, hao, hbs, key _ _ g1, key _ _ g2, key _ _ g3, key _ _ g4, key _ _ g5, fun o => owns_frozen h.row hb o⟩

theorem owns_rdOps {w : World} {base : Nat} {v : Value} {l : List OpD} (h : w.ownsRow base 78 4 v l.length (opCells l)) : RdOps w v l := by
  obtain ⟨ao, cap, rfl⟩ := owns_slice h
  refine ⟨ao, cap, rfl, owns_le h, fun i hi => ?_⟩
  obtain ⟨b, e, _, c1, c2, c3, c4, _⟩ := owns_ops_at h hi
  exact ⟨b, 0, e, by rw [Nat.zero_add]; exact c1, by rw [Nat.zero_add]; exact c2, by rw [Nat.zero_add]; exact c3, by rw [Nat.zero_add]; exact c4⟩

theorem OwnBlocks.rd {w : World} {base : Nat} {v : Value} {bv : List (BlockD × Value)} (h : OwnBlocks w base v bv) : RdBlocks w v (bdat bv) := by
  obtain ⟨ao, cap, rfl⟩ := owns_slice h.row
  refine ⟨ao, cap, by rw [bdat_length], by rw [bdat_length]; exact owns_le h.row, fun i hi => ?_⟩
  rw [bdat_length] at hi
  obtain ⟨e1, e2⟩ := bdat_get bv hi
  obtain ⟨b, e, _, c0, c1, c2, c3, c4, _⟩ := ownBlocks_at h hi
  refine ⟨b, 0, bv[i].2, e, by rw [Nat.zero_add]; exact c0, ?_, ?_, ?_, ?_, ?_⟩
  · rw [Nat.zero_add]; unfold bek; rw [e2]; exact c1
  · rw [Nat.zero_add]; unfold ber; rw [e2]; exact c2
  · rw [Nat.zero_add]; unfold bex; rw [e2]; exact c3
  · rw [Nat.zero_add]; unfold bey; rw [e2]; exact c4
  · rw [e1]; exact owns_rdOps (h.each _ (by simp))

end Go.Proofs.Ytdjdjkgoelbbdaa
