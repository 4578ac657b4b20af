/- Programs that lie in memory of their own, each list for itself. -/
import Derived.Test.YtblhmeidbjigaaaGreatDoorRows
import Derived.WalkKit
import Derived.WalkSpells
import Derived.WalkLawsBesides
import Derived.Laws.BytesArg
import Derived.Deep.QuietTactic
import Derived.BigQuiet
import Derived.Deep.RegionHeld3
import Derived.Test.YtblhmeidbjigaaaGreatDoorPCodHToPCodJWarned

set_option linter.unusedSimpArgs false
set_option linter.unusedVariables false
namespace Go.Proofs.YtblhmeidbjigaaaGreatDoor
open Go.RowKit

def opCells (l : List OpD) : List Value := l.flatMap fun o => [.int .i64 o.kind, .int .i64 o.a, .int .i64 o.b, .int .i64 o.c]

theorem opCells_snoc (l : List OpD) (k a b c : Int) : opCells (l ++ [⟨k, a, b, c⟩]) = opCells l ++ [.int .i64 k, .int .i64 a, .int .i64 b, .int .i64 c] := by simp [opCells]

theorem opCells_length (l : List OpD) : (opCells l).length = l.length * 4 := by
  induction l with
  | nil => rfl
  | cons p r ih => simp only [opCells, List.flatMap_cons, List.length_append, List.length_cons, List.length_nil] at *; omega

theorem opCells_get (l : List OpD) (i : Nat) (hi : i < l.length) : (opCells l)[i * 4]? = some (.int .i64 (okind l i)) ∧ (opCells l)[i * 4 + 1]? = some (.int .i64 (oa l i)) ∧ (opCells l)[i * 4 + 2]? = some (.int .i64 (ob l i)) ∧ (opCells l)[i * 4 + 3]? = some (.int .i64 (oc l i)) := by
  induction l generalizing i with
  | nil => simp at hi
  | cons p r ih =>
    cases i with
    | zero => exact ⟨rfl, rfl, rfl, rfl⟩
    | succ i =>
      have h := ih i (by simpa using hi)
      have e1 : (i + 1) * 4 = i * 4 + 1 + 1 + 1 + 1 := by omega
      rw [e1]
      exact h

def blkCells (bv : List (BlockD × Value)) : List Value := bv.flatMap fun x => [x.2, .int .i64 x.1.fin.kind, .int .i64 x.1.fin.r, .int .i64 x.1.fin.x, .int .i64 x.1.fin.y]

theorem blkCells_snoc (bv : List (BlockD × Value)) (l : List OpD) (k r x y : Int) (sv : Value) : blkCells (bv ++ [(⟨l, ⟨k, r, x, y⟩⟩, sv)]) = blkCells bv ++ [sv, .int .i64 k, .int .i64 r, .int .i64 x, .int .i64 y] := by simp [blkCells]

theorem blkCells_length (bv : List (BlockD × Value)) : (blkCells bv).length = bv.length * 5 := by
  induction bv with
  | nil => rfl
  | cons p r ih => simp only [blkCells, List.flatMap_cons, List.length_append, List.length_cons, List.length_nil] at *; omega

theorem blkCells_get (bv : List (BlockD × Value)) (i : Nat) (hi : i < bv.length) : (blkCells bv)[i * 5]? = some bv[i].2 ∧ (blkCells bv)[i * 5 + 1]? = some (.int .i64 bv[i].1.fin.kind) ∧ (blkCells bv)[i * 5 + 2]? = some (.int .i64 bv[i].1.fin.r) ∧ (blkCells bv)[i * 5 + 3]? = some (.int .i64 bv[i].1.fin.x) ∧ (blkCells bv)[i * 5 + 4]? = some (.int .i64 bv[i].1.fin.y) := by
  induction bv generalizing i with
  | nil => simp at hi
  | cons p r ih =>
    cases i with
    | zero => exact ⟨rfl, rfl, rfl, rfl, rfl⟩
    | succ i =>
      have h := ih i (by simpa using hi)
      have e1 : (i + 1) * 5 = i * 5 + 1 + 1 + 1 + 1 + 1 := by omega
      rw [e1]
      exact h

/-- The blocks bv lie at v, in memory from block base on, each list in a block of its own. -/
structure OwnBlocks (w : World) (base : Nat) (v : Value) (bv : List (BlockD × Value)) : Prop where
  row : w.ownsRow base 40 5 v bv.length (blkCells bv)
  each : ∀ x ∈ bv, w.ownsRow base 77 4 x.2 x.1.ops.length (opCells x.1.ops)
  apart : bv.Pairwise fun x y => ∀ g, x.2.ownBlock = some g → y.2.ownBlock ≠ some g

def bdat (bv : List (BlockD × Value)) : List BlockD := bv.map (·.1)

theorem bdat_length (bv : List (BlockD × Value)) : (bdat bv).length = bv.length := by simp [bdat]

theorem bdat_get (bv : List (BlockD × Value)) {i : Nat} (hi : i < bv.length) : bops (bdat bv) i = bv[i].1.ops ∧ bfin (bdat bv) i = bv[i].1.fin := by
  constructor <;> simp [bops, bfin, bdat, hi]

theorem ownBlocks_nil (w : World) (base : Nat) : OwnBlocks w base (.slice none 0 0) [] :=
  ⟨World.ownsRow_nil _ _ _ _, fun x hx => by simp at hx, List.Pairwise.nil⟩

theorem OwnBlocks.below {w w' : World} {base : Nat} {v : Value} {bv : List (BlockD × Value)} (h : OwnBlocks w base v bv) {B : Nat} (hb : Below B w w') (hB : w.heap.size ≤ B) : OwnBlocks w' base v bv :=
  ⟨owns_below h.row hb hB, fun x hx => owns_below (h.each x hx) hb hB, h.apart⟩

theorem OwnBlocks.alloc {w : World} {base : Nat} {v : Value} {bv : List (BlockD × Value)} (h : OwnBlocks w base v bv) (o : Obj) : OwnBlocks (w.alloc o) base v bv :=
  ⟨h.row.alloc o, fun x hx => (h.each x hx).alloc o, h.apart⟩

theorem OwnBlocks.set {w : World} {base : Nat} {v : Value} {bv : List (BlockD × Value)} (h : OwnBlocks w base v bv) {a : Addr} (ha : a.block < base) (u : Value) : OwnBlocks (w.setCell a u) base v bv :=
  ⟨ownsRow_setCell_below h.row ha u, fun x hx => ownsRow_setCell_below (h.each x hx) ha u, h.apart⟩

theorem OwnBlocks.base {w : World} {base base' : Nat} {v : Value} {bv : List (BlockD × Value)} (h : OwnBlocks w base v bv) (hb : base' ≤ base) : OwnBlocks w base' v bv :=
  ⟨owns_base h.row hb, fun x hx => owns_base (h.each x hx) hb, h.apart⟩

theorem OwnBlocks.snoc {w w' : World} {base : Nat} {v v' : Value} {bv : List (BlockD × Value)} (h : OwnBlocks w base v bv) {l : List OpD} {k r x y : Int} {sv : Value}
    (hx : w.ownsRow base 77 4 sv l.length (opCells l)) (hfree : ∀ y ∈ bv, ∀ g, y.2.ownBlock = some g → sv.ownBlock ≠ some g)
    (hg : w.grownBy w' v.ownBlock) (hown : w'.ownsRow base 40 5 v' (bv.length + 1) (blkCells bv ++ [sv, .int .i64 k, .int .i64 r, .int .i64 x, .int .i64 y])) : OwnBlocks w' base v' (bv ++ [(⟨l, ⟨k, r, x, y⟩⟩, sv)]) := by
  have keep : ∀ (u : Value) (ps : List OpD), w.ownsRow base 77 4 u ps.length (opCells ps) → w'.ownsRow base 77 4 u ps.length (opCells ps) := by
    intro u ps hu
    refine hu.kept hg ?_
    cases hb : u.ownBlock with
    | none => exact .inl rfl
    | some g => exact .inr (fun e => owns_apart hu h.row (by decide) g hb e.symm)
  refine ⟨by rw [blkCells_snoc]; simpa using hown, ?_, ?_⟩
  · intro y hy
    rcases List.mem_append.1 hy with hy | hy
    · exact keep _ _ (h.each y hy)
    · simp at hy; subst hy; exact keep _ _ hx
  · rw [List.pairwise_append]
    refine ⟨h.apart, by simp, ?_⟩
    intro a ha b hb
    simp at hb
    subst hb
    exact hfree a ha

theorem owns_ops_at {w : World} {base : Nat} {so : Option Addr} {n sc : Nat} {l : List OpD} (h : w.ownsRow base 77 4 (.slice so n sc) l.length (opCells l)) {j : Nat} (hj : j < l.length) :
    ∃ b, so = some ⟨b, 0, none⟩ ∧ base ≤ b ∧ w.cell? ⟨b, j * 4, none⟩ = some (.int .i64 (okind l j)) ∧ w.cell? ⟨b, j * 4 + 1, none⟩ = some (.int .i64 (oa l j)) ∧ w.cell? ⟨b, j * 4 + 2, none⟩ = some (.int .i64 (ob l j)) ∧ w.cell? ⟨b, j * 4 + 3, none⟩ = some (.int .i64 (oc l j)) ∧ ∀ o, w.frozen? ⟨b, o, none⟩ = false := by
  obtain ⟨ao', cap', hv'⟩ := owns_slice h
  simp only [Value.slice.injEq] at hv'
  obtain ⟨rfl, rfl, rfl⟩ := hv'
  have hl := opCells_length l
  obtain ⟨b, hao, hbs, hb, hc⟩ := owns_cell h rfl (i := j * 4) (by omega)
  obtain ⟨g1, g2, g3, g4⟩ := opCells_get l j hj
  have key : ∀ i u, (opCells l)[i]? = some u → w.cell? ⟨b, i, none⟩ = some u := by
    intro i u hu
    have := h.cells (g := b) hb i u hu
    rwa [Addr.add_lit, Nat.zero_add] at this
  exact ⟨b, hao, hbs, key _ _ g1, key _ _ g2, key _ _ g3, key _ _ g4, fun o => owns_frozen h hb o⟩

theorem ownBlocks_at {w : World} {base : Nat} {ao : Option Addr} {n cap : Nat} {bv : List (BlockD × Value)} (h : OwnBlocks w base (.slice ao n cap) bv) {i : Nat} (hi : i < bv.length) :
    ∃ b, ao = some ⟨b, 0, none⟩ ∧ base ≤ b ∧ w.cell? ⟨b, i * 5, none⟩ = some bv[i].2 ∧ w.cell? ⟨b, i * 5 + 1, none⟩ = some (.int .i64 bv[i].1.fin.kind) ∧ w.cell? ⟨b, i * 5 + 2, none⟩ = some (.int .i64 bv[i].1.fin.r) ∧ w.cell? ⟨b, i * 5 + 3, none⟩ = some (.int .i64 bv[i].1.fin.x) ∧ w.cell? ⟨b, i * 5 + 4, none⟩ = some (.int .i64 bv[i].1.fin.y) ∧ ∀ o, w.frozen? ⟨b, o, none⟩ = false := by
  obtain ⟨ao', cap', hv'⟩ := owns_slice h.row
  simp only [Value.slice.injEq] at hv'
  obtain ⟨rfl, rfl, rfl⟩ := hv'
  have hl := blkCells_length bv
  obtain ⟨b, hao, hbs, hb, hc⟩ := owns_cell h.row rfl (i := i * 5) (by omega)
  obtain ⟨g1, g2, g3, g4, g5⟩ := blkCells_get bv i hi
  have key : ∀ i u, (blkCells bv)[i]? = some u → w.cell? ⟨b, i, none⟩ = some u := by
    intro i u hu
    have := h.row.cells (g := b) hb i u hu
    rwa [Addr.add_lit, Nat.zero_add] at this
  exact ⟨b, hao, hbs, key _ _ g1, key _ _ g2, key _ _ g3, key _ _ g4, key _ _ g5, fun o => owns_frozen h.row hb o⟩

theorem owns_rdOps {w : World} {base : Nat} {v : Value} {l : List OpD} (h : w.ownsRow base 77 4 v l.length (opCells l)) : RdOps w v l := by
  obtain ⟨ao, cap, rfl⟩ := owns_slice h
  refine ⟨ao, cap, rfl, owns_le h, fun i hi => ?_⟩
  obtain ⟨b, e, _, c1, c2, c3, c4, _⟩ := owns_ops_at h hi
  exact ⟨b, 0, e, by rw [Nat.zero_add]; exact c1, by rw [Nat.zero_add]; exact c2, by rw [Nat.zero_add]; exact c3, by rw [Nat.zero_add]; exact c4⟩

theorem OwnBlocks.rd {w : World} {base : Nat} {v : Value} {bv : List (BlockD × Value)} (h : OwnBlocks w base v bv) : RdBlocks w v (bdat bv) := by
  obtain ⟨ao, cap, rfl⟩ := owns_slice h.row
  refine ⟨ao, cap, by rw [bdat_length], by rw [bdat_length]; exact owns_le h.row, fun i hi => ?_⟩
  rw [bdat_length] at hi
  obtain ⟨e1, e2⟩ := bdat_get bv hi
  obtain ⟨b, e, _, c0, c1, c2, c3, c4, _⟩ := ownBlocks_at h hi
  refine ⟨b, 0, bv[i].2, e, by rw [Nat.zero_add]; exact c0, ?_, ?_, ?_, ?_, ?_⟩
  · rw [Nat.zero_add]; unfold bek; rw [e2]; exact c1
  · rw [Nat.zero_add]; unfold ber; rw [e2]; exact c2
  · rw [Nat.zero_add]; unfold bex; rw [e2]; exact c3
  · rw [Nat.zero_add]; unfold bey; rw [e2]; exact c4
  · rw [e1]; exact owns_rdOps (h.each _ (by simp))

end Go.Proofs.YtblhmeidbjigaaaGreatDoor

/- Reading a block in the codec. -/
set_option linter.unusedSimpArgs false
set_option linter.unusedVariables false
namespace Go.Proofs.YtblhmeidbjigaaaGreatDoor
open Go.RowKit

theorem Tryz.infoOp : (Tryz.prog.info? 77).map (fun i => (i.zero, i.size, i.bytes)) = some (some (.agg #[.int .i64 0, .int .i64 0, .int .i64 0, .int .i64 0]), 4, 32) := by kernel_rfl
theorem Tryz.infoBlk : (Tryz.prog.info? 40).map (fun i => (i.zero, i.size, i.bytes)) = some (some (.agg #[.slice none 0 0, .int .i64 0, .int .i64 0, .int .i64 0, .int .i64 0]), 5, 56) := by kernel_rfl

def opsAt (d : Int) (s : ByteArray) (next : Int) : Nat → List OpD
  | 0 => []
  | k + 1 => opsAt d s next k ++ [⟨byteOr d s (next + 4 * k), byteOr d s (next + 4 * k + 1), byteOr d s (next + 4 * k + 2), byteOr d s (next + 4 * k + 3)⟩]

theorem opsAt_length (d : Int) (s : ByteArray) (next : Int) (k : Nat) : (opsAt d s next k).length = k := by
  induction k with
  | zero => rfl
  | succ k ih => simp [opsAt, ih]

def finAt (d : Int) (s : ByteArray) (next : Int) : EndD := ⟨byteOr d s next, byteOr d s (next + 1), byteOr d s (next + 2), byteOr d s (next + 3)⟩

theorem four_new (w : World) (a b c d : Value) (t : TypeId) : ∀ j u, [a, b, c, d][j]? = some u → (w.alloc (.cells #[a, b, c, d] t)).cell? ((⟨w.heap.size, 0, none⟩ : Addr).add j) = some u := by
  intro j u hj
  match j, hj with
  | 0, hj => simp at hj; subst hj; simp [Addr.add]
  | 1, hj => simp at hj; subst hj; simp [Addr.add]
  | 2, hj => simp at hj; subst hj; simp [Addr.add]
  | 3, hj => simp at hj; subst hj; simp [Addr.add]

theorem five_new (w : World) (a b c d e : Value) (t : TypeId) : ∀ j u, [a, b, c, d, e][j]? = some u → (w.alloc (.cells #[a, b, c, d, e] t)).cell? ((⟨w.heap.size, 0, none⟩ : Addr).add j) = some u := by
  intro j u hj
  match j, hj with
  | 0, hj => simp at hj; subst hj; simp [Addr.add]
  | 1, hj => simp at hj; subst hj; simp [Addr.add]
  | 2, hj => simp at hj; subst hj; simp [Addr.add]
  | 3, hj => simp at hj; subst hj; simp [Addr.add]
  | 4, hj => simp at hj; subst hj; simp [Addr.add]

theorem four_one {a b c d : Int} : ∀ u ∈ [Value.int .i64 a, .int .i64 b, .int .i64 c, .int .i64 d], u.oneCell' = true := by
  intro u hu
  simp at hu
  rcases hu with rfl | rfl | rfl | rfl <;> rfl

theorem five_one {so : Option Addr} {n sc : Nat} {a b c d : Int} : ∀ u ∈ [Value.slice so n sc, .int .i64 a, .int .i64 b, .int .i64 c, .int .i64 d], u.oneCell' = true := by
  intro u hu
  simp at hu
  rcases hu with rfl | rfl | rfl | rfl | rfl <;> rfl

set_option maxRecDepth 100000 in
set_option maxHeartbeats 2000000 in
theorem blockAt_cps (s : ByteArray) (at_ : Int) (w : World) (hs : s.size ≤ maxLen) (ha : 0 ≤ at_) (ha2 : at_ ≤ 1000000) (Post : Ending → World → Prop)
    (hyes : ∀ sv w', w'.ownsRow w.heap.size 77 4 sv (byteOr (-1) s at_).toNat (opCells (opsAt (-1) s (at_ + 1) (byteOr (-1) s at_).toNat)) → Below w.heap.size w w' →
      Post (.returned (.agg #[sv, .int .i64 (byteOr (-1) s (at_ + 1 + 4 * (byteOr (-1) s at_).toNat)), .int .i64 (byteOr (-1) s (at_ + 1 + 4 * (byteOr (-1) s at_).toNat + 1)), .int .i64 (byteOr (-1) s (at_ + 1 + 4 * (byteOr (-1) s at_).toNat + 2)), .int .i64 (byteOr (-1) s (at_ + 1 + 4 * (byteOr (-1) s at_).toNat + 3))])) w') :
    Calls Tryz.prog 101 #[.string s, .int .i64 at_] w Post := by
  obtain ⟨i0, ii, iz0, iz1, iz2⟩ := info_parts Tryz.infoOp
  have hcb := byteOr_bd (-1) s at_ (by omega)
  generalize hcn : byteOr (-1) s at_ = c at *
  go_enter Tryz.func101, Tryz.ntmps101
  go_wp2_with (go_at_call 100; refine (byteAt_any _ _ _ hs).mono ?_; rintro e w' ⟨rfl, rfl⟩)
  clear hcn
  go_loopw [7, 8] (fun nx i wr => ∃ (k : Nat) (sv : Value), k ≤ c.toNat ∧ i = .int .i64 k ∧ nx = .int .i64 (at_ + 1 + 4 * k) ∧ wr.cell? ⟨w.heap.size + 1, 0, none⟩ = some sv ∧
      wr.cell? ⟨w.heap.size + 1, 1, none⟩ = some (.int .i64 0) ∧ wr.cell? ⟨w.heap.size + 1, 2, none⟩ = some (.int .i64 0) ∧ wr.cell? ⟨w.heap.size + 1, 3, none⟩ = some (.int .i64 0) ∧ wr.cell? ⟨w.heap.size + 1, 4, none⟩ = some (.int .i64 0) ∧ (∀ o, wr.frozen? ⟨w.heap.size + 1, o, none⟩ = false) ∧
      wr.ownsRow (w.heap.size + 2) 77 4 sv k (opCells (opsAt (-1) s (at_ + 1) k)) ∧ Below (w.heap.size + 1) (w.alloc (.cells #[.slice none 0 0, .int .i64 0, .int .i64 0, .int .i64 0, .int .i64 0] 40)) wr ∧ w.heap.size + 2 ≤ wr.heap.size)
    (fun _ i _ => c.toNat - (intOf i).toNat)
  case atStart =>
    refine ⟨0, .slice none 0 0, Nat.zero_le _, rfl, by simp, by simp, by simp, by simp, by simp, by simp, by simp, World.ownsRow_nil _ _ _ _, ?_, by simp⟩
    exact (Below.refl _ _).alloc (by simp) _
  case round =>
    obtain ⟨k, sv, hk, rfl, rfl, hx0, hx1, hx2, hx3, hx4, hxf, hown, hbel, hz⟩ := hrel
    obtain ⟨ao, cp, rfl⟩ := owns_slice hown
    have hzl : w.heap.size + 1 < wr.heap.size := by omega
    have hzm : w.heap.size < wr.heap.size := by omega
    have f0 := hxf 0
    have f1 := hxf 1
    have f2 := hxf 2
    have f3 := hxf 3
    have f4 := hxf 4
    by_cases hlt : (k : Int) < c
    · have HS : Hid (opsAt (-1) s (at_ + 1) (k + 1) = opsAt (-1) s (at_ + 1) k ++ [⟨byteOr (-1) s (at_ + 1 + 4 * k), byteOr (-1) s (at_ + 1 + 4 * k + 1), byteOr (-1) s (at_ + 1 + 4 * k + 2), byteOr (-1) s (at_ + 1 + 4 * k + 3)⟩]) := rfl
      go_wp2_with (first | (go_at_call 100; refine (byteAt_any _ _ _ hs).mono ?_; rintro e w' ⟨rfl, rfl⟩) | (at_builtin; refine wpList_append_own _ rfl _ _ 38 rfl (w.heap.size + 2) 77 i0 (.agg #[.int .i64 0, .int .i64 0, .int .i64 0, .int .i64 0]) 4 32 Tryz.underlying38 ii iz0 iz1 iz2 rfl (by decide) _ _ _ rfl ((hown.alloc _).alloc _) ⟨wr.heap.size + 1, 0, none⟩ 1 1 [.int .i64 (byteOr (-1) s (at_ + 1 + 4 * k)), .int .i64 (byteOr (-1) s (at_ + 1 + 4 * k + 1)), .int .i64 (byteOr (-1) s (at_ + 1 + 4 * k + 2)), .int .i64 (byteOr (-1) s (at_ + 1 + 4 * k + 3))] rfl rfl ?c1 four_one ?c3 ?c4 ?c5 ?_))
      case c1 => simpa using four_new (wr.alloc _) _ _ _ _ _
      case c3 => unfold maxLen; omega
      case c4 => omega
      case c5 => first | omega | (simp; omega)
      intro v' w1 hown' hgrow _
      rw [← opCells_snoc, ← HS.out] at hown'
      have hb2 := ((((Below.refl (w.heap.size + 2) wr).alloc hz _).alloc (by simp; omega) _).grown hgrow (by simp; omega) (fun g hg => (hown.lt g hg).1))
      have y0 := (hb2.cell (p := ⟨w.heap.size + 1, 0, none⟩) (by simp)).trans hx0
      have y1 := (hb2.cell (p := ⟨w.heap.size + 1, 1, none⟩) (by simp)).trans hx1
      have y2 := (hb2.cell (p := ⟨w.heap.size + 1, 2, none⟩) (by simp)).trans hx2
      have y3 := (hb2.cell (p := ⟨w.heap.size + 1, 3, none⟩) (by simp)).trans hx3
      have y4 := (hb2.cell (p := ⟨w.heap.size + 1, 4, none⟩) (by simp)).trans hx4
      have yf : ∀ o, w1.frozen? ⟨w.heap.size + 1, o, none⟩ = false := fun o => (hb2.frozen (p := ⟨w.heap.size + 1, o, none⟩) (by simp)).trans (hxf o)
      have yf0 := yf 0
      have hz2 := hb2.size
      have hb3 := (hbel.trans (hb2.mono (by omega)))
      obtain ⟨ao', cp', rfl⟩ := owns_slice hown'
      clear hgrow hown hx0 hx1 hx2 hx3 hx4 hxf f0 f1 f2 f3 f4 hb2 hbel
      have YF : Hid (∀ o, w1.frozen? ⟨w.heap.size + 1, o, none⟩ = false) := yf
      clear yf
      go_wp2
      go_roundw
      case rel =>
        refine ⟨k + 1, _, by omega, by go_num, by go_num, cell_set y0, cell_unset (by simp) y1, cell_unset (by simp) y2, cell_unset (by simp) y3, cell_unset (by simp) y4, fun o => by simp [YF.out o], ownsRow_setCell_below hown' (by simp) _, hb3.setCell (by simp) _, by simp; omega⟩
      case measure => simp [intOf]; omega
    · obtain rfl : k = c.toNat := by omega
      have r0 : wr.cell? ⟨w.heap.size, 0, none⟩ = some (.slice none 0 0) := (hbel.cell (by simp)).trans (by simp)
      have r1 : wr.cell? ⟨w.heap.size, 1, none⟩ = some (.int .i64 0) := (hbel.cell (by simp)).trans (by simp)
      have r2 : wr.cell? ⟨w.heap.size, 2, none⟩ = some (.int .i64 0) := (hbel.cell (by simp)).trans (by simp)
      have r3 : wr.cell? ⟨w.heap.size, 3, none⟩ = some (.int .i64 0) := (hbel.cell (by simp)).trans (by simp)
      have r4 : wr.cell? ⟨w.heap.size, 4, none⟩ = some (.int .i64 0) := (hbel.cell (by simp)).trans (by simp)
      have g0 : wr.frozen? ⟨w.heap.size, 0, none⟩ = false := (hbel.frozen (by simp)).trans (by simp)
      have g1 : wr.frozen? ⟨w.heap.size, 1, none⟩ = false := (hbel.frozen (by simp)).trans (by simp)
      have g2 : wr.frozen? ⟨w.heap.size, 2, none⟩ = false := (hbel.frozen (by simp)).trans (by simp)
      have g3 : wr.frozen? ⟨w.heap.size, 3, none⟩ = false := (hbel.frozen (by simp)).trans (by simp)
      have g4 : wr.frozen? ⟨w.heap.size, 4, none⟩ = false := (hbel.frozen (by simp)).trans (by simp)
      have HY : Hid (∀ sv w', w'.ownsRow w.heap.size 77 4 sv c.toNat (opCells (opsAt (-1) s (at_ + 1) c.toNat)) → Below w.heap.size w w' → Post (.returned (.agg #[sv, .int .i64 (byteOr (-1) s (at_ + 1 + 4 * c.toNat)), .int .i64 (byteOr (-1) s (at_ + 1 + 4 * c.toNat + 1)), .int .i64 (byteOr (-1) s (at_ + 1 + 4 * c.toNat + 2)), .int .i64 (byteOr (-1) s (at_ + 1 + 4 * c.toNat + 3))])) w') := hyes
      clear hyes
      have hb0 := Below.under hbel
      go_wp2_with (go_at_call 100; refine (byteAt_any _ _ _ hs).mono ?_; rintro e w' ⟨rfl, rfl⟩)
      refine bodyPost_ret (v := .agg #[.slice ao c.toNat cp, .int .i64 (byteOr (-1) s (at_ + 1 + 4 * c.toNat)), .int .i64 (byteOr (-1) s (at_ + 1 + 4 * c.toNat + 1)), .int .i64 (byteOr (-1) s (at_ + 1 + 4 * c.toNat + 2)), .int .i64 (byteOr (-1) s (at_ + 1 + 4 * c.toNat + 3))]) (by simp [results, Tryz.results101, go_sem, r0, r1, r2, r3, r4]) rfl (HY.out _ _ ?_ ?_)
      · refine owns_base (base := w.heap.size + 2) ?_ (by omega)
        repeat (refine ownsRow_setCell_below ?_ (by simp) _)
        exact hown
      · repeat (refine Below.setCell ?_ (by simp) _)
        exact hb0

end Go.Proofs.YtblhmeidbjigaaaGreatDoor

/- DecodeProgram in the codec. -/
set_option linter.unusedSimpArgs false
set_option linter.unusedVariables false
namespace Go.Proofs.YtblhmeidbjigaaaGreatDoor
open Go.RowKit

set_option maxHeartbeats 400000 in
theorem blockSize_any (so : Option Addr) (n sc : Nat) (k r x y : Int) (w : World) (hn : n ≤ 1000) :
    Calls Tryz.prog 102 #[.agg #[.slice so n sc, .int .i64 k, .int .i64 r, .int .i64 x, .int .i64 y]] w fun e w' => e = .returned (.int .i64 (1 + 4 * n + 4)) ∧ Below w.heap.size w w' := by
  go_enter Tryz.func102, Tryz.ntmps102
  go_wp2
  go_ret
  exact ⟨by simp, (Below.refl _ _).alloc (Nat.le_refl _) _⟩

/-- Where the k-th block begins. -/
def patOf (s : ByteArray) : Nat → Int
  | 0 => 7
  | k + 1 => patOf s k + (1 + 4 * (byteOr (-1) s (patOf s k)).toNat + 4)

def blkAt (d : Int) (s : ByteArray) (p : Int) (n : Nat) : BlockD := ⟨opsAt d s (p + 1) n, finAt d s (p + 1 + 4 * n)⟩

/-- The first k blocks that are read. -/
def blocksOf (s : ByteArray) : Nat → List BlockD
  | 0 => []
  | k + 1 => blocksOf s k ++ [blkAt (-1) s (patOf s k) (byteOr (-1) s (patOf s k)).toNat]

theorem patOf_bd (s : ByteArray) (k : Nat) : 7 ≤ patOf s k ∧ patOf s k ≤ 7 + 1025 * k := by
  induction k with
  | zero => simp [patOf]
  | succ k ih =>
    have := byteOr_bd (-1) s (patOf s k) (by omega)
    simp only [patOf]
    omega

/-- The program that is read. -/
def progOf (s : ByteArray) : ProgD := ⟨byteOr (-1) s 2, byteOr (-1) s 3, byteOr (-1) s 4, byteOr (-1) s 5, blocksOf s (byteOr (-1) s 6).toNat⟩

def readsProg (s : ByteArray) : Bool :=
  decide (byteOr (-1) s 0 = 84) && decide (byteOr (-1) s 1 = 87) && decide (patOf s (byteOr (-1) s 6).toNat = s.size) && progGood (progOf s)

set_option maxRecDepth 100000 in
set_option maxHeartbeats 4000000 in
theorem cDecode_cps (s : ByteArray) (w : World) (hs : s.size ≤ maxLen) (Post : Ending → World → Prop)
    (hyes : ∀ v bv w', readsProg s = true → OwnBlocks w' w.heap.size v bv → bdat bv = (progOf s).blocks → Below w.heap.size w w' → Post (.returned (.tuple #[.agg #[.int .i64 (byteOr (-1) s 2), .int .i64 (byteOr (-1) s 3), .int .i64 (byteOr (-1) s 4), .int .i64 (byteOr (-1) s 5), v], .int .i64 0])) w')
    (hno : ∀ w', readsProg s = false → Below w.heap.size w w' → Post (.returned (.tuple #[.agg #[.int .i64 0, .int .i64 0, .int .i64 0, .int .i64 0, .slice none 0 0], .int .i64 1])) w') :
    Calls Tryz.prog 65 #[.string s] w Post := by
  obtain ⟨i0, ii, iz0, iz1, iz2⟩ := info_parts Tryz.infoBlk
  have hcb := byteOr_bd (-1) s 6 (by omega)
  have hsz := hs
  unfold maxLen at hsz
  by_cases h0 : byteOr (-1) s 0 = 84
  case neg =>
    have hRf : readsProg s = false := by simp [readsProg, h0]
    have hno' := fun w' => hno w' hRf
    clear hno hyes hRf
    have hb : (byteOr (-1) s 0 != 84) = true := by simp [h0]
    go_enter Tryz.func65, Tryz.ntmps65
    go_wp2_with (go_at_call 100; refine (byteAt_any _ _ _ hs).mono ?_; rintro e w' ⟨rfl, rfl⟩)
    exact bodyPost_ret (v := .tuple #[.agg #[.int .i64 0, .int .i64 0, .int .i64 0, .int .i64 0, .slice none 0 0], .int .i64 1]) (by simp [results, Tryz.results65, go_sem]) rfl (hno' _ ((Below.refl _ _).alloc (Nat.le_refl _) _))
  by_cases h1 : byteOr (-1) s 1 = 87
  case neg =>
    have hRf : readsProg s = false := by simp [readsProg, h1]
    have hno' := fun w' => hno w' hRf
    clear hno hyes hRf
    have hb : (byteOr (-1) s 1 != 87) = true := by simp [h1]
    go_enter Tryz.func65, Tryz.ntmps65
    go_wp2_with (go_at_call 100; refine (byteAt_any _ _ _ hs).mono ?_; rintro e w' ⟨rfl, rfl⟩)
    exact bodyPost_ret (v := .tuple #[.agg #[.int .i64 0, .int .i64 0, .int .i64 0, .int .i64 0, .slice none 0 0], .int .i64 1]) (by simp [results, Tryz.results65, go_sem]) rfl (hno' _ ((Below.refl _ _).alloc (Nat.le_refl _) _))
  have HR : Hid (readsProg s = (decide (patOf s (byteOr (-1) s 6).toNat = s.size) && progGood (progOf s))) := by show _ = _; simp [readsProg, h0, h1]
  have HPO : Hid (progOf s = ⟨byteOr (-1) s 2, byteOr (-1) s 3, byteOr (-1) s 4, byteOr (-1) s 5, blocksOf s (byteOr (-1) s 6).toNat⟩) := rfl
  generalize hcn : byteOr (-1) s 6 = c at *
  generalize ha2 : byteOr (-1) s 2 = a2 at *
  generalize ha3 : byteOr (-1) s 3 = a3 at *
  generalize ha4 : byteOr (-1) s 4 = a4 at *
  generalize ha5 : byteOr (-1) s 5 = a5 at *
  have HY : Hid (∀ v bv w', readsProg s = true → OwnBlocks w' w.heap.size v bv → bdat bv = (progOf s).blocks → Below w.heap.size w w' → Post (.returned (.tuple #[.agg #[.int .i64 a2, .int .i64 a3, .int .i64 a4, .int .i64 a5, v], .int .i64 0])) w') := hyes
  have HN : Hid (∀ w', readsProg s = false → Below w.heap.size w w' → Post (.returned (.tuple #[.agg #[.int .i64 0, .int .i64 0, .int .i64 0, .int .i64 0, .slice none 0 0], .int .i64 1])) w') := hno
  clear hyes hno
  go_enter Tryz.func65, Tryz.ntmps65
  go_wp2_with (go_at_call 100; refine (byteAt_any _ _ _ hs).mono ?_; rintro e w' ⟨rfl, rfl⟩)
  clear hcn h0 h1 ha2 ha3 ha4 ha5
  go_loopw [6, 7] (fun p i wr => ∃ (k : Nat) (v : Value) (bv : List (BlockD × Value)), k ≤ c.toNat ∧ i = .int .i64 k ∧ p = .int .i64 (patOf s k) ∧ wr.cell? ⟨w.heap.size + 1, 0, none⟩ = some (.int .i64 a2) ∧ wr.cell? ⟨w.heap.size + 1, 1, none⟩ = some (.int .i64 a3) ∧ wr.cell? ⟨w.heap.size + 1, 2, none⟩ = some (.int .i64 a4) ∧ wr.cell? ⟨w.heap.size + 1, 3, none⟩ = some (.int .i64 a5) ∧
      wr.cell? ⟨w.heap.size + 1, 4, none⟩ = some v ∧ wr.frozen? ⟨w.heap.size + 1, 4, none⟩ = false ∧ OwnBlocks wr (w.heap.size + 2) v bv ∧ Hid (bdat bv = blocksOf s k) ∧ Hid (bv.length = k) ∧ Below (w.heap.size + 1) (w.alloc (.cells #[.int .i64 0, .int .i64 0, .int .i64 0, .int .i64 0, .slice none 0 0] 33)) wr ∧ w.heap.size + 2 ≤ wr.heap.size)
    (fun _ i _ => c.toNat - (intOf i).toNat)
  case atStart =>
    refine ⟨0, .slice none 0 0, [], Nat.zero_le _, rfl, rfl, by simp, by simp, by simp, by simp, by simp, by simp, ownBlocks_nil _ _, rfl, rfl, ?_, by simp⟩
    exact (Below.refl _ _).alloc (by simp) _
  case round =>
    obtain ⟨k, v, bv, hk, rfl, rfl, hx0, hx1, hx2, hx3, hx4, hxf, hown, hdt, hvl, hbel, hz⟩ := hrel
    obtain ⟨ao, cp, rfl⟩ := owns_slice hown.row
    have hzl : w.heap.size + 1 < wr.heap.size := by omega
    have hzm : w.heap.size < wr.heap.size := by omega
    have hab := patOf_bd s k
    by_cases hlt : (k : Int) < c
    · go_wp2_with fail
      refine blockAt_cps s _ _ hs (by omega) (by omega) _ ?_
      intro sv w1 hsv hb1
      have HX : Hid (blocksOf s (k + 1) = blocksOf s k ++ [⟨opsAt (-1) s (patOf s k + 1) (byteOr (-1) s (patOf s k)).toNat, ⟨byteOr (-1) s (patOf s k + 1 + 4 * (byteOr (-1) s (patOf s k)).toNat), byteOr (-1) s (patOf s k + 1 + 4 * (byteOr (-1) s (patOf s k)).toNat + 1), byteOr (-1) s (patOf s k + 1 + 4 * (byteOr (-1) s (patOf s k)).toNat + 2), byteOr (-1) s (patOf s k + 1 + 4 * (byteOr (-1) s (patOf s k)).toNat + 3)⟩⟩]) := rfl
      have HA : Hid (patOf s (k + 1) = patOf s k + (1 + 4 * (byteOr (-1) s (patOf s k)).toNat + 4)) := rfl
      have hmb := byteOr_bd (-1) s (patOf s k) (by omega)
      have hpl := opsAt_length (-1) s (patOf s k + 1) (byteOr (-1) s (patOf s k)).toNat
      have hm : (byteOr (-1) s (patOf s k)).toNat ≤ 255 := by omega
      clear hmb
      generalize (byteOr (-1) s (patOf s k)).toNat = m at *
      generalize byteOr (-1) s (patOf s k + 1 + 4 * m) = e1 at *
      generalize byteOr (-1) s (patOf s k + 1 + 4 * m + 1) = e2 at *
      generalize byteOr (-1) s (patOf s k + 1 + 4 * m + 2) = e3 at *
      generalize byteOr (-1) s (patOf s k + 1 + 4 * m + 3) = e4 at *
      generalize opsAt (-1) s (patOf s k + 1) m = ps at *
      subst hpl
      obtain ⟨so, sc, rfl⟩ := owns_slice hsv
      have own1 := hown.below hb1 (Nat.le_refl _)
      have x0 := (hb1.cell (p := ⟨w.heap.size + 1, 0, none⟩) hzl).trans hx0
      have x1 := (hb1.cell (p := ⟨w.heap.size + 1, 1, none⟩) hzl).trans hx1
      have x2 := (hb1.cell (p := ⟨w.heap.size + 1, 2, none⟩) hzl).trans hx2
      have x3 := (hb1.cell (p := ⟨w.heap.size + 1, 3, none⟩) hzl).trans hx3
      have x4 := (hb1.cell (p := ⟨w.heap.size + 1, 4, none⟩) hzl).trans hx4
      have xf := (hb1.frozen (p := ⟨w.heap.size + 1, 4, none⟩) hzl).trans hxf
      have hz1 := hb1.size
      have hzl1 : w.heap.size + 1 < w1.heap.size := by omega
      go_wp2_with (at_builtin; refine wpList_append_own _ rfl _ _ 31 rfl (w.heap.size + 2) 40 i0 (.agg #[.slice none 0 0, .int .i64 0, .int .i64 0, .int .i64 0, .int .i64 0]) 5 56 Tryz.underlying31 ii iz0 iz1 iz2 rfl (by decide) _ _ _ rfl ((own1.row.alloc _).alloc _) ⟨w1.heap.size + 1, 0, none⟩ 1 1 [.slice so ps.length sc, .int .i64 e1, .int .i64 e2, .int .i64 e3, .int .i64 e4] rfl rfl ?c1 five_one ?c3 ?c4 ?c5 ?_)
      case c1 => simpa using five_new (w1.alloc _) _ _ _ _ _ _
      case c3 => have := hvl.out; unfold maxLen; omega
      case c4 => have := hvl.out; omega
      case c5 => first | omega | (simp; omega)
      intro v' w2 hown' hgrow _
      have hne : ∀ g, w1.heap.size ≤ g → some g ≠ (Value.slice ao bv.length cp).ownBlock := fun g hg e => by have := (own1.row.lt _ e.symm).2; omega
      have own2 : OwnBlocks w2 (w.heap.size + 2) v' (bv ++ [(⟨ps, ⟨e1, e2, e3, e4⟩⟩, .slice so ps.length sc)]) := by
        refine ((own1.alloc _).alloc _).snoc ((owns_base hsv (by omega)).alloc _ |>.alloc _) ?_ hgrow hown'
        intro y hy g hg e
        have q1 := ((hown.each y hy).lt g hg).2
        have q2 := (hsv.lt g e).1
        omega
      have hb2 := ((((Below.refl (w.heap.size + 2) w1).alloc (by omega) _).alloc (by simp; omega) _).grown hgrow (by simp; omega) (fun g hg => (own1.row.lt g hg).1))
      have y0 := (hb2.cell (p := ⟨w.heap.size + 1, 0, none⟩) (by simp)).trans x0
      have y1 := (hb2.cell (p := ⟨w.heap.size + 1, 1, none⟩) (by simp)).trans x1
      have y2 := (hb2.cell (p := ⟨w.heap.size + 1, 2, none⟩) (by simp)).trans x2
      have y3 := (hb2.cell (p := ⟨w.heap.size + 1, 3, none⟩) (by simp)).trans x3
      have y4 := (hb2.cell (p := ⟨w.heap.size + 1, 4, none⟩) (by simp)).trans x4
      have yf := (hb2.frozen (p := ⟨w.heap.size + 1, 4, none⟩) (by simp)).trans xf
      have z0 : w2.cell? ⟨w1.heap.size, 0, none⟩ = some (.slice so ps.length sc) := hgrow.cell (by simp) (hne _ (Nat.le_refl _))
      have z1 : w2.cell? ⟨w1.heap.size, 1, none⟩ = some (.int .i64 e1) := hgrow.cell (by simp) (hne _ (Nat.le_refl _))
      have z2 : w2.cell? ⟨w1.heap.size, 2, none⟩ = some (.int .i64 e2) := hgrow.cell (by simp) (hne _ (Nat.le_refl _))
      have z3 : w2.cell? ⟨w1.heap.size, 3, none⟩ = some (.int .i64 e3) := hgrow.cell (by simp) (hne _ (Nat.le_refl _))
      have z4 : w2.cell? ⟨w1.heap.size, 4, none⟩ = some (.int .i64 e4) := hgrow.cell (by simp) (hne _ (Nat.le_refl _))
      have hz2 := hb2.size
      have hzl2 : w.heap.size + 1 < w2.heap.size := by omega
      have hzn : w1.heap.size ≠ w.heap.size + 1 := by omega
      have hb3 := (hbel.trans (hb1.mono (by omega))).trans (hb2.mono (by omega))
      obtain ⟨ao', cp', hv'⟩ := owns_slice own2.row
      rw [List.length_append] at hv'
      simp only [List.length_cons, List.length_nil, Nat.zero_add] at hv'
      subst hv'
      have z0' : ∀ u, (w2.setCell ⟨w.heap.size + 1, 4, none⟩ u).cell? ⟨w1.heap.size, 0, none⟩ = some (.slice so ps.length sc) := fun u => cell_unset (by simp) z0
      have z1' : ∀ u, (w2.setCell ⟨w.heap.size + 1, 4, none⟩ u).cell? ⟨w1.heap.size, 1, none⟩ = some (.int .i64 e1) := fun u => cell_unset (by simp) z1
      have z2' : ∀ u, (w2.setCell ⟨w.heap.size + 1, 4, none⟩ u).cell? ⟨w1.heap.size, 2, none⟩ = some (.int .i64 e2) := fun u => cell_unset (by simp) z2
      have z3' : ∀ u, (w2.setCell ⟨w.heap.size + 1, 4, none⟩ u).cell? ⟨w1.heap.size, 3, none⟩ = some (.int .i64 e3) := fun u => cell_unset (by simp) z3
      have z4' : ∀ u, (w2.setCell ⟨w.heap.size + 1, 4, none⟩ u).cell? ⟨w1.heap.size, 4, none⟩ = some (.int .i64 e4) := fun u => cell_unset (by simp) z4
      clear hgrow hown hown' own1 hsv hx0 hx1 hx2 hx3 hx4 hxf x0 x1 x2 x3 x4 xf hb2 hbel hne
      go_wp2_with fail
      refine (blockSize_any _ _ _ _ _ _ _ _ (by omega)).mono ?_
      rintro e w3 ⟨rfl, hb4⟩
      have own3 := (own2.set (a := ⟨w.heap.size + 1, 4, none⟩) (by simp) _).below hb4 (Nat.le_refl _)
      have hs3 := hb4.size
      have hlt3 : w.heap.size + 1 < (w2.setCell ⟨w.heap.size + 1, 4, none⟩ (.slice ao' (bv.length + 1) cp')).heap.size := by simp; omega
      have v0 := (hb4.cell (p := ⟨w.heap.size + 1, 0, none⟩) hlt3).trans (cell_unset (by simp) y0)
      have v1 := (hb4.cell (p := ⟨w.heap.size + 1, 1, none⟩) hlt3).trans (cell_unset (by simp) y1)
      have v2 := (hb4.cell (p := ⟨w.heap.size + 1, 2, none⟩) hlt3).trans (cell_unset (by simp) y2)
      have v3 := (hb4.cell (p := ⟨w.heap.size + 1, 3, none⟩) hlt3).trans (cell_unset (by simp) y3)
      have v4 := (hb4.cell (p := ⟨w.heap.size + 1, 4, none⟩) hlt3).trans (cell_set y4)
      have vf := (hb4.frozen (p := ⟨w.heap.size + 1, 4, none⟩) hlt3).trans (by simpa using yf)
      have hb5 := (hb3.setCell (p := ⟨w.heap.size + 1, 4, none⟩) (by simp) _).trans (hb4.mono (by simp; omega))
      simp at hs3
      clear hb4 own2 hb3 y0 y1 y2 y3 y4 yf z0 z1 z2 z3 z4 z0' z1' z2' z3' z4' hlt3
      go_wp2
      go_roundw
      case rel =>
        refine ⟨k + 1, _, _, by omega, by go_num, by rw [HA.out], v0, v1, v2, v3, v4, vf, own3, ?_, ?_, hb5, by omega⟩
        · show bdat _ = _
          rw [HX.out, ← hdt.out]; simp [bdat]
        · show List.length _ = _
          have := hvl.out
          simp; exact this
      case measure => simp [intOf]; omega
    · obtain rfl : k = c.toNat := by omega
      have r0 : wr.cell? ⟨w.heap.size, 0, none⟩ = some (.int .i64 0) := (hbel.cell (by simp)).trans (by simp)
      have r1 : wr.cell? ⟨w.heap.size, 1, none⟩ = some (.int .i64 0) := (hbel.cell (by simp)).trans (by simp)
      have r2 : wr.cell? ⟨w.heap.size, 2, none⟩ = some (.int .i64 0) := (hbel.cell (by simp)).trans (by simp)
      have r3 : wr.cell? ⟨w.heap.size, 3, none⟩ = some (.int .i64 0) := (hbel.cell (by simp)).trans (by simp)
      have r4 : wr.cell? ⟨w.heap.size, 4, none⟩ = some (.slice none 0 0) := (hbel.cell (by simp)).trans (by simp)
      have rf : ∀ o, wr.frozen? ⟨w.heap.size, o, none⟩ = false := fun o => (hbel.frozen (by simp)).trans (by simp)
      have hb0 := Below.under hbel
      have hrd := hown.rd
      rw [hdt.out] at hrd
      have hwm := wmProg_any a2 a3 a4 a5 _ _ wr hrd
      have hpe : Hid (progGood (progOf s) = progGood ⟨a2, a3, a4, a5, blocksOf s c.toNat⟩) := by show _ = _; rw [HPO.out]
      by_cases he : patOf s c.toNat = s.size
      case neg =>
        have hRf : readsProg s = false := by rw [HR.out]; simp [he]
        have hno' := fun w' => HN.out w' hRf
        clear HN HY hRf HR hpe HPO hwm
        have hb : (patOf s c.toNat != (s.size : Int)) = true := by simp [he]
        have f0 := rf 0
        have f1 := rf 1
        have f2 := rf 2
        have f3 := rf 3
        have f4 := rf 4
        clear rf
        go_wp2
        refine bodyPost_ret (v := .tuple #[.agg #[.int .i64 0, .int .i64 0, .int .i64 0, .int .i64 0, .slice none 0 0], .int .i64 1]) (by simp [results, Tryz.results65, go_sem, r0, r1, r2, r3, r4]) rfl (hno' _ ?_)
        repeat (refine Below.setCell ?_ (by simp) _)
        exact hb0
      have hb : (patOf s c.toNat != (s.size : Int)) = false := by simp [he]
      go_wp2_with fail
      refine hwm.mono ?_
      clear hwm
      rintro e w1 ⟨rfl, hb1⟩
      have x0 := cell_keep hb1 r0
      have x1 := cell_keep hb1 r1
      have x2 := cell_keep hb1 r2
      have x3 := cell_keep hb1 r3
      have x4 := cell_keep hb1 r4
      have xf : ∀ o, w1.frozen? ⟨w.heap.size, o, none⟩ = false := fun o => (hb1.frozen (p := ⟨w.heap.size, o, none⟩) hzm).trans (rf o)
      have f0 := xf 0
      have f1 := xf 1
      have f2 := xf 2
      have f3 := xf 3
      have f4 := xf 4
      have y0 := cell_keep hb1 hx0
      have y1 := cell_keep hb1 hx1
      have y2 := cell_keep hb1 hx2
      have y3 := cell_keep hb1 hx3
      have y4 := cell_keep hb1 hx4
      have hb2 := hb0.trans (hb1.mono (by omega))
      have own1 := hown.below hb1 (Nat.le_refl _)
      clear rf xf r0 r1 r2 r3 r4 hx0 hx1 hx2 hx3 hx4 hxf hrd hown hb1
      cases hg : progGood ⟨a2, a3, a4, a5, blocksOf s c.toNat⟩
      · have hRf : readsProg s = false := by rw [HR.out, hpe.out, hg]; simp
        have hno' := fun w' => HN.out w' hRf
        clear HN HY hRf HR hpe HPO
        go_wp2
        refine bodyPost_ret (v := .tuple #[.agg #[.int .i64 0, .int .i64 0, .int .i64 0, .int .i64 0, .slice none 0 0], .int .i64 1]) (by simp [results, Tryz.results65, go_sem, x0, x1, x2, x3, x4]) rfl (hno' _ ?_)
        repeat (refine Below.setCell ?_ (by simp) _)
        exact hb2
      · have hRf : readsProg s = true := by rw [HR.out, hpe.out, hg]; simp [he]
        have HY' : Hid (∀ w', OwnBlocks w' w.heap.size (.slice ao bv.length cp) bv → Below w.heap.size w w' → Post (.returned (.tuple #[.agg #[.int .i64 a2, .int .i64 a3, .int .i64 a4, .int .i64 a5, .slice ao bv.length cp], .int .i64 0])) w') :=
          fun w' h1 h2 => HY.out _ bv w' hRf h1 (by rw [HPO.out]; exact hdt.out) h2
        clear HN HY hRf HR hpe HPO
        go_wp2
        refine bodyPost_ret (v := .tuple #[.agg #[.int .i64 a2, .int .i64 a3, .int .i64 a4, .int .i64 a5, .slice ao bv.length cp], .int .i64 0]) (by simp [results, Tryz.results65, go_sem, x0, x1, x2, x3, x4]) rfl (HY'.out _ ?_ ?_)
        · refine OwnBlocks.base (base := w.heap.size + 2) ?_ (by omega)
          repeat (refine OwnBlocks.set ?_ (by simp) _)
          exact own1
        · repeat (refine Below.setCell ?_ (by simp) _)
          exact hb2

end Go.Proofs.YtblhmeidbjigaaaGreatDoor

/- Texts of programs: what is read is what was written. -/
set_option linter.unusedSimpArgs false
set_option linter.unusedVariables false
namespace Go.Proofs.YtblhmeidbjigaaaGreatDoor
open Go.RowKit

def oct4 (a b c d : Int) : Prop := (0 ≤ a ∧ a < 256) ∧ (0 ≤ b ∧ b < 256) ∧ (0 ≤ c ∧ c < 256) ∧ (0 ≤ d ∧ d < 256)

theorem opGood_oct {regs slots : Int} {o : OpD} (h : opGood regs slots o = true) (hr : regs ≤ 8) (hs : slots ≤ 8) : oct4 o.kind o.a o.b o.c := by
  unfold oct4
  simp only [opGood, below] at h
  repeat' split at h
  all_goals first | (simp at h; done) | (simp at h; omega)

theorem endGood_oct {regs n : Int} {e : EndD} (h : endGood regs n e = true) (hr : regs ≤ 8) (hn : n ≤ 6) : oct4 e.kind e.r e.x e.y := by
  unfold oct4
  simp only [endGood, below] at h
  repeat' split at h
  all_goals first | (simp at h; done) | (simp at h; omega)

theorem opsText_get (l : List OpD) (i : Nat) (hi : i < l.length) : (opsText l)[i * 4]? = some (byt (okind l i)) ∧ (opsText l)[i * 4 + 1]? = some (byt (oa l i)) ∧ (opsText l)[i * 4 + 2]? = some (byt (ob l i)) ∧ (opsText l)[i * 4 + 3]? = some (byt (oc l i)) := by
  induction l generalizing i with
  | nil => simp at hi
  | cons p r ih =>
    cases i with
    | zero => exact ⟨rfl, rfl, rfl, rfl⟩
    | succ i =>
      have h := ih i (by simpa using hi)
      have e1 : (i + 1) * 4 = i * 4 + 1 + 1 + 1 + 1 := by omega
      rw [e1]
      exact h

def opsOk (l : List OpD) : Prop := ∀ i, i < l.length → oct4 (okind l i) (oa l i) (ob l i) (oc l i)

theorem byte_mid {d : Int} {l a b c : List UInt8} {o i : Nat} {x : Int} {q : Int} (hl : l = a ++ b ++ c) (ho : a.length = o) (h : b[i]? = some (byt x)) (h0 : 0 ≤ x) (h1 : x < 256) (hq : q = ((o + i : Nat) : Int)) : byteOr d (str l) q = x := by
  rw [hq, byteOr_str (get_mid hl ho h), byt_toNat h0 h1]

theorem opsAt_text {d : Int} {l a c : List UInt8} {ps : List OpD} {o : Nat} (hl : l = a ++ opsText ps ++ c) (ho : a.length = o) (hok : opsOk ps) (k : Nat) (hk : k ≤ ps.length) : opsAt d (str l) o k = ps.take k := by
  induction k with
  | zero => rfl
  | succ k ih =>
    have hk' : k < ps.length := by omega
    obtain ⟨g1, g2, g3, g4⟩ := opsText_get ps k hk'
    obtain ⟨o1, o2, o3, o4⟩ := hok k hk'
    have e1 : byteOr d (str l) ((o : Int) + 4 * k) = okind ps k := byte_mid hl ho g1 o1.1 o1.2 (by omega)
    have e2 : byteOr d (str l) ((o : Int) + 4 * k + 1) = oa ps k := byte_mid hl ho g2 o2.1 o2.2 (by omega)
    have e3 : byteOr d (str l) ((o : Int) + 4 * k + 2) = ob ps k := byte_mid hl ho g3 o3.1 o3.2 (by omega)
    have e4 : byteOr d (str l) ((o : Int) + 4 * k + 3) = oc ps k := byte_mid hl ho g4 o4.1 o4.2 (by omega)
    rw [opsAt, ih (by omega), e1, e2, e3, e4, take_getD ps oz k hk']
    rfl

theorem progText_split (p : ProgD) {k : Nat} (hk : k < p.blocks.length) :
    progText p = (headText p ++ (p.blocks.take k).flatMap blockText) ++ blockText (p.blocks.getD k bz) ++ (p.blocks.drop (k + 1)).flatMap blockText := by
  unfold progText
  have e : p.blocks = p.blocks.take k ++ (p.blocks.getD k bz :: p.blocks.drop (k + 1)) := by rw [← drop_getD p.blocks bz k hk, List.take_append_drop]
  conv => lhs; arg 2; rw [e]
  simp [List.flatMap_append, List.flatMap_cons]

/-- Where the k-th block begins in the text of p. -/
def poff (p : ProgD) (k : Nat) : Nat := 7 + ((p.blocks.take k).flatMap blockText).length

theorem poff_succ {p : ProgD} {k : Nat} (hk : k < p.blocks.length) : poff p (k + 1) = poff p k + 1 + 4 * (bops p.blocks k).length + 4 := by
  unfold poff
  rw [take_getD p.blocks bz k hk, List.flatMap_append]
  simp [blockText_length, bops]
  omega

theorem headText_length (p : ProgD) : (headText p).length = 7 := rfl

theorem poff_len (p : ProgD) : (progText p).length = poff p p.blocks.length := by
  simp [poff, progText, headText_length]

theorem progGood_nums {p : ProgD} (hg : progGood p = true) : (1 ≤ p.regs ∧ p.regs ≤ 8) ∧ (0 ≤ p.args ∧ p.args ≤ p.regs) ∧ (0 ≤ p.data ∧ p.data ≤ 8) ∧ (0 ≤ p.slots ∧ p.slots ≤ 8) := by
  simp [progGood] at hg; omega

theorem progGood_oct {p : ProgD} (hg : progGood p = true) {k : Nat} (hk : k < p.blocks.length) : opsOk (bops p.blocks k) ∧ oct4 (bek p.blocks k) (ber p.blocks k) (bex p.blocks k) (bey p.blocks k) := by
  have hb := progGood_block hg (p.blocks.getD k bz) (getD_mem' hk)
  have hn := progGood_nums hg
  have hl := progGood_len hg
  simp only [blockGood, Bool.and_eq_true] at hb
  refine ⟨?_, endGood_oct hb.2 (by omega) (by omega)⟩
  intro i hi
  have := hb.1.2
  simp only [opsGood, List.all_eq_true] at this
  exact opGood_oct (this _ (getD_mem' (d := oz) hi)) (by omega) (by omega)

/-- What is read at the k-th block of a good program's text. -/
theorem read_pblock {d : Int} {p : ProgD} (hg : progGood p = true) {k : Nat} (hk : k < p.blocks.length) :
    byteOr d (str (progText p)) (poff p k) = (bops p.blocks k).length ∧ blkAt d (str (progText p)) (poff p k) (bops p.blocks k).length = p.blocks.getD k bz := by
  have hs := progText_split p hk
  obtain ⟨ho1, ho2⟩ := progGood_oct hg hk
  have hlen := progGood_ops hg hk
  have ho : (headText p ++ (p.blocks.take k).flatMap blockText).length = poff p k := by simp [poff, headText_length]
  have e0 : byteOr d (str (progText p)) (poff p k) = (bops p.blocks k).length := byte_mid hs ho (i := 0) rfl (by omega) (by omega) (by omega)
  have hs1 : progText p = (headText p ++ (p.blocks.take k).flatMap blockText ++ [byt (bops p.blocks k).length]) ++ opsText (bops p.blocks k) ++ (endText (bfin p.blocks k) ++ (p.blocks.drop (k + 1)).flatMap blockText) := by
    rw [hs]; simp [blockText, bops, bfin]
  have hs2 : progText p = (headText p ++ (p.blocks.take k).flatMap blockText ++ [byt (bops p.blocks k).length] ++ opsText (bops p.blocks k)) ++ endText (bfin p.blocks k) ++ (p.blocks.drop (k + 1)).flatMap blockText := by
    rw [hs]; simp [blockText, bops, bfin]
  have l1 : (headText p ++ (p.blocks.take k).flatMap blockText ++ [byt (bops p.blocks k).length]).length = poff p k + 1 := by rw [List.length_append, ho]; rfl
  have l2 : (headText p ++ (p.blocks.take k).flatMap blockText ++ [byt (bops p.blocks k).length] ++ opsText (bops p.blocks k)).length = poff p k + 1 + 4 * (bops p.blocks k).length := by rw [List.length_append, l1, opsText_length]
  have e1 := opsAt_text (d := d) hs1 l1 ho1 _ (Nat.le_refl _)
  rw [List.take_length] at e1
  obtain ⟨q1, q2, q3, q4⟩ := ho2
  have f1 : byteOr d (str (progText p)) ((poff p k : Int) + 1 + 4 * (bops p.blocks k).length) = bek p.blocks k := byte_mid hs2 l2 (i := 0) rfl q1.1 q1.2 (by omega)
  have f2 : byteOr d (str (progText p)) ((poff p k : Int) + 1 + 4 * (bops p.blocks k).length + 1) = ber p.blocks k := byte_mid hs2 l2 (i := 1) rfl q2.1 q2.2 (by omega)
  have f3 : byteOr d (str (progText p)) ((poff p k : Int) + 1 + 4 * (bops p.blocks k).length + 2) = bex p.blocks k := byte_mid hs2 l2 (i := 2) rfl q3.1 q3.2 (by omega)
  have f4 : byteOr d (str (progText p)) ((poff p k : Int) + 1 + 4 * (bops p.blocks k).length + 3) = bey p.blocks k := byte_mid hs2 l2 (i := 3) rfl q4.1 q4.2 (by omega)
  refine ⟨e0, ?_⟩
  unfold blkAt finAt
  rw [f1, f2, f3, f4, show (poff p k : Int) + 1 = ((poff p k + 1 : Nat) : Int) by omega, e1]
  rfl

theorem read_phead {d : Int} {p : ProgD} (hg : progGood p = true) : byteOr d (str (progText p)) 0 = 84 ∧ byteOr d (str (progText p)) 1 = 87 ∧ byteOr d (str (progText p)) 2 = p.args ∧ byteOr d (str (progText p)) 3 = p.regs ∧ byteOr d (str (progText p)) 4 = p.data ∧ byteOr d (str (progText p)) 5 = p.slots ∧ byteOr d (str (progText p)) 6 = p.blocks.length := by
  have hl := progGood_len hg
  have hn := progGood_nums hg
  have hs : progText p = [] ++ headText p ++ p.blocks.flatMap blockText := rfl
  refine ⟨byteOr_str (i := 0) (b := 84) rfl, byteOr_str (i := 1) (b := 87) rfl, ?_, ?_, ?_, ?_, ?_⟩
  · exact byte_mid hs (o := 0) rfl (i := 2) rfl (by omega) (by omega) (by omega)
  · exact byte_mid hs (o := 0) rfl (i := 3) rfl (by omega) (by omega) (by omega)
  · exact byte_mid hs (o := 0) rfl (i := 4) rfl (by omega) (by omega) (by omega)
  · exact byte_mid hs (o := 0) rfl (i := 5) rfl (by omega) (by omega) (by omega)
  · exact byte_mid hs (o := 0) rfl (i := 6) rfl (by omega) (by omega) (by omega)

theorem pcod_reads {p : ProgD} (hg : progGood p = true) (k : Nat) (hk : k ≤ p.blocks.length) : patOf (str (progText p)) k = poff p k ∧ blocksOf (str (progText p)) k = p.blocks.take k := by
  induction k with
  | zero => exact ⟨rfl, rfl⟩
  | succ k ih =>
    obtain ⟨e1, e2⟩ := ih (by omega)
    obtain ⟨r1, r2⟩ := read_pblock (d := -1) hg (show k < p.blocks.length by omega)
    constructor
    · rw [patOf, e1, r1, poff_succ (by omega), Int.toNat_natCast]; omega
    · rw [blocksOf, e2, e1, r1, Int.toNat_natCast, r2, take_getD p.blocks bz k (by omega)]

theorem progD_eta (p : ProgD) : (⟨p.args, p.regs, p.data, p.slots, p.blocks⟩ : ProgD) = p := rfl

/-! ### Back: what was read, written again -/

theorem seg_one {s : ByteArray} {i : Nat} (h : i < s.size) : seg s i 1 = [byt (byteOr (-1) s i)] := by
  have hl : s.data.toList.length = s.size := Array.length_toList
  rw [byteOr_in h, byt_of]
  unfold seg
  rw [List.drop_eq_getElem_cons (by omega)]
  rfl

theorem seg_four {s : ByteArray} {i : Nat} (h : i + 3 < s.size) : seg s i 4 = [byt (byteOr (-1) s i), byt (byteOr (-1) s ((i : Int) + 1)), byt (byteOr (-1) s ((i : Int) + 2)), byt (byteOr (-1) s ((i : Int) + 3))] := by
  rw [show (4 : Nat) = 2 + 2 from rfl, seg_add, seg_two (by omega), seg_two (by omega)]
  rw [show ((i + 2 : Nat) : Int) = (i : Int) + 2 by omega, show (i : Int) + 2 + 1 = (i : Int) + 3 by omega]
  rfl

theorem ops_seg {s : ByteArray} {o : Nat} (k : Nat) (h : o + 4 * k ≤ s.size) : opsText (opsAt (-1) s o k) = seg s o (4 * k) := by
  induction k with
  | zero => simp [opsAt, opsText, seg]
  | succ k ih =>
    rw [show 4 * (k + 1) = 4 * k + 4 by omega, seg_add, ← ih (by omega), seg_four (by omega)]
    simp only [opsAt, opsText, List.flatMap_append, List.flatMap_cons, List.flatMap_nil, List.append_nil]
    rw [show ((o + 4 * k : Nat) : Int) = (o : Int) + 4 * k by omega]
    rfl

theorem block_seg {s : ByteArray} {a m : Nat} (hm : byteOr (-1) s a = m) (h : a + 1 + 4 * m + 4 ≤ s.size) : blockText (blkAt (-1) s a m) = seg s a (1 + 4 * m + 4) := by
  rw [seg_add, seg_add, seg_one (by omega), hm, ← ops_seg m (by omega), seg_four (by omega)]
  simp only [blockText, blkAt, opsAt_length, endText, finAt]
  rw [show ((a + (1 + 4 * m) : Nat) : Int) = (a : Int) + 1 + 4 * m by omega, show ((a + 1 : Nat) : Int) = (a : Int) + 1 by omega]

theorem blocksOf_length (s : ByteArray) (k : Nat) : (blocksOf s k).length = k := by
  induction k with
  | zero => rfl
  | succ k ih => simp [blocksOf, ih]

theorem blocks_seg {s : ByteArray} (k : Nat) (h : patOf s k ≤ s.size) : (blocksOf s k).flatMap blockText = seg s 7 (patOf s k - 7).toNat := by
  induction k with
  | zero => simp [blocksOf, patOf, seg]
  | succ k ih =>
    have hb := patOf_bd s k
    obtain ⟨a, ha⟩ := Int.eq_ofNat_of_zero_le (show 0 ≤ patOf s k by omega)
    have hstep : patOf s (k + 1) = patOf s k + (1 + 4 * (byteOr (-1) s (patOf s k)).toNat + 4) := rfl
    generalize hm' : (byteOr (-1) s (patOf s k)).toNat = m at hstep
    have hcnt : byteOr (-1) s a = m := by
      rw [ha, byteOr_in (by omega)] at hm'
      rw [byteOr_in (by omega)]
      omega
    have e3 : (patOf s (k + 1) - 7).toNat = (patOf s k - 7).toNat + (1 + 4 * m + 4) := by omega
    rw [blocksOf, List.flatMap_append, ih (by omega), e3, seg_add]
    have ea : 7 + (patOf s k - 7).toNat = a := by omega
    rw [ea, hm', ha]
    congr 1
    simp only [List.flatMap_cons, List.flatMap_nil, List.append_nil]
    exact block_seg hcnt (by omega)

theorem pcod_text {s : ByteArray} (h : readsProg s = true) : str (progText (progOf s)) = s := by
  simp only [readsProg, Bool.and_eq_true, decide_eq_true_eq] at h
  obtain ⟨⟨⟨h0, h1⟩, h2⟩, h3⟩ := h
  have hb := patOf_bd s (byteOr (-1) s 6).toNat
  have hl : s.data.toList.length = s.size := Array.length_toList
  have hc : ((byteOr (-1) s 6).toNat : Int) = byteOr (-1) s 6 := by
    have e : byteOr (-1) s ((6 : Nat) : Int) = _ := byteOr_in (d := -1) (show 6 < s.size by omega)
    have e' : byteOr (-1) s 6 = _ := e
    rw [e']
    omega
  have hs := blocks_seg (s := s) (byteOr (-1) s 6).toNat (by omega)
  have f0 : seg s 0 s.size = s.data.toList := by unfold seg; rw [List.drop_zero, ← hl, List.take_length]
  have f1 : s.size = 2 + 4 + 1 + (patOf s (byteOr (-1) s 6).toNat - 7).toNat := by omega
  have e2 := seg_two (s := s) (i := 0) (by omega)
  have e4 := seg_four (s := s) (i := 2) (by omega)
  have e1 := seg_one (s := s) (i := 6) (by omega)
  have z0 : byteOr (-1) s ((0 : Nat) : Int) = 84 := h0
  have z1 : byteOr (-1) s (((0 : Nat) : Int) + 1) = 87 := h1
  rw [z0, z1] at e2
  rw [f1, seg_add, seg_add, seg_add] at f0
  have e2' : seg s 0 2 = [84, 87] := e2
  have e4' : seg s (0 + 2) 4 = [byt (byteOr (-1) s 2), byt (byteOr (-1) s 3), byt (byteOr (-1) s 4), byt (byteOr (-1) s 5)] := e4
  have e1' : seg s (0 + (2 + 4)) 1 = [byt (byteOr (-1) s 6)] := e1
  have hs' : seg s (0 + (2 + 4 + 1)) (patOf s (byteOr (-1) s 6).toNat - 7).toNat = (blocksOf s (byteOr (-1) s 6).toNat).flatMap blockText := hs.symm
  rw [e2', e4', e1', hs'] at f0
  have f2 : progText (progOf s) = s.data.toList := by
    rw [← f0]
    simp only [progText, headText, progOf, blocksOf_length, hc]
    rfl
  rw [f2, ← str_of]

/-! ### The two contracts, in the document's words -/

theorem cDecode_any (s : ByteArray) (w : World) (hs : s.size ≤ maxLen) :
    Calls Tryz.prog 65 #[.string s] w fun e w' => ((∃ p v bv, e = .returned (.tuple #[progV p v, .int .i64 0]) ∧ OwnBlocks w' w.heap.size v bv ∧ bdat bv = p.blocks ∧ progGood p = true ∧ str (progText p) = s) ∨
      ((∀ p, progGood p = true → str (progText p) ≠ s) ∧ e = .returned (.tuple #[.agg #[.int .i64 0, .int .i64 0, .int .i64 0, .int .i64 0, .slice none 0 0], .int .i64 1]))) ∧ Below w.heap.size w w' := by
  refine cDecode_cps s w hs _ ?_ ?_
  · intro v bv w' hr ho hd hb
    refine ⟨.inl ⟨progOf s, v, bv, rfl, ho, hd, ?_, pcod_text hr⟩, hb⟩
    simp only [readsProg, Bool.and_eq_true] at hr; exact hr.2
  · intro w' hr hb
    refine ⟨.inr ⟨?_, rfl⟩, hb⟩
    intro p hg he
    subst he
    obtain ⟨r0, r1, r2, r3, r4, r5, r6⟩ := read_phead (d := -1) hg
    have := pcod_reads hg p.blocks.length (Nat.le_refl _)
    simp only [readsProg, progOf, r0, r1, r2, r3, r4, r5, r6, Int.toNat_natCast, this.1, this.2, List.take_length, progD_eta, hg, str_size, poff_len] at hr
    simp at hr

/-- A text is the text of one program at most. -/
theorem prog_one {p q : ProgD} (hp : progGood p = true) (hq : progGood q = true) (e : str (progText p) = str (progText q)) : p = q := by
  obtain ⟨_, _, a2, a3, a4, a5, a6⟩ := read_phead (d := -1) hp
  obtain ⟨_, _, b2, b3, b4, b5, b6⟩ := read_phead (d := -1) hq
  have c := (pcod_reads hp p.blocks.length (Nat.le_refl _)).2
  have d := (pcod_reads hq q.blocks.length (Nat.le_refl _)).2
  rw [e] at a2 a3 a4 a5 a6 c
  have hl : p.blocks.length = q.blocks.length := by omega
  rw [hl, d, List.take_length, ← hl, List.take_length] at c
  rw [← progD_eta p, ← progD_eta q, ← c, ← a2, ← a3, ← a4, ← a5, b2, b3, b4, b5]

end Go.Proofs.YtblhmeidbjigaaaGreatDoor

/- Appending to and storing into a program of one's own. -/
set_option linter.unusedSimpArgs false
set_option linter.unusedVariables false
namespace Go.Proofs.YtblhmeidbjigaaaGreatDoor
open Go.RowKit

/-- Lists of bv that lie in lv's block are the beginning of what lv holds. -/
def PreO (bv : List (BlockD × Value)) (lv : Value) (ys : List Value) : Prop := ∀ x ∈ bv, ∀ g, x.2.ownBlock = some g → lv.ownBlock = some g → ∃ t, ys = opCells x.1.ops ++ t

theorem OwnBlocks.app {w w' : World} {base : Nat} {v lv : Value} {bv : List (BlockD × Value)} {m : Nat} {ys : List Value} (h : OwnBlocks w base v bv) (hl : w.ownsRow base 77 4 lv m ys) (hp : PreO bv lv ys)
    (hg : w.grownBy w' lv.ownBlock) (hl' : w'.ownsRow base 77 4 lv m ys) : OwnBlocks w' base v bv := by
  refine ⟨?_, ?_, h.apart⟩
  · refine h.row.kept hg ?_
    cases hb : v.ownBlock with
    | none => exact .inl rfl
    | some g => exact .inr (fun e => owns_apart h.row hl (by decide) g hb e.symm)
  · intro x hx
    cases hb : x.2.ownBlock with
    | none => exact (h.each x hx).kept hg (.inl hb)
    | some g =>
      by_cases e : lv.ownBlock = some g
      · obtain ⟨t, ht⟩ := hp x hx g hb e
        exact owns_pre (by decide) (h.each x hx) hl hb e hl' ht
      · exact (h.each x hx).kept hg (.inr (by rw [hb]; exact fun e' => e e'.symm))

theorem PreO.step {w : World} {base : Nat} {v lv lv' : Value} {bv : List (BlockD × Value)} {ys news : List Value} (h : OwnBlocks w base v bv) (hp : PreO bv lv ys) (hf : ∀ g, lv'.ownBlock = some g → lv.ownBlock = some g ∨ w.heap.size ≤ g) : PreO bv lv' (ys ++ news) := by
  intro x hx g hg hg'
  rcases hf g hg' with e | e
  · obtain ⟨t, ht⟩ := hp x hx g hg e
    exact ⟨t ++ news, by rw [ht, List.append_assoc]⟩
  · have := ((h.each x hx).lt g hg).2
    omega

theorem PreO.start {w : World} {base : Nat} {v : Value} {bv : List (BlockD × Value)} (h : OwnBlocks w base v bv) {i : Nat} (hi : i < bv.length) : PreO bv bv[i].2 (opCells bv[i].1.ops) := by
  intro x hx g hg hg'
  obtain ⟨j, hj, rfl⟩ := List.getElem_of_mem hx
  by_cases e : j = i
  · subst e; exact ⟨[], by simp⟩
  · exfalso
    rcases Nat.lt_or_gt_of_ne e with hlt | hgt
    · exact List.pairwise_iff_getElem.1 h.apart j i hj hi hlt g hg hg'
    · exact List.pairwise_iff_getElem.1 h.apart i j hi hj hgt g hg' hg

/-- Four cells of a block are set. -/
def set4 (w : World) (g o : Nat) (a b c d : Int) : World := (((w.setCell ⟨g, o, none⟩ (.int .i64 a)).setCell ⟨g, o + 1, none⟩ (.int .i64 b)).setCell ⟨g, o + 2, none⟩ (.int .i64 c)).setCell ⟨g, o + 3, none⟩ (.int .i64 d)

theorem Keep.set4 {S : Nat → Prop} {w a : World} (h : Keep S w a) {g o : Nat} (hp : S g ∨ w.heap.size ≤ g) (x y z u : Int) : Keep S w (set4 a g o x y z u) :=
  (((h.setCell (p := ⟨g, o, none⟩) hp _).setCell (p := ⟨g, o + 1, none⟩) hp _).setCell (p := ⟨g, o + 2, none⟩) hp _).setCell (p := ⟨g, o + 3, none⟩) hp _

end Go.Proofs.YtblhmeidbjigaaaGreatDoor

/- A program of its own with spare room behind each of its lists. -/
set_option linter.unusedSimpArgs false
set_option linter.unusedVariables false
namespace Go.Proofs.YtblhmeidbjigaaaGreatDoor
open Go.RowKit

def zBlk5 : List Value := [.slice none 0 0, .int .i64 0, .int .i64 0, .int .i64 0, .int .i64 0]
end Go.Proofs.YtblhmeidbjigaaaGreatDoor
