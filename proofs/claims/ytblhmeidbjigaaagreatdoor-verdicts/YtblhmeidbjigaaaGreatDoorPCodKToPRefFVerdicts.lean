/- Reading a block in the codec. -/
import Derived.Test.YtblhmeidbjigaaaGreatDoorRows
import Derived.WalkKit
import Derived.WalkSpells
import Derived.WalkLawsBesides
import Derived.Laws.BytesArg
import Derived.Deep.QuietTactic
import Derived.BigQuiet
import Derived.Deep.RegionHeld3
import Derived.Test.YtblhmeidbjigaaaGreatDoorPCodHToPOwnVerdicts

set_option linter.unusedSimpArgs false
set_option linter.unusedVariables false
namespace Go.Proofs.YtblhmeidbjigaaaGreatDoor
open Go.RowKit

theorem Tryz.infoOp : (Tryz.prog.info? 77).map (fun i => (i.zero, i.size, i.bytes)) = some (some (.agg #[.int .i64 0, .int .i64 0, .int .i64 0, .int .i64 0]), 4, 32) := by kernel_rfl
theorem Tryz.infoBlk : (Tryz.prog.info? 40).map (fun i => (i.zero, i.size, i.bytes)) = some (some (.agg #[.slice none 0 0, .int .i64 0, .int .i64 0, .int .i64 0, .int .i64 0]), 5, 56) := by kernel_rfl

def opsAt (d : Int) (s : ByteArray) (next : Int) : Nat → List OpD
  | 0 => []
  | k + 1 => opsAt d s next k ++ [⟨byteOr d s (next + 4 * k), byteOr d s (next + 4 * k + 1), byteOr d s (next + 4 * k + 2), byteOr d s (next + 4 * k + 3)⟩]

theorem opsAt_length (d : Int) (s : ByteArray) (next : Int) (k : Nat) : (opsAt d s next k).length = k := by
  induction k with
  | zero => rfl
  | succ k ih => simp [opsAt, ih]

def finAt (d : Int) (s : ByteArray) (next : Int) : EndD := ⟨byteOr d s next, byteOr d s (next + 1), byteOr d s (next + 2), byteOr d s (next + 3)⟩

theorem four_new (w : World) (a b c d : Value) (t : TypeId) : ∀ j u, [a, b, c, d][j]? = some u → (w.alloc (.cells #[a, b, c, d] t)).cell? ((⟨w.heap.size, 0, none⟩ : Addr).add j) = some u := by
  intro j u hj
  match j, hj with
  | 0, hj => simp at hj; subst hj; simp [Addr.add]
  | 1, hj => simp at hj; subst hj; simp [Addr.add]
  | 2, hj => simp at hj; subst hj; simp [Addr.add]
  | 3, hj => simp at hj; subst hj; simp [Addr.add]

theorem five_new (w : World) (a b c d e : Value) (t : TypeId) : ∀ j u, [a, b, c, d, e][j]? = some u → (w.alloc (.cells #[a, b, c, d, e] t)).cell? ((⟨w.heap.size, 0, none⟩ : Addr).add j) = some u := by
  intro j u hj
  match j, hj with
  | 0, hj => simp at hj; subst hj; simp [Addr.add]
  | 1, hj => simp at hj; subst hj; simp [Addr.add]
  | 2, hj => simp at hj; subst hj; simp [Addr.add]
  | 3, hj => simp at hj; subst hj; simp [Addr.add]
  | 4, hj => simp at hj; subst hj; simp [Addr.add]

theorem four_one {a b c d : Int} : ∀ u ∈ [Value.int .i64 a, .int .i64 b, .int .i64 c, .int .i64 d], u.oneCell' = true := by
  intro u hu
  simp at hu
  rcases hu with rfl | rfl | rfl | rfl <;> rfl

theorem five_one {so : Option Addr} {n sc : Nat} {a b c d : Int} : ∀ u ∈ [Value.slice so n sc, .int .i64 a, .int .i64 b, .int .i64 c, .int .i64 d], u.oneCell' = true := by
  intro u hu
  simp at hu
  rcases hu with rfl | rfl | rfl | rfl | rfl <;> rfl

set_option maxRecDepth 100000 in
set_option maxHeartbeats 2000000 in
theorem blockAt_cps (s : ByteArray) (at_ : Int) (w : World) (hs : s.size ≤ maxLen) (ha : 0 ≤ at_) (ha2 : at_ ≤ 1000000) (Post : Ending → World → Prop)
    (hyes : ∀ sv w', w'.ownsRow w.heap.size 77 4 sv (byteOr (-1) s at_).toNat (opCells (opsAt (-1) s (at_ + 1) (byteOr (-1) s at_).toNat)) → Below w.heap.size w w' →
      Post (.returned (.agg #[sv, .int .i64 (byteOr (-1) s (at_ + 1 + 4 * (byteOr (-1) s at_).toNat)), .int .i64 (byteOr (-1) s (at_ + 1 + 4 * (byteOr (-1) s at_).toNat + 1)), .int .i64 (byteOr (-1) s (at_ + 1 + 4 * (byteOr (-1) s at_).toNat + 2)), .int .i64 (byteOr (-1) s (at_ + 1 + 4 * (byteOr (-1) s at_).toNat + 3))])) w') :
    Calls Tryz.prog 101 #[.string s, .int .i64 at_] w Post := by
  obtain ⟨i0, ii, iz0, iz1, iz2⟩ := info_parts Tryz.infoOp
  have hcb := byteOr_bd (-1) s at_ (by omega)
  generalize hcn : byteOr (-1) s at_ = c at *
  go_enter Tryz.func101, Tryz.ntmps101
  go_wp2_with (go_at_call 100; refine (byteAt_any _ _ _ hs).mono ?_; rintro e w' ⟨rfl, rfl⟩)
  clear hcn
  go_loopw [7, 8] (fun nx i wr => ∃ (k : Nat) (sv : Value), k ≤ c.toNat ∧ i = .int .i64 k ∧ nx = .int .i64 (at_ + 1 + 4 * k) ∧ wr.cell? ⟨w.heap.size + 1, 0, none⟩ = some sv ∧
      wr.cell? ⟨w.heap.size + 1, 1, none⟩ = some (.int .i64 0) ∧ wr.cell? ⟨w.heap.size + 1, 2, none⟩ = some (.int .i64 0) ∧ wr.cell? ⟨w.heap.size + 1, 3, none⟩ = some (.int .i64 0) ∧ wr.cell? ⟨w.heap.size + 1, 4, none⟩ = some (.int .i64 0) ∧ (∀ o, wr.frozen? ⟨w.heap.size + 1, o, none⟩ = false) ∧
      wr.ownsRow (w.heap.size + 2) 77 4 sv k (opCells (opsAt (-1) s (at_ + 1) k)) ∧ Below (w.heap.size + 1) (w.alloc (.cells #[.slice none 0 0, .int .i64 0, .int .i64 0, .int .i64 0, .int .i64 0] 40)) wr ∧ w.heap.size + 2 ≤ wr.heap.size)
    (fun _ i _ => c.toNat - (intOf i).toNat)
  case atStart =>
    refine ⟨0, .slice none 0 0, Nat.zero_le _, rfl, by simp, by simp, by simp, by simp, by simp, by simp, by simp, World.ownsRow_nil _ _ _ _, ?_, by simp⟩
    exact (Below.refl _ _).alloc (by simp) _
  case round =>
    obtain ⟨k, sv, hk, rfl, rfl, hx0, hx1, hx2, hx3, hx4, hxf, hown, hbel, hz⟩ := hrel
    obtain ⟨ao, cp, rfl⟩ := owns_slice hown
    have hzl : w.heap.size + 1 < wr.heap.size := by omega
    have hzm : w.heap.size < wr.heap.size := by omega
    have f0 := hxf 0
    have f1 := hxf 1
    have f2 := hxf 2
    have f3 := hxf 3
    have f4 := hxf 4
    by_cases hlt : (k : Int) < c
    · have HS : Hid (opsAt (-1) s (at_ + 1) (k + 1) = opsAt (-1) s (at_ + 1) k ++ [⟨byteOr (-1) s (at_ + 1 + 4 * k), byteOr (-1) s (at_ + 1 + 4 * k + 1), byteOr (-1) s (at_ + 1 + 4 * k + 2), byteOr (-1) s (at_ + 1 + 4 * k + 3)⟩]) := rfl
      go_wp2_with (first | (go_at_call 100; refine (byteAt_any _ _ _ hs).mono ?_; rintro e w' ⟨rfl, rfl⟩) | (at_builtin; refine wpList_append_own _ rfl _ _ 38 rfl (w.heap.size + 2) 77 i0 (.agg #[.int .i64 0, .int .i64 0, .int .i64 0, .int .i64 0]) 4 32 Tryz.underlying38 ii iz0 iz1 iz2 rfl (by decide) _ _ _ rfl ((hown.alloc _).alloc _) ⟨wr.heap.size + 1, 0, none⟩ 1 1 [.int .i64 (byteOr (-1) s (at_ + 1 + 4 * k)), .int .i64 (byteOr (-1) s (at_ + 1 + 4 * k + 1)), .int .i64 (byteOr (-1) s (at_ + 1 + 4 * k + 2)), .int .i64 (byteOr (-1) s (at_ + 1 + 4 * k + 3))] rfl rfl ?c1 four_one ?c3 ?c4 ?c5 ?_))
      case c1 => simpa using four_new (wr.alloc _) _ _ _ _ _
      case c3 => unfold maxLen; omega
      case c4 => omega
      case c5 => first | omega | (simp; omega)
      intro v' w1 hown' hgrow _
      rw [← opCells_snoc, ← HS.out] at hown'
      have hb2 := ((((Below.refl (w.heap.size + 2) wr).alloc hz _).alloc (by simp; omega) _).grown hgrow (by simp; omega) (fun g hg => (hown.lt g hg).1))
      have y0 := (hb2.cell (p := ⟨w.heap.size + 1, 0, none⟩) (by simp)).trans hx0
      have y1 := (hb2.cell (p := ⟨w.heap.size + 1, 1, none⟩) (by simp)).trans hx1
      have y2 := (hb2.cell (p := ⟨w.heap.size + 1, 2, none⟩) (by simp)).trans hx2
      have y3 := (hb2.cell (p := ⟨w.heap.size + 1, 3, none⟩) (by simp)).trans hx3
      have y4 := (hb2.cell (p := ⟨w.heap.size + 1, 4, none⟩) (by simp)).trans hx4
      have yf : ∀ o, w1.frozen? ⟨w.heap.size + 1, o, none⟩ = false := fun o => (hb2.frozen (p := ⟨w.heap.size + 1, o, none⟩) (by simp)).trans (hxf o)
      have yf0 := yf 0
      have hz2 := hb2.size
      have hb3 := (hbel.trans (hb2.mono (by omega)))
      obtain ⟨ao', cp', rfl⟩ := owns_slice hown'
      clear hgrow hown hx0 hx1 hx2 hx3 hx4 hxf f0 f1 f2 f3 f4 hb2 hbel
      have YF : Hid (∀ o, w1.frozen? ⟨w.heap.size + 1, o, none⟩ = false) := yf
      clear yf
      go_wp2
      go_roundw
      case rel =>
        refine ⟨k + 1, _, by omega, by go_num, by go_num, cell_set y0, cell_unset (by simp) y1, cell_unset (by simp) y2, cell_unset (by simp) y3, cell_unset (by simp) y4, fun o => by simp [YF.out o], ownsRow_setCell_below hown' (by simp) _, hb3.setCell (by simp) _, by simp; omega⟩
      case measure => simp [intOf]; omega
    · obtain rfl : k = c.toNat := by omega
      have r0 : wr.cell? ⟨w.heap.size, 0, none⟩ = some (.slice none 0 0) := (hbel.cell (by simp)).trans (by simp)
      have r1 : wr.cell? ⟨w.heap.size, 1, none⟩ = some (.int .i64 0) := (hbel.cell (by simp)).trans (by simp)
      have r2 : wr.cell? ⟨w.heap.size, 2, none⟩ = some (.int .i64 0) := (hbel.cell (by simp)).trans (by simp)
      have r3 : wr.cell? ⟨w.heap.size, 3, none⟩ = some (.int .i64 0) := (hbel.cell (by simp)).trans (by simp)
      have r4 : wr.cell? ⟨w.heap.size, 4, none⟩ = some (.int .i64 0) := (hbel.cell (by simp)).trans (by simp)
      have g0 : wr.frozen? ⟨w.heap.size, 0, none⟩ = false := (hbel.frozen (by simp)).trans (by simp)
      have g1 : wr.frozen? ⟨w.heap.size, 1, none⟩ = false := (hbel.frozen (by simp)).trans (by simp)
      have g2 : wr.frozen? ⟨w.heap.size, 2, none⟩ = false := (hbel.frozen (by simp)).trans (by simp)
      have g3 : wr.frozen? ⟨w.heap.size, 3, none⟩ = false := (hbel.frozen (by simp)).trans (by simp)
      have g4 : wr.frozen? ⟨w.heap.size, 4, none⟩ = false := (hbel.frozen (by simp)).trans (by simp)
      have HY : Hid (∀ sv w', w'.ownsRow w.heap.size 77 4 sv c.toNat (opCells (opsAt (-1) s (at_ + 1) c.toNat)) → Below w.heap.size w w' → Post (.returned (.agg #[sv, .int .i64 (byteOr (-1) s (at_ + 1 + 4 * c.toNat)), .int .i64 (byteOr (-1) s (at_ + 1 + 4 * c.toNat + 1)), .int .i64 (byteOr (-1) s (at_ + 1 + 4 * c.toNat + 2)), .int .i64 (byteOr (-1) s (at_ + 1 + 4 * c.toNat + 3))])) w') := hyes
      clear hyes
      have hb0 := Below.under hbel
      go_wp2_with (go_at_call 100; refine (byteAt_any _ _ _ hs).mono ?_; rintro e w' ⟨rfl, rfl⟩)
      refine bodyPost_ret (v := .agg #[.slice ao c.toNat cp, .int .i64 (byteOr (-1) s (at_ + 1 + 4 * c.toNat)), .int .i64 (byteOr (-1) s (at_ + 1 + 4 * c.toNat + 1)), .int .i64 (byteOr (-1) s (at_ + 1 + 4 * c.toNat + 2)), .int .i64 (byteOr (-1) s (at_ + 1 + 4 * c.toNat + 3))]) (by simp [results, Tryz.results101, go_sem, r0, r1, r2, r3, r4]) rfl (HY.out _ _ ?_ ?_)
      · refine owns_base (base := w.heap.size + 2) ?_ (by omega)
        repeat (refine ownsRow_setCell_below ?_ (by simp) _)
        exact hown
      · repeat (refine Below.setCell ?_ (by simp) _)
        exact hb0

end Go.Proofs.YtblhmeidbjigaaaGreatDoor

/- DecodeProgram in the codec. -/
set_option linter.unusedSimpArgs false
set_option linter.unusedVariables false
namespace Go.Proofs.YtblhmeidbjigaaaGreatDoor
open Go.RowKit

set_option maxHeartbeats 400000 in
theorem blockSize_any (so : Option Addr) (n sc : Nat) (k r x y : Int) (w : World) (hn : n ≤ 1000) :
    Calls Tryz.prog 102 #[.agg #[.slice so n sc, .int .i64 k, .int .i64 r, .int .i64 x, .int .i64 y]] w fun e w' => e = .returned (.int .i64 (1 + 4 * n + 4)) ∧ Below w.heap.size w w' := by
  go_enter Tryz.func102, Tryz.ntmps102
  go_wp2
  go_ret
  exact ⟨by simp, (Below.refl _ _).alloc (Nat.le_refl _) _⟩

/-- Where the k-th block begins. -/
def patOf (s : ByteArray) : Nat → Int
  | 0 => 7
  | k + 1 => patOf s k + (1 + 4 * (byteOr (-1) s (patOf s k)).toNat + 4)

def blkAt (d : Int) (s : ByteArray) (p : Int) (n : Nat) : BlockD := ⟨opsAt d s (p + 1) n, finAt d s (p + 1 + 4 * n)⟩

/-- The first k blocks that are read. -/
def blocksOf (s : ByteArray) : Nat → List BlockD
  | 0 => []
  | k + 1 => blocksOf s k ++ [blkAt (-1) s (patOf s k) (byteOr (-1) s (patOf s k)).toNat]

theorem patOf_bd (s : ByteArray) (k : Nat) : 7 ≤ patOf s k ∧ patOf s k ≤ 7 + 1025 * k := by
  induction k with
  | zero => simp [patOf]
  | succ k ih =>
    have := byteOr_bd (-1) s (patOf s k) (by omega)
    simp only [patOf]
    omega

/-- The program that is read. -/
def progOf (s : ByteArray) : ProgD := ⟨byteOr (-1) s 2, byteOr (-1) s 3, byteOr (-1) s 4, byteOr (-1) s 5, blocksOf s (byteOr (-1) s 6).toNat⟩

def readsProg (s : ByteArray) : Bool :=
  decide (byteOr (-1) s 0 = 84) && decide (byteOr (-1) s 1 = 87) && decide (patOf s (byteOr (-1) s 6).toNat = s.size) && progGood (progOf s)

set_option maxRecDepth 100000 in
set_option maxHeartbeats 4000000 in
theorem cDecode_cps (s : ByteArray) (w : World) (hs : s.size ≤ maxLen) (Post : Ending → World → Prop)
    (hyes : ∀ v bv w', readsProg s = true → OwnBlocks w' w.heap.size v bv → bdat bv = (progOf s).blocks → Below w.heap.size w w' → Post (.returned (.tuple #[.agg #[.int .i64 (byteOr (-1) s 2), .int .i64 (byteOr (-1) s 3), .int .i64 (byteOr (-1) s 4), .int .i64 (byteOr (-1) s 5), v], .int .i64 0])) w')
    (hno : ∀ w', readsProg s = false → Below w.heap.size w w' → Post (.returned (.tuple #[.agg #[.int .i64 0, .int .i64 0, .int .i64 0, .int .i64 0, .slice none 0 0], .int .i64 1])) w') :
    Calls Tryz.prog 65 #[.string s] w Post := by
  obtain ⟨i0, ii, iz0, iz1, iz2⟩ := info_parts Tryz.infoBlk
  have hcb := byteOr_bd (-1) s 6 (by omega)
  have hsz := hs
  unfold maxLen at hsz
  by_cases h0 : byteOr (-1) s 0 = 84
  case neg =>
    have hRf : readsProg s = false := by simp [readsProg, h0]
    have hno' := fun w' => hno w' hRf
    clear hno hyes hRf
    have hb : (byteOr (-1) s 0 != 84) = true := by simp [h0]
    go_enter Tryz.func65, Tryz.ntmps65
    go_wp2_with (go_at_call 100; refine (byteAt_any _ _ _ hs).mono ?_; rintro e w' ⟨rfl, rfl⟩)
    exact bodyPost_ret (v := .tuple #[.agg #[.int .i64 0, .int .i64 0, .int .i64 0, .int .i64 0, .slice none 0 0], .int .i64 1]) (by simp [results, Tryz.results65, go_sem]) rfl (hno' _ ((Below.refl _ _).alloc (Nat.le_refl _) _))
  by_cases h1 : byteOr (-1) s 1 = 87
  case neg =>
    have hRf : readsProg s = false := by simp [readsProg, h1]
    have hno' := fun w' => hno w' hRf
    clear hno hyes hRf
    have hb : (byteOr (-1) s 1 != 87) = true := by simp [h1]
    go_enter Tryz.func65, Tryz.ntmps65
    go_wp2_with (go_at_call 100; refine (byteAt_any _ _ _ hs).mono ?_; rintro e w' ⟨rfl, rfl⟩)
    exact bodyPost_ret (v := .tuple #[.agg #[.int .i64 0, .int .i64 0, .int .i64 0, .int .i64 0, .slice none 0 0], .int .i64 1]) (by simp [results, Tryz.results65, go_sem]) rfl (hno' _ ((Below.refl _ _).alloc (Nat.le_refl _) _))
  have HR : Hid (readsProg s = (decide (patOf s (byteOr (-1) s 6).toNat = s.size) && progGood (progOf s))) := by show _ = _; simp [readsProg, h0, h1]
  have HPO : Hid (progOf s = ⟨byteOr (-1) s 2, byteOr (-1) s 3, byteOr (-1) s 4, byteOr (-1) s 5, blocksOf s (byteOr (-1) s 6).toNat⟩) := rfl
  generalize hcn : byteOr (-1) s 6 = c at *
  generalize ha2 : byteOr (-1) s 2 = a2 at *
  generalize ha3 : byteOr (-1) s 3 = a3 at *
  generalize ha4 : byteOr (-1) s 4 = a4 at *
  generalize ha5 : byteOr (-1) s 5 = a5 at *
  have HY : Hid (∀ v bv w', readsProg s = true → OwnBlocks w' w.heap.size v bv → bdat bv = (progOf s).blocks → Below w.heap.size w w' → Post (.returned (.tuple #[.agg #[.int .i64 a2, .int .i64 a3, .int .i64 a4, .int .i64 a5, v], .int .i64 0])) w') := hyes
  have HN : Hid (∀ w', readsProg s = false → Below w.heap.size w w' → Post (.returned (.tuple #[.agg #[.int .i64 0, .int .i64 0, .int .i64 0, .int .i64 0, .slice none 0 0], .int .i64 1])) w') := hno
  clear hyes hno
  go_enter Tryz.func65, Tryz.ntmps65
  go_wp2_with (go_at_call 100; refine (byteAt_any _ _ _ hs).mono ?_; rintro e w' ⟨rfl, rfl⟩)
  clear hcn h0 h1 ha2 ha3 ha4 ha5
  go_loopw [6, 7] (fun p i wr => ∃ (k : Nat) (v : Value) (bv : List (BlockD × Value)), k ≤ c.toNat ∧ i = .int .i64 k ∧ p = .int .i64 (patOf s k) ∧ wr.cell? ⟨w.heap.size + 1, 0, none⟩ = some (.int .i64 a2) ∧ wr.cell? ⟨w.heap.size + 1, 1, none⟩ = some (.int .i64 a3) ∧ wr.cell? ⟨w.heap.size + 1, 2, none⟩ = some (.int .i64 a4) ∧ wr.cell? ⟨w.heap.size + 1, 3, none⟩ = some (.int .i64 a5) ∧
      wr.cell? ⟨w.heap.size + 1, 4, none⟩ = some v ∧ wr.frozen? ⟨w.heap.size + 1, 4, none⟩ = false ∧ OwnBlocks wr (w.heap.size + 2) v bv ∧ Hid (bdat bv = blocksOf s k) ∧ Hid (bv.length = k) ∧ Below (w.heap.size + 1) (w.alloc (.cells #[.int .i64 0, .int .i64 0, .int .i64 0, .int .i64 0, .slice none 0 0] 33)) wr ∧ w.heap.size + 2 ≤ wr.heap.size)
    (fun _ i _ => c.toNat - (intOf i).toNat)
  case atStart =>
    refine ⟨0, .slice none 0 0, [], Nat.zero_le _, rfl, rfl, by simp, by simp, by simp, by simp, by simp, by simp, ownBlocks_nil _ _, rfl, rfl, ?_, by simp⟩
    exact (Below.refl _ _).alloc (by simp) _
  case round =>
    obtain ⟨k, v, bv, hk, rfl, rfl, hx0, hx1, hx2, hx3, hx4, hxf, hown, hdt, hvl, hbel, hz⟩ := hrel
    obtain ⟨ao, cp, rfl⟩ := owns_slice hown.row
    have hzl : w.heap.size + 1 < wr.heap.size := by omega
    have hzm : w.heap.size < wr.heap.size := by omega
    have hab := patOf_bd s k
    by_cases hlt : (k : Int) < c
    · go_wp2_with fail
      refine blockAt_cps s _ _ hs (by omega) (by omega) _ ?_
      intro sv w1 hsv hb1
      have HX : Hid (blocksOf s (k + 1) = blocksOf s k ++ [⟨opsAt (-1) s (patOf s k + 1) (byteOr (-1) s (patOf s k)).toNat, ⟨byteOr (-1) s (patOf s k + 1 + 4 * (byteOr (-1) s (patOf s k)).toNat), byteOr (-1) s (patOf s k + 1 + 4 * (byteOr (-1) s (patOf s k)).toNat + 1), byteOr (-1) s (patOf s k + 1 + 4 * (byteOr (-1) s (patOf s k)).toNat + 2), byteOr (-1) s (patOf s k + 1 + 4 * (byteOr (-1) s (patOf s k)).toNat + 3)⟩⟩]) := rfl
      have HA : Hid (patOf s (k + 1) = patOf s k + (1 + 4 * (byteOr (-1) s (patOf s k)).toNat + 4)) := rfl
      have hmb := byteOr_bd (-1) s (patOf s k) (by omega)
      have hpl := opsAt_length (-1) s (patOf s k + 1) (byteOr (-1) s (patOf s k)).toNat
      have hm : (byteOr (-1) s (patOf s k)).toNat ≤ 255 := by omega
      clear hmb
      generalize (byteOr (-1) s (patOf s k)).toNat = m at *
      generalize byteOr (-1) s (patOf s k + 1 + 4 * m) = e1 at *
      generalize byteOr (-1) s (patOf s k + 1 + 4 * m + 1) = e2 at *
      generalize byteOr (-1) s (patOf s k + 1 + 4 * m + 2) = e3 at *
      generalize byteOr (-1) s (patOf s k + 1 + 4 * m + 3) = e4 at *
      generalize opsAt (-1) s (patOf s k + 1) m = ps at *
      subst hpl
      obtain ⟨so, sc, rfl⟩ := owns_slice hsv
      have own1 := hown.below hb1 (Nat.le_refl _)
      have x0 := (hb1.cell (p := ⟨w.heap.size + 1, 0, none⟩) hzl).trans hx0
      have x1 := (hb1.cell (p := ⟨w.heap.size + 1, 1, none⟩) hzl).trans hx1
      have x2 := (hb1.cell (p := ⟨w.heap.size + 1, 2, none⟩) hzl).trans hx2
      have x3 := (hb1.cell (p := ⟨w.heap.size + 1, 3, none⟩) hzl).trans hx3
      have x4 := (hb1.cell (p := ⟨w.heap.size + 1, 4, none⟩) hzl).trans hx4
      have xf := (hb1.frozen (p := ⟨w.heap.size + 1, 4, none⟩) hzl).trans hxf
      have hz1 := hb1.size
      have hzl1 : w.heap.size + 1 < w1.heap.size := by omega
      go_wp2_with (at_builtin; refine wpList_append_own _ rfl _ _ 31 rfl (w.heap.size + 2) 40 i0 (.agg #[.slice none 0 0, .int .i64 0, .int .i64 0, .int .i64 0, .int .i64 0]) 5 56 Tryz.underlying31 ii iz0 iz1 iz2 rfl (by decide) _ _ _ rfl ((own1.row.alloc _).alloc _) ⟨w1.heap.size + 1, 0, none⟩ 1 1 [.slice so ps.length sc, .int .i64 e1, .int .i64 e2, .int .i64 e3, .int .i64 e4] rfl rfl ?c1 five_one ?c3 ?c4 ?c5 ?_)
      case c1 => simpa using five_new (w1.alloc _) _ _ _ _ _ _
      case c3 => have := hvl.out; unfold maxLen; omega
      case c4 => have := hvl.out; omega
      case c5 => first | omega | (simp; omega)
      intro v' w2 hown' hgrow _
      have hne : ∀ g, w1.heap.size ≤ g → some g ≠ (Value.slice ao bv.length cp).ownBlock := fun g hg e => by have := (own1.row.lt _ e.symm).2; omega
      have own2 : OwnBlocks w2 (w.heap.size + 2) v' (bv ++ [(⟨ps, ⟨e1, e2, e3, e4⟩⟩, .slice so ps.length sc)]) := by
        refine ((own1.alloc _).alloc _).snoc ((owns_base hsv (by omega)).alloc _ |>.alloc _) ?_ hgrow hown'
        intro y hy g hg e
        have q1 := ((hown.each y hy).lt g hg).2
        have q2 := (hsv.lt g e).1
        omega
      have hb2 := ((((Below.refl (w.heap.size + 2) w1).alloc (by omega) _).alloc (by simp; omega) _).grown hgrow (by simp; omega) (fun g hg => (own1.row.lt g hg).1))
      have y0 := (hb2.cell (p := ⟨w.heap.size + 1, 0, none⟩) (by simp)).trans x0
      have y1 := (hb2.cell (p := ⟨w.heap.size + 1, 1, none⟩) (by simp)).trans x1
      have y2 := (hb2.cell (p := ⟨w.heap.size + 1, 2, none⟩) (by simp)).trans x2
      have y3 := (hb2.cell (p := ⟨w.heap.size + 1, 3, none⟩) (by simp)).trans x3
      have y4 := (hb2.cell (p := ⟨w.heap.size + 1, 4, none⟩) (by simp)).trans x4
      have yf := (hb2.frozen (p := ⟨w.heap.size + 1, 4, none⟩) (by simp)).trans xf
      have z0 : w2.cell? ⟨w1.heap.size, 0, none⟩ = some (.slice so ps.length sc) := hgrow.cell (by simp) (hne _ (Nat.le_refl _))
      have z1 : w2.cell? ⟨w1.heap.size, 1, none⟩ = some (.int .i64 e1) := hgrow.cell (by simp) (hne _ (Nat.le_refl _))
      have z2 : w2.cell? ⟨w1.heap.size, 2, none⟩ = some (.int .i64 e2) := hgrow.cell (by simp) (hne _ (Nat.le_refl _))
      have z3 : w2.cell? ⟨w1.heap.size, 3, none⟩ = some (.int .i64 e3) := hgrow.cell (by simp) (hne _ (Nat.le_refl _))
      have z4 : w2.cell? ⟨w1.heap.size, 4, none⟩ = some (.int .i64 e4) := hgrow.cell (by simp) (hne _ (Nat.le_refl _))
      have hz2 := hb2.size
      have hzl2 : w.heap.size + 1 < w2.heap.size := by omega
      have hzn : w1.heap.size ≠ w.heap.size + 1 := by omega
      have hb3 := (hbel.trans (hb1.mono (by omega))).trans (hb2.mono (by omega))
      obtain ⟨ao', cp', hv'⟩ := owns_slice own2.row
      rw [List.length_append] at hv'
      simp only [List.length_cons, List.length_nil, Nat.zero_add] at hv'
      subst hv'
      have z0' : ∀ u, (w2.setCell ⟨w.heap.size + 1, 4, none⟩ u).cell? ⟨w1.heap.size, 0, none⟩ = some (.slice so ps.length sc) := fun u => cell_unset (by simp) z0
      have z1' : ∀ u, (w2.setCell ⟨w.heap.size + 1, 4, none⟩ u).cell? ⟨w1.heap.size, 1, none⟩ = some (.int .i64 e1) := fun u => cell_unset (by simp) z1
      have z2' : ∀ u, (w2.setCell ⟨w.heap.size + 1, 4, none⟩ u).cell? ⟨w1.heap.size, 2, none⟩ = some (.int .i64 e2) := fun u => cell_unset (by simp) z2
      have z3' : ∀ u, (w2.setCell ⟨w.heap.size + 1, 4, none⟩ u).cell? ⟨w1.heap.size, 3, none⟩ = some (.int .i64 e3) := fun u => cell_unset (by simp) z3
      have z4' : ∀ u, (w2.setCell ⟨w.heap.size + 1, 4, none⟩ u).cell? ⟨w1.heap.size, 4, none⟩ = some (.int .i64 e4) := fun u => cell_unset (by simp) z4
      clear hgrow hown hown' own1 hsv hx0 hx1 hx2 hx3 hx4 hxf x0 x1 x2 x3 x4 xf hb2 hbel hne
      go_wp2_with fail
      refine (blockSize_any _ _ _ _ _ _ _ _ (by omega)).mono ?_
      rintro e w3 ⟨rfl, hb4⟩
      have own3 := (own2.set (a := ⟨w.heap.size + 1, 4, none⟩) (by simp) _).below hb4 (Nat.le_refl _)
      have hs3 := hb4.size
      have hlt3 : w.heap.size + 1 < (w2.setCell ⟨w.heap.size + 1, 4, none⟩ (.slice ao' (bv.length + 1) cp')).heap.size := by simp; omega
      have v0 := (hb4.cell (p := ⟨w.heap.size + 1, 0, none⟩) hlt3).trans (cell_unset (by simp) y0)
      have v1 := (hb4.cell (p := ⟨w.heap.size + 1, 1, none⟩) hlt3).trans (cell_unset (by simp) y1)
      have v2 := (hb4.cell (p := ⟨w.heap.size + 1, 2, none⟩) hlt3).trans (cell_unset (by simp) y2)
      have v3 := (hb4.cell (p := ⟨w.heap.size + 1, 3, none⟩) hlt3).trans (cell_unset (by simp) y3)
      have v4 := (hb4.cell (p := ⟨w.heap.size + 1, 4, none⟩) hlt3).trans (cell_set y4)
      have vf := (hb4.frozen (p := ⟨w.heap.size + 1, 4, none⟩) hlt3).trans (by simpa using yf)
      have hb5 := (hb3.setCell (p := ⟨w.heap.size + 1, 4, none⟩) (by simp) _).trans (hb4.mono (by simp; omega))
      simp at hs3
      clear hb4 own2 hb3 y0 y1 y2 y3 y4 yf z0 z1 z2 z3 z4 z0' z1' z2' z3' z4' hlt3
      go_wp2
      go_roundw
      case rel =>
        refine ⟨k + 1, _, _, by omega, by go_num, by rw [HA.out], v0, v1, v2, v3, v4, vf, own3, ?_, ?_, hb5, by omega⟩
        · show bdat _ = _
          rw [HX.out, ← hdt.out]; simp [bdat]
        · show List.length _ = _
          have := hvl.out
          simp; exact this
      case measure => simp [intOf]; omega
    · obtain rfl : k = c.toNat := by omega
      have r0 : wr.cell? ⟨w.heap.size, 0, none⟩ = some (.int .i64 0) := (hbel.cell (by simp)).trans (by simp)
      have r1 : wr.cell? ⟨w.heap.size, 1, none⟩ = some (.int .i64 0) := (hbel.cell (by simp)).trans (by simp)
      have r2 : wr.cell? ⟨w.heap.size, 2, none⟩ = some (.int .i64 0) := (hbel.cell (by simp)).trans (by simp)
      have r3 : wr.cell? ⟨w.heap.size, 3, none⟩ = some (.int .i64 0) := (hbel.cell (by simp)).trans (by simp)
      have r4 : wr.cell? ⟨w.heap.size, 4, none⟩ = some (.slice none 0 0) := (hbel.cell (by simp)).trans (by simp)
      have rf : ∀ o, wr.frozen? ⟨w.heap.size, o, none⟩ = false := fun o => (hbel.frozen (by simp)).trans (by simp)
      have hb0 := Below.under hbel
      have hrd := hown.rd
      rw [hdt.out] at hrd
      have hwm := wmProg_any a2 a3 a4 a5 _ _ wr hrd
      have hpe : Hid (progGood (progOf s) = progGood ⟨a2, a3, a4, a5, blocksOf s c.toNat⟩) := by show _ = _; rw [HPO.out]
      by_cases he : patOf s c.toNat = s.size
      case neg =>
        have hRf : readsProg s = false := by rw [HR.out]; simp [he]
        have hno' := fun w' => HN.out w' hRf
        clear HN HY hRf HR hpe HPO hwm
        have hb : (patOf s c.toNat != (s.size : Int)) = true := by simp [he]
        have f0 := rf 0
        have f1 := rf 1
        have f2 := rf 2
        have f3 := rf 3
        have f4 := rf 4
        clear rf
        go_wp2
        refine bodyPost_ret (v := .tuple #[.agg #[.int .i64 0, .int .i64 0, .int .i64 0, .int .i64 0, .slice none 0 0], .int .i64 1]) (by simp [results, Tryz.results65, go_sem, r0, r1, r2, r3, r4]) rfl (hno' _ ?_)
        repeat (refine Below.setCell ?_ (by simp) _)
        exact hb0
      have hb : (patOf s c.toNat != (s.size : Int)) = false := by simp [he]
      go_wp2_with fail
      refine hwm.mono ?_
      clear hwm
      rintro e w1 ⟨rfl, hb1⟩
      have x0 := cell_keep hb1 r0
      have x1 := cell_keep hb1 r1
      have x2 := cell_keep hb1 r2
      have x3 := cell_keep hb1 r3
      have x4 := cell_keep hb1 r4
      have xf : ∀ o, w1.frozen? ⟨w.heap.size, o, none⟩ = false := fun o => (hb1.frozen (p := ⟨w.heap.size, o, none⟩) hzm).trans (rf o)
      have f0 := xf 0
      have f1 := xf 1
      have f2 := xf 2
      have f3 := xf 3
      have f4 := xf 4
      have y0 := cell_keep hb1 hx0
      have y1 := cell_keep hb1 hx1
      have y2 := cell_keep hb1 hx2
      have y3 := cell_keep hb1 hx3
      have y4 := cell_keep hb1 hx4
      have hb2 := hb0.trans (hb1.mono (by omega))
      have own1 := hown.below hb1 (Nat.le_refl _)
      clear rf xf r0 r1 r2 r3 r4 hx0 hx1 hx2 hx3 hx4 hxf hrd hown hb1
      cases hg : progGood ⟨a2, a3, a4, a5, blocksOf s c.toNat⟩
      · have hRf : readsProg s = false := by rw [HR.out, hpe.out, hg]; simp
        have hno' := fun w' => HN.out w' hRf
        clear HN HY hRf HR hpe HPO
        go_wp2
        refine bodyPost_ret (v := .tuple #[.agg #[.int .i64 0, .int .i64 0, .int .i64 0, .int .i64 0, .slice none 0 0], .int .i64 1]) (by simp [results, Tryz.results65, go_sem, x0, x1, x2, x3, x4]) rfl (hno' _ ?_)
        repeat (refine Below.setCell ?_ (by simp) _)
        exact hb2
      · have hRf : readsProg s = true := by rw [HR.out, hpe.out, hg]; simp [he]
        have HY' : Hid (∀ w', OwnBlocks w' w.heap.size (.slice ao bv.length cp) bv → Below w.heap.size w w' → Post (.returned (.tuple #[.agg #[.int .i64 a2, .int .i64 a3, .int .i64 a4, .int .i64 a5, .slice ao bv.length cp], .int .i64 0])) w') :=
          fun w' h1 h2 => HY.out _ bv w' hRf h1 (by rw [HPO.out]; exact hdt.out) h2
        clear HN HY hRf HR hpe HPO
        go_wp2
        refine bodyPost_ret (v := .tuple #[.agg #[.int .i64 a2, .int .i64 a3, .int .i64 a4, .int .i64 a5, .slice ao bv.length cp], .int .i64 0]) (by simp [results, Tryz.results65, go_sem, x0, x1, x2, x3, x4]) rfl (HY'.out _ ?_ ?_)
        · refine OwnBlocks.base (base := w.heap.size + 2) ?_ (by omega)
          repeat (refine OwnBlocks.set ?_ (by simp) _)
          exact own1
        · repeat (refine Below.setCell ?_ (by simp) _)
          exact hb2

end Go.Proofs.YtblhmeidbjigaaaGreatDoor

/- Reading a program, in the document's answer. -/
set_option linter.unusedSimpArgs false
set_option linter.unusedVariables false
namespace Go.Proofs.YtblhmeidbjigaaaGreatDoor
open Go.RowKit

/-- How many operations are read from k on, m being asked for, of a text of n bytes. -/
def jst4 (n : Int) (k : Int) (m : Nat) : Nat := min m ((n - k + 3) / 4).toNat

def prAt (s : ByteArray) : Nat → Int
  | 0 => 7
  | i + 1 => prAt s i + 1 + 4 * jst4 s.size (prAt s i + 1) (byteOr 0 s (prAt s i)).toNat + 4

def rBlocks (s : ByteArray) : Nat → List BlockD
  | 0 => []
  | i + 1 => rBlocks s i ++ [blkAt 0 s (prAt s i) (jst4 s.size (prAt s i + 1) (byteOr 0 s (prAt s i)).toNat)]

theorem jst4_le (n k : Int) (m : Nat) : jst4 n k m ≤ m := by unfold jst4; omega

theorem jst4_eq {n k : Int} {m j : Nat} (h1 : j ≤ m) (h2 : j = 0 ∨ k + 4 * ((j : Int) - 1) < n) (h3 : ¬ ((j : Int) < m ∧ k + 4 * (j : Int) < n)) : j = jst4 n k m := by
  unfold jst4
  by_cases hm : (j : Int) < m
  · have : ¬ k + 4 * (j : Int) < n := fun h => h3 ⟨hm, h⟩
    rcases h2 with h2 | h2 <;> omega
  · rcases h2 with h2 | h2 <;> omega

theorem prAt_bd (s : ByteArray) (i : Nat) : 7 ≤ prAt s i ∧ prAt s i ≤ 7 + 1025 * i := by
  induction i with
  | zero => simp [prAt]
  | succ k ih =>
    have h1 := byteOr0_bd s (prAt s k)
    have h2 := jst4_le s.size (prAt s k + 1) (byteOr 0 s (prAt s k)).toNat
    simp only [prAt]
    omega

structure PRStop (s : ByteArray) (i : Nat) : Prop where
  done : ∀ j, j < i → (j : Int) < byteOr 0 s 6 ∧ prAt s j < s.size
  stop : ¬ ((i : Int) < byteOr 0 s 6 ∧ prAt s i < s.size)

def progR (s : ByteArray) (i : Nat) : ProgD := ⟨byteOr 0 s 2, byteOr 0 s 3, byteOr 0 s 4, byteOr 0 s 5, rBlocks s i⟩

/-- What the outer append leaves. -/
theorem pref_step {w wo wr w2 : World} {ao : Option Addr} {cp sc : Nat} {so : Option Addr} {bv : List (BlockD × Value)} {e1 e2 e3 e4 : Int} {ps : List OpD} {v' : Value} {O1 O2 : Obj}
    (hown : OwnBlocks wo (w.heap.size + 2) (.slice ao bv.length cp) bv) (hbin : Below wo.heap.size wo wr) (hrow : wr.ownsRow (wo.heap.size + 1) 77 4 (.slice so ps.length sc) ps.length (opCells ps))
    (hbel : Below (w.heap.size + 1) (w.alloc O1) wo) (hz : w.heap.size + 2 ≤ wo.heap.size)
    (hown' : w2.ownsRow (w.heap.size + 2) 40 5 v' (bv.length + 1) (blkCells bv ++ [.slice so ps.length sc, .int .i64 e1, .int .i64 e2, .int .i64 e3, .int .i64 e4])) (hgrow : (wr.alloc O2).grownBy w2 (Value.slice ao bv.length cp).ownBlock) :
    OwnBlocks w2 (w.heap.size + 2) v' (bv ++ [(⟨ps, ⟨e1, e2, e3, e4⟩⟩, .slice so ps.length sc)]) ∧ Below (w.heap.size + 2) wo w2 ∧
      Below (w.heap.size + 1) (w.alloc O1) w2 ∧ w.heap.size + 2 ≤ w2.heap.size := by
  have hzr := hbin.size
  have own1 := hown.below hbin (Nat.le_refl _)
  have hb2 := (((Below.refl (w.heap.size + 2) wr).alloc (by omega) O2).grown hgrow (by simp; omega) (fun g hg => (own1.row.lt g hg).1))
  have hz2 := hb2.size
  refine ⟨?_, (hbin.mono (by omega)).trans hb2, (hbel.trans (hbin.mono (by omega))).trans (hb2.mono (by omega)), by omega⟩
  refine (own1.alloc _).snoc ((owns_base hrow (by omega)).alloc _) ?_ hgrow hown'
  intro y hy g hg e
  have q1 := ((hown.each y hy).lt g hg).2
  have q2 := (hrow.lt g e).1
  omega

set_option maxRecDepth 100000 in
set_option maxHeartbeats 8000000 in
theorem rDecode_cps (s : ByteArray) (w : World) (hs : s.size ≤ maxLen) (Post : Ending → World → Prop)
    (hyes : ∀ v bv w' i, PRStop s i → OwnBlocks w' w.heap.size v bv → bdat bv = rBlocks s i → progGood (progR s i) = true → str (progText (progR s i)) = s → Below w.heap.size w w' → Post (.returned (.tuple #[.agg #[.int .i64 (byteOr 0 s 2), .int .i64 (byteOr 0 s 3), .int .i64 (byteOr 0 s 4), .int .i64 (byteOr 0 s 5), v], .bool true])) w')
    (hno : ∀ w' i, PRStop s i → (progGood (progR s i) = true → str (progText (progR s i)) ≠ s) → Below w.heap.size w w' → Post (.returned (.tuple #[.agg #[.int .i64 0, .int .i64 0, .int .i64 0, .int .i64 0, .slice none 0 0], .bool false])) w') :
    Calls Tryz.prog 34 #[.string s] w Post := by
  obtain ⟨i0, ii, iz0, iz1, iz2⟩ := info_parts Tryz.infoBlk
  obtain ⟨j0, ji, jz0, jz1, jz2⟩ := info_parts Tryz.infoOp
  have hcb := byteOr0_bd s 6
  have hsz := hs
  unfold maxLen at hsz
  obtain ⟨n, hn⟩ := Int.eq_ofNat_of_zero_le hcb.1
  have HN : Hid (byteOr 0 s 6 = n) := hn
  have HPR : Hid (∀ i, progR s i = ⟨byteOr 0 s 2, byteOr 0 s 3, byteOr 0 s 4, byteOr 0 s 5, rBlocks s i⟩) := fun i => rfl
  generalize ha2 : byteOr 0 s 2 = a2 at *
  generalize ha3 : byteOr 0 s 3 = a3 at *
  generalize ha4 : byteOr 0 s 4 = a4 at *
  generalize ha5 : byteOr 0 s 5 = a5 at *
  have HY : Hid (∀ v bv w' i, PRStop s i → OwnBlocks w' w.heap.size v bv → bdat bv = rBlocks s i → progGood (progR s i) = true → str (progText (progR s i)) = s → Below w.heap.size w w' → Post (.returned (.tuple #[.agg #[.int .i64 a2, .int .i64 a3, .int .i64 a4, .int .i64 a5, v], .bool true])) w') := hyes
  have HNO : Hid (∀ w' i, PRStop s i → (progGood (progR s i) = true → str (progText (progR s i)) ≠ s) → Below w.heap.size w w' → Post (.returned (.tuple #[.agg #[.int .i64 0, .int .i64 0, .int .i64 0, .int .i64 0, .slice none 0 0], .bool false])) w') := hno
  clear hyes hno
  go_enter Tryz.func34, Tryz.ntmps34
  go_wp2_with (go_at_call 69; refine (at_any _ _ _ hs).mono ?_; rintro e w' ⟨rfl, rfl⟩)
  have hn255 : n ≤ 255 := by omega
  clear hcb hn ha2 ha3 ha4 ha5
  go_loopw [6, 7] (fun p i wr => ∃ (k : Nat) (v : Value) (bv : List (BlockD × Value)), k ≤ n ∧ i = .int .i64 k ∧ p = .int .i64 (prAt s k) ∧ wr.cell? ⟨w.heap.size + 1, 0, none⟩ = some (.int .i64 a2) ∧ wr.cell? ⟨w.heap.size + 1, 1, none⟩ = some (.int .i64 a3) ∧ wr.cell? ⟨w.heap.size + 1, 2, none⟩ = some (.int .i64 a4) ∧ wr.cell? ⟨w.heap.size + 1, 3, none⟩ = some (.int .i64 a5) ∧ wr.cell? ⟨w.heap.size + 1, 4, none⟩ = some v ∧
      wr.frozen? ⟨w.heap.size + 1, 4, none⟩ = false ∧ OwnBlocks wr (w.heap.size + 2) v bv ∧ Hid (bdat bv = rBlocks s k) ∧ Hid (bv.length = k) ∧ Hid (∀ j, j < k → (j : Int) < byteOr 0 s 6 ∧ prAt s j < s.size) ∧ Below (w.heap.size + 1) (w.alloc (.cells #[.int .i64 0, .int .i64 0, .int .i64 0, .int .i64 0, .slice none 0 0] 33)) wr ∧ w.heap.size + 2 ≤ wr.heap.size)
    (fun _ i _ => n - (intOf i).toNat)
  case atStart =>
    refine ⟨0, .slice none 0 0, [], Nat.zero_le _, rfl, rfl, by simp, by simp, by simp, by simp, by simp, by simp, ownBlocks_nil _ _, rfl, rfl, fun j hj => by omega, ?_, by simp⟩
    exact (Below.refl _ _).alloc (by simp) _
  case round =>
    obtain ⟨k, v, bv, hk, rfl, rfl, hx0, hx1, hx2, hx3, hx4, hxf, hown, hdt, hvl, hdn, hbel, hz⟩ := hrel
    obtain ⟨ao, cp, rfl⟩ := owns_slice hown.row
    have hzl : w.heap.size + 1 < wr.heap.size := by omega
    have hzm : w.heap.size < wr.heap.size := by omega
    have hab := prAt_bd s k
    by_cases hlt : (k : Int) < n ∧ prAt s k < s.size
    case neg =>
      have hst : Hid (PRStop s k) := ⟨hdn.out, by rw [HN.out]; exact hlt⟩
      have hltn : (k : Int) < n → ¬ (prAt s k < s.size) := fun h1 h2 => hlt ⟨h1, h2⟩
      clear hlt hdn
      have r0 : wr.cell? ⟨w.heap.size, 0, none⟩ = some (.int .i64 0) := (hbel.cell (by simp)).trans (by simp)
      have r1 : wr.cell? ⟨w.heap.size, 1, none⟩ = some (.int .i64 0) := (hbel.cell (by simp)).trans (by simp)
      have r2 : wr.cell? ⟨w.heap.size, 2, none⟩ = some (.int .i64 0) := (hbel.cell (by simp)).trans (by simp)
      have r3 : wr.cell? ⟨w.heap.size, 3, none⟩ = some (.int .i64 0) := (hbel.cell (by simp)).trans (by simp)
      have r4 : wr.cell? ⟨w.heap.size, 4, none⟩ = some (.slice none 0 0) := (hbel.cell (by simp)).trans (by simp)
      have rf : Hid (∀ o, wr.frozen? ⟨w.heap.size, o, none⟩ = false) := fun o => (hbel.frozen (by simp)).trans (by simp)
      have hrd := hown.rd
      rw [hdt.out] at hrd
      have hb00 := Below.under hbel
      have hpk := HPR.out k
      have HPK : Hid (progR s k = ⟨a2, a3, a4, a5, rBlocks s k⟩) := hpk
      clear hpk HPR
      have hwg := rGood_any a2 a3 a4 a5 _ _ wr hrd
      have HGK : Hid (progGood ⟨a2, a3, a4, a5, rBlocks s k⟩ = progGood (progR s k)) := by show _ = _; rw [HPK.out]
      have HTX : Hid (progGood (progR s k) = true → ∀ (w1 : World), RdBlocks w1 (.slice ao bv.length cp) (rBlocks s k) → Calls Tryz.prog 71 #[.agg #[.int .i64 a2, .int .i64 a3, .int .i64 a4, .int .i64 a5, .slice ao bv.length cp]] w1 fun e w' => e = .returned (.string (str (progText (progR s k)))) ∧ Below w1.heap.size w1 w') := by
        intro hg w1 h1
        have := rText_any (progR s k) (.slice ao bv.length cp) w1 (by rw [HPK.out]; exact h1) hg
        rw [HPK.out] at this ⊢
        exact this
      by_cases hq : (k : Int) < n
      · have hq2 := hltn hq
        clear hltn
        go_wp2_with fail
        refine hwg.mono ?_
        clear hwg
        rintro e w1 ⟨rfl, hb1⟩
        rw [HGK.out]
        have x0 := cell_keep hb1 r0
        have x1 := cell_keep hb1 r1
        have x2 := cell_keep hb1 r2
        have x3 := cell_keep hb1 r3
        have x4 := cell_keep hb1 r4
        have xf : Hid (∀ o, w1.frozen? ⟨w.heap.size, o, none⟩ = false) := fun o => (hb1.frozen (p := ⟨w.heap.size, o, none⟩) hzm).trans (rf.out o)
        have f0 := xf.out 0
        have f1 := xf.out 1
        have f2 := xf.out 2
        have f3 := xf.out 3
        have f4 := xf.out 4
        have y0 := cell_keep hb1 hx0
        have y1 := cell_keep hb1 hx1
        have y2 := cell_keep hb1 hx2
        have y3 := cell_keep hb1 hx3
        have y4 := cell_keep hb1 hx4
        have hz1 := hb1.size
        have hzl1 : w.heap.size + 1 < w1.heap.size := by omega
        have hzm1 : w.heap.size < w1.heap.size := by omega
        have hb2 := hb00.trans (hb1.mono (by omega))
        have own1 := hown.below hb1 (Nat.le_refl _)
        have hrd1 := hrd.keep hb1
        clear r0 r1 r2 r3 r4 rf hx0 hx1 hx2 hx3 hx4 hxf hbel hown hb1 hrd hb00
        cases hg : progGood (progR s k)
        · have hno' := fun w' => HNO.out w' k hst.out (by simp [hg])
          clear HNO HY HTX
          go_wp2
          refine bodyPost_ret (v := .tuple #[.agg #[.int .i64 0, .int .i64 0, .int .i64 0, .int .i64 0, .slice none 0 0], .bool false]) (by simp [results, Tryz.results34, go_sem, x0, x1, x2, x3, x4]) rfl (hno' _ ?_)
          repeat (refine Below.setCell ?_ (by simp) _)
          exact hb2
        have htx := HTX.out hg w1 hrd1
        clear HTX
        go_wp2_with fail
        refine htx.mono ?_
        clear htx
        rintro e w2 ⟨rfl, hb3⟩
        have u0 := cell_keep hb3 x0
        have u1 := cell_keep hb3 x1
        have u2 := cell_keep hb3 x2
        have u3 := cell_keep hb3 x3
        have u4 := cell_keep hb3 x4
        have g0 := (hb3.frozen (p := ⟨w.heap.size, 0, none⟩) hzm1).trans f0
        have g1 := (hb3.frozen (p := ⟨w.heap.size, 1, none⟩) hzm1).trans f1
        have g2 := (hb3.frozen (p := ⟨w.heap.size, 2, none⟩) hzm1).trans f2
        have g3 := (hb3.frozen (p := ⟨w.heap.size, 3, none⟩) hzm1).trans f3
        have g4 := (hb3.frozen (p := ⟨w.heap.size, 4, none⟩) hzm1).trans f4
        have t0 := cell_keep hb3 y0
        have t1 := cell_keep hb3 y1
        have t2 := cell_keep hb3 y2
        have t3 := cell_keep hb3 y3
        have t4 := cell_keep hb3 y4
        have hb4 := hb2.trans (hb3.mono (by omega))
        have own2 := own1.below hb3 (Nat.le_refl _)
        clear x0 x1 x2 x3 x4 xf f0 f1 f2 f3 f4 y0 y1 y2 y3 y4 hb2 own1 hrd1 hb3
        by_cases ht : str (progText (progR s k)) = s
        · have HY' : Hid (∀ w', OwnBlocks w' w.heap.size (.slice ao bv.length cp) bv → Below w.heap.size w w' → Post (.returned (.tuple #[.agg #[.int .i64 a2, .int .i64 a3, .int .i64 a4, .int .i64 a5, .slice ao bv.length cp], .bool true])) w') := fun w' h1 h2 => HY.out _ bv w' k hst.out h1 hdt.out hg ht h2
          rw [ht]
          clear ht hg HNO HY
          go_wp2
          refine bodyPost_ret (v := .tuple #[.agg #[.int .i64 a2, .int .i64 a3, .int .i64 a4, .int .i64 a5, .slice ao bv.length cp], .bool true]) (by simp [results, Tryz.results34, go_sem, u0, u1, u2, u3, u4]) rfl (HY'.out _ ?_ ?_)
          · refine OwnBlocks.base (base := w.heap.size + 2) ?_ (by omega)
            repeat (refine OwnBlocks.set ?_ (by simp) _)
            exact own2
          · repeat (refine Below.setCell ?_ (by simp) _)
            exact hb4
        · have hno' := fun w' => HNO.out w' k hst.out (fun _ => ht)
          have hbs := toList_ne ht
          generalize str (progText (progR s k)) = tt at *
          clear HNO HY ht hg
          go_wp2
          refine bodyPost_ret (v := .tuple #[.agg #[.int .i64 0, .int .i64 0, .int .i64 0, .int .i64 0, .slice none 0 0], .bool false]) (by simp [results, Tryz.results34, go_sem, u0, u1, u2, u3, u4]) rfl (hno' _ ?_)
          repeat (refine Below.setCell ?_ (by simp) _)
          exact hb4
      · clear hltn
        go_wp2_with fail
        refine hwg.mono ?_
        clear hwg
        rintro e w1 ⟨rfl, hb1⟩
        rw [HGK.out]
        have x0 := cell_keep hb1 r0
        have x1 := cell_keep hb1 r1
        have x2 := cell_keep hb1 r2
        have x3 := cell_keep hb1 r3
        have x4 := cell_keep hb1 r4
        have xf : Hid (∀ o, w1.frozen? ⟨w.heap.size, o, none⟩ = false) := fun o => (hb1.frozen (p := ⟨w.heap.size, o, none⟩) hzm).trans (rf.out o)
        have f0 := xf.out 0
        have f1 := xf.out 1
        have f2 := xf.out 2
        have f3 := xf.out 3
        have f4 := xf.out 4
        have y0 := cell_keep hb1 hx0
        have y1 := cell_keep hb1 hx1
        have y2 := cell_keep hb1 hx2
        have y3 := cell_keep hb1 hx3
        have y4 := cell_keep hb1 hx4
        have hz1 := hb1.size
        have hzl1 : w.heap.size + 1 < w1.heap.size := by omega
        have hzm1 : w.heap.size < w1.heap.size := by omega
        have hb2 := hb00.trans (hb1.mono (by omega))
        have own1 := hown.below hb1 (Nat.le_refl _)
        have hrd1 := hrd.keep hb1
        clear r0 r1 r2 r3 r4 rf hx0 hx1 hx2 hx3 hx4 hxf hbel hown hb1 hrd hb00
        cases hg : progGood (progR s k)
        · have hno' := fun w' => HNO.out w' k hst.out (by simp [hg])
          clear HNO HY HTX
          go_wp2
          refine bodyPost_ret (v := .tuple #[.agg #[.int .i64 0, .int .i64 0, .int .i64 0, .int .i64 0, .slice none 0 0], .bool false]) (by simp [results, Tryz.results34, go_sem, x0, x1, x2, x3, x4]) rfl (hno' _ ?_)
          repeat (refine Below.setCell ?_ (by simp) _)
          exact hb2
        have htx := HTX.out hg w1 hrd1
        clear HTX
        go_wp2_with fail
        refine htx.mono ?_
        clear htx
        rintro e w2 ⟨rfl, hb3⟩
        have u0 := cell_keep hb3 x0
        have u1 := cell_keep hb3 x1
        have u2 := cell_keep hb3 x2
        have u3 := cell_keep hb3 x3
        have u4 := cell_keep hb3 x4
        have g0 := (hb3.frozen (p := ⟨w.heap.size, 0, none⟩) hzm1).trans f0
        have g1 := (hb3.frozen (p := ⟨w.heap.size, 1, none⟩) hzm1).trans f1
        have g2 := (hb3.frozen (p := ⟨w.heap.size, 2, none⟩) hzm1).trans f2
        have g3 := (hb3.frozen (p := ⟨w.heap.size, 3, none⟩) hzm1).trans f3
        have g4 := (hb3.frozen (p := ⟨w.heap.size, 4, none⟩) hzm1).trans f4
        have t0 := cell_keep hb3 y0
        have t1 := cell_keep hb3 y1
        have t2 := cell_keep hb3 y2
        have t3 := cell_keep hb3 y3
        have t4 := cell_keep hb3 y4
        have hb4 := hb2.trans (hb3.mono (by omega))
        have own2 := own1.below hb3 (Nat.le_refl _)
        clear x0 x1 x2 x3 x4 xf f0 f1 f2 f3 f4 y0 y1 y2 y3 y4 hb2 own1 hrd1 hb3
        by_cases ht : str (progText (progR s k)) = s
        · have HY' : Hid (∀ w', OwnBlocks w' w.heap.size (.slice ao bv.length cp) bv → Below w.heap.size w w' → Post (.returned (.tuple #[.agg #[.int .i64 a2, .int .i64 a3, .int .i64 a4, .int .i64 a5, .slice ao bv.length cp], .bool true])) w') := fun w' h1 h2 => HY.out _ bv w' k hst.out h1 hdt.out hg ht h2
          rw [ht]
          clear ht hg HNO HY
          go_wp2
          refine bodyPost_ret (v := .tuple #[.agg #[.int .i64 a2, .int .i64 a3, .int .i64 a4, .int .i64 a5, .slice ao bv.length cp], .bool true]) (by simp [results, Tryz.results34, go_sem, u0, u1, u2, u3, u4]) rfl (HY'.out _ ?_ ?_)
          · refine OwnBlocks.base (base := w.heap.size + 2) ?_ (by omega)
            repeat (refine OwnBlocks.set ?_ (by simp) _)
            exact own2
          · repeat (refine Below.setCell ?_ (by simp) _)
            exact hb4
        · have hno' := fun w' => HNO.out w' k hst.out (fun _ => ht)
          have hbs := toList_ne ht
          generalize str (progText (progR s k)) = tt at *
          clear HNO HY ht hg
          go_wp2
          refine bodyPost_ret (v := .tuple #[.agg #[.int .i64 0, .int .i64 0, .int .i64 0, .int .i64 0, .slice none 0 0], .bool false]) (by simp [results, Tryz.results34, go_sem, u0, u1, u2, u3, u4]) rfl (hno' _ ?_)
          repeat (refine Below.setCell ?_ (by simp) _)
          exact hb4
    obtain ⟨hlt1, hlt2⟩ := hlt
    obtain ⟨wo, hwo⟩ : ∃ wo, wo = wr := ⟨_, rfl⟩
    subst hwo
    have HX : Hid (rBlocks s (k + 1) = rBlocks s k ++ [⟨opsAt 0 s (prAt s k + 1) (jst4 s.size (prAt s k + 1) (byteOr 0 s (prAt s k)).toNat), ⟨byteOr 0 s (prAt s k + 1 + 4 * (jst4 s.size (prAt s k + 1) (byteOr 0 s (prAt s k)).toNat : Nat)), byteOr 0 s (prAt s k + 1 + 4 * (jst4 s.size (prAt s k + 1) (byteOr 0 s (prAt s k)).toNat : Nat) + 1), byteOr 0 s (prAt s k + 1 + 4 * (jst4 s.size (prAt s k + 1) (byteOr 0 s (prAt s k)).toNat : Nat) + 2), byteOr 0 s (prAt s k + 1 + 4 * (jst4 s.size (prAt s k + 1) (byteOr 0 s (prAt s k)).toNat : Nat) + 3)⟩⟩]) := rfl
    have HA : Hid (prAt s (k + 1) = prAt s k + 1 + 4 * (jst4 s.size (prAt s k + 1) (byteOr 0 s (prAt s k)).toNat : Nat) + 4) := rfl
    have hmb := byteOr0_bd s (prAt s k)
    obtain ⟨m, hm⟩ := Int.eq_ofNat_of_zero_le hmb.1
    go_wp2_with (go_at_call 69; refine (at_any _ _ _ hs).mono ?_; rintro e w' ⟨rfl, rfl⟩)
    rw [hm, Int.toNat_natCast] at HX HA
    have hm255 : m ≤ 255 := by omega
    clear hmb hm
    obtain ⟨k0, hk0⟩ : ∃ k0, k0 = prAt s k + 1 := ⟨_, rfl⟩
    rw [← hk0] at HX HA
    have hk0b : 8 ≤ k0 ∧ k0 ≤ 1000000 := by omega
    have HK0 : Hid (k0 = prAt s k + 1) := hk0
    clear hk0
    go_loopw [6, 10] (fun p i w2 => ∃ (j : Nat) (sv : Value), j ≤ m ∧ i = .int .i64 j ∧ p = .int .i64 (k0 + 4 * j) ∧ Hid (j = 0 ∨ k0 + 4 * ((j : Int) - 1) < s.size) ∧ w2.cell? ⟨wo.heap.size, 0, none⟩ = some sv ∧ w2.cell? ⟨wo.heap.size, 1, none⟩ = some (.int .i64 0) ∧ w2.cell? ⟨wo.heap.size, 2, none⟩ = some (.int .i64 0) ∧ w2.cell? ⟨wo.heap.size, 3, none⟩ = some (.int .i64 0) ∧ w2.cell? ⟨wo.heap.size, 4, none⟩ = some (.int .i64 0) ∧
        Hid (∀ o, w2.frozen? ⟨wo.heap.size, o, none⟩ = false) ∧ w2.ownsRow (wo.heap.size + 1) 77 4 sv j (opCells (opsAt 0 s k0 j)) ∧ Below wo.heap.size wo w2 ∧ wo.heap.size + 1 ≤ w2.heap.size)
      (fun _ i _ => m - (intOf i).toNat)
    case atStart =>
      refine ⟨0, .slice none 0 0, Nat.zero_le _, rfl, by rw [HK0.out]; simp, .inl rfl, by simp, by simp, by simp, by simp, by simp, fun o => by simp, World.ownsRow_nil _ _ _ _, ?_, by simp⟩
      exact (Below.refl _ _).alloc (by simp) _
    case round =>
      obtain ⟨j, sv, hj, rfl, rfl, hjs, y0, y1, y2, y3, y4, yf, hrow, hbin, hzi⟩ := hrel
      obtain ⟨so, sc, rfl⟩ := owns_slice hrow
      have hzw : wo.heap.size < wr.heap.size := by omega
      have yf0 := yf.out 0
      have yf1 := yf.out 1
      have yf2 := yf.out 2
      have yf3 := yf.out 3
      have yf4 := yf.out 4
      by_cases hjl : (j : Int) < m ∧ k0 + 4 * (j : Int) < s.size
      case neg =>
        have hje := jst4_eq hj hjs.out hjl
        rw [← hje] at HX HA
        have hjn : (j : Int) < m → ¬ (k0 + 4 * (j : Int) < s.size) := fun h1 h2 => hjl ⟨h1, h2⟩
        clear hjl hje hjs
        have hdn' : Hid (∀ i, i < k + 1 → (i : Int) < byteOr 0 s 6 ∧ prAt s i < s.size) := by
          intro i hi
          by_cases e : i = k
          · subst e; rw [HN.out]; exact ⟨hlt1, hlt2⟩
          · exact hdn.out i (by omega)
        have hpl := opsAt_length 0 s k0 j
        generalize opsAt 0 s k0 j = ps at *
        subst hpl
        have hown1 : ∀ W, Below wo.heap.size wo W → OwnBlocks W (w.heap.size + 2) (.slice ao bv.length cp) bv := fun W hW => hown.below hW (Nat.le_refl _)
        have x4 := (hbin.cell (p := ⟨w.heap.size + 1, 4, none⟩) hzl).trans hx4
        have xf := (hbin.frozen (p := ⟨w.heap.size + 1, 4, none⟩) hzl).trans hxf
        have hzl1 : w.heap.size + 1 < wr.heap.size := by omega
        have hzx : w.heap.size + 1 < wo.heap.size := hzl
        have hbW : ∀ u1 u2 u3 u4, Below wo.heap.size wo ((((wr.setCell ⟨wo.heap.size, 1, none⟩ u1).setCell ⟨wo.heap.size, 2, none⟩ u2).setCell ⟨wo.heap.size, 3, none⟩ u3).setCell ⟨wo.heap.size, 4, none⟩ u4) := fun u1 u2 u3 u4 =>
          (((hbin.setCell (Nat.le_refl _) u1).setCell (Nat.le_refl _) u2).setCell (Nat.le_refl _) u3).setCell (Nat.le_refl _) u4
        have hrowW : ∀ u1 u2 u3 u4, ((((wr.setCell ⟨wo.heap.size, 1, none⟩ u1).setCell ⟨wo.heap.size, 2, none⟩ u2).setCell ⟨wo.heap.size, 3, none⟩ u3).setCell ⟨wo.heap.size, 4, none⟩ u4).ownsRow (wo.heap.size + 1) 77 4 (.slice so ps.length sc) ps.length (opCells ps) := fun u1 u2 u3 u4 =>
          ownsRow_setCell_below (ownsRow_setCell_below (ownsRow_setCell_below (ownsRow_setCell_below hrow (by simp) u1) (by simp) u2) (by simp) u3) (by simp) u4
        by_cases hq : (ps.length : Int) < m
        · have hq2 := hjn hq
          clear hjn
          go_wp2_with (first | (go_at_call 69; refine (at_any _ _ _ hs).mono ?_; rintro e w' ⟨rfl, rfl⟩) | (at_builtin; refine wpList_append_own _ rfl _ _ 31 rfl (w.heap.size + 2) 40 i0 (.agg #[.slice none 0 0, .int .i64 0, .int .i64 0, .int .i64 0, .int .i64 0]) 5 56 Tryz.underlying31 ii iz0 iz1 iz2 rfl (by decide) _ _ _ rfl ((hown1 _ (hbW _ _ _ _)).row.alloc _) ⟨wr.heap.size, 0, none⟩ 1 1 [.slice so ps.length sc, .int .i64 (byteOr 0 s (k0 + 4 * ps.length)), .int .i64 (byteOr 0 s (k0 + 4 * ps.length + 1)), .int .i64 (byteOr 0 s (k0 + 4 * ps.length + 2)), .int .i64 (byteOr 0 s (k0 + 4 * ps.length + 3))] rfl rfl ?d1 five_one ?d3 ?d4 ?d5 ?_))
          case d1 => simpa using five_new ((((wr.setCell ⟨wo.heap.size, 1, none⟩ _).setCell ⟨wo.heap.size, 2, none⟩ _).setCell ⟨wo.heap.size, 3, none⟩ _).setCell ⟨wo.heap.size, 4, none⟩ _) _ _ _ _ _ _
          case d3 => have := hvl.out; unfold maxLen; omega
          case d4 => have := hvl.out; omega
          case d5 => first | omega | (simp; omega)
          intro v' w2 hown' hgrow _
          obtain ⟨own2, hbo2, hb3, hz3⟩ := pref_step hown (hbW _ _ _ _) (hrowW _ _ _ _) hbel hz hown' hgrow
          have v0 := (hbo2.cell (p := ⟨w.heap.size + 1, 0, none⟩) (by simp)).trans hx0
          have v1 := (hbo2.cell (p := ⟨w.heap.size + 1, 1, none⟩) (by simp)).trans hx1
          have v2 := (hbo2.cell (p := ⟨w.heap.size + 1, 2, none⟩) (by simp)).trans hx2
          have v3 := (hbo2.cell (p := ⟨w.heap.size + 1, 3, none⟩) (by simp)).trans hx3
          have v4 := (hbo2.cell (p := ⟨w.heap.size + 1, 4, none⟩) (by simp)).trans hx4
          have vf := (hbo2.frozen (p := ⟨w.heap.size + 1, 4, none⟩) (by simp)).trans hxf
          obtain ⟨ao', cp', hv'⟩ := owns_slice own2.row
          rw [List.length_append] at hv'
          simp only [List.length_cons, List.length_nil, Nat.zero_add] at hv'
          subst hv'
          have hzl2 : w.heap.size + 1 < w2.heap.size := by omega
          clear hgrow hown hown' hown1 hx0 hx1 hx2 hx3 hx4 hxf x4 xf hbel hbin hrow y0 y1 y2 y3 y4 yf yf0 yf1 yf2 yf3 yf4 hbW hrowW hbo2
          go_wp2
          go_roundw
          case rel =>
            refine ⟨k + 1, _, _, by omega, by go_num, by rw [HA.out], cell_unset (by simp) v0, cell_unset (by simp) v1, cell_unset (by simp) v2, cell_unset (by simp) v3, cell_set v4, by simp [vf], own2.set (by simp) _, ?_, ?_, hdn', hb3.setCell (by simp) _, by simp; omega⟩
            · show bdat _ = _
              rw [HX.out, ← hdt.out]; simp [bdat]
            · show List.length _ = _
              have := hvl.out
              simp; exact this
          case measure => simp [intOf]; omega
        · clear hjn
          go_wp2_with (first | (go_at_call 69; refine (at_any _ _ _ hs).mono ?_; rintro e w' ⟨rfl, rfl⟩) | (at_builtin; refine wpList_append_own _ rfl _ _ 31 rfl (w.heap.size + 2) 40 i0 (.agg #[.slice none 0 0, .int .i64 0, .int .i64 0, .int .i64 0, .int .i64 0]) 5 56 Tryz.underlying31 ii iz0 iz1 iz2 rfl (by decide) _ _ _ rfl ((hown1 _ (hbW _ _ _ _)).row.alloc _) ⟨wr.heap.size, 0, none⟩ 1 1 [.slice so ps.length sc, .int .i64 (byteOr 0 s (k0 + 4 * ps.length)), .int .i64 (byteOr 0 s (k0 + 4 * ps.length + 1)), .int .i64 (byteOr 0 s (k0 + 4 * ps.length + 2)), .int .i64 (byteOr 0 s (k0 + 4 * ps.length + 3))] rfl rfl ?e1 five_one ?e3 ?e4 ?e5 ?_))
          case e1 => simpa using five_new ((((wr.setCell ⟨wo.heap.size, 1, none⟩ _).setCell ⟨wo.heap.size, 2, none⟩ _).setCell ⟨wo.heap.size, 3, none⟩ _).setCell ⟨wo.heap.size, 4, none⟩ _) _ _ _ _ _ _
          case e3 => have := hvl.out; unfold maxLen; omega
          case e4 => have := hvl.out; omega
          case e5 => first | omega | (simp; omega)
          intro v' w2 hown' hgrow _
          obtain ⟨own2, hbo2, hb3, hz3⟩ := pref_step hown (hbW _ _ _ _) (hrowW _ _ _ _) hbel hz hown' hgrow
          have v0 := (hbo2.cell (p := ⟨w.heap.size + 1, 0, none⟩) (by simp)).trans hx0
          have v1 := (hbo2.cell (p := ⟨w.heap.size + 1, 1, none⟩) (by simp)).trans hx1
          have v2 := (hbo2.cell (p := ⟨w.heap.size + 1, 2, none⟩) (by simp)).trans hx2
          have v3 := (hbo2.cell (p := ⟨w.heap.size + 1, 3, none⟩) (by simp)).trans hx3
          have v4 := (hbo2.cell (p := ⟨w.heap.size + 1, 4, none⟩) (by simp)).trans hx4
          have vf := (hbo2.frozen (p := ⟨w.heap.size + 1, 4, none⟩) (by simp)).trans hxf
          obtain ⟨ao', cp', hv'⟩ := owns_slice own2.row
          rw [List.length_append] at hv'
          simp only [List.length_cons, List.length_nil, Nat.zero_add] at hv'
          subst hv'
          have hzl2 : w.heap.size + 1 < w2.heap.size := by omega
          clear hgrow hown hown' hown1 hx0 hx1 hx2 hx3 hx4 hxf x4 xf hbel hbin hrow y0 y1 y2 y3 y4 yf yf0 yf1 yf2 yf3 yf4 hbW hrowW hbo2
          go_wp2
          go_roundw
          case rel =>
            refine ⟨k + 1, _, _, by omega, by go_num, by rw [HA.out], cell_unset (by simp) v0, cell_unset (by simp) v1, cell_unset (by simp) v2, cell_unset (by simp) v3, cell_set v4, by simp [vf], own2.set (by simp) _, ?_, ?_, hdn', hb3.setCell (by simp) _, by simp; omega⟩
            · show bdat _ = _
              rw [HX.out, ← hdt.out]; simp [bdat]
            · show List.length _ = _
              have := hvl.out
              simp; exact this
          case measure => simp [intOf]; omega
      obtain ⟨hj1, hj2⟩ := hjl
      have HS : Hid (opsAt 0 s k0 (j + 1) = opsAt 0 s k0 j ++ [⟨byteOr 0 s (k0 + 4 * j), byteOr 0 s (k0 + 4 * j + 1), byteOr 0 s (k0 + 4 * j + 2), byteOr 0 s (k0 + 4 * j + 3)⟩]) := rfl
      go_wp2_with (first | (go_at_call 69; refine (at_any _ _ _ hs).mono ?_; rintro e w' ⟨rfl, rfl⟩) | (at_builtin; refine wpList_append_own _ rfl _ _ 38 rfl (wo.heap.size + 1) 77 j0 (.agg #[.int .i64 0, .int .i64 0, .int .i64 0, .int .i64 0]) 4 32 Tryz.underlying38 ji jz0 jz1 jz2 rfl (by decide) _ _ _ rfl ((hrow.alloc _).alloc _) ⟨wr.heap.size + 1, 0, none⟩ 1 1 [.int .i64 (byteOr 0 s (k0 + 4 * j)), .int .i64 (byteOr 0 s (k0 + 4 * j + 1)), .int .i64 (byteOr 0 s (k0 + 4 * j + 2)), .int .i64 (byteOr 0 s (k0 + 4 * j + 3))] rfl rfl ?c1 four_one ?c3 ?c4 ?c5 ?_))
      case c1 => simpa using four_new (wr.alloc _) _ _ _ _ _
      case c3 => unfold maxLen; omega
      case c4 => omega
      case c5 => first | omega | (simp; omega)
      intro v' w1 hrow' hgrow _
      rw [← opCells_snoc, ← HS.out] at hrow'
      have hb2 := ((((Below.refl (wo.heap.size + 1) wr).alloc hzi _).alloc (by simp; omega) _).grown hgrow (by simp; omega) (fun g hg => (hrow.lt g hg).1))
      have z0 := (hb2.cell (p := ⟨wo.heap.size, 0, none⟩) (by simp)).trans y0
      have z1 := (hb2.cell (p := ⟨wo.heap.size, 1, none⟩) (by simp)).trans y1
      have z2 := (hb2.cell (p := ⟨wo.heap.size, 2, none⟩) (by simp)).trans y2
      have z3 := (hb2.cell (p := ⟨wo.heap.size, 3, none⟩) (by simp)).trans y3
      have z4 := (hb2.cell (p := ⟨wo.heap.size, 4, none⟩) (by simp)).trans y4
      have zf : Hid (∀ o, w1.frozen? ⟨wo.heap.size, o, none⟩ = false) := fun o => (hb2.frozen (p := ⟨wo.heap.size, o, none⟩) (by simp)).trans (yf.out o)
      have zf0 := zf.out 0
      have hz2 := hb2.size
      have hb3 := hbin.trans (hb2.mono (by omega))
      obtain ⟨ao', cp', rfl⟩ := owns_slice hrow'
      clear hgrow hrow y0 y1 y2 y3 y4 yf yf0 yf1 yf2 yf3 yf4 hb2 hbin
      go_wp2
      go_roundw
      case rel =>
        exact ⟨j + 1, _, by omega, by go_num, by go_num, .inr (by simp; omega), cell_set z0, cell_unset (by simp) z1, cell_unset (by simp) z2, cell_unset (by simp) z3, cell_unset (by simp) z4, fun o => by simp [zf.out o], ownsRow_setCell_below hrow' (by simp) _, hb3.setCell (by simp) _, by simp; omega⟩
      case measure => simp [intOf]; omega

end Go.Proofs.YtblhmeidbjigaaaGreatDoor
