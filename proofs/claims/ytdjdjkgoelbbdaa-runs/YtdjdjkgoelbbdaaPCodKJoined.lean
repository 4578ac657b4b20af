/- Reading a block in the codec. -/
import Derived.Test.YtdjdjkgoelbbdaaPCodJToPOwn
set_option linter.unusedSimpArgs false
set_option linter.unusedVariables false
namespace Go.Proofs.Ytdjdjkgoelbbdaa
open Go.RowKit

theorem Try.infoOp : (Try.prog.info? 78).map (fun i => (i.zero, i.size, i.bytes)) = some (some (.agg #[.int .i64 0, .int .i64 0, .int .i64 0, .int .i64 0]), 4, 32) := by kernel_rfl
theorem Try.infoBlk : (Try.prog.info? 76).map (fun i => (i.zero, i.size, i.bytes)) = some (some (.agg #[.slice none 0 0, .int .i64 0, .int .i64 0, .int .i64 0, .int .i64 0]), 5, 56) := by kernel_rfl

def opsAt (d : Int) (s : ByteArray) (next : Int) : Nat → List OpD
  | 0 => []
  | k + 1 => opsAt d s next k ++ [⟨byteOr d s (next + 4 * k), byteOr d s (next + 4 * k + 1), byteOr d s (next + 4 * k + 2), byteOr d s (next + 4 * k + 3)⟩]

theorem opsAt_length (d : Int) (s : ByteArray) (next : Int) (k : Nat) : (opsAt d s next k).length = k := by
  induction k with
  | zero => rfl
  | succ k ih => simp [opsAt, ih]

def finAt (d : Int) (s : ByteArray) (next : Int) : EndD := ⟨byteOr d s next, byteOr d s (next + 1), byteOr d s (next + 2), byteOr d s (next + 3)⟩

theorem four_new (w : World) (a b c d : Value) (t : TypeId) : ∀ j u, [a, b, c, d][j]? = some u → (w.alloc (.cells #[a, b, c, d] t)).cell? ((⟨w.heap.size, 0, none⟩ : Addr).add j) = some u := by
  intro j u hj
  match j, hj with
  | 0, hj => simp at hj; subst hj; simp [Addr.add]
  | 1, hj => simp at hj; subst hj; simp [Addr.add]
  | 2, hj => simp at hj; subst hj; simp [Addr.add]
  | 3, hj => simp at hj; subst hj; simp [Addr.add]

theorem five_new (w : World) (a b c d e : Value) (t : TypeId) : ∀ j u, [a, b, c, d, e][j]? = some u → (w.alloc (.cells #[a, b, c, d, e] t)).cell? ((⟨w.heap.size, 0, none⟩ : Addr).add j) = some u := by
  intro j u hj
  match j, hj with
  | 0, hj => simp at hj; subst hj; simp [Addr.add]
  | 1, hj => simp at hj; subst hj; simp [Addr.add]
  | 2, hj => simp at hj; subst hj; simp [Addr.add]
  | 3, hj => simp at hj; subst hj; simp [Addr.add]
  | 4, hj => simp at hj; subst hj; simp [Addr.add]

theorem four_one {a b c d : Int} : ∀ u ∈ [Value.int .i64 a, .int .i64 b, .int .i64 c, .int .i64 d], u.oneCell' = true := by
  intro u hu
  simp at hu
  rcases hu with rfl | rfl | rfl | rfl <;> rfl

theorem five_one {so : Option Addr} {n sc : Nat} {a b c d : Int} : ∀ u ∈ [Value.slice so n sc, .int .i64 a, .int .i64 b, .int .i64 c, .int .i64 d], u.oneCell' = true := by
  intro u hu
  simp at hu
  rcases hu with rfl | rfl | rfl | rfl | rfl <;> rfl

/-- A block of five cells, the first a list, the others zero. -/
def zBlk : Obj := .cells #[.slice none 0 0, .int .i64 0, .int .i64 0, .int .i64 0, .int .i64 0] 76

set_option maxRecDepth 100000 in
set_option maxHeartbeats 2000000 in
theorem blockAt_cps (s : ByteArray) (at_ : Int) (w : World) (hs : s.size ≤ maxLen) (ha : 0 ≤ at_) (ha2 : at_ ≤ 1000000) (Post : Ending → World → Prop)
    (hyes : ∀ sv w', w'.ownsRow w.heap.size 78 4 sv (byteOr (-1) s at_).toNat (opCells (opsAt (-1) s (at_ + 1) (byteOr (-1) s at_).toNat)) → Below w.heap.size w w' →
      Post (.returned (.agg #[sv, .int .i64 (byteOr (-1) s (at_ + 1 + 4 * (byteOr (-1) s at_).toNat)), .int .i64 (byteOr (-1) s (at_ + 1 + 4 * (byteOr (-1) s at_).toNat + 1)), .int .i64 (byteOr (-1) s (at_ + 1 + 4 * (byteOr (-1) s at_).toNat + 2)), .int .i64 (byteOr (-1) s (at_ + 1 + 4 * (byteOr (-1) s at_).toNat + 3))])) w') :
    Calls Try.prog 80 #[.string s, .int .i64 at_] w Post := by
  obtain ⟨i0, ii, iz0, iz1, iz2⟩ := info_parts Try.infoOp
  have hcb := byteOr_bd (-1) s at_ (by omega)
  generalize hcn : byteOr (-1) s at_ = c at *
  go_enter Try.func80, Try.ntmps80
  go_wp2_with (go_at_call 79; refine (byteAt_any _ _ _ hs).mono ?_; rintro e w' ⟨rfl, rfl⟩)
  clear hcn
  go_loopw [7, 8] (fun nx i wr => ∃ (k : Nat) (sv : Value), k ≤ c.toNat ∧ i = .int .i64 k ∧ nx = .int .i64 (at_ + 1 + 4 * k) ∧ wr.cell? ⟨w.heap.size + 1, 0, none⟩ = some sv ∧
      wr.cell? ⟨w.heap.size + 1, 1, none⟩ = some (.int .i64 0) ∧ wr.cell? ⟨w.heap.size + 1, 2, none⟩ = some (.int .i64 0) ∧ wr.cell? ⟨w.heap.size + 1, 3, none⟩ = some (.int .i64 0) ∧ wr.cell? ⟨w.heap.size + 1, 4, none⟩ = some (.int .i64 0) ∧ (∀ o, wr.frozen? ⟨w.heap.size + 1, o, none⟩ = false) ∧
      wr.ownsRow (w.heap.size + 2) 78 4 sv k (opCells (opsAt (-1) s (at_ + 1) k)) ∧ Below (w.heap.size + 1) (w.alloc (.cells #[.slice none 0 0, .int .i64 0, .int .i64 0, .int .i64 0, .int .i64 0] 76)) wr ∧ w.heap.size + 2 ≤ wr.heap.size)
    (fun _ i _ => c.toNat - (intOf i).toNat)
  case atStart =>
    refine ⟨0, .slice none 0 0, Nat.zero_le _, rfl, by simp, by simp, by simp, by simp, by simp, by simp, by simp, World.ownsRow_nil _ _ _ _, ?_, by simp⟩
    exact (Below.refl _ _).alloc (by simp) _
  case round =>
    obtain ⟨k, sv, hk, rfl, rfl, hx0, hx1, hx2, hx3, hx4, hxf, hown, hbel, hz⟩ := hrel
    obtain ⟨ao, cp, rfl⟩ := owns_slice hown
    have hzl : w.heap.size + 1 < wr.heap.size := by omega
    have hzm : w.heap.size < wr.heap.size := by omega
    have f0 := hxf 0
    have f1 := hxf 1
    have f2 := hxf 2
    have f3 := hxf 3
    have f4 := hxf 4
    by_cases hlt : (k : Int) < c
    · have HS : Hid (opsAt (-1) s (at_ + 1) (k + 1) = opsAt (-1) s (at_ + 1) k ++ [⟨byteOr (-1) s (at_ + 1 + 4 * k), byteOr (-1) s (at_ + 1 + 4 * k + 1), byteOr (-1) s (at_ + 1 + 4 * k + 2), byteOr (-1) s (at_ + 1 + 4 * k + 3)⟩]) := rfl
      go_wp2_with (first | (go_at_call 79; refine (byteAt_any _ _ _ hs).mono ?_; rintro e w' ⟨rfl, rfl⟩) | (at_builtin; refine wpList_append_own _ rfl _ _ 72 rfl (w.heap.size + 2) 78 i0 (.agg #[.int .i64 0, .int .i64 0, .int .i64 0, .int .i64 0]) 4 32 Try.underlying72 ii iz0 iz1 iz2 rfl (by decide) _ _ _ rfl ((hown.alloc _).alloc _) ⟨wr.heap.size + 1, 0, none⟩ 1 1 [.int .i64 (byteOr (-1) s (at_ + 1 + 4 * k)), .int .i64 (byteOr (-1) s (at_ + 1 + 4 * k + 1)), .int .i64 (byteOr (-1) s (at_ + 1 + 4 * k + 2)), .int .i64 (byteOr (-1) s (at_ + 1 + 4 * k + 3))] rfl rfl ?c1 four_one ?c3 ?c4 ?c5 ?_))
      case c1 => simpa using four_new (wr.alloc _) _ _ _ _ _
      case c3 => unfold maxLen; omega
      case c4 => omega
      case c5 => first | omega | (simp; omega)
      intro v' w1 hown' hgrow _
      rw [← opCells_snoc, ← HS.out] at hown'
      have hb2 := ((((Below.refl (w.heap.size + 2) wr).alloc hz _).alloc (by simp; omega) _).grown hgrow (by simp; omega) (fun g hg => (hown.lt g hg).1))
      have y0 := (hb2.cell (p := ⟨w.heap.size + 1, 0, none⟩) (by simp)).trans hx0
      have y1 := (hb2.cell (p := ⟨w.heap.size + 1, 1, none⟩) (by simp)).trans hx1
      have y2 := (hb2.cell (p := ⟨w.heap.size + 1, 2, none⟩) (by simp)).trans hx2
      have y3 := (hb2.cell (p := ⟨w.heap.size + 1, 3, none⟩) (by simp)).trans hx3
      have y4 := (hb2.cell (p := ⟨w.heap.size + 1, 4, none⟩) (by simp)).trans hx4
      have yf : ∀ o, w1.frozen? ⟨w.heap.size + 1, o, none⟩ = false := fun o => (hb2.frozen (p := ⟨w.heap.size + 1, o, none⟩) (by simp)).trans (hxf o)
      have yf0 := yf 0
      have hz2 := hb2.size
      have hb3 := (hbel.trans (hb2.mono (by omega)))
      obtain ⟨ao', cp', rfl⟩ := owns_slice hown'
      clear hgrow hown hx0 hx1 hx2 hx3 hx4 hxf f0 f1 f2 f3 f4 hb2 hbel
      have YF : Hid (∀ o, w1.frozen? ⟨w.heap.size + 1, o, none⟩ = false) := yf
      clear yf
      go_wp2
      go_roundw
      case rel =>
        refine ⟨k + 1, _, by omega, by go_num, by go_num, cell_set y0, cell_unset (by simp) y1, cell_unset (by simp) y2, cell_unset (by simp) y3, cell_unset (by simp) y4, fun o => by simp [YF.out o], ownsRow_setCell_below hown' (by simp) _, hb3.setCell (by simp) _, by simp; omega⟩
      case measure => simp [intOf]; omega
    · obtain rfl : k = c.toNat := by omega
      have r0 : wr.cell? ⟨w.heap.size, 0, none⟩ = some (.slice none 0 0) := (hbel.cell (by simp)).trans (by simp)
      have r1 : wr.cell? ⟨w.heap.size, 1, none⟩ = some (.int .i64 0) := (hbel.cell (by simp)).trans (by simp)
      have r2 : wr.cell? ⟨w.heap.size, 2, none⟩ = some (.int .i64 0) := (hbel.cell (by simp)).trans (by simp)
      have r3 : wr.cell? ⟨w.heap.size, 3, none⟩ = some (.int .i64 0) := (hbel.cell (by simp)).trans (by simp)
      have r4 : wr.cell? ⟨w.heap.size, 4, none⟩ = some (.int .i64 0) := (hbel.cell (by simp)).trans (by simp)
      have g0 : wr.frozen? ⟨w.heap.size, 0, none⟩ = false := (hbel.frozen (by simp)).trans (by simp)
      have g1 : wr.frozen? ⟨w.heap.size, 1, none⟩ = false := (hbel.frozen (by simp)).trans (by simp)
      have g2 : wr.frozen? ⟨w.heap.size, 2, none⟩ = false := (hbel.frozen (by simp)).trans (by simp)
      have g3 : wr.frozen? ⟨w.heap.size, 3, none⟩ = false := (hbel.frozen (by simp)).trans (by simp)
      have g4 : wr.frozen? ⟨w.heap.size, 4, none⟩ = false := (hbel.frozen (by simp)).trans (by simp)
      have HY : Hid (∀ sv w', w'.ownsRow w.heap.size 78 4 sv c.toNat (opCells (opsAt (-1) s (at_ + 1) c.toNat)) → Below w.heap.size w w' → Post (.returned (.agg #[sv, .int .i64 (byteOr (-1) s (at_ + 1 + 4 * c.toNat)), .int .i64 (byteOr (-1) s (at_ + 1 + 4 * c.toNat + 1)), .int .i64 (byteOr (-1) s (at_ + 1 + 4 * c.toNat + 2)), .int .i64 (byteOr (-1) s (at_ + 1 + 4 * c.toNat + 3))])) w') := hyes
      clear hyes
      have hb0 := Below.under hbel
      go_wp2_with (go_at_call 79; refine (byteAt_any _ _ _ hs).mono ?_; rintro e w' ⟨rfl, rfl⟩)
      refine bodyPost_ret (v := .agg #[.slice ao c.toNat cp, .int .i64 (byteOr (-1) s (at_ + 1 + 4 * c.toNat)), .int .i64 (byteOr (-1) s (at_ + 1 + 4 * c.toNat + 1)), .int .i64 (byteOr (-1) s (at_ + 1 + 4 * c.toNat + 2)), .int .i64 (byteOr (-1) s (at_ + 1 + 4 * c.toNat + 3))]) (by simp [results, Try.results80, go_sem, r0, r1, r2, r3, r4]) rfl (HY.out _ _ ?_ ?_)
      · refine owns_base (base := w.heap.size + 2) ?_ (by omega)
        repeat (refine ownsRow_setCell_below ?_ (by simp) _)
        exact hown
      · repeat (refine Below.setCell ?_ (by simp) _)
        exact hb0

end Go.Proofs.Ytdjdjkgoelbbdaa
