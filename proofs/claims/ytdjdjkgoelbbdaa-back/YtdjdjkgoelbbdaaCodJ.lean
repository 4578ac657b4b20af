/- Reading a hint in the codec. -/
import Derived.Test.YtdjdjkgoelbbdaaCodI
set_option linter.unusedSimpArgs false
set_option linter.unusedVariables false
namespace Go.Proofs.Ytdjdjkgoelbbdaa
open Go.RowKit

theorem Try.infoPair : (Try.prog.info? 84).map (fun i => (i.zero, i.size, i.bytes)) = some (some (.agg #[.int .i64 0, .int .i64 0]), 2, 16) := by kernel_rfl
theorem Try.infoPing : (Try.prog.info? 82).map (fun i => (i.zero, i.size, i.bytes)) = some (some (.agg #[.int .i64 0, .slice none 0 0]), 2, 32) := by kernel_rfl

/-- The pairs that are read from a place on. -/
def pairsAt (d : Int) (s : ByteArray) (next : Int) : Nat → List PairD
  | 0 => []
  | k + 1 => pairsAt d s next k ++ [⟨byteOr d s (next + 2 * k), byteOr d s (next + 2 * k + 1)⟩]

def pairCells (ps : List PairD) : List Value := ps.flatMap fun p => [.int .i64 p.reg, .int .i64 p.place]

theorem pairCells_snoc (ps : List PairD) (a b : Int) : pairCells (ps ++ [⟨a, b⟩]) = pairCells ps ++ [.int .i64 a, .int .i64 b] := by
  simp [pairCells]

theorem pairsAt_length (d : Int) (s : ByteArray) (next : Int) (k : Nat) : (pairsAt d s next k).length = k := by
  induction k with
  | zero => rfl
  | succ k ih => simp [pairsAt, ih]

theorem two_new (w : World) (x y : Value) (t : TypeId) : ∀ j u, [x, y][j]? = some u → (w.alloc (.cells #[x, y] t)).cell? ((⟨w.heap.size, 0, none⟩ : Addr).add j) = some u := by
  intro j u hj
  match j, hj with
  | 0, hj => simp at hj; subst hj; simp [Addr.add]
  | 1, hj => simp at hj; subst hj; simp [Addr.add]

theorem byteOr_bd (d : Int) (s : ByteArray) (i : Int) (hd : -1 ≤ d ∧ d ≤ 255) : -1 ≤ byteOr d s i ∧ byteOr d s i ≤ 255 := by
  unfold byteOr
  split
  · have := (s[i.toNat]!).toNat_lt; omega
  · exact hd

set_option maxHeartbeats 1000000 in
set_option maxRecDepth 100000 in
theorem pairingAt_any (s : ByteArray) (at_ : Int) (w : World) (hs : s.size ≤ maxLen) (ha : 0 ≤ at_) (ha2 : at_ ≤ 1000000) :
    Calls Try.prog 86 #[.string s, .int .i64 at_] w fun e w' => ∃ sv, e = .returned (.agg #[.int .i64 (byteOr (-1) s at_), sv]) ∧
      w'.ownsRow w.heap.size 84 2 sv (byteOr (-1) s (at_ + 1)).toNat (pairCells (pairsAt (-1) s (at_ + 2) (byteOr (-1) s (at_ + 1)).toNat)) ∧ Below w.heap.size w w' := by
  obtain ⟨i0, hi, hz0, hz1, hz2⟩ := info_parts Try.infoPair
  have hcb := byteOr_bd (-1) s (at_ + 1) (by omega)
  generalize hcn : byteOr (-1) s (at_ + 1) = c at *
  generalize hsn : byteOr (-1) s at_ = src at *
  go_enter Try.func86, Try.ntmps86
  go_wp2_with (go_at_call 79; refine (byteAt_any _ _ _ hs).mono ?_; rintro e w' ⟨rfl, rfl⟩)
  clear hcn hsn
  go_loopw [7, 8] (fun nx i wr => ∃ (k : Nat) (sv : Value), k ≤ c.toNat ∧ i = .int .i64 k ∧ nx = .int .i64 (at_ + 2 + 2 * k) ∧ wr.cell? ⟨w.heap.size + 1, 0, none⟩ = some (.int .i64 src) ∧ wr.cell? ⟨w.heap.size + 1, 1, none⟩ = some sv ∧
      wr.frozen? ⟨w.heap.size + 1, 1, none⟩ = false ∧ wr.ownsRow (w.heap.size + 2) 84 2 sv k (pairCells (pairsAt (-1) s (at_ + 2) k)) ∧ Below (w.heap.size + 1) (w.alloc (.cells #[.int .i64 0, .slice none 0 0] 82)) wr ∧ w.heap.size + 2 ≤ wr.heap.size)
    (fun _ i _ => c.toNat - (intOf i).toNat)
  case atStart =>
    refine ⟨0, .slice none 0 0, Nat.zero_le _, rfl, by simp, by simp, by simp, by simp, World.ownsRow_nil _ _ _ _, ?_, by simp⟩
    exact (Below.refl _ _).alloc (by simp) _
  case round =>
    obtain ⟨k, sv, hk, rfl, rfl, hx0, hx1, hxf, hown, hbel, hz⟩ := hrel
    obtain ⟨ao, cp, rfl⟩ := owns_slice hown
    have hzl : w.heap.size + 1 < wr.heap.size := by omega
    have hzm : w.heap.size < wr.heap.size := by omega
    have r0 : wr.cell? ⟨w.heap.size, 0, none⟩ = some (.int .i64 0) := (hbel.cell (by simp)).trans (by simp)
    have r1 : wr.cell? ⟨w.heap.size, 1, none⟩ = some (.slice none 0 0) := (hbel.cell (by simp)).trans (by simp)
    have rf0 : wr.frozen? ⟨w.heap.size, 0, none⟩ = false := (hbel.frozen (by simp)).trans (by simp)
    have rf1 : wr.frozen? ⟨w.heap.size, 1, none⟩ = false := (hbel.frozen (by simp)).trans (by simp)
    by_cases hlt : (k : Int) < c
    · have HS : Hid (pairsAt (-1) s (at_ + 2) (k + 1) = pairsAt (-1) s (at_ + 2) k ++ [⟨byteOr (-1) s (at_ + 2 + 2 * k), byteOr (-1) s (at_ + 2 + 2 * k + 1)⟩]) := rfl
      go_wp2_with (first | (go_at_call 79; refine (byteAt_any _ _ _ hs).mono ?_; rintro e w' ⟨rfl, rfl⟩) | (at_builtin; refine wpList_append_own _ rfl _ _ 80 rfl (w.heap.size + 2) 84 i0 (.agg #[.int .i64 0, .int .i64 0]) 2 16 Try.underlying80 hi hz0 hz1 hz2 rfl (by decide) _ _ _ rfl ((hown.alloc _).alloc _) ⟨wr.heap.size + 1, 0, none⟩ 1 1 [.int .i64 (byteOr (-1) s (at_ + 2 + 2 * k)), .int .i64 (byteOr (-1) s (at_ + 2 + 2 * k + 1))] rfl rfl ?c1 ?c2 ?c3 ?c4 ?c5 ?_))
      case c1 => simpa using two_new (wr.alloc _) _ _ _
      case c2 => intro u hu; simp at hu; rcases hu with rfl | rfl <;> rfl
      case c3 => unfold maxLen; omega
      case c4 => omega
      case c5 => simp; omega
      intro v' w1 hown' hgrow _
      rw [← pairCells_snoc, ← HS.out] at hown'
      have hb2 := ((((Below.refl (w.heap.size + 2) wr).alloc hz _).alloc (by simp; omega) _).grown hgrow (by simp; omega) (fun g hg => (hown.lt g hg).1))
      have y0 := (hb2.cell (p := ⟨w.heap.size + 1, 0, none⟩) (by simp)).trans hx0
      have y1 := (hb2.cell (p := ⟨w.heap.size + 1, 1, none⟩) (by simp)).trans hx1
      have yf := (hb2.frozen (p := ⟨w.heap.size + 1, 1, none⟩) (by simp)).trans hxf
      have hz2 := hb2.size
      have hb3 := (hbel.trans (hb2.mono (by omega)))
      obtain ⟨ao', cp', rfl⟩ := owns_slice hown'
      clear hgrow hown hx0 hx1 hxf r0 r1 rf0 rf1 hb2 hbel
      go_wp2
      go_roundw
      case rel =>
        refine ⟨k + 1, _, by omega, by go_num, by go_num, ?_, ?_, ?_, ownsRow_setCell_below hown' (by simp) _, hb3.setCell (by simp) _, by simp; omega⟩
        · exact cell_unset (by simp) y0
        · exact cell_set y1
        · simp [yf]
      case measure => simp [intOf]; omega
    · obtain rfl : k = c.toNat := by omega
      go_wp2
      refine bodyPost_ret (v := .agg #[.int .i64 src, .slice ao c.toNat cp]) (by simp [results, Try.results86, go_sem, r0, r1]) rfl ⟨_, rfl, ?_, ?_⟩
      · exact owns_base (ownsRow_setCell_below (ownsRow_setCell_below hown (by simp) _) (by simp) _) (by omega)
      · exact ((Below.under hbel).setCell (by simp) _).setCell (by simp) _

end Go.Proofs.Ytdjdjkgoelbbdaa
