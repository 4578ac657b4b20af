/- A program of its own with spare room behind each of its lists. -/
import Derived.Test.YtdjdjkgoelbbdaaRowJoined
import Derived.Test.YtdjdjkgoelbbdaaLawKJoined
import Derived.Test.YtdjdjkgoelbbdaaPStoJoined
set_option linter.unusedSimpArgs false
set_option linter.unusedVariables false
namespace Go.Proofs.Ytdjdjkgoelbbdaa
open Go.RowKit

/-- Each of the lists lies in a row of its own from block lo on, with a mark behind its end. -/
def LiesP (w : World) (lo : Nat) (bv : List (BlockD × Value)) : Prop := ∀ x ∈ bv, ∃ p, lo ≤ p ∧ x.2 = .slice (some ⟨p, 0, none⟩) x.1.ops.length (x.1.ops.length + 1) ∧ Row w p 78 (opCells x.1.ops ++ [.int .i64 77, .int .i64 0, .int .i64 0, .int .i64 0])

def zBlk5 : List Value := [.slice none 0 0, .int .i64 0, .int .i64 0, .int .i64 0, .int .i64 0]
def zOp4 : List Value := [.int .i64 0, .int .i64 0, .int .i64 0, .int .i64 0]

/-- The blocks' row, the first k blocks laid, n in all. -/
def bRow (bv : List (BlockD × Value)) (n : Nat) : List Value := blkCells bv ++ pad zBlk5 (n - bv.length)

theorem zBlk5_zero : (Value.agg #[.slice none 0 0, .int .i64 0, .int .i64 0, .int .i64 0, .int .i64 0]).cells = zBlk5.toArray := rfl
theorem zOp4_zero : (Value.agg #[.int .i64 0, .int .i64 0, .int .i64 0, .int .i64 0]).cells = zOp4.toArray := rfl

theorem bRow_get {bv : List (BlockD × Value)} {n : Nat} (h : bv.length < n) : (bRow bv n)[bv.length * 5]? = some (.slice none 0 0) ∧ (bRow bv n)[bv.length * 5 + 1]? = some (.int .i64 0) ∧ (bRow bv n)[bv.length * 5 + 2]? = some (.int .i64 0) ∧ (bRow bv n)[bv.length * 5 + 3]? = some (.int .i64 0) ∧ (bRow bv n)[bv.length * 5 + 4]? = some (.int .i64 0) := by
  have hl := blkCells_length bv
  unfold bRow
  obtain ⟨m, hm⟩ : ∃ m, n - bv.length = m + 1 := ⟨n - bv.length - 1, by omega⟩
  rw [hm, pad_cons]
  refine ⟨?_, ?_, ?_, ?_, ?_⟩
  · rw [List.getElem?_append_right (by omega), hl, Nat.sub_self]; rfl
  all_goals (rw [List.getElem?_append_right (by omega), hl, Nat.add_sub_cancel_left]; rfl)

theorem bRow_set {bv : List (BlockD × Value)} {n : Nat} (h : bv.length < n) (ops : List OpD) (k r x y : Int) (sv : Value) :
    (((((bRow bv n).set (bv.length * 5) sv).set (bv.length * 5 + 1) (.int .i64 k)).set (bv.length * 5 + 2) (.int .i64 r)).set (bv.length * 5 + 3) (.int .i64 x)).set (bv.length * 5 + 4) (.int .i64 y) = bRow (bv ++ [(⟨ops, ⟨k, r, x, y⟩⟩, sv)]) n := by
  have hl := blkCells_length bv
  unfold bRow
  obtain ⟨m, hm⟩ : ∃ m, n - bv.length = m + 1 := ⟨n - bv.length - 1, by omega⟩
  have hm2 : n - (bv ++ [(⟨ops, ⟨k, r, x, y⟩⟩, sv)] : List (BlockD × Value)).length = m := by simp; omega
  rw [hm2, hm, pad_cons, blkCells_snoc]
  rw [List.set_append_right _ _ (by omega), hl, Nat.sub_self]
  rw [List.set_append_right _ _ (by omega), hl, Nat.add_sub_cancel_left]
  rw [List.set_append_right _ _ (by omega), hl, Nat.add_sub_cancel_left]
  rw [List.set_append_right _ _ (by omega), hl, Nat.add_sub_cancel_left]
  rw [List.set_append_right _ _ (by omega), hl, Nat.add_sub_cancel_left]
  simp [zBlk5]

theorem oRow_set (l : List OpD) : (opCells l ++ zOp4).set (l.length * 4) (.int .i64 77) = opCells l ++ [.int .i64 77, .int .i64 0, .int .i64 0, .int .i64 0] := by
  have hl := opCells_length l
  rw [List.set_append_right _ _ (by omega), hl, Nat.sub_self]
  rfl

theorem oRow_copy (l : List OpD) : opCells l ++ (pad zOp4 (l.length + 1)).drop (opCells l).length = opCells l ++ zOp4 := by
  have hl := opCells_length l
  have hp := pad_length zOp4 l.length
  congr 1
  rw [pad, hl, List.drop_append]
  have e1 : zOp4.length = 4 := rfl
  rw [e1] at hp
  rw [List.drop_of_length_le (by omega), hp, Nat.sub_self]
  rfl

theorem rdo_none {w : World} {n sc : Nat} {l : List OpD} {so : Option Addr} (h : RdOps w (.slice so n sc) l) : so = none → opCells l = [] := by
  obtain ⟨ao, cap, e, _, hc⟩ := h
  simp only [Value.slice.injEq] at e
  obtain ⟨rfl, rfl, rfl⟩ := e
  intro h0
  cases l with
  | nil => rfl
  | cons p r =>
    obtain ⟨b, off, e, _⟩ := hc 0 (by simp)
    rw [h0] at e
    cases e

theorem rdo_cells {w : World} {n sc : Nat} {l : List OpD} {so : Option Addr} (h : RdOps w (.slice so n sc) l) : ∀ ad, so = some ad → ∀ j u, (opCells l)[j]? = some u → w.cell? (ad.add j) = some u := by
  obtain ⟨ao, cap, e, _, hc⟩ := h
  simp only [Value.slice.injEq] at e
  obtain ⟨rfl, rfl, rfl⟩ := e
  intro ad had j u hj
  have hl := opCells_length l
  have hjl : j < (opCells l).length := (List.getElem?_eq_some_iff.1 hj).1
  obtain ⟨b, off, e, c1, c2, c3, c4⟩ := hc (j / 4) (by omega)
  rw [had] at e
  obtain rfl := Option.some.inj e
  obtain ⟨g1, g2, g3, g4⟩ := opCells_get l (j / 4) (by omega)
  rw [Addr.add_lit]
  obtain hm | hm | hm | hm : j % 4 = 0 ∨ j % 4 = 1 ∨ j % 4 = 2 ∨ j % 4 = 3 := by omega
  · have ej : j / 4 * 4 = j := by omega
    rw [ej] at g1 c1
    rw [c1, ← g1, hj]
  · have ej : j / 4 * 4 + 1 = j := by omega
    rw [ej] at g2
    rw [Nat.add_assoc, ej] at c2
    rw [c2, ← g2, hj]
  · have ej : j / 4 * 4 + 2 = j := by omega
    rw [ej] at g3
    rw [Nat.add_assoc, ej] at c3
    rw [c3, ← g3, hj]
  · have ej : j / 4 * 4 + 3 = j := by omega
    rw [ej] at g4
    rw [Nat.add_assoc, ej] at c4
    rw [c4, ← g4, hj]

theorem ops_one (l : List OpD) : ∀ u ∈ opCells l, u.oneCell' = true := by
  intro u hu
  simp only [opCells, List.mem_flatMap] at hu
  obtain ⟨p, _, hp⟩ := hu
  simp at hp
  rcases hp with rfl | rfl | rfl | rfl <;> rfl

theorem liesP_step {w w' : World} {lo : Nat} {bv : List (BlockD × Value)} (h : LiesP w lo bv) (hs : ∀ p xs, lo ≤ p → Row w p 78 xs → Row w' p 78 xs) : LiesP w' lo bv :=
  fun x hx => let ⟨p, hlo, e, hp⟩ := h x hx; ⟨p, hlo, e, hs p _ hlo hp⟩

theorem LiesP.lower {w : World} {lo lo' : Nat} {bv : List (BlockD × Value)} (h : LiesP w lo bv) (hl : lo' ≤ lo) : LiesP w lo' bv :=
  fun x hx => let ⟨p, hlo, e, hp⟩ := h x hx; ⟨p, by omega, e, hp⟩

theorem blks_one {w : World} {lo : Nat} {bv : List (BlockD × Value)} (h : LiesP w lo bv) : ∀ u ∈ blkCells bv, u.oneCell' = true := by
  intro u hu
  simp only [blkCells, List.mem_flatMap] at hu
  obtain ⟨x, hx, hp⟩ := hu
  obtain ⟨p, _, e, _⟩ := h x hx
  simp at hp
  rcases hp with rfl | rfl | rfl | rfl | rfl
  · rw [e]; rfl
  all_goals rfl

set_option maxRecDepth 100000 in
set_option maxHeartbeats 8000000 in
theorem roomyProg_cps (a0 a1 a2 a3 : Int) (v : Value) (l : List BlockD) (w : World) (hr : RdBlocks w v l) (hn : l.length ≤ 2513169434916) (hn2 : ∀ k, k < l.length → (bops l k).length ≤ 4398046511104) (Post : Ending → World → Prop)
    (hyes : ∀ w' bv L D, bdat bv = l → LiesP w' w.heap.size bv → Row w' L 76 (blkCells bv ++ [.slice none 0 0, .int .i64 77, .int .i64 0, .int .i64 0, .int .i64 0]) → Row w' D 76 (blkCells bv) → Below w.heap.size w w' →
      Post (.returned (.tuple #[.agg #[.int .i64 a0, .int .i64 a1, .int .i64 a2, .int .i64 a3, .slice (some ⟨L, 0, none⟩) bv.length (bv.length + 1)], .slice (some ⟨D, 0, none⟩) bv.length bv.length])) w') :
    Calls Try.prog 36 #[.agg #[.int .i64 a0, .int .i64 a1, .int .i64 a2, .int .i64 a3, v]] w Post := by
  obtain ⟨i0, ii, iz0, iz1, iz2⟩ := info_parts Try.infoBlk
  obtain ⟨j0, ji, jz0, jz1, jz2⟩ := info_parts Try.infoOp
  have hr0 := hr
  obtain ⟨ao, cap, rfl, hl, hc⟩ := hr
  go_enter Try.func36, Try.ntmps36
  go_wp2_with (at_make; refine wpList_make_row _ rfl _ _ 22 rfl 76 i0 _ zBlk5 Try.underlying22 ii iz0 iz1 zBlk5_zero (by decide) _ _ _ _ (l.length + 1) rfl rfl (by simp) (by simp) ?c1 ?c2 ?_)
  case c1 => first | omega | (rw [iz2]; omega)
  case c2 => unfold maxLen; omega
  intro w1 hL hb1 hz1
  have hz1' := hz1.out
  try simp at hL
  try simp at hz1'
  clear hz1
  have HB : Below w.heap.size w w1 := ((((Below.refl w.heap.size w).alloc (Nat.le_refl _) _).alloc (by simp) _).alloc (by simp; omega) _).trans (hb1.mono (by omega))
  have X4 : Hid (w1.cell? ⟨w.heap.size, 4, none⟩ = some (.slice ao l.length cap)) := by
    refine (hb1.cell (p := ⟨w.heap.size, 4, none⟩) (by show w.heap.size < _; omega)).trans ?_
    rw [World.cell?_alloc_lt _ _ _ (by show w.heap.size < _; simp only [World.size_alloc]; omega), World.cell?_alloc_lt _ _ _ (by show w.heap.size < _; simp only [World.size_alloc]; omega)]
    simp
  have R : Hid (Row w1 (w.heap.size + 1) 24 [.int .i64 0, .int .i64 0, .int .i64 0, .int .i64 0, .slice none 0 0]) := (hb1.block (w.heap.size + 1) (by simp)).trans ((Below.heap_alloc _ _ _ (by simp)).trans (heap_alloc2_new w _ _))
  have Q : Hid (Row w1 (w.heap.size + 2) 24 [.int .i64 a0, .int .i64 a1, .int .i64 a2, .int .i64 a3, .slice none 0 0]) := by
    refine (hb1.block (w.heap.size + 2) (by simp)).trans ?_
    have h := heap_alloc2_new (w.alloc (.cells #[.int .i64 a0, .int .i64 a1, .int .i64 a2, .int .i64 a3, .slice ao l.length cap] 24)) (.cells #[.int .i64 0, .int .i64 0, .int .i64 0, .int .i64 0, .slice none 0 0] 24) (.cells #[.int .i64 a0, .int .i64 a1, .int .i64 a2, .int .i64 a3, .slice none 0 0] 24)
    simp only [World.size_alloc] at h
    exact h
  obtain ⟨L, hLe⟩ : ∃ L, L = w.heap.size + 3 := ⟨_, rfl⟩
  have hL' : Row w1 L 76 (pad zBlk5 (l.length + 1)) := by rw [hLe]; exact hL
  have hzw : w1.heap.size = w.heap.size + 4 := hz1'
  clear hL hz1' hb1
  have HL : Hid (L = w.heap.size + 3) := hLe
  rw [show w.heap.size + 1 + 1 + 1 = L from hLe.symm]
  go_wp2
  have hL3 : w.heap.size + 2 < L := by omega
  clear hLe
  go_loopw [7] (fun i wr => ∃ (k : Nat) (bv : List (BlockD × Value)), k ≤ l.length ∧ i = .int .i64 k ∧ Hid (bv.length = k) ∧ Hid (bdat bv = l.take k) ∧ LiesP wr (w.heap.size + 4) bv ∧ Row wr L 76 (bRow bv (l.length + 1)) ∧ Below (w.heap.size + 3) w1 wr)
    (fun i _ => l.length - (intOf i).toNat)
  case atStart => exact ⟨0, [], Nat.zero_le _, rfl, rfl, rfl, fun x hx => by simp at hx, by simpa [bRow, blkCells] using hL', Below.refl _ _⟩
  case round =>
    clear hL'
    obtain ⟨k, bv, hk, rfl, hvl, hdt, hlies, hL, hbel⟩ := hrel
    have hb0 : Below w.heap.size w wr := HB.trans (hbel.mono (by omega))
    have x0 : wr.cell? ⟨w.heap.size, 4, none⟩ = some (.slice ao l.length cap) := (hbel.cell (by simp)).trans X4.out
    have hzz := hbel.size
    rw [hzw] at hzz
    have hLw := hL.lt
    by_cases hlt : k < l.length
    case neg =>
      obtain rfl : k = l.length := by omega
      have hkv : bv.length < l.length + 1 := by have := hvl.out; omega
      have hRr := R.out.same (hbel.block (w.heap.size + 1) (by omega))
      have hQr := Q.out.same (hbel.block (w.heap.size + 2) (by omega))
      have l1 := hL.cell (bRow_get hkv).2.1
      rw [hvl.out] at l1
      have lf1 := hL.frozen (l.length * 5 + 1)
      have q4 := hQr.cell (i := 4) rfl
      have qf := hQr.frozen 4
      have hLn1 : L ≠ w.heap.size + 1 := by omega
      have hLn2 : L ≠ w.heap.size + 2 := by omega
      have hL2 := (hL.set (bv.length * 5 + 1) (.int .i64 77)).unset (a := ⟨w.heap.size + 2, 4, none⟩) hLn2 (.slice (some ⟨L, 0, none⟩) l.length (l.length + 1))
      have e7 : (bRow bv (l.length + 1)).set (bv.length * 5 + 1) (.int .i64 77) = blkCells bv ++ [.slice none 0 0, .int .i64 77, .int .i64 0, .int .i64 0, .int .i64 0] := by
        have hl := blkCells_length bv
        have hp : l.length + 1 - bv.length = 1 := by have := hvl.out; omega
        unfold bRow
        rw [hp, List.set_append_right _ _ (by omega), hl, Nat.add_sub_cancel_left]
        rfl
      rw [e7, hvl.out] at hL2
      have hR2 := (hRr.unset (a := ⟨L, l.length * 5 + 1, none⟩) (by show w.heap.size + 1 ≠ L; omega) (.int .i64 77)).unset (a := ⟨w.heap.size + 2, 4, none⟩) (by show w.heap.size + 1 ≠ w.heap.size + 2; omega) (.slice (some ⟨L, 0, none⟩) l.length (l.length + 1))
      have hQ2 := (hQr.unset (a := ⟨L, l.length * 5 + 1, none⟩) (by show w.heap.size + 2 ≠ L; omega) (.int .i64 77)).set 4 (.slice (some ⟨L, 0, none⟩) l.length (l.length + 1))
      have hlies2 : LiesP ((wr.setCell ⟨L, l.length * 5 + 1, none⟩ (.int .i64 77)).setCell ⟨w.heap.size + 2, 4, none⟩ (.slice (some ⟨L, 0, none⟩) l.length (l.length + 1))) (w.heap.size + 4) bv :=
        liesP_step hlies fun p xs hlo hp => (hp.unset (a := ⟨L, _, none⟩) (by show p ≠ L; have := HL.out; omega) _).unset (a := ⟨w.heap.size + 2, _, none⟩) (by show p ≠ w.heap.size + 2; omega) _
      have hb2 := (hb0.setCell (p := ⟨L, l.length * 5 + 1, none⟩) (by show _ ≤ L; omega) (.int .i64 77)).setCell (p := ⟨w.heap.size + 2, 4, none⟩) (by show _ ≤ w.heap.size + 2; omega) (.slice (some ⟨L, 0, none⟩) l.length (l.length + 1))
      have hzs : ((wr.setCell ⟨L, l.length * 5 + 1, none⟩ (.int .i64 77)).setCell ⟨w.heap.size + 2, 4, none⟩ (.slice (some ⟨L, 0, none⟩) l.length (l.length + 1))).heap.size = wr.heap.size := by simp
      have hone := blks_one hlies
      have hdt' : Hid (bdat bv = l) := by have := hdt.out; rw [List.take_length] at this; exact this
      go_wp2_with (at_make; refine wpList_make_row _ rfl _ _ 22 rfl 76 i0 _ zBlk5 Try.underlying22 ii iz0 iz1 zBlk5_zero (by decide) _ _ _ _ l.length rfl rfl (by simp) (by simp) ?k1 ?k2 ?_)
      case k1 => first | omega | (rw [iz2]; omega)
      case k2 => unfold maxLen; omega
      intro w2 hD hb3 hz3
      try rw [hzs] at hD
      try rw [hzs] at hb3
      generalize hwe : (wr.setCell ⟨L, l.length * 5 + 1, none⟩ (.int .i64 77)).setCell ⟨w.heap.size + 2, 4, none⟩ (.slice (some ⟨L, 0, none⟩) l.length (l.length + 1)) = we at *
      have hws : wr.heap.size = we.heap.size := hzs.symm
      obtain ⟨D, hDe⟩ : ∃ D, D = wr.heap.size := ⟨_, rfl⟩
      have hLD : L < D := by omega
      have hDn : D ≠ w.heap.size + 1 := by omega
      have hL3 := hL2.below hb3 (by omega)
      have hR3 := hR2.below hb3 (by omega)
      have hQ3 := hQ2.below hb3 (by omega)
      have hlies3 : LiesP w2 (w.heap.size + 4) bv := liesP_step hlies2 fun p xs _ hp => hp.below hb3 (by have := hp.lt; omega)
      have hb4 := hb2.trans (hb3.mono (by omega))
      rw [← hDe] at hD ⊢
      have hpD : Hid (∀ p xs, Row we p 78 xs → p < D) := fun p xs hp => by have := hp.lt; omega
      have hpD2 : Hid (∀ p xs, w.heap.size + 4 ≤ p → Row w2 p 78 xs → p ≠ D) := fun p xs _ hp => row_apart hp hD (by decide)
      clear hwe hzs hws hb3 hz3 hDe x0 l1 lf1 q4 qf hb0 hlies hlies2 hL hL2 hb2 hbel hzz hLw hRr hQr hR2 hQ2
      have hsrc : ∀ ad, some (⟨L, 0, none⟩ : Addr) = some ad → ∀ j u, (blkCells bv)[j]? = some u → w2.cell? (ad.add j) = some u := by
        intro ad had j u hj
        obtain rfl := Option.some.inj had
        rw [Addr.add_lit, Nat.zero_add]
        exact hL3.cell (by rw [List.getElem?_append_left (List.getElem?_eq_some_iff.1 hj).1]; exact hj)
      go_wp2_with (refine wpList_copy_row _ rfl (.tmp 81) (.tmp 82) 22 rfl 76 i0 Try.underlying22 ii 5 iz1 D _ _ (some ⟨L, 0, none⟩) _ _ rfl rfl _ hD (blkCells bv) ?m1 (by intro h; cases h) hsrc ?m2 hone ?_)
      case m1 => rw [blkCells_length, hvl.out, show (l.length + 1).min l.length = l.length from Nat.min_eq_right (by omega)]
      case m2 => rw [blkCells_length, pad_length, hvl.out]; simp [zBlk5]
      intro w3 hD3 hu3
      have e8 : blkCells bv ++ (pad zBlk5 l.length).drop (blkCells bv).length = blkCells bv := by
        rw [List.drop_of_length_le (by rw [pad_length, blkCells_length, hvl.out]; simp [zBlk5]), List.append_nil]
      rw [e8] at hD3
      have hL4 := hL3.same (hu3.block L (by omega))
      have hR4 := hR3.same (hu3.block (w.heap.size + 1) (by omega))
      have hQ4 := hQ3.same (hu3.block (w.heap.size + 2) (by omega))
      have hlies4 : LiesP w3 (w.heap.size + 4) bv := liesP_step hlies3 fun p xs hlo hp => hp.same (hu3.block p (hpD2.out p xs hlo hp))
      have hb5 := hu3.below hb4 (by omega)
      have r0 := hR4.cell (i := 0) rfl
      have r1 := hR4.cell (i := 1) rfl
      have r2 := hR4.cell (i := 2) rfl
      have r3 := hR4.cell (i := 3) rfl
      have r4 := hR4.cell (i := 4) rfl
      have f0 := hR4.frozen 0
      have f1 := hR4.frozen 1
      have f2 := hR4.frozen 2
      have f3 := hR4.frozen 3
      have f4 := hR4.frozen 4
      have q0 := hQ4.cell (i := 0) (u := .int .i64 a0) rfl
      have q1 := hQ4.cell (i := 1) (u := .int .i64 a1) rfl
      have q2 := hQ4.cell (i := 2) (u := .int .i64 a2) rfl
      have q3 := hQ4.cell (i := 3) (u := .int .i64 a3) rfl
      have q4 := hQ4.cell (i := 4) (u := .slice (some ⟨L, 0, none⟩) l.length (l.length + 1)) rfl
      have hfin := hyes (((((w3.setCell ⟨w.heap.size + 1, 0, none⟩ (.int .i64 a0)).setCell ⟨w.heap.size + 1, 1, none⟩ (.int .i64 a1)).setCell ⟨w.heap.size + 1, 2, none⟩ (.int .i64 a2)).setCell ⟨w.heap.size + 1, 3, none⟩ (.int .i64 a3)).setCell ⟨w.heap.size + 1, 4, none⟩ (.slice (some ⟨L, 0, none⟩) l.length (l.length + 1))) bv L D hdt'.out
        ((liesP_step hlies4 fun p xs hlo hp => ((((hp.unset (a := ⟨w.heap.size + 1, _, none⟩) (by show p ≠ w.heap.size + 1; omega) _).unset (a := ⟨w.heap.size + 1, _, none⟩) (by show p ≠ w.heap.size + 1; omega) _).unset (a := ⟨w.heap.size + 1, _, none⟩) (by show p ≠ w.heap.size + 1; omega) _).unset (a := ⟨w.heap.size + 1, _, none⟩) (by show p ≠ w.heap.size + 1; omega) _).unset (a := ⟨w.heap.size + 1, _, none⟩) (by show p ≠ w.heap.size + 1; omega) _).lower (by omega))
        (((((hL4.unset (a := ⟨w.heap.size + 1, _, none⟩) hLn1 _).unset (a := ⟨w.heap.size + 1, _, none⟩) hLn1 _).unset (a := ⟨w.heap.size + 1, _, none⟩) hLn1 _).unset (a := ⟨w.heap.size + 1, _, none⟩) hLn1 _).unset (a := ⟨w.heap.size + 1, _, none⟩) hLn1 _)
        (((((hD3.unset (a := ⟨w.heap.size + 1, _, none⟩) hDn _).unset (a := ⟨w.heap.size + 1, _, none⟩) hDn _).unset (a := ⟨w.heap.size + 1, _, none⟩) hDn _).unset (a := ⟨w.heap.size + 1, _, none⟩) hDn _).unset (a := ⟨w.heap.size + 1, _, none⟩) hDn _)
        (((((hb5.setCell (by simp) _).setCell (by simp) _).setCell (by simp) _).setCell (by simp) _).setCell (by simp) _)
      rw [hvl.out] at hfin
      clear hyes hlies4 hL4 hD3 hb5 hR4 hQ4 hu3 hD hL3 hR3 hQ3 hlies3 hsrc hone hb4
      go_wp2
      refine bodyPost_ret (v := .tuple #[.agg #[.int .i64 a0, .int .i64 a1, .int .i64 a2, .int .i64 a3, .slice (some ⟨L, 0, none⟩) l.length (l.length + 1)], .slice (some ⟨D, 0, none⟩) l.length l.length]) (by simp [results, Try.results36, go_sem, r0, r1, r2, r3, r4]) rfl ?_
      exact hfin
    obtain ⟨b, off, sv, rfl, c1, c2, c3, c4, c5, c6⟩ := hc k hlt
    have d1 := cell_keep hb0 c1
    have d2 := cell_keep hb0 c2
    have d3 := cell_keep hb0 c3
    have d4 := cell_keep hb0 c4
    have d5 := cell_keep hb0 c5
    have d6 := c6.keep hb0
    have hbw : b < w.heap.size := World.block_lt_of_cell? _ _ c1
    have hm := hn2 k hlt
    obtain ⟨so, sc, e3, _, _⟩ := id d6
    subst e3
    go_wp2_with (first | (at_make; refine wpList_make_row _ rfl _ _ 72 rfl 78 j0 _ zOp4 Try.underlying72 ji jz0 jz1 zOp4_zero (by decide) _ _ _ _ ((bops l k).length + 1) rfl rfl (by simp) (by simp) ?e1 ?e2 ?_))
    case e1 => first | omega | (rw [jz2]; omega)
    case e2 => unfold maxLen; omega
    intro w2 hP hb2 hz2
    obtain ⟨P, hPe⟩ : ∃ P, P = wr.heap.size := ⟨_, rfl⟩
    have hz2' := hz2.out
    have hb2w := hb2
    rw [← hPe] at hP hb2 hz2' ⊢
    clear hz2
    have hLP : L < P := by omega
    have hbP : b < P := by omega
    have hLb : b < L := by omega
    have HP : Hid (P = wr.heap.size) := hPe
    have hP4 : w.heap.size + 4 ≤ P := by omega
    clear hPe
    have f0 := (hb2.cell (p := ⟨w.heap.size, 4, none⟩) (by show w.heap.size < P; omega)).trans x0
    have f1 := (hb2.cell (p := ⟨b, off + k * 5, none⟩) (by show b < P; omega)).trans d1
    have f2 := (hb2.cell (p := ⟨b, off + k * 5 + 1, none⟩) (by show b < P; omega)).trans d2
    have f3 := (hb2.cell (p := ⟨b, off + k * 5 + 2, none⟩) (by show b < P; omega)).trans d3
    have f4 := (hb2.cell (p := ⟨b, off + k * 5 + 3, none⟩) (by show b < P; omega)).trans d4
    have f5 := (hb2.cell (p := ⟨b, off + k * 5 + 4, none⟩) (by show b < P; omega)).trans d5
    have f6 := d6.keep hb2w
    go_wp2_with (refine wpList_copy_row _ rfl (.tmp 41) (.tmp 47) 72 rfl 78 j0 Try.underlying72 ji 4 jz1 P _ _ so _ _ rfl rfl _ hP (opCells (bops l k)) ?g1 (rdo_none f6) (rdo_cells f6) ?g2 (ops_one _) ?_)
    case g1 => rw [opCells_length, show (bops l k).length.min ((bops l k).length + 1) = (bops l k).length from Nat.min_eq_left (by omega)]
    case g2 => rw [opCells_length, pad_length]; simp [zOp4]; omega
    intro w3 hP3 hu3
    rw [oRow_copy] at hP3
    have hL3' : Row w3 L 76 (bRow bv (l.length + 1)) := (hL.below hb2 hLP).same (hu3.block L (by omega))
    have p0 := hP3.cell (i := (bops l k).length * 4) (u := .int .i64 0) (by rw [List.getElem?_append_right (by rw [opCells_length]; omega), opCells_length, Nat.sub_self]; rfl)
    have pf := hP3.frozen ((bops l k).length * 4)
    have hkv : bv.length < l.length + 1 := by have := hvl.out; omega
    obtain ⟨m0, m1, m2, m3, m4⟩ := bRow_get hkv
    have l0 := hL3'.cell m0
    have l1 := hL3'.cell m1
    have l2 := hL3'.cell m2
    have l3 := hL3'.cell m3
    have l4 := hL3'.cell m4
    clear m0 m1 m2 m3 m4
    rw [hvl.out] at l0 l1 l2 l3 l4
    have lf0 := hL3'.frozen (k * 5)
    have lf1 := hL3'.frozen (k * 5 + 1)
    have lf2 := hL3'.frozen (k * 5 + 2)
    have lf3 := hL3'.frozen (k * 5 + 3)
    have lf4 := hL3'.frozen (k * 5 + 4)
    have g0 := (hu3.cell (b := w.heap.size) (o := 4) (by omega)).trans f0
    have g1' := (hu3.cell (b := b) (o := off + k * 5) (by omega)).trans f1
    have g2' := (hu3.cell (b := b) (o := off + k * 5 + 1) (by omega)).trans f2
    have g3' := (hu3.cell (b := b) (o := off + k * 5 + 2) (by omega)).trans f3
    have g4' := (hu3.cell (b := b) (o := off + k * 5 + 3) (by omega)).trans f4
    have g5' := (hu3.cell (b := b) (o := off + k * 5 + 4) (by omega)).trans f5
    have hb3 : Below (w.heap.size + 3) w1 w3 := hu3.below (hbel.trans (hb2.mono (by omega))) (by omega)
    have hPL : P ≠ L := by omega
    have hnP : L ≠ P := by omega
    clear hb2w f0 f1 f2 f3 f4 f5 f6 x0 d1 d2 d3 d4 d5
    have q1 := hP3.set ((bops l k).length * 4) (.int .i64 77)
    rw [oRow_set] at q1
    have q2 := ((((q1.unset (a := ⟨L, k * 5, none⟩) hPL (.slice (some ⟨P, 0, none⟩) (bops l k).length ((bops l k).length + 1))).unset (a := ⟨L, k * 5 + 1, none⟩) hPL (.int .i64 (bek l k))).unset (a := ⟨L, k * 5 + 2, none⟩) hPL (.int .i64 (ber l k))).unset (a := ⟨L, k * 5 + 3, none⟩) hPL (.int .i64 (bex l k))).unset (a := ⟨L, k * 5 + 4, none⟩) hPL (.int .i64 (bey l k))
    have q3 := (((((hL3'.unset (a := ⟨P, (bops l k).length * 4, none⟩) hnP (.int .i64 77)).set (bv.length * 5) (.slice (some ⟨P, 0, none⟩) (bops l k).length ((bops l k).length + 1))).set (bv.length * 5 + 1) (.int .i64 (bek l k))).set (bv.length * 5 + 2) (.int .i64 (ber l k))).set (bv.length * 5 + 3) (.int .i64 (bex l k))).set (bv.length * 5 + 4) (.int .i64 (bey l k))
    rw [bRow_set hkv (bops l k), hvl.out] at q3
    have q4 : LiesP ((((((w3.setCell ⟨P, (bops l k).length * 4, none⟩ (.int .i64 77)).setCell ⟨L, k * 5, none⟩ (.slice (some ⟨P, 0, none⟩) (bops l k).length ((bops l k).length + 1))).setCell ⟨L, k * 5 + 1, none⟩ (.int .i64 (bek l k))).setCell ⟨L, k * 5 + 2, none⟩ (.int .i64 (ber l k))).setCell ⟨L, k * 5 + 3, none⟩ (.int .i64 (bex l k))).setCell ⟨L, k * 5 + 4, none⟩ (.int .i64 (bey l k))) (w.heap.size + 4)
        (bv ++ [(⟨bops l k, ⟨bek l k, ber l k, bex l k, bey l k⟩⟩, .slice (some ⟨P, 0, none⟩) (bops l k).length ((bops l k).length + 1))]) := by
      intro x hx
      rcases List.mem_append.1 hx with hx | hx
      · refine liesP_step hlies ?_ x hx
        intro p xs hlo hp
        have hpP : p < P := by have := hp.lt; rw [HP.out]; exact this
        have hpL : p ≠ L := by have := HL.out; omega
        exact ((((((hp.same (hb2.block p hpP)).same (hu3.block p (by omega))).unset (a := ⟨P, _, none⟩) (by show p ≠ P; omega) _).unset (a := ⟨L, _, none⟩) hpL _).unset (a := ⟨L, _, none⟩) hpL _).unset (a := ⟨L, _, none⟩) hpL _).unset (a := ⟨L, _, none⟩) hpL _ |>.unset (a := ⟨L, _, none⟩) hpL _
      · simp at hx
        subst hx
        exact ⟨P, hP4, rfl, q2⟩
    have q5 := (((((hb3.setCell (p := ⟨P, (bops l k).length * 4, none⟩) (by show _ ≤ P; omega) (.int .i64 77)).setCell (p := ⟨L, k * 5, none⟩) (by show _ ≤ L; omega) (.slice (some ⟨P, 0, none⟩) (bops l k).length ((bops l k).length + 1))).setCell (p := ⟨L, k * 5 + 1, none⟩) (by show _ ≤ L; omega) (.int .i64 (bek l k))).setCell (p := ⟨L, k * 5 + 2, none⟩) (by show _ ≤ L; omega) (.int .i64 (ber l k))).setCell (p := ⟨L, k * 5 + 3, none⟩) (by show _ ≤ L; omega) (.int .i64 (bex l k))).setCell (p := ⟨L, k * 5 + 4, none⟩) (by show _ ≤ L; omega) (.int .i64 (bey l k))
    clear q1 q2 hb3 hlies hL hb2 hyes R Q
    go_wp2
    go_roundw
    case rel =>
      refine ⟨k + 1, _, by omega, by go_num, ?_, ?_, q4, q3, q5⟩
      · show List.length _ = _
        have := hvl.out
        simp; exact this
      · show bdat _ = _
        have e := hdt.out
        rw [take_getD l bz k hlt, ← e]
        simp [bdat, bops, bek, ber, bex, bey, bfin]
    case measure => simp [intOf]; omega

end Go.Proofs.Ytdjdjkgoelbbdaa
