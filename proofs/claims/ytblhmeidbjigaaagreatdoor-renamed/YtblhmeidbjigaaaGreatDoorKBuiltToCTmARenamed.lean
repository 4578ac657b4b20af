/- A program without slots out of raw numbers, of lo to hi registers, with at most ops operations in a block. -/
import Derived.Test.YtblhmeidbjigaaaGreatDoorRows
import Derived.WalkKit
import Derived.WalkSpells
import Derived.WalkLawsBesides
import Derived.Laws.BytesArg
import Derived.Deep.QuietTactic
import Derived.BigQuiet
import Derived.Deep.RegionHeld3
import Derived.Deep.RegionLaw
import Derived.Deep.AppendLies
import Derived.Lib.ItoaNum
import Derived.Lib.ItoaLen
import Derived.OpenShut
import Derived.Maps.AppendAt
import Derived.StillTailTactics
import Derived.Shelf.Strconv.Itoa3
import Derived.Shelf.Lay
import Derived.Ground.NamesProg
import Derived.Lib.SmallJoins
import Derived.Lib.Hide
import Derived.Test.YtblhmeidbjigaaaGreatDoorKNextToKWholeRenamed

set_option linter.unusedSimpArgs false
set_option linter.unusedVariables false
namespace Go.Proofs.YtblhmeidbjigaaaGreatDoor
open Go.RowKit

set_option maxRecDepth 100000 in
set_option maxHeartbeats 4000000 in
theorem blockN_cps (R : Nat) (ao : Option Addr) (n cap k : Nat) (ops most regs slots nb : Int) (w : World) (h : Rolls w R ao n cap k) (hre : 1 ≤ regs ∧ regs ≤ 8) (hsl : 0 ≤ slots ∧ slots ≤ 8) (hop : 0 ≤ ops ∧ ops ≤ 12) (hmo : 1 ≤ most ∧ most ≤ 15) (hms : most ≤ 13 ∨ 1 ≤ slots) (hnb : 1 ≤ nb ∧ nb ≤ 6) (Post : Ending → World → Prop)
    (hp : ∀ sv l a b c d k' w', blockGood regs slots nb ⟨l, ⟨a, b, c, d⟩⟩ = true → Hid ((l.length : Int) ≤ ops) → w'.ownsRow w.heap.size 77 4 sv l.length (opCells l) → Rolls w' R ao n cap k' → Keep (fun g => g = R) w w' → Post (.returned (.agg #[sv, .int .i64 a, .int .i64 b, .int .i64 c, .int .i64 d])) w') :
    Calls Tryz.prog 62 #[.pointer (some ⟨R, 0, none⟩), .int .i64 ops, .int .i64 most, .int .i64 regs, .int .i64 slots, .int .i64 nb] w Post := by
  obtain ⟨i0, ii, iz0, iz1, iz2⟩ := info_parts Tryz.infoOp
  have hRw := h.row.lt
  have hA0 : Row ((w.alloc (.cells #[.slice none 0 0, .int .i64 0, .int .i64 0, .int .i64 0, .int .i64 0] 40)).alloc (.cells #[.slice none 0 0, .int .i64 0, .int .i64 0, .int .i64 0, .int .i64 0] 40)) w.heap.size 40 zBlk5 := by
    have q : Row (w.alloc (.cells #[.slice none 0 0, .int .i64 0, .int .i64 0, .int .i64 0, .int .i64 0] 40)) w.heap.size 40 zBlk5 := heap_alloc_new w _
    exact q.alloc _
  have hB0 : Row ((w.alloc (.cells #[.slice none 0 0, .int .i64 0, .int .i64 0, .int .i64 0, .int .i64 0] 40)).alloc (.cells #[.slice none 0 0, .int .i64 0, .int .i64 0, .int .i64 0, .int .i64 0] 40)) (w.heap.size + 1) 40 [.slice none 0 0, .int .i64 0, .int .i64 0, .int .i64 0, .int .i64 0] := heap_alloc2_new w _ _
  go_enter Tryz.func62, Tryz.ntmps62
  go_wp2_with fail
  refine next_cps R ao n cap k (ops + 1) _ (h.keep (((Below.refl _ _).alloc (Nat.le_refl _) _).alloc (by simp) _)) (by omega) _ ?_
  intro c k1 w1 hc0 hc3 hr1 hk1 hz1
  have hA := hA0.kept hk1 (by omega)
  have hB := hB0.kept hk1 (by omega)
  have hk01 : Keep (fun g => g = R) w w1 := (((Keep.refl _ _).alloc _).alloc _).trans hk1
  simp only [World.size_alloc] at hz1
  have hz1' : w.heap.size + 2 ≤ w1.heap.size := by omega
  clear hA0 hB0 hz1 hk1
  go_wp2
  go_loopw [15] (fun i wr => ∃ (j : Nat) (sv : Value) (l : List OpD) (kk : Nat), j ≤ c.toNat ∧ i = .int .i64 j ∧ Hid (l.length = j) ∧ Hid (opsGood regs slots l = true) ∧ Row wr w.heap.size 40 zBlk5 ∧ Row wr (w.heap.size + 1) 40 [sv, .int .i64 0, .int .i64 0, .int .i64 0, .int .i64 0] ∧
      wr.ownsRow (w.heap.size + 2) 77 4 sv j (opCells l) ∧ Rolls wr R ao n cap kk ∧ Keep (fun g => g = R) w wr ∧ w.heap.size + 2 ≤ wr.heap.size)
    (fun i _ => c.toNat - (intOf i).toNat)
  case atStart => exact ⟨0, .slice none 0 0, [], k1, Nat.zero_le _, rfl, rfl, rfl, hA, hB, World.ownsRow_nil _ _ _ _, hr1, hk01, hz1'⟩
  case round =>
    clear hA hB hr1 hk01 hz1' w1
    obtain ⟨j, sv, l, kk, hj, rfl, hll, hlg, hA, hB, hown, hro, hke, hzz⟩ := hrel
    obtain ⟨lo, lc, rfl⟩ := owns_slice hown
    by_cases hlt : (j : Int) < c
    · go_wp2_with fail
      refine op_cps R ao n cap kk most regs slots _ hro hre hsl hmo hms _ ?_
      intro a b c' d k2 w2 hg hr2 hk2
      have hA2 := hA.kept hk2 (by omega)
      have hB2 := hB.kept hk2 (by omega)
      have own2 := owns_keep hown hk2 (fun g hg => by omega)
      have hke2 := hke.trans hk2
      have hz2 := hk2.size
      have hzl : w.heap.size + 1 < w2.heap.size := by omega
      have hzq : w.heap.size + 2 ≤ w2.heap.size := by omega
      have b0 := hB2.cell (i := 0) rfl
      have HX : Hid (opsGood regs slots (l ++ [⟨a, b, c', d⟩]) = true) := by
        show opsGood _ _ _ = true
        have := hlg.out
        simp only [opsGood, List.all_append, List.all_cons, List.all_nil, Bool.and_true, Bool.and_eq_true] at this ⊢
        exact ⟨this, hg⟩
      clear hown hro hke hzz hA hB hk2 hg hlg
      go_wp2_with (at_builtin; refine wpList_append_own _ rfl _ _ 38 rfl (w.heap.size + 2) 77 i0 (.agg #[.int .i64 0, .int .i64 0, .int .i64 0, .int .i64 0]) 4 32 Tryz.underlying38 ii iz0 iz1 iz2 rfl (by decide) _ _ _ rfl ((own2.alloc _).alloc _) ⟨w2.heap.size + 1, 0, none⟩ 1 1 [.int .i64 a, .int .i64 b, .int .i64 c', .int .i64 d] rfl rfl ?c1 four_one ?c3 ?c4 ?c5 ?_)
      case c1 => simpa using four_new (w2.alloc _) _ _ _ _ _
      case c3 => unfold maxLen; omega
      case c4 => omega
      case c5 => first | omega | (simp; omega)
      intro v' w3 hown' hgrow _
      rw [← opCells_snoc] at hown'
      have hb2 := ((((Below.refl (w.heap.size + 2) w2).alloc hzq _).alloc (by simp; omega) _).grown hgrow (by simp; omega) (fun g hg => (own2.lt g hg).1))
      have hA3 := hA2.below hb2 (by omega)
      have hB3 := hB2.below hb2 (by omega)
      have hr3 := hr2.below h hb2 (by omega)
      have hke3 := hke2.below hb2 (by omega)
      have hz3 := hb2.size
      have y0 := hB3.cell (i := 0) rfl
      have yf := hB3.frozen 0
      obtain ⟨lo', lc', rfl⟩ := owns_slice hown'
      have hB4 := hB3.set 0 (.slice lo' (j + 1) lc')
      have hA4 := hA3.unset (a := ⟨w.heap.size + 1, 0, none⟩) (by show w.heap.size ≠ w.heap.size + 1; omega) (.slice lo' (j + 1) lc')
      have hr4 := hr3.set h (g := w.heap.size + 1) (i := 0) (by omega) (.slice lo' (j + 1) lc')
      have hke4 := hke3.setCell (p := ⟨w.heap.size + 1, 0, none⟩) (.inr (by show w.heap.size ≤ w.heap.size + 1; omega)) (.slice lo' (j + 1) lc')
      have own4 := ownsRow_setCell_below hown' (a := ⟨w.heap.size + 1, 0, none⟩) (by show w.heap.size + 1 < w.heap.size + 2; omega) (.slice lo' (j + 1) lc')
      clear hgrow hown' hb2 hA2 hB2 own2 hr2 hke2 b0 hA3 hB3 hr3 hke3
      go_wp2
      go_roundw
      case rel => exact ⟨j + 1, _, l ++ [⟨a, b, c', d⟩], k2, by omega, by go_num, by show List.length _ = _; have := hll.out; simp; exact this, HX, hA4, hB4, own4, hr4, hke4, by simp; omega⟩
      case measure => simp [intOf]; omega
    · obtain rfl : j = c.toNat := by omega
      go_wp2_with fail
      refine end_cps R ao n cap kk regs nb _ hro hre hnb _ ?_
      intro a b c' d k2 w2 hg hr2 hk2
      have hA2 := hA.kept hk2 (by omega)
      have hB2 := hB.kept hk2 (by omega)
      have own2 := owns_keep hown hk2 (fun g hg => by omega)
      have hke2 := hke.trans hk2
      have b0 := hB2.cell (i := 0) rfl
      have b1 := hB2.cell (i := 1) rfl
      have b2 := hB2.cell (i := 2) rfl
      have b3 := hB2.cell (i := 3) rfl
      have b4 := hB2.cell (i := 4) rfl
      have g1 := hB2.frozen 1
      have g2 := hB2.frozen 2
      have g3 := hB2.frozen 3
      have g4 := hB2.frozen 4
      have a0 := hA2.cell (i := 0) rfl
      have a1 := hA2.cell (i := 1) rfl
      have a2 := hA2.cell (i := 2) rfl
      have a3 := hA2.cell (i := 3) rfl
      have a4 := hA2.cell (i := 4) rfl
      have f0 := hA2.frozen 0
      have f1 := hA2.frozen 1
      have f2 := hA2.frozen 2
      have f3 := hA2.frozen 3
      have f4 := hA2.frozen 4
      have hgood : blockGood regs slots nb ⟨l, ⟨a, b, c', d⟩⟩ = true := by
        have e1 := hll.out
        simp only [blockGood, Bool.and_eq_true, decide_eq_true_eq]
        exact ⟨⟨by show l.length ≤ 12; omega, hlg.out⟩, hg⟩
      have hfin := hp (.slice lo c.toNat lc) l a b c' d k2 (set4 ((set4 w2 (w.heap.size + 1) 1 a b c' d).setCell ⟨w.heap.size, 0, none⟩ (.slice lo c.toNat lc)) w.heap.size 1 a b c' d) hgood (by have := hll.out; show (l.length : Int) ≤ ops; omega)
        (by
          rw [hll.out]
          refine owns_base (base := w.heap.size + 2) ?_ (by omega)
          exact (ownsRow_setCell_below · (by simp) _) ((ownsRow_setCell_below · (by simp) _) ((ownsRow_setCell_below · (by simp) _) ((ownsRow_setCell_below · (by simp) _) ((ownsRow_setCell_below · (by simp) _) ((ownsRow_setCell_below · (by simp) _) ((ownsRow_setCell_below · (by simp) _) ((ownsRow_setCell_below · (by simp) _) ((ownsRow_setCell_below · (by simp) _) own2)))))))))
        (((((((((hr2.set h (by omega) _).set h (by omega) _).set h (by omega) _).set h (by omega) _).set h (by omega) _).set h (by omega) _).set h (by omega) _).set h (by omega) _).set h (by omega) _)
        (((hke2.set4 (.inr (by omega)) _ _ _ _).setCell (.inr (by simp)) _).set4 (.inr (by omega)) _ _ _ _)
      have HF : Hid (Post (.returned (.agg #[.slice lo c.toNat lc, .int .i64 a, .int .i64 b, .int .i64 c', .int .i64 d])) (set4 ((set4 w2 (w.heap.size + 1) 1 a b c' d).setCell ⟨w.heap.size, 0, none⟩ (.slice lo c.toNat lc)) w.heap.size 1 a b c' d)) := hfin
      clear hfin hp hgood hA hB hown hro hke hA2 hB2 own2 hke2 hk2 hr2 h
      go_wp2
      exact bodyPost_ret (v := .agg #[.slice lo c.toNat lc, .int .i64 a, .int .i64 b, .int .i64 c', .int .i64 d]) (by simp [results, Tryz.results62, go_sem, a0, a1, a2, a3, a4]) rfl HF.out

set_option maxRecDepth 100000 in
set_option maxHeartbeats 8000000 in
theorem built_cps (ao : Option Addr) (n cap : Nat) (lo hi ops : Int) (w : World) (hlo : 1 ≤ lo ∧ lo ≤ hi) (hhi : hi ≤ 8) (hop : 0 ≤ ops ∧ ops ≤ 12) (hraw : RdInts w (.slice ao n cap) n) (Post : Ending → World → Prop)
    (hp : ∀ a0 a1 a2 v bv w', progGood ⟨a0, a1, a2, 0, bdat bv⟩ = true → lo ≤ a1 → a1 ≤ hi → (∀ x ∈ bv, (x.1.ops.length : Int) ≤ ops) → OwnBlocks w' w.heap.size v bv → Below w.heap.size w w' → Post (.returned (.agg #[.int .i64 a0, .int .i64 a1, .int .i64 a2, .int .i64 0, v])) w') :
    Calls Tryz.prog 27 #[.slice ao n cap, .int .i64 lo, .int .i64 hi, .int .i64 ops] w Post := by
  obtain ⟨i0, ii, iz0, iz1, iz2⟩ := info_parts Tryz.infoBlk
  have rA : Row (((w.alloc (.cells #[.int .i64 0, .int .i64 0, .int .i64 0, .int .i64 0, .slice none 0 0] 33)).alloc (.cells #[.slice ao n cap, .int .i64 0] 111)).alloc (.cells #[.int .i64 0, .int .i64 0, .int .i64 0, .int .i64 0, .slice none 0 0] 33)) w.heap.size 33 [.int .i64 0, .int .i64 0, .int .i64 0, .int .i64 0, .slice none 0 0] := by
    have q : Row (w.alloc (.cells #[.int .i64 0, .int .i64 0, .int .i64 0, .int .i64 0, .slice none 0 0] 33)) w.heap.size 33 [.int .i64 0, .int .i64 0, .int .i64 0, .int .i64 0, .slice none 0 0] := heap_alloc_new w _
    exact (q.alloc _).alloc _
  have rR : Row (((w.alloc (.cells #[.int .i64 0, .int .i64 0, .int .i64 0, .int .i64 0, .slice none 0 0] 33)).alloc (.cells #[.slice ao n cap, .int .i64 0] 111)).alloc (.cells #[.int .i64 0, .int .i64 0, .int .i64 0, .int .i64 0, .slice none 0 0] 33)) (w.heap.size + 1) 111 [.slice ao n cap, .int .i64 0] := by
    have q : Row ((w.alloc (.cells #[.int .i64 0, .int .i64 0, .int .i64 0, .int .i64 0, .slice none 0 0] 33)).alloc (.cells #[.slice ao n cap, .int .i64 0] 111)) (w.heap.size + 1) 111 [.slice ao n cap, .int .i64 0] := heap_alloc2_new w _ _
    exact q.alloc _
  have rP : Row (((w.alloc (.cells #[.int .i64 0, .int .i64 0, .int .i64 0, .int .i64 0, .slice none 0 0] 33)).alloc (.cells #[.slice ao n cap, .int .i64 0] 111)).alloc (.cells #[.int .i64 0, .int .i64 0, .int .i64 0, .int .i64 0, .slice none 0 0] 33)) (w.heap.size + 2) 33 [.int .i64 0, .int .i64 0, .int .i64 0, .int .i64 0, .slice none 0 0] := by
    have q := heap_alloc2_new (w.alloc (.cells #[.int .i64 0, .int .i64 0, .int .i64 0, .int .i64 0, .slice none 0 0] 33)) (.cells #[.slice ao n cap, .int .i64 0] 111) (.cells #[.int .i64 0, .int .i64 0, .int .i64 0, .int .i64 0, .slice none 0 0] 33)
    simp only [World.size_alloc] at q
    exact q
  have hb0 : Below w.heap.size w (((w.alloc (.cells #[.int .i64 0, .int .i64 0, .int .i64 0, .int .i64 0, .slice none 0 0] 33)).alloc (.cells #[.slice ao n cap, .int .i64 0] 111)).alloc (.cells #[.int .i64 0, .int .i64 0, .int .i64 0, .int .i64 0, .slice none 0 0] 33)) := (((Below.refl w.heap.size w).alloc (Nat.le_refl _) _).alloc (by simp) _).alloc (by simp; omega) _
  have ro0 := Rolls.fresh hraw hb0 rR (by omega)
  have ke : Keep (fun g => g = w.heap.size + 1) w (((w.alloc (.cells #[.int .i64 0, .int .i64 0, .int .i64 0, .int .i64 0, .slice none 0 0] 33)).alloc (.cells #[.slice ao n cap, .int .i64 0] 111)).alloc (.cells #[.int .i64 0, .int .i64 0, .int .i64 0, .int .i64 0, .slice none 0 0] 33)) := (((Keep.refl _ _).alloc _).alloc _).alloc _
  clear rR hb0
  go_enter Tryz.func27, Tryz.ntmps27
  go_wp2_with fail
  refine next_cps (w.heap.size + 1) ao n cap _ (hi - lo + 1) _ ro0 (by omega) _ ?_
  intro x0 k0 w0 xa0 xb0 hr hk hzz
  have ro := hr
  have rA := rA.kept hk (by omega)
  have rP := rP.kept hk (by omega)
  have ke := ke.trans hk
  clear hr hk
  have pc := rP.cell (i := 1) rfl
  have pf := rP.frozen 1
  have ro1 := ro.away hraw (g := (w.heap.size + 2)) (i := 1) (by omega) (by omega) (.int .i64 (lo + x0))
  have rA := rA.unset (a := ⟨(w.heap.size + 2), 1, none⟩) (by show w.heap.size ≠ w.heap.size + 2; omega) (.int .i64 (lo + x0))
  have rP := rP.set 1 (.int .i64 (lo + x0))
  have ke := ke.setCell (p := ⟨(w.heap.size + 2), 1, none⟩) (.inr (by show w.heap.size ≤ w.heap.size + 2; omega)) (.int .i64 (lo + x0))
  clear ro
  have p1 := rP.cell (i := 1) (u := .int .i64 (lo + x0)) rfl
  go_wp2_with fail
  refine next_cps (w.heap.size + 1) ao n cap _ (lo + x0 + 1) _ ro1 (by omega) _ ?_
  intro x1 k1 w1 xa1 xb1 hr hk hzz
  have ro := hr
  have rA := rA.kept hk (by omega)
  have rP := rP.kept hk (by omega)
  have ke := ke.trans hk
  clear hr hk
  clear p1
  have pc := rP.cell (i := 0) rfl
  have pf := rP.frozen 0
  have ro2 := ro.away hraw (g := (w.heap.size + 2)) (i := 0) (by omega) (by omega) (.int .i64 x1)
  have rA := rA.unset (a := ⟨(w.heap.size + 2), 0, none⟩) (by show w.heap.size ≠ w.heap.size + 2; omega) (.int .i64 x1)
  have rP := rP.set 0 (.int .i64 x1)
  have ke := ke.setCell (p := ⟨(w.heap.size + 2), 0, none⟩) (.inr (by show w.heap.size ≤ w.heap.size + 2; omega)) (.int .i64 x1)
  clear ro
  go_wp2_with fail
  refine next_cps (w.heap.size + 1) ao n cap _ 9 _ ro2 (by omega) _ ?_
  intro x2 k2 w2 xa2 xb2 hr hk hzz
  have ro := hr
  have rA := rA.kept hk (by omega)
  have rP := rP.kept hk (by omega)
  have ke := ke.trans hk
  clear hr hk
  have pc := rP.cell (i := 2) rfl
  have pf := rP.frozen 2
  have ro3 := ro.away hraw (g := (w.heap.size + 2)) (i := 2) (by omega) (by omega) (.int .i64 x2)
  have rA := rA.unset (a := ⟨(w.heap.size + 2), 2, none⟩) (by show w.heap.size ≠ w.heap.size + 2; omega) (.int .i64 x2)
  have rP := rP.set 2 (.int .i64 x2)
  have ke := ke.setCell (p := ⟨(w.heap.size + 2), 2, none⟩) (.inr (by show w.heap.size ≤ w.heap.size + 2; omega)) (.int .i64 x2)
  clear ro
  go_wp2_with fail
  refine next_cps (w.heap.size + 1) ao n cap _ 6 _ ro3 (by omega) _ ?_
  intro x4 k4 w4 xa4 xb4 hr hk hz4
  have ro := hr
  have rA := rA.kept hk (by omega)
  have rP := rP.kept hk (by omega)
  have ke := ke.trans hk
  have hz : w.heap.size + 3 ≤ w4.heap.size := by have := rP.lt; omega
  clear hr hk ro3
  go_wp2
  go_loopw [12] (fun i wr => ∃ (j : Nat) (v : Value) (bv : List (BlockD × Value)) (kk : Nat), (j : Int) ≤ 1 + x4 ∧ i = .int .i64 j ∧ Hid (bv.length = j) ∧ Hid (∀ x ∈ bv, blockGood (lo + x0) 0 (1 + x4) x.1 = true ∧ (x.1.ops.length : Int) ≤ ops) ∧ Row wr w.heap.size 33 [.int .i64 0, .int .i64 0, .int .i64 0, .int .i64 0, .slice none 0 0] ∧ Row wr (w.heap.size + 2) 33 [.int .i64 x1, .int .i64 (lo + x0), .int .i64 x2, .int .i64 0, v] ∧
      OwnBlocks wr (w.heap.size + 3) v bv ∧ Rolls wr (w.heap.size + 1) ao n cap kk ∧ Keep (fun g => g = w.heap.size + 1) w wr ∧ w.heap.size + 3 ≤ wr.heap.size)
    (fun i _ => (1 + x4).toNat - (intOf i).toNat)
  case atStart => exact ⟨0, .slice none 0 0, [], _, by omega, rfl, rfl, (fun x hx => by cases hx), rA, rP, ownBlocks_nil _ _, ro, ke, hz⟩
  case round =>
    clear rA rP ke ro hz hz4 w4
    obtain ⟨j, v, bv, kk, hj, rfl, hvl, hbg, rA, rP, own, ro, ke, hz⟩ := hrel
    obtain ⟨bo, bc, rfl⟩ := owns_slice own.row
    have p1 := rP.cell (i := 1) rfl
    by_cases hlt : (j : Int) < 1 + x4
    · go_wp2_with fail
      refine blockN_cps (w.heap.size + 1) ao n cap kk ops 13 (lo + x0) 0 (1 + x4) _ ro (by omega) (by omega) hop (by omega) (.inl (by omega)) (by omega) _ ?_
      intro sv l a b c d k2 w2 hg hgl hsv hr2 hk2
      obtain ⟨so, sc, rfl⟩ := owns_slice hsv
      have rA2 := rA.kept hk2 (by omega)
      have rP2 := rP.kept hk2 (by omega)
      have own2 := own.apartFrom hk2 (fun g hg => by omega)
      have ke2 := ke.trans hk2
      have hz2 := hk2.size
      have hzl : w.heap.size + 2 < w2.heap.size := by omega
      have hzq : w.heap.size + 3 ≤ w2.heap.size := by omega
      have p4 := rP2.cell (i := 4) rfl
      have hfree : ∀ y ∈ bv, ∀ g, y.2.ownBlock = some g → (Value.slice so l.length sc).ownBlock ≠ some g := by
        intro y hy g hg e
        have q1 := ((own.each y hy).lt g hg).2
        have q2 := (hsv.lt g e).1
        omega
      have HG : Hid (∀ x ∈ bv ++ [(⟨l, ⟨a, b, c, d⟩⟩, Value.slice so l.length sc)], blockGood (lo + x0) 0 (1 + x4) x.1 = true ∧ (x.1.ops.length : Int) ≤ ops) := by
        intro x hx
        rcases List.mem_append.1 hx with hx | hx
        · exact hbg.out x hx
        · simp at hx; subst hx; exact ⟨hg, hgl.out⟩
      have hsv2 := owns_base hsv (show w.heap.size + 3 ≤ _ by omega)
      clear rA rP own ke hk2 p1 ro hsv hg hgl hbg
      go_wp2_with (at_builtin; refine wpList_append_own _ rfl _ _ 31 rfl (w.heap.size + 3) 40 i0 (.agg #[.slice none 0 0, .int .i64 0, .int .i64 0, .int .i64 0, .int .i64 0]) 5 56 Tryz.underlying31 ii iz0 iz1 iz2 rfl (by decide) _ _ _ rfl ((own2.row.alloc _).alloc _) ⟨w2.heap.size + 1, 0, none⟩ 1 1 [.slice so l.length sc, .int .i64 a, .int .i64 b, .int .i64 c, .int .i64 d] rfl rfl ?c113 five_one ?c313 ?c413 ?c513 ?_)
      case c113 => simpa using five_new (w2.alloc _) _ _ _ _ _ _
      case c313 => have := hvl.out; unfold maxLen; omega
      case c413 => have := hvl.out; omega
      case c513 => first | omega | (simp; omega)
      intro v' w3 hown' hgrow _
      have own3 : OwnBlocks w3 (w.heap.size + 3) v' (bv ++ [(⟨l, ⟨a, b, c, d⟩⟩, .slice so l.length sc)]) := ((own2.alloc _).alloc _).snoc ((hsv2.alloc _).alloc _) hfree hgrow hown'
      have hb2 := ((((Below.refl (w.heap.size + 3) w2).alloc hzq _).alloc (by simp; omega) _).grown hgrow (by simp; omega) (fun g hg => (own2.row.lt g hg).1))
      have rA3 := rA2.below hb2 (by omega)
      have rP3 := rP2.below hb2 (by omega)
      have ro3 := hr2.belowB hraw hb2 (by omega) (by omega)
      have ke3 := ke2.below hb2 (by omega)
      have hz3 := hb2.size
      have y4 := rP3.cell (i := 4) rfl
      have yf := rP3.frozen 4
      obtain ⟨bo', bc', hv'⟩ := owns_slice own3.row
      rw [List.length_append] at hv'
      simp only [List.length_cons, List.length_nil, Nat.zero_add] at hv'
      subst hv'
      have rP4 := rP3.set 4 (.slice bo' (bv.length + 1) bc')
      have rA4 := rA3.unset (a := ⟨(w.heap.size + 2), 4, none⟩) (by show w.heap.size ≠ w.heap.size + 2; omega) (.slice bo' (bv.length + 1) bc')
      have ro4 := ro3.away hraw (g := (w.heap.size + 2)) (i := 4) (by omega) (by omega) (.slice bo' (bv.length + 1) bc')
      have ke4 := ke3.setCell (p := ⟨(w.heap.size + 2), 4, none⟩) (.inr (by show w.heap.size ≤ w.heap.size + 2; omega)) (.slice bo' (bv.length + 1) bc')
      have own4 := own3.set (a := ⟨(w.heap.size + 2), 4, none⟩) (by show w.heap.size + 2 < w.heap.size + 3; omega) (.slice bo' (bv.length + 1) bc')
      clear hgrow hown' hb2 rA2 rP2 own2 hr2 ke2 p4 rA3 rP3 ro3 ke3 own3 hsv2 hfree
      go_wp2
      go_roundw
      case rel => exact ⟨j + 1, _, _, k2, by omega, by go_num, by show List.length _ = _; have := hvl.out; simp; exact this, HG, rA4, rP4, own4, ro4, ke4, by simp; omega⟩
      case measure => simp [intOf]; omega
    · have hje : (j : Int) = 1 + x4 := by omega
      have b0 := rP.cell (i := 0) rfl
      have b3 := rP.cell (i := 3) rfl
      have b2 := rP.cell (i := 2) rfl
      have b4 := rP.cell (i := 4) rfl
      have a0 := rA.cell (i := 0) rfl
      have a1 := rA.cell (i := 1) rfl
      have a2 := rA.cell (i := 2) rfl
      have a3 := rA.cell (i := 3) rfl
      have a4 := rA.cell (i := 4) rfl
      have f0 := rA.frozen 0
      have f1 := rA.frozen 1
      have f2 := rA.frozen 2
      have f3 := rA.frozen 3
      have f4 := rA.frozen 4
      have hgood : progGood ⟨x1, lo + x0, x2, 0, bdat bv⟩ = true := by
        have e := hvl.out
        simp only [progGood, blocksGood, Bool.and_eq_true, decide_eq_true_eq, List.all_eq_true, bdat_length]
        refine ⟨⟨⟨⟨⟨by omega, by omega⟩, by omega⟩, by omega⟩, by omega⟩, ?_⟩
        intro x hx
        obtain ⟨y, hy, rfl⟩ := List.mem_map.1 hx
        have := (hbg.out y hy).1
        rw [e, hje]
        exact this
      have hfin := hp x1 (lo + x0) x2 (.slice bo bv.length bc) bv (((((wr.setCell ⟨w.heap.size, 0, none⟩ (.int .i64 x1)).setCell ⟨w.heap.size, 1, none⟩ (.int .i64 (lo + x0))).setCell ⟨w.heap.size, 2, none⟩ (.int .i64 x2)).setCell ⟨w.heap.size, 3, none⟩ (.int .i64 0)).setCell ⟨w.heap.size, 4, none⟩ (.slice bo bv.length bc)) hgood (by omega) (by omega) (fun x hx => (hbg.out x hx).2)
        ((((((own.set (by simp) _).set (by simp) _).set (by simp) _).set (by simp) _).set (by simp) _).base (by omega))
        ((((((ke.setCell (.inr (by simp)) _).setCell (.inr (by simp)) _).setCell (.inr (by simp)) _).setCell (.inr (by simp)) _).setCell (.inr (by simp)) _).toBelow (Nat.le_refl _) (fun g hg => by omega))
      have HF : Hid (Post (.returned (.agg #[.int .i64 x1, .int .i64 (lo + x0), .int .i64 x2, .int .i64 0, .slice bo bv.length bc])) (((((wr.setCell ⟨w.heap.size, 0, none⟩ (.int .i64 x1)).setCell ⟨w.heap.size, 1, none⟩ (.int .i64 (lo + x0))).setCell ⟨w.heap.size, 2, none⟩ (.int .i64 x2)).setCell ⟨w.heap.size, 3, none⟩ (.int .i64 0)).setCell ⟨w.heap.size, 4, none⟩ (.slice bo bv.length bc))) := hfin
      clear hfin hp hgood own ro ke rA rP
      go_wp2
      exact bodyPost_ret (v := .agg #[.int .i64 x1, .int .i64 (lo + x0), .int .i64 x2, .int .i64 0, .slice bo bv.length bc]) (by simp [results, Tryz.results27, go_sem, a0, a1, a2, a3, a4]) rfl HF.out

end Go.Proofs.YtblhmeidbjigaaaGreatDoor

/- A hint out of raw numbers. -/
set_option linter.unusedSimpArgs false
set_option linter.unusedVariables false
namespace Go.Proofs.YtblhmeidbjigaaaGreatDoor
open Go.RowKit

theorem pairs_one (a b : Int) : ∀ u ∈ [Value.int .i64 a, Value.int .i64 b], u.oneCell' = true := by
  intro u hu; simp at hu; rcases hu with rfl | rfl <;> rfl

end Go.Proofs.YtblhmeidbjigaaaGreatDoor

/- A block traps at the first of its marks that fails: pure. -/
set_option linter.unusedSimpArgs false
set_option linter.unusedVariables false
noncomputable section
namespace Go.Proofs.YtblhmeidbjigaaaGreatDoor
open Go.RowKit Classical

/-- A mark: a cell's number, or two words that are divided. -/
inductive MD where
  | cell (u : TD)
  | div (u v : TD)

/-- The mark of the operation behind the first k ones, as it is before any is left out. -/
def rawMark (regs slots : Int) (names : List Int) (ops : List OpD) (k : Nat) : Option MD :=
  if (ops.getD k oz).kind = 11 then some (.div (behindT regs slots names ops k (ops.getD k oz).b) (behindT regs slots names ops k (ops.getD k oz).c))
  else if (ops.getD k oz).kind = 12 then some (.cell (behindT regs slots names ops k (ops.getD k oz).b))
  else if (ops.getD k oz).kind = 13 then some (.cell (behindT regs slots names ops k (ops.getD k oz).a))
  else none

/-- A mark that is left out for its numbers. -/
def idle (data : Int) : MD → Bool
  | .cell u => match u.isNum with | some n => decide (0 ≤ n ∧ n < data) | none => false
  | .div u v => match u.isNum, v.isNum with | some _, some y => decide (y ≠ 0) | _, _ => false

/-- P11: the marks of the first k operations. -/
def marksD (regs slots data : Int) (names : List Int) (ops : List OpD) : Nat → List MD
  | 0 => []
  | k + 1 => match rawMark regs slots names ops k with
    | some m => if idle data m = true ∨ m ∈ marksD regs slots data names ops k then marksD regs slots data names ops k else marksD regs slots data names ops k ++ [m]
    | none => marksD regs slots data names ops k

end Go.Proofs.YtblhmeidbjigaaaGreatDoor

/- Two blocks that start alike and whose terms are the same end alike: pure. -/
set_option linter.unusedSimpArgs false
set_option linter.unusedVariables false
noncomputable section
namespace Go.Proofs.YtblhmeidbjigaaaGreatDoor
open Go.RowKit Classical

/-- By place the register of the source that a pair names; -1: none does. -/
def namesOf (ps : List PairD) (n : Nat) : List Int := (List.range n).map fun (p : Nat) => match ps.find? (fun x => decide (x.place = (p : Int))) with | some x => x.reg | none => -1

theorem namesOf_get (ps : List PairD) {n : Nat} {p : Int} (h0 : 0 ≤ p) (h1 : p < n) : (namesOf ps n).getD p.toNat 0 = match ps.find? (fun x => decide (x.place = p)) with | some x => x.reg | none => -1 := by
  have e : ((p.toNat : Nat) : Int) = p := by omega
  simp only [namesOf, List.getD]
  rw [List.getElem?_map, List.getElem?_range (by omega)]
  simp only [Option.map_some, Option.getD_some]
  rw [e]

end Go.Proofs.YtblhmeidbjigaaaGreatDoor

/- The machine lets words out. -/
set_option linter.unusedSimpArgs false
set_option linter.unusedVariables false
namespace Go.Proofs.YtblhmeidbjigaaaGreatDoor
open Go.RowKit

theorem Row.grown {w w' : World} {M : Nat} {t : TypeId} {xs : List Value} {row : Option Nat} (h : Row w M t xs) (hg : w.grownBy w' row) (hne : row ≠ some M) : Row w' M t xs := h.same (hg.block M h.lt (fun e => hne e.symm))

theorem Keep.mono {S S' : Nat → Prop} {w w' : World} (h : Keep S w w') (hs : ∀ g, S g → S' g) : Keep S' w w' := ⟨h.os, h.tape, h.output, h.size, fun k hk hn => h.block k hk (fun e => hn (hs k e))⟩

end Go.Proofs.YtblhmeidbjigaaaGreatDoor

/- The machine's Load. -/
set_option linter.unusedSimpArgs false
set_option linter.unusedVariables false
namespace Go.Proofs.YtblhmeidbjigaaaGreatDoor
open Go.RowKit

/-- A region that reads, then one store (or what follows of itself). -/
theorem wp_tail {P : Program} {id : Nat} {Q : Exit → Act → World → Prop} {a : Act} {w : World} {l : List Oper} (n : Nat) (hm : P.follows .mixedOrders = true) (hB : Region.lexTailB .any l.toArray n = true)
    (h : wpStill P l.toArray w.drew (fun a' => wpList P l.toArray Q (l.drop n) a' w.drew) (l.take n) a) : (Code.region id l.toArray true).wp P Q a w :=
  wp_region_still_tail n hm hB h

end Go.Proofs.YtblhmeidbjigaaaGreatDoor

/- The machine does an operation; the operations of a block; where it goes on. -/
set_option linter.unusedSimpArgs false
set_option linter.unusedVariables false
namespace Go.Proofs.YtblhmeidbjigaaaGreatDoor
open Go.RowKit

theorem opGood_kind {regs slots : Int} {o : OpD} (h : opGood regs slots o = true) : 1 ≤ o.kind ∧ o.kind ≤ 15 := by
  unfold opGood at h
  repeat' split at h
  all_goals first | omega | simp at h

end Go.Proofs.YtblhmeidbjigaaaGreatDoor

/- The machine does the operations of a block; where it goes on. -/
set_option linter.unusedSimpArgs false
set_option linter.unusedVariables false
namespace Go.Proofs.YtblhmeidbjigaaaGreatDoor
open Go.RowKit

theorem opsGood_at {regs slots : Int} {l : List OpD} (h : opsGood regs slots l = true) {k : Nat} (hk : k < l.length) : opGood regs slots ⟨okind l k, oa l k, ob l k, oc l k⟩ = true := by
  have := List.all_eq_true.1 h (l.getD k oz) (getD_mem' hk)
  exact this

end Go.Proofs.YtblhmeidbjigaaaGreatDoor

/- The machine runs. -/
set_option linter.unusedSimpArgs false
set_option linter.unusedVariables false
namespace Go.Proofs.YtblhmeidbjigaaaGreatDoor
open Go.RowKit

theorem blocksGood_at {regs slots n : Int} {l : List BlockD} (h : blocksGood regs slots n l = true) {k : Nat} (hk : k < l.length) : (bops l k).length ≤ 12 ∧ opsGood regs slots (bops l k) = true ∧ endGood regs n (bfin l k) = true := by
  have := List.all_eq_true.1 h (l.getD k bz) (getD_mem' hk)
  simp only [blockGood, Bool.and_eq_true, decide_eq_true_eq] at this
  exact ⟨this.1.1, this.1.2, this.2⟩

end Go.Proofs.YtblhmeidbjigaaaGreatDoor

/- Lists of words that are read. -/
set_option linter.unusedSimpArgs false
set_option linter.unusedVariables false
namespace Go.Proofs.YtblhmeidbjigaaaGreatDoor
open Go.RowKit

/-- A list of words that is read. -/
def RdWords (w : World) (v : Value) (l : List Int) : Prop :=
  ∃ ao cap, v = .slice ao l.length cap ∧ l.length ≤ 9223372036854775807 ∧ ∀ i, i < l.length → ∃ b off, ao = some ⟨b, off, none⟩ ∧ w.cell? ⟨b, off + i, none⟩ = some (.int .i64 (l.getD i 0))

theorem RdWords.keep {w w' : World} {v : Value} {l : List Int} (h : RdWords w v l) (hb : Below w.heap.size w w') : RdWords w' v l := by
  obtain ⟨ao, cap, rfl, hl, hc⟩ := h
  exact ⟨ao, cap, rfl, hl, fun i hi => let ⟨b, off, e, h1⟩ := hc i hi; ⟨b, off, e, cell_keep hb h1⟩⟩

theorem rdWords_nil (w : World) : RdWords w (.slice none 0 0) [] := ⟨none, 0, rfl, by simp, fun i hi => by simp at hi⟩

end Go.Proofs.YtblhmeidbjigaaaGreatDoor

/- Twins end alike: pure. -/
set_option linter.unusedSimpArgs false
set_option linter.unusedVariables false
noncomputable section
namespace Go.Proofs.YtblhmeidbjigaaaGreatDoor
open Go.RowKit Classical

/-- The end of a block; a Branch whose register's term is a number counts as a Jump. -/
def effT (e : EndD) (t : TD) : EndD := if e.kind = 2 then (match t.isNum with | some n => ⟨1, 0, if n ≠ 0 then e.x else e.y, 0⟩ | none => e) else e

section
variable (p q : ProgD) (h : List PingD) (b : Nat)
def srcOps : List OpD := bops p.blocks (hsrc h b).toNat
def srcT (i : Int) : TD := behindT p.regs 0 (plainNames p.regs 0) (srcOps p h b) (srcOps p h b).length i
def tgtT (i : Int) : TD := behindT q.regs q.slots (namesOf (hpairs h b) (q.regs + q.slots).toNat) (bops q.blocks b) (bops q.blocks b).length i
def srcEnd : EndD := effT (bfin p.blocks (hsrc h b).toNat) (srcT p h b (bfin p.blocks (hsrc h b).toNat).r)
def tgtEnd : EndD := effT (bfin q.blocks b) (tgtT q h b (bfin q.blocks b).r)

/-- An edge: where the source goes on with c and the target with d. -/
def edgeOk (c d : Int) : Prop := hsrc h d.toNat = c ∧ ∀ x ∈ hpairs h d.toNat, srcT p h b x.reg = tgtT q h b x.place

/-- P12 (4), of block b of the target. -/
structure BlockOk : Prop where
  src : 0 ≤ hsrc h b ∧ hsrc h b < p.blocks.length
  pairs : ∀ x ∈ hpairs h b, 0 ≤ x.reg ∧ x.reg < p.regs ∧ 0 ≤ x.place ∧ x.place < q.regs + q.slots
  marks : marksD p.regs 0 p.data (plainNames p.regs 0) (srcOps p h b) (srcOps p h b).length = marksD q.regs q.slots q.data (namesOf (hpairs h b) (q.regs + q.slots).toNat) (bops q.blocks b) (bops q.blocks b).length
  cells : srcT p h b p.regs = tgtT q h b (q.regs + q.slots)
  kind : (srcEnd p h b).kind = (tgtEnd q h b).kind
  term : ((srcEnd p h b).kind = 2 ∨ (srcEnd p h b).kind = 3) → srcT p h b (srcEnd p h b).r = tgtT q h b (tgtEnd q h b).r
  edgeX : (srcEnd p h b).kind ≠ 3 → edgeOk p q h b (srcEnd p h b).x (tgtEnd q h b).x
  edgeY : (srcEnd p h b).kind = 2 → edgeOk p q h b (srcEnd p h b).y (tgtEnd q h b).y
end

theorem end_kind {regs n : Int} {e : EndD} (h : endGood regs n e = true) : e.kind = 1 ∨ e.kind = 2 ∨ e.kind = 3 := by
  unfold endGood at h
  repeat' split at h
  all_goals first | omega | simp at h

theorem end_reg {regs n : Int} {e : EndD} (h : endGood regs n e = true) (hk : e.kind = 2 ∨ e.kind = 3) : 0 ≤ e.r ∧ e.r < regs := by
  unfold endGood at h
  rcases hk with hk | hk
  · simp [hk, below] at h; omega
  · simp [hk, below] at h; omega

end Go.Proofs.YtblhmeidbjigaaaGreatDoor

/- P12 in the document's words: pure. -/
set_option linter.unusedSimpArgs false
set_option linter.unusedVariables false
noncomputable section
namespace Go.Proofs.YtblhmeidbjigaaaGreatDoor
open Go.RowKit Classical

/-- P12 (2): is the hint one for these programs? -/
def suitsD (p q : ProgD) (h : List PingD) : Prop :=
  h.length = q.blocks.length ∧ ∀ b, b < h.length → hsrc h b < p.blocks.length ∧ ∀ x ∈ hpairs h b, x.reg < p.regs ∧ x.place < q.regs + q.slots

/-- P12 (3). -/
def startsD (q : ProgD) (h : List PingD) : Prop :=
  hsrc h 0 = 0 ∧ ∀ x ∈ hpairs h 0, x.place < q.regs ∧ (x.reg = x.place ∨ (q.args ≤ x.reg ∧ q.args ≤ x.place))

section
variable (p q : ProgD) (h : List PingD) (b : Nat)
def pairsOkD (l : List PairD) : Prop := ∀ x ∈ l, srcT p h b x.reg = tgtT q h b x.place


/-- P12 (4): what is wrong at block b of the target; 0: nothing. -/
def wrongD : Int :=
  if bigT p.regs 0 (plainNames p.regs 0) (srcOps p h b) = true ∨ bigT q.regs q.slots (namesOf (hpairs h b) (q.regs + q.slots).toNat) (bops q.blocks b) = true then 5
  else if marksD p.regs 0 p.data (plainNames p.regs 0) (srcOps p h b) (srcOps p h b).length ≠ marksD q.regs q.slots q.data (namesOf (hpairs h b) (q.regs + q.slots).toNat) (bops q.blocks b) (bops q.blocks b).length then 10
  else if srcT p h b p.regs ≠ tgtT q h b (q.regs + q.slots) then 11
  else if (srcEnd p h b).kind ≠ (tgtEnd q h b).kind then 12
  else if ((srcEnd p h b).kind = 2 ∨ (srcEnd p h b).kind = 3) ∧ srcT p h b (srcEnd p h b).r ≠ tgtT q h b (tgtEnd q h b).r then 12
  else if (srcEnd p h b).kind = 3 then 0
  else if hsrc h (tgtEnd q h b).x.toNat ≠ (srcEnd p h b).x then 13
  else if (srcEnd p h b).kind = 2 ∧ hsrc h (tgtEnd q h b).y.toNat ≠ (srcEnd p h b).y then 13
  else if ¬ pairsOkD p q h b (hpairs h (tgtEnd q h b).x.toNat) then 14
  else if (srcEnd p h b).kind = 2 ∧ ¬ pairsOkD p q h b (hpairs h (tgtEnd q h b).y.toNat) then 14
  else 0
end

/-- P12: what Validate answers of texts that are read as p, q and h. -/
def JudgedD (p q : ProgD) (h : List PingD) (e n : Int) : Prop :=
  (e = 9 ∧ n = 0 ∧ ¬ startsD q h) ∨ (startsD q h ∧
    ((∃ b : Nat, b < q.blocks.length ∧ n = b ∧ e = wrongD p q h b ∧ e ≠ 0 ∧ ∀ c, c < b → wrongD p q h c = 0) ∨ (e = 0 ∧ n = 0 ∧ ∀ b, b < q.blocks.length → wrongD p q h b = 0)))

/-- P12: what Validate answers. -/
def ValAns (s t g : ByteArray) (e n : Int) : Prop :=
  (e = 6 ∧ n = 0 ∧ ∀ p, progGood p = true → str (progText p) = s → p.slots ≠ 0) ∨
  ∃ p, progGood p = true ∧ str (progText p) = s ∧ p.slots = 0 ∧
    ((e = 7 ∧ n = 0 ∧ ∀ q, progGood q = true → str (progText q) ≠ t) ∨
      ∃ q, progGood q = true ∧ str (progText q) = t ∧
        ((e = 8 ∧ n = 0 ∧ ¬ (p.args = q.args ∧ p.data = q.data)) ∨ ((p.args = q.args ∧ p.data = q.data) ∧
          ((e = 2 ∧ n = 0 ∧ ∀ h, goodHint h = true → str (hintText h) = g → ¬ suitsD p q h) ∨
            ∃ h, goodHint h = true ∧ str (hintText h) = g ∧ suitsD p q h ∧ JudgedD p q h e n))))

theorem JudgedD.one {p q : ProgD} {h : List PingD} {e n e' n' : Int} (a : JudgedD p q h e n) (b : JudgedD p q h e' n') : e = e' ∧ n = n' := by
  rcases a with ⟨rfl, rfl, a1⟩ | ⟨a0, a1⟩
  · rcases b with ⟨rfl, rfl, _⟩ | ⟨b0, _⟩
    · exact ⟨rfl, rfl⟩
    · exact absurd b0 a1
  · rcases b with ⟨_, _, b1⟩ | ⟨_, b1⟩
    · exact absurd a0 b1
    · rcases a1 with ⟨x, x1, rfl, rfl, x2, x3⟩ | ⟨rfl, rfl, x1⟩
      · rcases b1 with ⟨y, y1, rfl, rfl, y2, y3⟩ | ⟨_, _, y1⟩
        · have : x = y := by
            rcases Nat.lt_trichotomy x y with c | c | c
            · exact absurd (y3 x c) x2
            · exact c
            · exact absurd (x3 y c) y2
          subst this
          exact ⟨rfl, rfl⟩
        · exact absurd (y1 x x1) x2
      · rcases b1 with ⟨y, y1, rfl, rfl, y2, y3⟩ | ⟨rfl, rfl, y1⟩
        · exact absurd (x1 y y1) y2
        · exact ⟨rfl, rfl⟩

theorem ValAns.one {s t g : ByteArray} {e n e' n' : Int} (a : ValAns s t g e n) (b : ValAns s t g e' n') : e = e' ∧ n = n' := by
  rcases a with ⟨rfl, rfl, a1⟩ | ⟨p, pg, pt, p0, a1⟩
  · rcases b with ⟨rfl, rfl, _⟩ | ⟨p, pg, pt, p0, _⟩
    · exact ⟨rfl, rfl⟩
    · exact absurd p0 (a1 p pg pt)
  rcases b with ⟨_, _, b1⟩ | ⟨p', pg', pt', p0', b1⟩
  · exact absurd p0 (b1 p pg pt)
  obtain rfl : p = p' := prog_one pg pg' (pt.trans pt'.symm)
  rcases a1 with ⟨rfl, rfl, a1⟩ | ⟨q, qg, qt, a1⟩
  · rcases b1 with ⟨rfl, rfl, _⟩ | ⟨q, qg, qt, _⟩
    · exact ⟨rfl, rfl⟩
    · exact absurd qt (a1 q qg)
  rcases b1 with ⟨_, _, b1⟩ | ⟨q', qg', qt', b1⟩
  · exact absurd qt (b1 q qg)
  obtain rfl : q = q' := prog_one qg qg' (qt.trans qt'.symm)
  rcases a1 with ⟨rfl, rfl, a1⟩ | ⟨a0, a1⟩
  · rcases b1 with ⟨rfl, rfl, _⟩ | ⟨b0, _⟩
    · exact ⟨rfl, rfl⟩
    · exact absurd b0 a1
  rcases b1 with ⟨_, _, b1⟩ | ⟨_, b1⟩
  · exact absurd a0 b1
  rcases a1 with ⟨rfl, rfl, a1⟩ | ⟨h, hg, ht, hs, a1⟩
  · rcases b1 with ⟨rfl, rfl, _⟩ | ⟨h, hg, ht, hs, _⟩
    · exact ⟨rfl, rfl⟩
    · exact absurd hs (a1 h hg ht)
  rcases b1 with ⟨_, _, b1⟩ | ⟨h', hg', ht', hs', b1⟩
  · exact absurd hs (b1 h hg ht)
  obtain rfl : h = h' := hint_one hg hg' (ht.trans ht'.symm)
  exact a1.one b1

theorem goodPairs_all {l : List PairD} {last : Int} (h : goodPairs last l = true) : ∀ x ∈ l, 0 ≤ x.reg ∧ 0 ≤ x.place := by
  induction l generalizing last with
  | nil => intro x hx; cases hx
  | cons y l ih =>
    simp only [goodPairs, Bool.and_eq_true, below, decide_eq_true_eq] at h
    intro x hx
    rcases List.mem_cons.1 hx with rfl | hx
    · omega
    · exact ih h.2 x hx

theorem goodHint_at {h : List PingD} (g : goodHint h = true) {b : Nat} (hb : b < h.length) : 0 ≤ hsrc h b ∧ ∀ x ∈ hpairs h b, 0 ≤ x.reg ∧ 0 ≤ x.place := by
  simp only [goodHint, goodPings, Bool.and_eq_true, decide_eq_true_eq, List.all_eq_true] at g
  have hm : h.getD b hz ∈ h := by simp [List.getD, hb]
  have := g.2 _ hm
  simp only [goodPing, Bool.and_eq_true, below, decide_eq_true_eq] at this
  exact ⟨this.1.1.1, goodPairs_all this.2⟩

/-- Where nothing is wrong, P12 (4) holds. -/
theorem blockOk_of {p q : ProgD} {h : List PingD} (hg : goodHint h = true) (hs : suitsD p q h) {b : Nat} (hb : b < q.blocks.length) (hw : wrongD p q h b = 0) : BlockOk p q h b := by
  have hbl : b < h.length := by rw [hs.1]; exact hb
  obtain ⟨s1, s2⟩ := hs.2 b hbl
  obtain ⟨g1, g2⟩ := goodHint_at hg hbl
  unfold wrongD at hw
  split at hw; · omega
  split at hw; · omega
  rename_i hm
  split at hw; · omega
  rename_i hc
  split at hw; · omega
  rename_i hk
  split at hw; · omega
  rename_i ht
  have hm := Decidable.not_not.1 hm
  have hc := Decidable.not_not.1 hc
  have hk := Decidable.not_not.1 hk
  have ht : ((srcEnd p h b).kind = 2 ∨ (srcEnd p h b).kind = 3) → srcT p h b (srcEnd p h b).r = tgtT q h b (tgtEnd q h b).r := fun a => Decidable.not_not.1 fun c => ht ⟨a, c⟩
  have hp : ∀ x ∈ hpairs h b, 0 ≤ x.reg ∧ x.reg < p.regs ∧ 0 ≤ x.place ∧ x.place < q.regs + q.slots := fun x hx => ⟨(g2 x hx).1, (s2 x hx).1, (g2 x hx).2, (s2 x hx).2⟩
  split at hw
  · rename_i h3
    exact ⟨⟨g1, s1⟩, hp, hm, hc, hk, ht, fun c => absurd h3 c, fun c => by omega⟩
  split at hw; · omega
  rename_i x1
  split at hw; · omega
  rename_i x2
  split at hw; · omega
  rename_i x3
  split at hw; · omega
  rename_i x4
  have x1 := Decidable.not_not.1 x1
  have x3 := Decidable.not_not.1 x3
  exact ⟨⟨g1, s1⟩, hp, hm, hc, hk, ht, fun _ => ⟨x1, x3⟩, fun c => ⟨Decidable.not_not.1 fun d => x2 ⟨c, d⟩, Decidable.not_not.1 fun d => x4 ⟨c, d⟩⟩⟩

/-- What is taken for twins. -/
theorem ValAns.ok {s t g : ByteArray} {n : Int} (a : ValAns s t g 0 n) : ∃ p q h, progGood p = true ∧ str (progText p) = s ∧ progGood q = true ∧ str (progText q) = t ∧ goodHint h = true ∧ str (hintText h) = g ∧ p.slots = 0 ∧ p.args = q.args ∧ p.data = q.data ∧
    (∀ b, b < q.blocks.length → BlockOk p q h b) ∧ hsrc h 0 = 0 ∧ (∀ x ∈ hpairs h 0, x.place < q.regs ∧ (x.reg = x.place ∨ (p.args ≤ x.reg ∧ p.args ≤ x.place))) := by
  rcases a with ⟨c, _⟩ | ⟨p, pg, pt, p0, a⟩
  · omega
  rcases a with ⟨c, _⟩ | ⟨q, qg, qt, a⟩
  · omega
  rcases a with ⟨c, _⟩ | ⟨⟨e1, e2⟩, a⟩
  · omega
  rcases a with ⟨c, _⟩ | ⟨h, hg, ht, hs, a⟩
  · omega
  rcases a with ⟨c, _⟩ | ⟨st, a⟩
  · omega
  rcases a with ⟨b, _, _, c, d, _⟩ | ⟨_, _, a⟩
  · omega
  exact ⟨p, q, h, pg, pt, qg, qt, hg, ht, p0, e1, e2, fun b hb => blockOk_of hg hs hb (a b hb), st.1, by rw [e1]; exact st.2⟩

end Go.Proofs.YtblhmeidbjigaaaGreatDoor

/- The hint that says: as it is (twinkeep.identity). -/
set_option linter.unusedSimpArgs false
set_option linter.unusedVariables false
namespace Go.Proofs.YtblhmeidbjigaaaGreatDoor
open Go.RowKit

theorem hdat_snoc (hv : List (PingD × Value)) (x : PingD) (v : Value) : hdat (hv ++ [(x, v)]) = hdat hv ++ [x] := by
  simp [hdat]

end Go.Proofs.YtblhmeidbjigaaaGreatDoor

/- The reference's terms: Show. -/
set_option linter.unusedSimpArgs false
set_option linter.unusedVariables false
namespace Go.Proofs.YtblhmeidbjigaaaGreatDoor
open Go.RowKit

theorem show_size {t : TD} (h : t.fine) (hs : t.size ≤ 4000000000000) : (str (showT t)).size ≤ 96000000000000 := by
  have := show_length h
  simp only [str, ByteArray.size, List.size_toArray]
  omega

theorem show_two (k : Int) (a b : TD) : (⟨#[40]⟩ : ByteArray) ++ str [signT k] ++ ⟨#[32]⟩ ++ str (showT a) ++ ⟨#[32]⟩ ++ str (showT b) ++ ⟨#[41]⟩ = str (showT (.two k a b)) := by
  show str [40] ++ str [signT k] ++ str [32] ++ str (showT a) ++ str [32] ++ str (showT b) ++ str [41] = _
  simp only [str_append, showT]
  congr 1
  simp

theorem show_three (k : Int) (a b c : TD) : (⟨#[40]⟩ : ByteArray) ++ str [signT k] ++ ⟨#[32]⟩ ++ str (showT a) ++ ⟨#[32]⟩ ++ str (showT b) ++ ⟨#[32]⟩ ++ str (showT c) ++ ⟨#[41]⟩ = str (showT (.three k a b c)) := by
  show str [40] ++ str [signT k] ++ str [32] ++ str (showT a) ++ str [32] ++ str (showT b) ++ str [32] ++ str (showT c) ++ str [41] = _
  simp only [str_append, showT]
  congr 1
  simp

theorem itoa_size {n : Int} (h : W64 n) : (str (Lib.itoa n)).size ≤ 21 := by
  have := Lib.itoa_length_le n h.1 h.2
  simp only [str, ByteArray.size, List.size_toArray]
  omega

end Go.Proofs.YtblhmeidbjigaaaGreatDoor

/- The reference's terms: Same, turns, plus, thing, Apart. -/
set_option linter.unusedSimpArgs false
set_option linter.unusedVariables false
namespace Go.Proofs.YtblhmeidbjigaaaGreatDoor
open Go.RowKit

noncomputable def sameT (t u : TD) : Bool := @decide (t = u) (Classical.propDecidable _)

theorem sameT_self (t : TD) : sameT t t = true := by unfold sameT; simp
theorem sameT_ne {t u : TD} (h : t ≠ u) : sameT t u = false := by unfold sameT; simp [h]
theorem sameT_iff (t u : TD) : sameT t u = true ↔ t = u := by unfold sameT; simp

end Go.Proofs.YtblhmeidbjigaaaGreatDoor

/- The reference's terms: turns, plus, thing, Apart. -/
set_option linter.unusedSimpArgs false
set_option linter.unusedVariables false
namespace Go.Proofs.YtblhmeidbjigaaaGreatDoor
open Go.RowKit

theorem turnsT_eq (k : Int) : turnsT k = true ↔ (k = 3 ∨ k = 5 ∨ k = 6 ∨ k = 7 ∨ k = 8 ∨ k = 10) := by unfold turnsT; simp

theorem turnsT_no {k : Int} (h : ¬ (k = 3 ∨ k = 5 ∨ k = 6 ∨ k = 7 ∨ k = 8 ∨ k = 10)) : turnsT k = false := by unfold turnsT; simpa using h

theorem apartT_iff (u v : TD) : apartT u v = true ↔ (thingT u).1 = (thingT v).1 ∧ (thingT u).2 ≠ (thingT v).2 := by unfold apartT; simp

theorem apartT_no {u v : TD} (h : ¬ ((thingT u).1 = (thingT v).1 ∧ (thingT u).2 ≠ (thingT v).2)) : apartT u v = false := by
  cases e : apartT u v with
  | false => rfl
  | true => exact absurd ((apartT_iff u v).1 e) h

end Go.Proofs.YtblhmeidbjigaaaGreatDoor

/- The reference's terms: Made. -/
set_option linter.unusedSimpArgs false
set_option linter.unusedVariables false
namespace Go.Proofs.YtblhmeidbjigaaaGreatDoor
open Go.RowKit

theorem made_num {kind a b : Int} {u v : TD} (hu : u.isNum = some a) (hv : v.isNum = some b) (h : ¬ (kind = 11 ∧ b = 0)) : madeT kind u v = tnum (calcW kind a b) := by
  simp only [madeT, hu, hv, if_neg h]

theorem made_div0 {kind a b : Int} {u v : TD} (hu : u.isNum = some a) (hv : v.isNum = some b) (h : kind = 11 ∧ b = 0) : madeT kind u v = rowT kind u v := by
  simp only [madeT, hu, hv, if_pos h]

theorem made_left {kind a : Int} {u v : TD} (hu : u.isNum = some a) (hv : v.isNum = none) : madeT kind u v = if turnsT kind = true then rowT kind v u else rowT kind u v := by
  simp only [madeT, hu, hv]

theorem made_right {kind b : Int} {u v : TD} (hu : u.isNum = none) (hv : v.isNum = some b) : madeT kind u v = rowT kind u v := by
  simp only [madeT, hu, hv]

theorem made_over {kind : Int} {u v : TD} (hu : u.isNum = none) (hv : v.isNum = none) (h : turnsT kind = true ∧ showT v < showT u) : madeT kind u v = rowT kind v u := by
  simp only [madeT, hu, hv, if_pos h]

theorem made_stay {kind : Int} {u v : TD} (hu : u.isNum = none) (hv : v.isNum = none) (h : ¬ (turnsT kind = true ∧ showT v < showT u)) : madeT kind u v = rowT kind u v := by
  simp only [madeT, hu, hv, if_neg h]

theorem bytesLess_lt : ∀ (x y : List UInt8), Op.bytesLess x y = true ↔ x < y
  | [], [] => by simp [Op.bytesLess]
  | _ :: _, [] => by simp [Op.bytesLess]
  | [], _ :: _ => by simp [Op.bytesLess]
  | a :: x, b :: y => by
    rw [Op.bytesLess, List.cons_lt_cons_iff]
    simp [bytesLess_lt x y]

theorem less_show (u v : TD) : Op.bytesLess (str (showT v)).toList (str (showT u)).toList = true ↔ showT v < showT u := by
  simp only [str, ByteArray.toList_mk]
  exact bytesLess_lt _ _

end Go.Proofs.YtblhmeidbjigaaaGreatDoor

/- The reference's terms: Read, left, laid, Written. -/
set_option linter.unusedSimpArgs false
set_option linter.unusedVariables false
namespace Go.Proofs.YtblhmeidbjigaaaGreatDoor
open Go.RowKit

theorem read_same {c a v u : TD} (h : a = u) : readT (.three 13 c a v) u = v := by rw [readT, if_pos h]
theorem read_far {c a v u : TD} (h : a ≠ u) (h2 : apartT a u = true) : readT (.three 13 c a v) u = readT c u := by rw [readT, if_neg h, if_pos h2]
theorem read_near {c a v u : TD} (h : a ≠ u) (h2 : apartT a u = false) : readT (.three 13 c a v) u = .two 12 (.three 13 c a v) u := by rw [readT, if_neg h, if_neg (by rw [h2]; simp)]
theorem read_else {m u : TD} (h : m.kind ≠ 13) : readT m u = .two 12 m u := by
  cases m with
  | leaf k n => rfl
  | two k a b => rfl
  | three k a b c =>
    simp only [TD.kind] at h
    unfold readT
    split
    · rename_i e; cases e; exact absurd rfl h
    · rfl

theorem left_same {c a v u : TD} (h : a = u) : leftT (.three 13 c a v) u = c := by rw [leftT, if_pos h]
theorem left_far {c a v u : TD} (h : a ≠ u) (h2 : apartT a u = true) : leftT (.three 13 c a v) u = .three 13 (leftT c u) a v := by rw [leftT, if_neg h, if_pos h2]
theorem left_near {c a v u : TD} (h : a ≠ u) (h2 : apartT a u = false) : leftT (.three 13 c a v) u = .three 13 c a v := by rw [leftT, if_neg h, if_neg (by rw [h2]; simp)]
theorem left_else {m u : TD} (h : m.kind ≠ 13) : leftT m u = m := by
  cases m with
  | leaf k n => rfl
  | two k a b => rfl
  | three k a b c =>
    simp only [TD.kind] at h
    unfold leftT
    split
    · rename_i e; cases e; exact absurd rfl h
    · rfl

theorem laid_over {c a w u v : TD} {n k : Int} (hu : u.isNum = some n) (ha : a.isNum = some k) (h : k > n) : laidT (.three 13 c a w) u v = .three 13 (laidT c u v) a w := by
  rw [laidT]; simp only [hu, ha, if_pos h]
theorem laid_else {m u v : TD} (h : ¬ ∃ c a w n k, m = .three 13 c a w ∧ u.isNum = some n ∧ a.isNum = some k ∧ k > n) : laidT m u v = .three 13 m u v := by
  cases m with
  | leaf k n => rfl
  | two k a b => rfl
  | three k a b c =>
    by_cases hk : k = 13
    · subst hk
      rw [laidT]
      split
      · rename_i n q e1 e2
        by_cases hq : q > n
        · exact absurd ⟨a, b, c, n, q, rfl, e1, e2, hq⟩ h
        · rw [if_neg hq]
      · rfl
    · unfold laidT
      split
      · rename_i e; cases e; exact absurd rfl hk
      · rfl

end Go.Proofs.YtblhmeidbjigaaaGreatDoor

/- The code's terms as values; the functions that look at one. -/
set_option linter.unusedSimpArgs false
set_option linter.unusedVariables false
namespace Go.Proofs.YtblhmeidbjigaaaGreatDoor
open Go.RowKit

/-- A term's kind and number, as the code has them. -/
def ckind : TD → Int
  | .leaf k _ => if k = 100 then 1 else 0
  | .two k _ _ => k
  | .three k _ _ _ => k

def cval : TD → Int
  | .leaf k n => if k = 100 then n else 0
  | _ => 0

/-- A term's cells, given its list of parts. -/
def tcells (t : TD) (ps : Value) : List Value := [.int .i64 (ckind t), .int .i64 (cval t), ps, .int .i64 t.size, .string (str (showT t))]

/-- A term as a value. -/
def termV (t : TD) (ps : Value) : Value := .agg #[.int .i64 (ckind t), .int .i64 (cval t), ps, .int .i64 t.size, .string (str (showT t))]

/-- A term's parts in memory, all in blocks from Lo on. -/
def PartsAt (Lo : Nat) (w : World) : TD → Value → Prop
  | .leaf _ _, ps => ps = .slice none 0 0 ∧ Lo ≤ w.heap.size
  | .two _ a b, ps => ∃ g pa pb, ps = .slice (some ⟨g, 0, none⟩) 2 2 ∧ Lo ≤ g ∧ Row w g 119 (tcells a pa ++ tcells b pb) ∧ PartsAt Lo w a pa ∧ PartsAt Lo w b pb
  | .three _ a b c, ps => ∃ g pa pb pc, ps = .slice (some ⟨g, 0, none⟩) 3 3 ∧ Lo ≤ g ∧ Row w g 119 (tcells a pa ++ tcells b pb ++ tcells c pc) ∧ PartsAt Lo w a pa ∧ PartsAt Lo w b pb ∧ PartsAt Lo w c pc

theorem PartsAt.lo {Lo : Nat} {w : World} {t : TD} {ps : Value} (h : PartsAt Lo w t ps) : Lo ≤ w.heap.size := by
  induction t generalizing ps with
  | leaf k n => exact h.2
  | two k a b iha ihb => obtain ⟨g, pa, pb, e, lg, r, h1, h2⟩ := h; exact iha h1
  | three k a b c iha ihb ihc => obtain ⟨g, pa, pb, pc, e, lg, r, h1, h2, h3⟩ := h; exact iha h1

theorem PartsAt.keep {Lo : Nat} {w w' : World} {t : TD} {ps : Value} (h : PartsAt Lo w t ps) (hb : Below w.heap.size w w') : PartsAt Lo w' t ps := by
  induction t generalizing ps with
  | leaf k n => exact ⟨h.1, Nat.le_trans h.2 hb.size⟩
  | two k a b iha ihb => obtain ⟨g, pa, pb, e, lg, r, h1, h2⟩ := h; exact ⟨g, pa, pb, e, lg, r.keep hb, iha h1, ihb h2⟩
  | three k a b c iha ihb ihc => obtain ⟨g, pa, pb, pc, e, lg, r, h1, h2, h3⟩ := h; exact ⟨g, pa, pb, pc, e, lg, r.keep hb, iha h1, ihb h2, ihc h3⟩

/-- A leaf has its parts wherever another term has them. -/
theorem PartsAt.leaf {Lo : Nat} {w w' : World} {t : TD} {ps : Value} (h : PartsAt Lo w t ps) (hb : Below w.heap.size w w') (k n : Int) : PartsAt Lo w' (.leaf k n) (.slice none 0 0) := ⟨rfl, (h.keep hb).lo⟩

/-- A store below Lo meets no parts. -/
theorem PartsAt.under {Lo : Nat} {w : World} {t : TD} {ps : Value} (h : PartsAt Lo w t ps) {g : Nat} (hg : g < Lo) (i : Nat) (u : Value) : PartsAt Lo (w.setCell ⟨g, i, none⟩ u) t ps := by
  induction t generalizing ps with
  | leaf k n => exact ⟨h.1, by simpa using h.2⟩
  | two k a b iha ihb =>
    obtain ⟨g', pa, pb, e, lg, r, h1, h2⟩ := h
    exact ⟨g', pa, pb, e, lg, r.unset (by show g' ≠ g; omega) _, iha h1, ihb h2⟩
  | three k a b c iha ihb ihc =>
    obtain ⟨g', pa, pb, pc, e, lg, r, h1, h2, h3⟩ := h
    exact ⟨g', pa, pb, pc, e, lg, r.unset (by show g' ≠ g; omega) _, iha h1, ihb h2, ihc h3⟩

theorem row_one {w : World} {g : Nat} {t t' : TypeId} {xs ys : List Value} (h : Row w g t xs) (h' : Row w g t' ys) : xs = ys := by
  unfold Row at h h'
  rw [h] at h'
  simp only [Option.some.injEq, Obj.cells.injEq] at h'
  simpa using h'.1

/-- A block of one term is no list of parts. -/
theorem PartsAt.set {Lo : Nat} {w : World} {t : TD} {ps : Value} (h : PartsAt Lo w t ps) {g : Nat} {ty : TypeId} {xs : List Value} (hr : Row w g ty xs) (hx : xs.length = 5) (i : Nat) (u : Value) : PartsAt Lo (w.setCell ⟨g, i, none⟩ u) t ps := by
  induction t generalizing ps with
  | leaf k n => exact ⟨h.1, by simpa using h.2⟩
  | two k a b iha ihb =>
    obtain ⟨g', pa, pb, e, lg, r, h1, h2⟩ := h
    refine ⟨g', pa, pb, e, lg, r.unset (fun q => ?_) _, iha h1, ihb h2⟩
    have q' : g' = g := q
    subst q'
    have := row_one r hr
    rw [← this] at hx
    simp [tcells] at hx
  | three k a b c iha ihb ihc =>
    obtain ⟨g', pa, pb, pc, e, lg, r, h1, h2, h3⟩ := h
    refine ⟨g', pa, pb, pc, e, lg, r.unset (fun q => ?_) _, iha h1, ihb h2, ihc h3⟩
    have q' : g' = g := q
    subst q'
    have := row_one r hr
    rw [← this] at hx
    simp [tcells] at hx

/-- Five cells of a block are set. -/
def set5 (w : World) (g : Nat) (a b c d e : Value) : World :=
  ((((w.setCell ⟨g, 0, none⟩ a).setCell ⟨g, 1, none⟩ b).setCell ⟨g, 2, none⟩ c).setCell ⟨g, 3, none⟩ d).setCell ⟨g, 4, none⟩ e

theorem cbelow_set {w0 w : World} (h : Below w0.heap.size w0 w) {g i : Nat} (hg : w0.heap.size ≤ g) (u : Value) : Below w0.heap.size w0 (w.setCell ⟨g, i, none⟩ u) :=
  ⟨h.os, h.tape, h.output, by simpa using h.size, fun k hk => (Below.heap_setCell _ _ _ _ (by show k ≠ g; omega)).trans (h.block k hk)⟩

theorem set5_below {w0 w : World} (h : Below w0.heap.size w0 w) {g : Nat} (hg : w0.heap.size ≤ g) (a b c d e : Value) : Below w0.heap.size w0 (set5 w g a b c d e) :=
  cbelow_set (cbelow_set (cbelow_set (cbelow_set (cbelow_set h hg _) hg _) hg _) hg _) hg _

theorem PartsAt.on5 {Lo : Nat} {w : World} {t : TD} {ps : Value} (h : PartsAt Lo w t ps) {g : Nat} {ty : TypeId} {xs : List Value} (hr : Row w g ty xs) (hx : xs.length = 5) (a b c d e : Value) : PartsAt Lo (set5 w g a b c d e) t ps := by
  have r1 := hr.set 0 a
  have r2 := r1.set 1 b
  have r3 := r2.set 2 c
  have r4 := r3.set 3 d
  exact ((((h.set hr hx 0 a).set r1 (by simpa using hx) 1 b).set r2 (by simpa using hx) 2 c).set r3 (by simpa using hx) 3 d).set r4 (by simpa using hx) 4 e

theorem Row.on5 {w : World} {g : Nat} {ty : TypeId} {x0 x1 x2 x3 x4 : Value} (hr : Row w g ty [x0, x1, x2, x3, x4]) (a b c d e : Value) : Row (set5 w g a b c d e) g ty [a, b, c, d, e] :=
  ((((hr.set 0 a).set 1 b).set 2 c).set 3 d).set 4 e

theorem Row.off5 {w : World} {g g' : Nat} {ty : TypeId} {xs : List Value} (h : Row w g ty xs) (hg : g ≠ g') (a b c d e : Value) : Row (set5 w g' a b c d e) g ty xs :=
  ((((h.unset (a := ⟨g', 0, none⟩) hg a).unset (a := ⟨g', 1, none⟩) hg b).unset (a := ⟨g', 2, none⟩) hg c).unset (a := ⟨g', 3, none⟩) hg d).unset (a := ⟨g', 4, none⟩) hg e

def zT : List Value := [.int .i64 0, .int .i64 0, .slice none 0 0, .int .i64 0, .string ⟨#[]⟩]

theorem ckind_none {t : TD} (hf : t.fine) : ckind t ≠ 1 ↔ t.isNum = none := by
  cases t with
  | leaf k n => by_cases h : k = 100 <;> simp [ckind, TD.isNum, h]
  | two k a b => obtain ⟨h1, h2, _⟩ := hf; simp only [ckind, TD.isNum]; constructor; intro _; trivial; intro _; omega
  | three k a b c => obtain ⟨h1, _⟩ := hf; simp only [ckind, TD.isNum]; constructor; intro _; trivial; intro _; omega

theorem same_show {u v : TD} (hu : u.fine) (hv : v.fine) : ((str (showT u)).toList == (str (showT v)).toList) = sameT u v := by
  simp only [str, ByteArray.toList_mk]
  by_cases h : u = v
  · subst h; rw [sameT_self]; simp
  · rw [sameT_ne h]
    simp only [beq_eq_false_iff_ne, ne_eq]
    exact fun e => h (show_inj hu.ok hv.ok e)

set_option maxRecDepth 100000 in
set_option maxHeartbeats 1000000 in
theorem cNumber_any (k n s : Int) (ps : Value) (x : ByteArray) (w : World) :
    Calls Tryz.prog 179 #[.agg #[.int .i64 k, .int .i64 n, ps, .int .i64 s, .string x]] w fun e w' => e = .returned (.tuple #[.int .i64 (if k = 1 then n else 0), .bool (k == 1)]) ∧ Below w.heap.size w w' := by
  have hb : Below w.heap.size w (w.alloc (.cells #[.int .i64 k, .int .i64 n, ps, .int .i64 s, .string x] 119)) := (Below.refl _ _).alloc (Nat.le_refl _) _
  by_cases h : k = 1
  · subst h
    go_enter Tryz.func179, Tryz.ntmps179
    go_wp2
    go_ret2
    exact ⟨rfl, hb⟩
  · have hd : (k == 1) = false := by simp [h]
    rw [if_neg h, hd]
    go_enter Tryz.func179, Tryz.ntmps179
    go_wp2
    go_ret2
    exact ⟨rfl, hb⟩

set_option maxRecDepth 100000 in
set_option maxHeartbeats 1000000 in
theorem cSame_any (u v : TD) (pu pv : Value) (fu : u.fine) (fv : v.fine) (w : World) :
    Calls Tryz.prog 156 #[termV u pu, termV v pv] w fun e w' => e = .returned (.bool (sameT u v)) ∧ Below w.heap.size w w' := by
  have hb : Below w.heap.size w ((w.alloc (.cells #[.int .i64 (ckind u), .int .i64 (cval u), pu, .int .i64 u.size, .string (str (showT u))] 119)).alloc (.cells #[.int .i64 (ckind v), .int .i64 (cval v), pv, .int .i64 v.size, .string (str (showT v))] 119)) := ((Below.refl _ _).alloc (Nat.le_refl _) _).alloc (by simp) _
  have e := same_show fu fv
  unfold termV
  rw [← e]
  clear e
  generalize str (showT u) = X at *
  generalize str (showT v) = Y at *
  go_enter Tryz.func156, Tryz.ntmps156
  go_wp2
  go_ret
  exact ⟨rfl, hb⟩

set_option maxRecDepth 100000 in
set_option maxHeartbeats 1000000 in
theorem cSign_any (k : Int) (hk : 3 ≤ k ∧ k ≤ 13) (w : World) : Calls Tryz.prog 206 #[.int .i64 k] w fun e w' => e = .returned (.string (str [signT k])) ∧ w = w' := by
  have h : k = 3 ∨ k = 4 ∨ k = 5 ∨ k = 6 ∨ k = 7 ∨ k = 8 ∨ k = 9 ∨ k = 10 ∨ k = 11 ∨ k = 12 ∨ k = 13 := by omega
  rcases h with rfl | rfl | rfl | rfl | rfl | rfl | rfl | rfl | rfl | rfl | rfl
  all_goals
    go_enter Tryz.func206, Tryz.ntmps206
    go_wp2
    go_ret
    exact ⟨rfl, rfl⟩

set_option maxRecDepth 100000 in
set_option maxHeartbeats 1000000 in
theorem cText_any (k n s : Int) (ps : Value) (x : ByteArray) (w : World) :
    Calls Tryz.prog 68 #[.agg #[.int .i64 k, .int .i64 n, ps, .int .i64 s, .string x]] w fun e w' => e = .returned (.string x) ∧ Below w.heap.size w w' := by
  have hb : Below w.heap.size w (w.alloc (.cells #[.int .i64 k, .int .i64 n, ps, .int .i64 s, .string x] 119)) := (Below.refl _ _).alloc (Nat.le_refl _) _
  go_enter Tryz.func68, Tryz.ntmps68
  go_wp2
  go_ret
  exact ⟨rfl, hb⟩

set_option maxRecDepth 100000 in
set_option maxHeartbeats 1000000 in
theorem cSize_any (k n s : Int) (ps : Value) (x : ByteArray) (w : World) :
    Calls Tryz.prog 198 #[.agg #[.int .i64 k, .int .i64 n, ps, .int .i64 s, .string x]] w fun e w' => e = .returned (.int .i64 s) ∧ Below w.heap.size w w' := by
  have hb : Below w.heap.size w (w.alloc (.cells #[.int .i64 k, .int .i64 n, ps, .int .i64 s, .string x] 119)) := (Below.refl _ _).alloc (Nat.le_refl _) _
  go_enter Tryz.func198, Tryz.ntmps198
  go_wp2
  go_ret
  exact ⟨rfl, hb⟩

end Go.Proofs.YtblhmeidbjigaaaGreatDoor
