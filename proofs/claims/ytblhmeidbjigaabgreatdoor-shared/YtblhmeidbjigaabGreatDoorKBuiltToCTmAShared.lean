/- A program without slots out of raw numbers, of lo to hi registers, with at most ops operations in a block. -/
import Derived.Test.YtblhmeidbjigaabGreatDoorRows
import Derived.WalkKit
import Derived.WalkSpells
import Derived.WalkLawsBesides
import Derived.Laws.BytesArg
import Derived.Deep.QuietTactic
import Derived.BigQuiet
import Derived.Deep.RegionHeld3
import Derived.Deep.RegionLaw
import Derived.Deep.AppendLies
import Derived.Lib.ItoaNum
import Derived.Lib.ItoaLen
import Derived.OpenShut
import Derived.Maps.AppendAt
import Derived.StillTailTactics
import Derived.Shelf.Strconv.Itoa3
import Derived.Shelf.Lay
import Derived.Ground.NamesProg
import Derived.Lib.SmallJoins
import Derived.Lib.Hide
import Derived.Test.YtblhmeidbjigaabGreatDoorKOpToKCloneShared

set_option linter.unusedSimpArgs false
set_option linter.unusedVariables false
namespace Go.Proofs.YtblhmeidbjigaabGreatDoor
open Go.RowKit

set_option maxRecDepth 100000 in
set_option maxHeartbeats 4000000 in
theorem blockN_cps (R : Nat) (ao : Option Addr) (n cap k : Nat) (ops most regs slots nb : Int) (w : World) (h : Rolls w R ao n cap k) (hre : 1 ≤ regs ∧ regs ≤ 8) (hsl : 0 ≤ slots ∧ slots ≤ 8) (hop : 0 ≤ ops ∧ ops ≤ 12) (hmo : 1 ≤ most ∧ most ≤ 15) (hms : most ≤ 13 ∨ 1 ≤ slots) (hnb : 1 ≤ nb ∧ nb ≤ 6) (Post : Ending → World → Prop)
    (hp : ∀ sv l a b c d k' w', blockGood regs slots nb ⟨l, ⟨a, b, c, d⟩⟩ = true → Hid ((l.length : Int) ≤ ops) → w'.ownsRow w.heap.size 36 4 sv l.length (opCells l) → Rolls w' R ao n cap k' → Keep (fun g => g = R) w w' → Post (.returned (.agg #[sv, .int .i64 a, .int .i64 b, .int .i64 c, .int .i64 d])) w') :
    Calls Tryz.prog 30 #[.pointer (some ⟨R, 0, none⟩), .int .i64 ops, .int .i64 most, .int .i64 regs, .int .i64 slots, .int .i64 nb] w Post := by
  obtain ⟨i0, ii, iz0, iz1, iz2⟩ := info_parts Tryz.infoOp
  have hRw := h.row.lt
  have hA0 : Row ((w.alloc (.cells #[.slice none 0 0, .int .i64 0, .int .i64 0, .int .i64 0, .int .i64 0] 42)).alloc (.cells #[.slice none 0 0, .int .i64 0, .int .i64 0, .int .i64 0, .int .i64 0] 42)) w.heap.size 42 zBlk5 := by
    have q : Row (w.alloc (.cells #[.slice none 0 0, .int .i64 0, .int .i64 0, .int .i64 0, .int .i64 0] 42)) w.heap.size 42 zBlk5 := heap_alloc_new w _
    exact q.alloc _
  have hB0 : Row ((w.alloc (.cells #[.slice none 0 0, .int .i64 0, .int .i64 0, .int .i64 0, .int .i64 0] 42)).alloc (.cells #[.slice none 0 0, .int .i64 0, .int .i64 0, .int .i64 0, .int .i64 0] 42)) (w.heap.size + 1) 42 [.slice none 0 0, .int .i64 0, .int .i64 0, .int .i64 0, .int .i64 0] := heap_alloc2_new w _ _
  go_enter Tryz.func30, Tryz.ntmps30
  go_wp2_with fail
  refine next_cps R ao n cap k (ops + 1) _ (h.keep (((Below.refl _ _).alloc (Nat.le_refl _) _).alloc (by simp) _)) (by omega) _ ?_
  intro c k1 w1 hc0 hc3 hr1 hk1 hz1
  have hA := hA0.kept hk1 (by omega)
  have hB := hB0.kept hk1 (by omega)
  have hk01 : Keep (fun g => g = R) w w1 := (((Keep.refl _ _).alloc _).alloc _).trans hk1
  simp only [World.size_alloc] at hz1
  have hz1' : w.heap.size + 2 ≤ w1.heap.size := by omega
  clear hA0 hB0 hz1 hk1
  go_wp2
  go_loopw [15] (fun i wr => ∃ (j : Nat) (sv : Value) (l : List OpD) (kk : Nat), j ≤ c.toNat ∧ i = .int .i64 j ∧ Hid (l.length = j) ∧ Hid (opsGood regs slots l = true) ∧ Row wr w.heap.size 42 zBlk5 ∧ Row wr (w.heap.size + 1) 42 [sv, .int .i64 0, .int .i64 0, .int .i64 0, .int .i64 0] ∧
      wr.ownsRow (w.heap.size + 2) 36 4 sv j (opCells l) ∧ Rolls wr R ao n cap kk ∧ Keep (fun g => g = R) w wr ∧ w.heap.size + 2 ≤ wr.heap.size)
    (fun i _ => c.toNat - (intOf i).toNat)
  case atStart => exact ⟨0, .slice none 0 0, [], k1, Nat.zero_le _, rfl, rfl, rfl, hA, hB, World.ownsRow_nil _ _ _ _, hr1, hk01, hz1'⟩
  case round =>
    clear hA hB hr1 hk01 hz1' w1
    obtain ⟨j, sv, l, kk, hj, rfl, hll, hlg, hA, hB, hown, hro, hke, hzz⟩ := hrel
    obtain ⟨lo, lc, rfl⟩ := owns_slice hown
    by_cases hlt : (j : Int) < c
    · go_wp2_with fail
      refine op_cps R ao n cap kk most regs slots _ hro hre hsl hmo hms _ ?_
      intro a b c' d k2 w2 hg hr2 hk2
      have hA2 := hA.kept hk2 (by omega)
      have hB2 := hB.kept hk2 (by omega)
      have own2 := owns_keep hown hk2 (fun g hg => by omega)
      have hke2 := hke.trans hk2
      have hz2 := hk2.size
      have hzl : w.heap.size + 1 < w2.heap.size := by omega
      have hzq : w.heap.size + 2 ≤ w2.heap.size := by omega
      have b0 := hB2.cell (i := 0) rfl
      have HX : Hid (opsGood regs slots (l ++ [⟨a, b, c', d⟩]) = true) := by
        show opsGood _ _ _ = true
        have := hlg.out
        simp only [opsGood, List.all_append, List.all_cons, List.all_nil, Bool.and_true, Bool.and_eq_true] at this ⊢
        exact ⟨this, hg⟩
      clear hown hro hke hzz hA hB hk2 hg hlg
      go_wp2_with (at_builtin; refine wpList_append_own _ rfl _ _ 34 rfl (w.heap.size + 2) 36 i0 (.agg #[.int .i64 0, .int .i64 0, .int .i64 0, .int .i64 0]) 4 32 Tryz.underlying34 ii iz0 iz1 iz2 rfl (by decide) _ _ _ rfl ((own2.alloc _).alloc _) ⟨w2.heap.size + 1, 0, none⟩ 1 1 [.int .i64 a, .int .i64 b, .int .i64 c', .int .i64 d] rfl rfl ?c1 four_one ?c3 ?c4 ?c5 ?_)
      case c1 => simpa using four_new (w2.alloc _) _ _ _ _ _
      case c3 => unfold maxLen; omega
      case c4 => omega
      case c5 => first | omega | (simp; omega)
      intro v' w3 hown' hgrow _
      rw [← opCells_snoc] at hown'
      have hb2 := ((((Below.refl (w.heap.size + 2) w2).alloc hzq _).alloc (by simp; omega) _).grown hgrow (by simp; omega) (fun g hg => (own2.lt g hg).1))
      have hA3 := hA2.below hb2 (by omega)
      have hB3 := hB2.below hb2 (by omega)
      have hr3 := hr2.below h hb2 (by omega)
      have hke3 := hke2.below hb2 (by omega)
      have hz3 := hb2.size
      have y0 := hB3.cell (i := 0) rfl
      have yf := hB3.frozen 0
      obtain ⟨lo', lc', rfl⟩ := owns_slice hown'
      have hB4 := hB3.set 0 (.slice lo' (j + 1) lc')
      have hA4 := hA3.unset (a := ⟨w.heap.size + 1, 0, none⟩) (by show w.heap.size ≠ w.heap.size + 1; omega) (.slice lo' (j + 1) lc')
      have hr4 := hr3.set h (g := w.heap.size + 1) (i := 0) (by omega) (.slice lo' (j + 1) lc')
      have hke4 := hke3.setCell (p := ⟨w.heap.size + 1, 0, none⟩) (.inr (by show w.heap.size ≤ w.heap.size + 1; omega)) (.slice lo' (j + 1) lc')
      have own4 := ownsRow_setCell_below hown' (a := ⟨w.heap.size + 1, 0, none⟩) (by show w.heap.size + 1 < w.heap.size + 2; omega) (.slice lo' (j + 1) lc')
      clear hgrow hown' hb2 hA2 hB2 own2 hr2 hke2 b0 hA3 hB3 hr3 hke3
      go_wp2
      go_roundw
      case rel => exact ⟨j + 1, _, l ++ [⟨a, b, c', d⟩], k2, by omega, by go_num, by show List.length _ = _; have := hll.out; simp; exact this, HX, hA4, hB4, own4, hr4, hke4, by simp; omega⟩
      case measure => simp [intOf]; omega
    · obtain rfl : j = c.toNat := by omega
      go_wp2_with fail
      refine end_cps R ao n cap kk regs nb _ hro hre hnb _ ?_
      intro a b c' d k2 w2 hg hr2 hk2
      have hA2 := hA.kept hk2 (by omega)
      have hB2 := hB.kept hk2 (by omega)
      have own2 := owns_keep hown hk2 (fun g hg => by omega)
      have hke2 := hke.trans hk2
      have b0 := hB2.cell (i := 0) rfl
      have b1 := hB2.cell (i := 1) rfl
      have b2 := hB2.cell (i := 2) rfl
      have b3 := hB2.cell (i := 3) rfl
      have b4 := hB2.cell (i := 4) rfl
      have g1 := hB2.frozen 1
      have g2 := hB2.frozen 2
      have g3 := hB2.frozen 3
      have g4 := hB2.frozen 4
      have a0 := hA2.cell (i := 0) rfl
      have a1 := hA2.cell (i := 1) rfl
      have a2 := hA2.cell (i := 2) rfl
      have a3 := hA2.cell (i := 3) rfl
      have a4 := hA2.cell (i := 4) rfl
      have f0 := hA2.frozen 0
      have f1 := hA2.frozen 1
      have f2 := hA2.frozen 2
      have f3 := hA2.frozen 3
      have f4 := hA2.frozen 4
      have hgood : blockGood regs slots nb ⟨l, ⟨a, b, c', d⟩⟩ = true := by
        have e1 := hll.out
        simp only [blockGood, Bool.and_eq_true, decide_eq_true_eq]
        exact ⟨⟨by show l.length ≤ 12; omega, hlg.out⟩, hg⟩
      have hfin := hp (.slice lo c.toNat lc) l a b c' d k2 (set4 ((set4 w2 (w.heap.size + 1) 1 a b c' d).setCell ⟨w.heap.size, 0, none⟩ (.slice lo c.toNat lc)) w.heap.size 1 a b c' d) hgood (by have := hll.out; show (l.length : Int) ≤ ops; omega)
        (by
          rw [hll.out]
          refine owns_base (base := w.heap.size + 2) ?_ (by omega)
          exact (ownsRow_setCell_below · (by simp) _) ((ownsRow_setCell_below · (by simp) _) ((ownsRow_setCell_below · (by simp) _) ((ownsRow_setCell_below · (by simp) _) ((ownsRow_setCell_below · (by simp) _) ((ownsRow_setCell_below · (by simp) _) ((ownsRow_setCell_below · (by simp) _) ((ownsRow_setCell_below · (by simp) _) ((ownsRow_setCell_below · (by simp) _) own2)))))))))
        (((((((((hr2.set h (by omega) _).set h (by omega) _).set h (by omega) _).set h (by omega) _).set h (by omega) _).set h (by omega) _).set h (by omega) _).set h (by omega) _).set h (by omega) _)
        (((hke2.set4 (.inr (by omega)) _ _ _ _).setCell (.inr (by simp)) _).set4 (.inr (by omega)) _ _ _ _)
      have HF : Hid (Post (.returned (.agg #[.slice lo c.toNat lc, .int .i64 a, .int .i64 b, .int .i64 c', .int .i64 d])) (set4 ((set4 w2 (w.heap.size + 1) 1 a b c' d).setCell ⟨w.heap.size, 0, none⟩ (.slice lo c.toNat lc)) w.heap.size 1 a b c' d)) := hfin
      clear hfin hp hgood hA hB hown hro hke hA2 hB2 own2 hke2 hk2 hr2 h
      go_wp2
      exact bodyPost_ret (v := .agg #[.slice lo c.toNat lc, .int .i64 a, .int .i64 b, .int .i64 c', .int .i64 d]) (by simp [results, Tryz.results30, go_sem, a0, a1, a2, a3, a4]) rfl HF.out

set_option maxRecDepth 100000 in
set_option maxHeartbeats 8000000 in
theorem built_cps (ao : Option Addr) (n cap : Nat) (lo hi ops : Int) (w : World) (hlo : 1 ≤ lo ∧ lo ≤ hi) (hhi : hi ≤ 8) (hop : 0 ≤ ops ∧ ops ≤ 12) (hraw : RdInts w (.slice ao n cap) n) (Post : Ending → World → Prop)
    (hp : ∀ a0 a1 a2 v bv w', progGood ⟨a0, a1, a2, 0, bdat bv⟩ = true → lo ≤ a1 → a1 ≤ hi → (∀ x ∈ bv, (x.1.ops.length : Int) ≤ ops) → OwnBlocks w' w.heap.size v bv → Below w.heap.size w w' → Post (.returned (.agg #[.int .i64 a0, .int .i64 a1, .int .i64 a2, .int .i64 0, v])) w') :
    Calls Tryz.prog 10 #[.slice ao n cap, .int .i64 lo, .int .i64 hi, .int .i64 ops] w Post := by
  obtain ⟨i0, ii, iz0, iz1, iz2⟩ := info_parts Tryz.infoBlk
  have rA : Row (((w.alloc (.cells #[.int .i64 0, .int .i64 0, .int .i64 0, .int .i64 0, .slice none 0 0] 25)).alloc (.cells #[.slice ao n cap, .int .i64 0] 47)).alloc (.cells #[.int .i64 0, .int .i64 0, .int .i64 0, .int .i64 0, .slice none 0 0] 25)) w.heap.size 25 [.int .i64 0, .int .i64 0, .int .i64 0, .int .i64 0, .slice none 0 0] := by
    have q : Row (w.alloc (.cells #[.int .i64 0, .int .i64 0, .int .i64 0, .int .i64 0, .slice none 0 0] 25)) w.heap.size 25 [.int .i64 0, .int .i64 0, .int .i64 0, .int .i64 0, .slice none 0 0] := heap_alloc_new w _
    exact (q.alloc _).alloc _
  have rR : Row (((w.alloc (.cells #[.int .i64 0, .int .i64 0, .int .i64 0, .int .i64 0, .slice none 0 0] 25)).alloc (.cells #[.slice ao n cap, .int .i64 0] 47)).alloc (.cells #[.int .i64 0, .int .i64 0, .int .i64 0, .int .i64 0, .slice none 0 0] 25)) (w.heap.size + 1) 47 [.slice ao n cap, .int .i64 0] := by
    have q : Row ((w.alloc (.cells #[.int .i64 0, .int .i64 0, .int .i64 0, .int .i64 0, .slice none 0 0] 25)).alloc (.cells #[.slice ao n cap, .int .i64 0] 47)) (w.heap.size + 1) 47 [.slice ao n cap, .int .i64 0] := heap_alloc2_new w _ _
    exact q.alloc _
  have rP : Row (((w.alloc (.cells #[.int .i64 0, .int .i64 0, .int .i64 0, .int .i64 0, .slice none 0 0] 25)).alloc (.cells #[.slice ao n cap, .int .i64 0] 47)).alloc (.cells #[.int .i64 0, .int .i64 0, .int .i64 0, .int .i64 0, .slice none 0 0] 25)) (w.heap.size + 2) 25 [.int .i64 0, .int .i64 0, .int .i64 0, .int .i64 0, .slice none 0 0] := by
    have q := heap_alloc2_new (w.alloc (.cells #[.int .i64 0, .int .i64 0, .int .i64 0, .int .i64 0, .slice none 0 0] 25)) (.cells #[.slice ao n cap, .int .i64 0] 47) (.cells #[.int .i64 0, .int .i64 0, .int .i64 0, .int .i64 0, .slice none 0 0] 25)
    simp only [World.size_alloc] at q
    exact q
  have hb0 : Below w.heap.size w (((w.alloc (.cells #[.int .i64 0, .int .i64 0, .int .i64 0, .int .i64 0, .slice none 0 0] 25)).alloc (.cells #[.slice ao n cap, .int .i64 0] 47)).alloc (.cells #[.int .i64 0, .int .i64 0, .int .i64 0, .int .i64 0, .slice none 0 0] 25)) := (((Below.refl w.heap.size w).alloc (Nat.le_refl _) _).alloc (by simp) _).alloc (by simp; omega) _
  have ro0 := Rolls.fresh hraw hb0 rR (by omega)
  have ke : Keep (fun g => g = w.heap.size + 1) w (((w.alloc (.cells #[.int .i64 0, .int .i64 0, .int .i64 0, .int .i64 0, .slice none 0 0] 25)).alloc (.cells #[.slice ao n cap, .int .i64 0] 47)).alloc (.cells #[.int .i64 0, .int .i64 0, .int .i64 0, .int .i64 0, .slice none 0 0] 25)) := (((Keep.refl _ _).alloc _).alloc _).alloc _
  clear rR hb0
  go_enter Tryz.func10, Tryz.ntmps10
  go_wp2_with fail
  refine next_cps (w.heap.size + 1) ao n cap _ (hi - lo + 1) _ ro0 (by omega) _ ?_
  intro x0 k0 w0 xa0 xb0 hr hk hzz
  have ro := hr
  have rA := rA.kept hk (by omega)
  have rP := rP.kept hk (by omega)
  have ke := ke.trans hk
  clear hr hk
  have pc := rP.cell (i := 1) rfl
  have pf := rP.frozen 1
  have ro1 := ro.away hraw (g := (w.heap.size + 2)) (i := 1) (by omega) (by omega) (.int .i64 (lo + x0))
  have rA := rA.unset (a := ⟨(w.heap.size + 2), 1, none⟩) (by show w.heap.size ≠ w.heap.size + 2; omega) (.int .i64 (lo + x0))
  have rP := rP.set 1 (.int .i64 (lo + x0))
  have ke := ke.setCell (p := ⟨(w.heap.size + 2), 1, none⟩) (.inr (by show w.heap.size ≤ w.heap.size + 2; omega)) (.int .i64 (lo + x0))
  clear ro
  have p1 := rP.cell (i := 1) (u := .int .i64 (lo + x0)) rfl
  go_wp2_with fail
  refine next_cps (w.heap.size + 1) ao n cap _ (lo + x0 + 1) _ ro1 (by omega) _ ?_
  intro x1 k1 w1 xa1 xb1 hr hk hzz
  have ro := hr
  have rA := rA.kept hk (by omega)
  have rP := rP.kept hk (by omega)
  have ke := ke.trans hk
  clear hr hk
  clear p1
  have pc := rP.cell (i := 0) rfl
  have pf := rP.frozen 0
  have ro2 := ro.away hraw (g := (w.heap.size + 2)) (i := 0) (by omega) (by omega) (.int .i64 x1)
  have rA := rA.unset (a := ⟨(w.heap.size + 2), 0, none⟩) (by show w.heap.size ≠ w.heap.size + 2; omega) (.int .i64 x1)
  have rP := rP.set 0 (.int .i64 x1)
  have ke := ke.setCell (p := ⟨(w.heap.size + 2), 0, none⟩) (.inr (by show w.heap.size ≤ w.heap.size + 2; omega)) (.int .i64 x1)
  clear ro
  go_wp2_with fail
  refine next_cps (w.heap.size + 1) ao n cap _ 9 _ ro2 (by omega) _ ?_
  intro x2 k2 w2 xa2 xb2 hr hk hzz
  have ro := hr
  have rA := rA.kept hk (by omega)
  have rP := rP.kept hk (by omega)
  have ke := ke.trans hk
  clear hr hk
  have pc := rP.cell (i := 2) rfl
  have pf := rP.frozen 2
  have ro3 := ro.away hraw (g := (w.heap.size + 2)) (i := 2) (by omega) (by omega) (.int .i64 x2)
  have rA := rA.unset (a := ⟨(w.heap.size + 2), 2, none⟩) (by show w.heap.size ≠ w.heap.size + 2; omega) (.int .i64 x2)
  have rP := rP.set 2 (.int .i64 x2)
  have ke := ke.setCell (p := ⟨(w.heap.size + 2), 2, none⟩) (.inr (by show w.heap.size ≤ w.heap.size + 2; omega)) (.int .i64 x2)
  clear ro
  go_wp2_with fail
  refine next_cps (w.heap.size + 1) ao n cap _ 6 _ ro3 (by omega) _ ?_
  intro x4 k4 w4 xa4 xb4 hr hk hz4
  have ro := hr
  have rA := rA.kept hk (by omega)
  have rP := rP.kept hk (by omega)
  have ke := ke.trans hk
  have hz : w.heap.size + 3 ≤ w4.heap.size := by have := rP.lt; omega
  clear hr hk ro3
  go_wp2
  go_loopw [12] (fun i wr => ∃ (j : Nat) (v : Value) (bv : List (BlockD × Value)) (kk : Nat), (j : Int) ≤ 1 + x4 ∧ i = .int .i64 j ∧ Hid (bv.length = j) ∧ Hid (∀ x ∈ bv, blockGood (lo + x0) 0 (1 + x4) x.1 = true ∧ (x.1.ops.length : Int) ≤ ops) ∧ Row wr w.heap.size 25 [.int .i64 0, .int .i64 0, .int .i64 0, .int .i64 0, .slice none 0 0] ∧ Row wr (w.heap.size + 2) 25 [.int .i64 x1, .int .i64 (lo + x0), .int .i64 x2, .int .i64 0, v] ∧
      OwnBlocks wr (w.heap.size + 3) v bv ∧ Rolls wr (w.heap.size + 1) ao n cap kk ∧ Keep (fun g => g = w.heap.size + 1) w wr ∧ w.heap.size + 3 ≤ wr.heap.size)
    (fun i _ => (1 + x4).toNat - (intOf i).toNat)
  case atStart => exact ⟨0, .slice none 0 0, [], _, by omega, rfl, rfl, (fun x hx => by cases hx), rA, rP, ownBlocks_nil _ _, ro, ke, hz⟩
  case round =>
    clear rA rP ke ro hz hz4 w4
    obtain ⟨j, v, bv, kk, hj, rfl, hvl, hbg, rA, rP, own, ro, ke, hz⟩ := hrel
    obtain ⟨bo, bc, rfl⟩ := owns_slice own.row
    have p1 := rP.cell (i := 1) rfl
    by_cases hlt : (j : Int) < 1 + x4
    · go_wp2_with fail
      refine blockN_cps (w.heap.size + 1) ao n cap kk ops 13 (lo + x0) 0 (1 + x4) _ ro (by omega) (by omega) hop (by omega) (.inl (by omega)) (by omega) _ ?_
      intro sv l a b c d k2 w2 hg hgl hsv hr2 hk2
      obtain ⟨so, sc, rfl⟩ := owns_slice hsv
      have rA2 := rA.kept hk2 (by omega)
      have rP2 := rP.kept hk2 (by omega)
      have own2 := own.apartFrom hk2 (fun g hg => by omega)
      have ke2 := ke.trans hk2
      have hz2 := hk2.size
      have hzl : w.heap.size + 2 < w2.heap.size := by omega
      have hzq : w.heap.size + 3 ≤ w2.heap.size := by omega
      have p4 := rP2.cell (i := 4) rfl
      have hfree : ∀ y ∈ bv, ∀ g, y.2.ownBlock = some g → (Value.slice so l.length sc).ownBlock ≠ some g := by
        intro y hy g hg e
        have q1 := ((own.each y hy).lt g hg).2
        have q2 := (hsv.lt g e).1
        omega
      have HG : Hid (∀ x ∈ bv ++ [(⟨l, ⟨a, b, c, d⟩⟩, Value.slice so l.length sc)], blockGood (lo + x0) 0 (1 + x4) x.1 = true ∧ (x.1.ops.length : Int) ≤ ops) := by
        intro x hx
        rcases List.mem_append.1 hx with hx | hx
        · exact hbg.out x hx
        · simp at hx; subst hx; exact ⟨hg, hgl.out⟩
      have hsv2 := owns_base hsv (show w.heap.size + 3 ≤ _ by omega)
      clear rA rP own ke hk2 p1 ro hsv hg hgl hbg
      go_wp2_with (at_builtin; refine wpList_append_own _ rfl _ _ 23 rfl (w.heap.size + 3) 42 i0 (.agg #[.slice none 0 0, .int .i64 0, .int .i64 0, .int .i64 0, .int .i64 0]) 5 56 Tryz.underlying23 ii iz0 iz1 iz2 rfl (by decide) _ _ _ rfl ((own2.row.alloc _).alloc _) ⟨w2.heap.size + 1, 0, none⟩ 1 1 [.slice so l.length sc, .int .i64 a, .int .i64 b, .int .i64 c, .int .i64 d] rfl rfl ?c113 five_one ?c313 ?c413 ?c513 ?_)
      case c113 => simpa using five_new (w2.alloc _) _ _ _ _ _ _
      case c313 => have := hvl.out; unfold maxLen; omega
      case c413 => have := hvl.out; omega
      case c513 => first | omega | (simp; omega)
      intro v' w3 hown' hgrow _
      have own3 : OwnBlocks w3 (w.heap.size + 3) v' (bv ++ [(⟨l, ⟨a, b, c, d⟩⟩, .slice so l.length sc)]) := ((own2.alloc _).alloc _).snoc ((hsv2.alloc _).alloc _) hfree hgrow hown'
      have hb2 := ((((Below.refl (w.heap.size + 3) w2).alloc hzq _).alloc (by simp; omega) _).grown hgrow (by simp; omega) (fun g hg => (own2.row.lt g hg).1))
      have rA3 := rA2.below hb2 (by omega)
      have rP3 := rP2.below hb2 (by omega)
      have ro3 := hr2.belowB hraw hb2 (by omega) (by omega)
      have ke3 := ke2.below hb2 (by omega)
      have hz3 := hb2.size
      have y4 := rP3.cell (i := 4) rfl
      have yf := rP3.frozen 4
      obtain ⟨bo', bc', hv'⟩ := owns_slice own3.row
      rw [List.length_append] at hv'
      simp only [List.length_cons, List.length_nil, Nat.zero_add] at hv'
      subst hv'
      have rP4 := rP3.set 4 (.slice bo' (bv.length + 1) bc')
      have rA4 := rA3.unset (a := ⟨(w.heap.size + 2), 4, none⟩) (by show w.heap.size ≠ w.heap.size + 2; omega) (.slice bo' (bv.length + 1) bc')
      have ro4 := ro3.away hraw (g := (w.heap.size + 2)) (i := 4) (by omega) (by omega) (.slice bo' (bv.length + 1) bc')
      have ke4 := ke3.setCell (p := ⟨(w.heap.size + 2), 4, none⟩) (.inr (by show w.heap.size ≤ w.heap.size + 2; omega)) (.slice bo' (bv.length + 1) bc')
      have own4 := own3.set (a := ⟨(w.heap.size + 2), 4, none⟩) (by show w.heap.size + 2 < w.heap.size + 3; omega) (.slice bo' (bv.length + 1) bc')
      clear hgrow hown' hb2 rA2 rP2 own2 hr2 ke2 p4 rA3 rP3 ro3 ke3 own3 hsv2 hfree
      go_wp2
      go_roundw
      case rel => exact ⟨j + 1, _, _, k2, by omega, by go_num, by show List.length _ = _; have := hvl.out; simp; exact this, HG, rA4, rP4, own4, ro4, ke4, by simp; omega⟩
      case measure => simp [intOf]; omega
    · have hje : (j : Int) = 1 + x4 := by omega
      have b0 := rP.cell (i := 0) rfl
      have b3 := rP.cell (i := 3) rfl
      have b2 := rP.cell (i := 2) rfl
      have b4 := rP.cell (i := 4) rfl
      have a0 := rA.cell (i := 0) rfl
      have a1 := rA.cell (i := 1) rfl
      have a2 := rA.cell (i := 2) rfl
      have a3 := rA.cell (i := 3) rfl
      have a4 := rA.cell (i := 4) rfl
      have f0 := rA.frozen 0
      have f1 := rA.frozen 1
      have f2 := rA.frozen 2
      have f3 := rA.frozen 3
      have f4 := rA.frozen 4
      have hgood : progGood ⟨x1, lo + x0, x2, 0, bdat bv⟩ = true := by
        have e := hvl.out
        simp only [progGood, blocksGood, Bool.and_eq_true, decide_eq_true_eq, List.all_eq_true, bdat_length]
        refine ⟨⟨⟨⟨⟨by omega, by omega⟩, by omega⟩, by omega⟩, by omega⟩, ?_⟩
        intro x hx
        obtain ⟨y, hy, rfl⟩ := List.mem_map.1 hx
        have := (hbg.out y hy).1
        rw [e, hje]
        exact this
      have hfin := hp x1 (lo + x0) x2 (.slice bo bv.length bc) bv (((((wr.setCell ⟨w.heap.size, 0, none⟩ (.int .i64 x1)).setCell ⟨w.heap.size, 1, none⟩ (.int .i64 (lo + x0))).setCell ⟨w.heap.size, 2, none⟩ (.int .i64 x2)).setCell ⟨w.heap.size, 3, none⟩ (.int .i64 0)).setCell ⟨w.heap.size, 4, none⟩ (.slice bo bv.length bc)) hgood (by omega) (by omega) (fun x hx => (hbg.out x hx).2)
        ((((((own.set (by simp) _).set (by simp) _).set (by simp) _).set (by simp) _).set (by simp) _).base (by omega))
        ((((((ke.setCell (.inr (by simp)) _).setCell (.inr (by simp)) _).setCell (.inr (by simp)) _).setCell (.inr (by simp)) _).setCell (.inr (by simp)) _).toBelow (Nat.le_refl _) (fun g hg => by omega))
      have HF : Hid (Post (.returned (.agg #[.int .i64 x1, .int .i64 (lo + x0), .int .i64 x2, .int .i64 0, .slice bo bv.length bc])) (((((wr.setCell ⟨w.heap.size, 0, none⟩ (.int .i64 x1)).setCell ⟨w.heap.size, 1, none⟩ (.int .i64 (lo + x0))).setCell ⟨w.heap.size, 2, none⟩ (.int .i64 x2)).setCell ⟨w.heap.size, 3, none⟩ (.int .i64 0)).setCell ⟨w.heap.size, 4, none⟩ (.slice bo bv.length bc))) := hfin
      clear hfin hp hgood own ro ke rA rP
      go_wp2
      exact bodyPost_ret (v := .agg #[.int .i64 x1, .int .i64 (lo + x0), .int .i64 x2, .int .i64 0, .slice bo bv.length bc]) (by simp [results, Tryz.results10, go_sem, a0, a1, a2, a3, a4]) rfl HF.out

end Go.Proofs.YtblhmeidbjigaabGreatDoor

/- A hint out of raw numbers. -/
set_option linter.unusedSimpArgs false
set_option linter.unusedVariables false
namespace Go.Proofs.YtblhmeidbjigaabGreatDoor
open Go.RowKit

theorem pairs_one (a b : Int) : ∀ u ∈ [Value.int .i64 a, Value.int .i64 b], u.oneCell' = true := by
  intro u hu; simp at hu; rcases hu with rfl | rfl <;> rfl

end Go.Proofs.YtblhmeidbjigaabGreatDoor

/- The hint that says: as it is (twinkeep.identity). -/
set_option linter.unusedSimpArgs false
set_option linter.unusedVariables false
namespace Go.Proofs.YtblhmeidbjigaabGreatDoor
open Go.RowKit

theorem idPairs_snoc (p : Nat) : idPairs (p + 1) = idPairs p ++ [⟨p, p⟩] := by
  simp [idPairs, List.range_succ]

/-- The pairings of n blocks, each with r pairs. -/
def idPings (n r : Nat) : List PingD := (List.range n).map fun (b : Nat) => ⟨b, idPairs r⟩

theorem idPings_snoc (n r : Nat) : idPings (n + 1) r = idPings n r ++ [⟨n, idPairs r⟩] := by
  simp [idPings, List.range_succ]

theorem idHint_pings (p : ProgD) : idHint p = idPings p.blocks.length p.regs.toNat := rfl

theorem hdat_snoc (hv : List (PingD × Value)) (x : PingD) (v : Value) : hdat (hv ++ [(x, v)]) = hdat hv ++ [x] := by
  simp [hdat]

set_option maxRecDepth 100000 in
set_option maxHeartbeats 8000000 in
theorem identity_cps (a0 a1 a2 a3 : Int) (po : Option Addr) (nb pc : Nat) (w : World) (hr0 : 0 ≤ a1) (hr8 : a1 ≤ 8) (hnb : nb ≤ 6) (Post : Ending → World → Prop)
    (hp : ∀ v hv w', Hid (hdat hv = idPings nb a1.toNat) → OwnHint w' w.heap.size v hv → Below w.heap.size w w' → Post (.returned (.agg #[v])) w') :
    Calls Tryz.prog 15 #[.agg #[.int .i64 a0, .int .i64 a1, .int .i64 a2, .int .i64 a3, .slice po nb pc]] w Post := by
  obtain ⟨i0, ii, iz0, iz1, iz2⟩ := info_parts Tryz.infoPing
  obtain ⟨j0, ji, jz0, jz1, jz2⟩ := info_parts Tryz.infoPair
  have rB : Row (((w.alloc (.cells #[.int .i64 a0, .int .i64 a1, .int .i64 a2, .int .i64 a3, .slice po nb pc] 25)).alloc (.cells #[.slice none 0 0] 30)).alloc (.cells #[.slice none 0 0] 30)) w.heap.size 25 [.int .i64 a0, .int .i64 a1, .int .i64 a2, .int .i64 a3, .slice po nb pc] := by
    have q : Row (w.alloc (.cells #[.int .i64 a0, .int .i64 a1, .int .i64 a2, .int .i64 a3, .slice po nb pc] 25)) w.heap.size 25 [.int .i64 a0, .int .i64 a1, .int .i64 a2, .int .i64 a3, .slice po nb pc] := heap_alloc_new w _
    exact (q.alloc _).alloc _
  have rA : Row (((w.alloc (.cells #[.int .i64 a0, .int .i64 a1, .int .i64 a2, .int .i64 a3, .slice po nb pc] 25)).alloc (.cells #[.slice none 0 0] 30)).alloc (.cells #[.slice none 0 0] 30)) (w.heap.size + 1) 30 [.slice none 0 0] := by
    have q : Row ((w.alloc (.cells #[.int .i64 a0, .int .i64 a1, .int .i64 a2, .int .i64 a3, .slice po nb pc] 25)).alloc (.cells #[.slice none 0 0] 30)) (w.heap.size + 1) 30 [.slice none 0 0] := heap_alloc2_new w _ _
    exact q.alloc _
  have rH : Row (((w.alloc (.cells #[.int .i64 a0, .int .i64 a1, .int .i64 a2, .int .i64 a3, .slice po nb pc] 25)).alloc (.cells #[.slice none 0 0] 30)).alloc (.cells #[.slice none 0 0] 30)) (w.heap.size + 2) 30 [.slice none 0 0] := by
    have q := heap_alloc2_new (w.alloc (.cells #[.int .i64 a0, .int .i64 a1, .int .i64 a2, .int .i64 a3, .slice po nb pc] 25)) (.cells #[.slice none 0 0] 30) (.cells #[.slice none 0 0] 30)
    simp only [World.size_alloc] at q
    exact q
  have ke : Keep (fun _ => False) w (((w.alloc (.cells #[.int .i64 a0, .int .i64 a1, .int .i64 a2, .int .i64 a3, .slice po nb pc] 25)).alloc (.cells #[.slice none 0 0] 30)).alloc (.cells #[.slice none 0 0] 30)) := (((Keep.refl _ _).alloc _).alloc _).alloc _
  have hz : w.heap.size + 3 ≤ (((w.alloc (.cells #[.int .i64 a0, .int .i64 a1, .int .i64 a2, .int .i64 a3, .slice po nb pc] 25)).alloc (.cells #[.slice none 0 0] 30)).alloc (.cells #[.slice none 0 0] 30)).heap.size := by simp
  go_enter Tryz.func15, Tryz.ntmps15
  go_wp2
  go_loopw [4] (fun i wr => ∃ (j : Nat) (v : Value) (hv : List (PingD × Value)), j ≤ nb ∧ i = .int .i64 j ∧ Hid (hv.length = j) ∧ Hid (hdat hv = idPings j a1.toNat) ∧ Row wr w.heap.size 25 [.int .i64 a0, .int .i64 a1, .int .i64 a2, .int .i64 a3, .slice po nb pc] ∧ Row wr (w.heap.size + 1) 30 [.slice none 0 0] ∧ Row wr (w.heap.size + 2) 30 [v] ∧
      OwnHint wr (w.heap.size + 3) v hv ∧ Keep (fun _ => False) w wr ∧ w.heap.size + 3 ≤ wr.heap.size)
    (fun i _ => nb - (intOf i).toNat)
  case atStart => exact ⟨0, .slice none 0 0, [], Nat.zero_le _, rfl, rfl, rfl, rB, rA, rH, ownHint_nil _ _, ke, hz⟩
  case round =>
    clear rA rH rB ke hz
    rename World => w1
    obtain ⟨j, v, hv, hj, rfl, hvl, hbg, rB, rA, rH, own, ke, hz⟩ := hrel
    obtain ⟨bo, bc, rfl⟩ := owns_slice own.row
    have c4 := rB.cell (i := 4) rfl
    by_cases hlt : j < nb
    · have rX1 : Row (w1.alloc (.cells #[.int .i64 j, .slice none 0 0] 33)) w1.heap.size 33 [.int .i64 j, .slice none 0 0] := heap_alloc_new w1 _
      have keX : Keep (fun _ => False) w1 (w1.alloc (.cells #[.int .i64 j, .slice none 0 0] 33)) := (Keep.refl _ _).alloc _
      have w1z : w1.heap.size + 1 ≤ (w1.alloc (.cells #[.int .i64 j, .slice none 0 0] 33)).heap.size := by simp
      go_wp2
      go_loopw [6] (fun i wi => ∃ (p : Nat) (ps : List PairD) (sv : Value), (p : Int) ≤ a1 ∧ i = .int .i64 p ∧ Hid (ps = idPairs p) ∧ Hid (ps.length = p) ∧ Row wi w1.heap.size 33 [.int .i64 j, sv] ∧ wi.ownsRow (w1.heap.size + 1) 38 2 sv ps.length (pairCells ps) ∧
          Keep (fun _ => False) w1 wi ∧ w1.heap.size + 1 ≤ wi.heap.size)
        (fun i _ => a1.toNat - (intOf i).toNat)
      case atStart => exact ⟨0, [], _, by omega, rfl, rfl, rfl, rX1, World.ownsRow_nil _ _ _ _, keX, w1z⟩
      case round =>
        clear rX1 keX w1z c4
        obtain ⟨p, ps, sv, hpp, rfl, hpt, hpl, rX, pown, kei, hzi⟩ := hrel
        obtain ⟨so, sc, rfl⟩ := owns_slice pown
        have d1 := (rB.kept kei (fun h => h)).cell (i := 1) rfl
        by_cases hp16 : (p : Int) < a1
        · have a1' := rX.cell (i := 1) rfl
          go_wp2_with (at_builtin; refine wpList_append_own _ rfl _ _ 31 rfl (w1.heap.size + 1) 38 j0 (.agg #[.int .i64 0, .int .i64 0]) 2 16 Tryz.underlying31 ji jz0 jz1 jz2 rfl (by decide) _ _ _ rfl (pown.alloc _) ⟨wr.heap.size, 0, none⟩ 1 1 [.int .i64 p, .int .i64 p] rfl rfl ?c1 ?c2 ?c3 ?c4 ?c5 ?_)
          case c1 => simpa using two_new wr _ _ _
          case c2 => exact pairs_one _ _
          case c3 => have := hpl.out; unfold maxLen; omega
          case c4 => have := hpl.out; omega
          case c5 => simp; omega
          intro v' w5 hown5 hgrow5 _
          have hb5 := ((Below.refl (w1.heap.size + 1) wr).alloc hzi (.cells #[.int .i64 p, .int .i64 p] 38)).grown hgrow5 (by simp; omega) (fun g hg => (pown.lt g hg).1)
          have rX5 := rX.below hb5 (by omega)
          have ke5 := kei.below hb5 (by omega)
          have hz5 := hb5.size
          have y1 := rX5.cell (i := 1) rfl
          have yf := rX5.frozen 1
          obtain ⟨bo', bc', hv'⟩ := owns_slice hown5
          subst hv'
          have rX6 := rX5.set 1 (.slice bo' (ps.length + 1) bc')
          have ke6 := ke5.setCell (p := ⟨w1.heap.size, 1, none⟩) (.inr (Nat.le_refl _)) (.slice bo' (ps.length + 1) bc')
          have own6 := ownsRow_setCell_below hown5 (a := ⟨w1.heap.size, 1, none⟩) (by show w1.heap.size < w1.heap.size + 1; omega) (.slice bo' (ps.length + 1) bc')
          rw [← pairCells_snoc] at own6
          have HP : Hid (ps ++ [⟨p, p⟩] = idPairs (p + 1)) := by show _ = _; rw [hpt.out, idPairs_snoc]
          have HL : Hid ((ps ++ [(⟨p, p⟩ : PairD)]).length = p + 1) := by show _ = _; have := hpl.out; simp; exact this
          clear rX5 ke5 hown5 hgrow5 hb5 rX pown kei hpt d1 a1'
          go_wp2
          go_roundw
          case rel => exact ⟨p + 1, ps ++ [⟨p, p⟩], _, by omega, by go_num, HP, HL, rX6, by simpa using own6, ke6, by simp; omega⟩
          case measure => simp [intOf]; omega
        · obtain rfl : p = a1.toNat := by omega
          have rA2 := rA.kept kei (fun h => h)
          have rB2 := rB.kept kei (fun h => h)
          have rH2 := rH.kept kei (fun h => h)
          have own2 := own.apartFrom kei (fun g hg => hg.elim)
          have ke2 := ke.trans kei
          have hzl : w.heap.size + 3 ≤ wr.heap.size := by omega
          have h0 := rH2.cell (i := 0) rfl
          have x0' := rX.cell (i := 0) rfl
          have x1' := rX.cell (i := 1) rfl
          have hfree : ∀ y ∈ hv, ∀ g, y.2.ownBlock = some g → (Value.slice so ps.length sc).ownBlock ≠ some g := by
            intro y hy g hg e
            have q1 := ((own.each y hy).lt g hg).2
            have q2 := (pown.lt g e).1
            omega
          have HG : Hid (hdat (hv ++ [(⟨j, ps⟩, Value.slice so ps.length sc)]) = idPings (j + 1) a1.toNat) := by
            show _ = _
            rw [hdat_snoc, hbg.out, idPings_snoc, hpt.out]
          have pown2 := owns_base pown (show w.heap.size + 3 ≤ _ by omega)
          clear rA rB rH own ke kei pown hbg rX hpt
          go_wp2_with (at_builtin; refine wpList_append_own _ rfl _ _ 28 rfl (w.heap.size + 3) 33 i0 (.agg #[.int .i64 0, .slice none 0 0]) 2 32 Tryz.underlying28 ii iz0 iz1 iz2 rfl (by decide) _ _ _ rfl (own2.row.alloc _) ⟨wr.heap.size, 0, none⟩ 1 1 [.int .i64 j, .slice so ps.length sc] rfl rfl ?c221 ?c22 ?c23 ?c24 ?c25 ?_)
          case c22 => exact ⟨rfl, rfl⟩
          case c23 => have := hvl.out; unfold maxLen; omega
          case c24 => have := hvl.out; omega
          case c25 => first | omega | (simp; omega)
          intro v' w7 hown' hgrow _
          have own7 : OwnHint w7 (w.heap.size + 3) v' (hv ++ [(⟨j, ps⟩, .slice so ps.length sc)]) := (own2.alloc _).snoc (x := ⟨j, ps⟩) (pown2.alloc _) hfree hgrow hown'
          have hb7 := (((Below.refl (w.heap.size + 3) wr).alloc hzl _).grown hgrow (by simp; omega) (fun g hg => (own2.row.lt g hg).1))
          have rA7 := rA2.below hb7 (by omega)
          have rB7 := rB2.below hb7 (by omega)
          have rH7 := rH2.below hb7 (by omega)
          have ke7 := ke2.below hb7 (by omega)
          have hz7 := hb7.size
          have y4 := rH7.cell (i := 0) rfl
          have yf := rH7.frozen 0
          obtain ⟨bo', bc', hv'⟩ := owns_slice own7.row
          rw [List.length_append] at hv'
          simp only [List.length_cons, List.length_nil, Nat.zero_add] at hv'
          subst hv'
          have rH8 := rH7.set 0 (.slice bo' (hv.length + 1) bc')
          have rA8 := rA7.unset (a := ⟨(w.heap.size + 2), 0, none⟩) (by show w.heap.size + 1 ≠ w.heap.size + 2; omega) (.slice bo' (hv.length + 1) bc')
          have rB8 := rB7.unset (a := ⟨(w.heap.size + 2), 0, none⟩) (by show w.heap.size ≠ w.heap.size + 2; omega) (.slice bo' (hv.length + 1) bc')
          have ke8 := ke7.setCell (p := ⟨(w.heap.size + 2), 0, none⟩) (.inr (by show w.heap.size ≤ w.heap.size + 2; omega)) (.slice bo' (hv.length + 1) bc')
          have own8 := own7.set (a := ⟨(w.heap.size + 2), 0, none⟩) (by show w.heap.size + 2 < w.heap.size + 3; omega) (.slice bo' (hv.length + 1) bc')
          clear hgrow hown' hb7 rA2 rB2 rH2 own2 ke2 h0 x0' x1' rA7 rB7 rH7 ke7 own7 pown2 hfree d1
          go_wp2
          go_roundw
          case rel => exact ⟨j + 1, _, _, by omega, by go_num, by show List.length _ = _; have := hvl.out; simp; exact this, HG, rB8, rA8, rH8, own8, ke8, by simp; omega⟩
          case measure => simp [intOf]; omega
    · obtain rfl : j = nb := by omega
      have b0 := rH.cell (i := 0) rfl
      have a0' := rA.cell (i := 0) rfl
      have f0 := rA.frozen 0
      have HF : Hid (Post (.returned (.agg #[.slice bo hv.length bc])) (w1.setCell ⟨w.heap.size + 1, 0, none⟩ (.slice bo hv.length bc))) :=
        hp (.slice bo hv.length bc) hv _ hbg ((own.set (by simp) _).base (by omega)) ((ke.setCell (.inr (by simp)) _).toBelow (Nat.le_refl _) (fun g hg => hg.elim))
      clear hp own ke rA rH rB
      go_wp2
      exact bodyPost_ret (v := .agg #[.slice bo hv.length bc]) (by simp [results, Tryz.results15, go_sem, a0']) rfl HF.out

end Go.Proofs.YtblhmeidbjigaabGreatDoor

/- The code's terms as values; the functions that look at one. -/
set_option linter.unusedSimpArgs false
set_option linter.unusedVariables false
namespace Go.Proofs.YtblhmeidbjigaabGreatDoor
open Go.RowKit

/-- A term's kind and number, as the code has them. -/
def ckind : TD → Int
  | .leaf k _ => if k = 100 then 1 else 0
  | .two k _ _ => k
  | .three k _ _ _ => k

def cval : TD → Int
  | .leaf k n => if k = 100 then n else 0
  | _ => 0

/-- A term's cells, given its list of parts. -/
def tcells (t : TD) (ps : Value) : List Value := [.int .i64 (ckind t), .int .i64 (cval t), ps, .int .i64 t.size, .string (str (showT t))]

/-- A term as a value. -/
def termV (t : TD) (ps : Value) : Value := .agg #[.int .i64 (ckind t), .int .i64 (cval t), ps, .int .i64 t.size, .string (str (showT t))]

/-- A term's parts in memory, all in blocks from Lo on. -/
def PartsAt (Lo : Nat) (w : World) : TD → Value → Prop
  | .leaf _ _, ps => ps = .slice none 0 0 ∧ Lo ≤ w.heap.size
  | .two _ a b, ps => ∃ g pa pb, ps = .slice (some ⟨g, 0, none⟩) 2 2 ∧ Lo ≤ g ∧ Row w g 179 (tcells a pa ++ tcells b pb) ∧ PartsAt Lo w a pa ∧ PartsAt Lo w b pb
  | .three _ a b c, ps => ∃ g pa pb pc, ps = .slice (some ⟨g, 0, none⟩) 3 3 ∧ Lo ≤ g ∧ Row w g 179 (tcells a pa ++ tcells b pb ++ tcells c pc) ∧ PartsAt Lo w a pa ∧ PartsAt Lo w b pb ∧ PartsAt Lo w c pc

theorem PartsAt.lo {Lo : Nat} {w : World} {t : TD} {ps : Value} (h : PartsAt Lo w t ps) : Lo ≤ w.heap.size := by
  induction t generalizing ps with
  | leaf k n => exact h.2
  | two k a b iha ihb => obtain ⟨g, pa, pb, e, lg, r, h1, h2⟩ := h; exact iha h1
  | three k a b c iha ihb ihc => obtain ⟨g, pa, pb, pc, e, lg, r, h1, h2, h3⟩ := h; exact iha h1

theorem PartsAt.keep {Lo : Nat} {w w' : World} {t : TD} {ps : Value} (h : PartsAt Lo w t ps) (hb : Below w.heap.size w w') : PartsAt Lo w' t ps := by
  induction t generalizing ps with
  | leaf k n => exact ⟨h.1, Nat.le_trans h.2 hb.size⟩
  | two k a b iha ihb => obtain ⟨g, pa, pb, e, lg, r, h1, h2⟩ := h; exact ⟨g, pa, pb, e, lg, r.keep hb, iha h1, ihb h2⟩
  | three k a b c iha ihb ihc => obtain ⟨g, pa, pb, pc, e, lg, r, h1, h2, h3⟩ := h; exact ⟨g, pa, pb, pc, e, lg, r.keep hb, iha h1, ihb h2, ihc h3⟩

/-- A leaf has its parts wherever another term has them. -/
theorem PartsAt.leaf {Lo : Nat} {w w' : World} {t : TD} {ps : Value} (h : PartsAt Lo w t ps) (hb : Below w.heap.size w w') (k n : Int) : PartsAt Lo w' (.leaf k n) (.slice none 0 0) := ⟨rfl, (h.keep hb).lo⟩

/-- A store below Lo meets no parts. -/
theorem PartsAt.under {Lo : Nat} {w : World} {t : TD} {ps : Value} (h : PartsAt Lo w t ps) {g : Nat} (hg : g < Lo) (i : Nat) (u : Value) : PartsAt Lo (w.setCell ⟨g, i, none⟩ u) t ps := by
  induction t generalizing ps with
  | leaf k n => exact ⟨h.1, by simpa using h.2⟩
  | two k a b iha ihb =>
    obtain ⟨g', pa, pb, e, lg, r, h1, h2⟩ := h
    exact ⟨g', pa, pb, e, lg, r.unset (by show g' ≠ g; omega) _, iha h1, ihb h2⟩
  | three k a b c iha ihb ihc =>
    obtain ⟨g', pa, pb, pc, e, lg, r, h1, h2, h3⟩ := h
    exact ⟨g', pa, pb, pc, e, lg, r.unset (by show g' ≠ g; omega) _, iha h1, ihb h2, ihc h3⟩

theorem row_one {w : World} {g : Nat} {t t' : TypeId} {xs ys : List Value} (h : Row w g t xs) (h' : Row w g t' ys) : xs = ys := by
  unfold Row at h h'
  rw [h] at h'
  simp only [Option.some.injEq, Obj.cells.injEq] at h'
  simpa using h'.1

/-- A block of one term is no list of parts. -/
theorem PartsAt.set {Lo : Nat} {w : World} {t : TD} {ps : Value} (h : PartsAt Lo w t ps) {g : Nat} {ty : TypeId} {xs : List Value} (hr : Row w g ty xs) (hx : xs.length = 5) (i : Nat) (u : Value) : PartsAt Lo (w.setCell ⟨g, i, none⟩ u) t ps := by
  induction t generalizing ps with
  | leaf k n => exact ⟨h.1, by simpa using h.2⟩
  | two k a b iha ihb =>
    obtain ⟨g', pa, pb, e, lg, r, h1, h2⟩ := h
    refine ⟨g', pa, pb, e, lg, r.unset (fun q => ?_) _, iha h1, ihb h2⟩
    have q' : g' = g := q
    subst q'
    have := row_one r hr
    rw [← this] at hx
    simp [tcells] at hx
  | three k a b c iha ihb ihc =>
    obtain ⟨g', pa, pb, pc, e, lg, r, h1, h2, h3⟩ := h
    refine ⟨g', pa, pb, pc, e, lg, r.unset (fun q => ?_) _, iha h1, ihb h2, ihc h3⟩
    have q' : g' = g := q
    subst q'
    have := row_one r hr
    rw [← this] at hx
    simp [tcells] at hx

/-- Five cells of a block are set. -/
def set5 (w : World) (g : Nat) (a b c d e : Value) : World :=
  ((((w.setCell ⟨g, 0, none⟩ a).setCell ⟨g, 1, none⟩ b).setCell ⟨g, 2, none⟩ c).setCell ⟨g, 3, none⟩ d).setCell ⟨g, 4, none⟩ e

theorem cbelow_set {w0 w : World} (h : Below w0.heap.size w0 w) {g i : Nat} (hg : w0.heap.size ≤ g) (u : Value) : Below w0.heap.size w0 (w.setCell ⟨g, i, none⟩ u) :=
  ⟨h.os, h.tape, h.output, by simpa using h.size, fun k hk => (Below.heap_setCell _ _ _ _ (by show k ≠ g; omega)).trans (h.block k hk)⟩

theorem set5_below {w0 w : World} (h : Below w0.heap.size w0 w) {g : Nat} (hg : w0.heap.size ≤ g) (a b c d e : Value) : Below w0.heap.size w0 (set5 w g a b c d e) :=
  cbelow_set (cbelow_set (cbelow_set (cbelow_set (cbelow_set h hg _) hg _) hg _) hg _) hg _

theorem PartsAt.on5 {Lo : Nat} {w : World} {t : TD} {ps : Value} (h : PartsAt Lo w t ps) {g : Nat} {ty : TypeId} {xs : List Value} (hr : Row w g ty xs) (hx : xs.length = 5) (a b c d e : Value) : PartsAt Lo (set5 w g a b c d e) t ps := by
  have r1 := hr.set 0 a
  have r2 := r1.set 1 b
  have r3 := r2.set 2 c
  have r4 := r3.set 3 d
  exact ((((h.set hr hx 0 a).set r1 (by simpa using hx) 1 b).set r2 (by simpa using hx) 2 c).set r3 (by simpa using hx) 3 d).set r4 (by simpa using hx) 4 e

theorem Row.on5 {w : World} {g : Nat} {ty : TypeId} {x0 x1 x2 x3 x4 : Value} (hr : Row w g ty [x0, x1, x2, x3, x4]) (a b c d e : Value) : Row (set5 w g a b c d e) g ty [a, b, c, d, e] :=
  ((((hr.set 0 a).set 1 b).set 2 c).set 3 d).set 4 e

theorem Row.off5 {w : World} {g g' : Nat} {ty : TypeId} {xs : List Value} (h : Row w g ty xs) (hg : g ≠ g') (a b c d e : Value) : Row (set5 w g' a b c d e) g ty xs :=
  ((((h.unset (a := ⟨g', 0, none⟩) hg a).unset (a := ⟨g', 1, none⟩) hg b).unset (a := ⟨g', 2, none⟩) hg c).unset (a := ⟨g', 3, none⟩) hg d).unset (a := ⟨g', 4, none⟩) hg e

def zT : List Value := [.int .i64 0, .int .i64 0, .slice none 0 0, .int .i64 0, .string ⟨#[]⟩]

theorem ckind_none {t : TD} (hf : t.fine) : ckind t ≠ 1 ↔ t.isNum = none := by
  cases t with
  | leaf k n => by_cases h : k = 100 <;> simp [ckind, TD.isNum, h]
  | two k a b => obtain ⟨h1, h2, _⟩ := hf; simp only [ckind, TD.isNum]; constructor; intro _; trivial; intro _; omega
  | three k a b c => obtain ⟨h1, _⟩ := hf; simp only [ckind, TD.isNum]; constructor; intro _; trivial; intro _; omega

theorem same_show {u v : TD} (hu : u.fine) (hv : v.fine) : ((str (showT u)).toList == (str (showT v)).toList) = sameT u v := by
  simp only [str, ByteArray.toList_mk]
  by_cases h : u = v
  · subst h; rw [sameT_self]; simp
  · rw [sameT_ne h]
    simp only [beq_eq_false_iff_ne, ne_eq]
    exact fun e => h (show_inj hu.ok hv.ok e)

set_option maxRecDepth 100000 in
set_option maxHeartbeats 1000000 in
theorem cNumber_any (k n s : Int) (ps : Value) (x : ByteArray) (w : World) :
    Calls Tryz.prog 164 #[.agg #[.int .i64 k, .int .i64 n, ps, .int .i64 s, .string x]] w fun e w' => e = .returned (.tuple #[.int .i64 (if k = 1 then n else 0), .bool (k == 1)]) ∧ Below w.heap.size w w' := by
  have hb : Below w.heap.size w (w.alloc (.cells #[.int .i64 k, .int .i64 n, ps, .int .i64 s, .string x] 179)) := (Below.refl _ _).alloc (Nat.le_refl _) _
  by_cases h : k = 1
  · subst h
    go_enter Tryz.func164, Tryz.ntmps164
    go_wp2
    go_ret2
    exact ⟨rfl, hb⟩
  · have hd : (k == 1) = false := by simp [h]
    rw [if_neg h, hd]
    go_enter Tryz.func164, Tryz.ntmps164
    go_wp2
    go_ret2
    exact ⟨rfl, hb⟩

set_option maxRecDepth 100000 in
set_option maxHeartbeats 1000000 in
theorem cSame_any (u v : TD) (pu pv : Value) (fu : u.fine) (fv : v.fine) (w : World) :
    Calls Tryz.prog 134 #[termV u pu, termV v pv] w fun e w' => e = .returned (.bool (sameT u v)) ∧ Below w.heap.size w w' := by
  have hb : Below w.heap.size w ((w.alloc (.cells #[.int .i64 (ckind u), .int .i64 (cval u), pu, .int .i64 u.size, .string (str (showT u))] 179)).alloc (.cells #[.int .i64 (ckind v), .int .i64 (cval v), pv, .int .i64 v.size, .string (str (showT v))] 179)) := ((Below.refl _ _).alloc (Nat.le_refl _) _).alloc (by simp) _
  have e := same_show fu fv
  unfold termV
  rw [← e]
  clear e
  generalize str (showT u) = X at *
  generalize str (showT v) = Y at *
  go_enter Tryz.func134, Tryz.ntmps134
  go_wp2
  go_ret
  exact ⟨rfl, hb⟩

set_option maxRecDepth 100000 in
set_option maxHeartbeats 1000000 in
theorem cSign_any (k : Int) (hk : 3 ≤ k ∧ k ≤ 13) (w : World) : Calls Tryz.prog 226 #[.int .i64 k] w fun e w' => e = .returned (.string (str [signT k])) ∧ w = w' := by
  have h : k = 3 ∨ k = 4 ∨ k = 5 ∨ k = 6 ∨ k = 7 ∨ k = 8 ∨ k = 9 ∨ k = 10 ∨ k = 11 ∨ k = 12 ∨ k = 13 := by omega
  rcases h with rfl | rfl | rfl | rfl | rfl | rfl | rfl | rfl | rfl | rfl | rfl
  all_goals
    go_enter Tryz.func226, Tryz.ntmps226
    go_wp2
    go_ret
    exact ⟨rfl, rfl⟩

set_option maxRecDepth 100000 in
set_option maxHeartbeats 1000000 in
theorem cText_any (k n s : Int) (ps : Value) (x : ByteArray) (w : World) :
    Calls Tryz.prog 148 #[.agg #[.int .i64 k, .int .i64 n, ps, .int .i64 s, .string x]] w fun e w' => e = .returned (.string x) ∧ Below w.heap.size w w' := by
  have hb : Below w.heap.size w (w.alloc (.cells #[.int .i64 k, .int .i64 n, ps, .int .i64 s, .string x] 179)) := (Below.refl _ _).alloc (Nat.le_refl _) _
  go_enter Tryz.func148, Tryz.ntmps148
  go_wp2
  go_ret
  exact ⟨rfl, hb⟩

set_option maxRecDepth 100000 in
set_option maxHeartbeats 1000000 in
theorem cSize_any (k n s : Int) (ps : Value) (x : ByteArray) (w : World) :
    Calls Tryz.prog 220 #[.agg #[.int .i64 k, .int .i64 n, ps, .int .i64 s, .string x]] w fun e w' => e = .returned (.int .i64 s) ∧ Below w.heap.size w w' := by
  have hb : Below w.heap.size w (w.alloc (.cells #[.int .i64 k, .int .i64 n, ps, .int .i64 s, .string x] 179)) := (Below.refl _ _).alloc (Nat.le_refl _) _
  go_enter Tryz.func220, Tryz.ntmps220
  go_wp2
  go_ret
  exact ⟨rfl, hb⟩

end Go.Proofs.YtblhmeidbjigaabGreatDoor
