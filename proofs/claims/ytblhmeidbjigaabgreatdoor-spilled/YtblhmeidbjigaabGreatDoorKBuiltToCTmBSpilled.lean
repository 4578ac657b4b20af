/- A program without slots out of raw numbers, of lo to hi registers, with at most ops operations in a block. -/
import Derived.Test.YtblhmeidbjigaabGreatDoorRows
import Derived.WalkKit
import Derived.WalkSpells
import Derived.WalkLawsBesides
import Derived.Laws.BytesArg
import Derived.Deep.QuietTactic
import Derived.BigQuiet
import Derived.Deep.RegionHeld3
import Derived.Deep.RegionLaw
import Derived.Deep.AppendLies
import Derived.Lib.ItoaNum
import Derived.Lib.ItoaLen
import Derived.OpenShut
import Derived.Maps.AppendAt
import Derived.StillTailTactics
import Derived.Shelf.Strconv.Itoa3
import Derived.Shelf.Lay
import Derived.Ground.NamesProg
import Derived.Lib.SmallJoins
import Derived.Lib.Hide
import Derived.Test.YtblhmeidbjigaabGreatDoorKOpToKCloneSpilled

set_option linter.unusedSimpArgs false
set_option linter.unusedVariables false
namespace Go.Proofs.YtblhmeidbjigaabGreatDoor
open Go.RowKit

set_option maxRecDepth 100000 in
set_option maxHeartbeats 4000000 in
theorem blockN_cps (R : Nat) (ao : Option Addr) (n cap k : Nat) (ops most regs slots nb : Int) (w : World) (h : Rolls w R ao n cap k) (hre : 1 ≤ regs ∧ regs ≤ 8) (hsl : 0 ≤ slots ∧ slots ≤ 8) (hop : 0 ≤ ops ∧ ops ≤ 12) (hmo : 1 ≤ most ∧ most ≤ 15) (hms : most ≤ 13 ∨ 1 ≤ slots) (hnb : 1 ≤ nb ∧ nb ≤ 6) (Post : Ending → World → Prop)
    (hp : ∀ sv l a b c d k' w', blockGood regs slots nb ⟨l, ⟨a, b, c, d⟩⟩ = true → Hid ((l.length : Int) ≤ ops) → w'.ownsRow w.heap.size 36 4 sv l.length (opCells l) → Rolls w' R ao n cap k' → Keep (fun g => g = R) w w' → Post (.returned (.agg #[sv, .int .i64 a, .int .i64 b, .int .i64 c, .int .i64 d])) w') :
    Calls Tryz.prog 30 #[.pointer (some ⟨R, 0, none⟩), .int .i64 ops, .int .i64 most, .int .i64 regs, .int .i64 slots, .int .i64 nb] w Post := by
  obtain ⟨i0, ii, iz0, iz1, iz2⟩ := info_parts Tryz.infoOp
  have hRw := h.row.lt
  have hA0 : Row ((w.alloc (.cells #[.slice none 0 0, .int .i64 0, .int .i64 0, .int .i64 0, .int .i64 0] 42)).alloc (.cells #[.slice none 0 0, .int .i64 0, .int .i64 0, .int .i64 0, .int .i64 0] 42)) w.heap.size 42 zBlk5 := by
    have q : Row (w.alloc (.cells #[.slice none 0 0, .int .i64 0, .int .i64 0, .int .i64 0, .int .i64 0] 42)) w.heap.size 42 zBlk5 := heap_alloc_new w _
    exact q.alloc _
  have hB0 : Row ((w.alloc (.cells #[.slice none 0 0, .int .i64 0, .int .i64 0, .int .i64 0, .int .i64 0] 42)).alloc (.cells #[.slice none 0 0, .int .i64 0, .int .i64 0, .int .i64 0, .int .i64 0] 42)) (w.heap.size + 1) 42 [.slice none 0 0, .int .i64 0, .int .i64 0, .int .i64 0, .int .i64 0] := heap_alloc2_new w _ _
  go_enter Tryz.func30, Tryz.ntmps30
  go_wp2_with fail
  refine next_cps R ao n cap k (ops + 1) _ (h.keep (((Below.refl _ _).alloc (Nat.le_refl _) _).alloc (by simp) _)) (by omega) _ ?_
  intro c k1 w1 hc0 hc3 hr1 hk1 hz1
  have hA := hA0.kept hk1 (by omega)
  have hB := hB0.kept hk1 (by omega)
  have hk01 : Keep (fun g => g = R) w w1 := (((Keep.refl _ _).alloc _).alloc _).trans hk1
  simp only [World.size_alloc] at hz1
  have hz1' : w.heap.size + 2 ≤ w1.heap.size := by omega
  clear hA0 hB0 hz1 hk1
  go_wp2
  go_loopw [15] (fun i wr => ∃ (j : Nat) (sv : Value) (l : List OpD) (kk : Nat), j ≤ c.toNat ∧ i = .int .i64 j ∧ Hid (l.length = j) ∧ Hid (opsGood regs slots l = true) ∧ Row wr w.heap.size 42 zBlk5 ∧ Row wr (w.heap.size + 1) 42 [sv, .int .i64 0, .int .i64 0, .int .i64 0, .int .i64 0] ∧
      wr.ownsRow (w.heap.size + 2) 36 4 sv j (opCells l) ∧ Rolls wr R ao n cap kk ∧ Keep (fun g => g = R) w wr ∧ w.heap.size + 2 ≤ wr.heap.size)
    (fun i _ => c.toNat - (intOf i).toNat)
  case atStart => exact ⟨0, .slice none 0 0, [], k1, Nat.zero_le _, rfl, rfl, rfl, hA, hB, World.ownsRow_nil _ _ _ _, hr1, hk01, hz1'⟩
  case round =>
    clear hA hB hr1 hk01 hz1' w1
    obtain ⟨j, sv, l, kk, hj, rfl, hll, hlg, hA, hB, hown, hro, hke, hzz⟩ := hrel
    obtain ⟨lo, lc, rfl⟩ := owns_slice hown
    by_cases hlt : (j : Int) < c
    · go_wp2_with fail
      refine op_cps R ao n cap kk most regs slots _ hro hre hsl hmo hms _ ?_
      intro a b c' d k2 w2 hg hr2 hk2
      have hA2 := hA.kept hk2 (by omega)
      have hB2 := hB.kept hk2 (by omega)
      have own2 := owns_keep hown hk2 (fun g hg => by omega)
      have hke2 := hke.trans hk2
      have hz2 := hk2.size
      have hzl : w.heap.size + 1 < w2.heap.size := by omega
      have hzq : w.heap.size + 2 ≤ w2.heap.size := by omega
      have b0 := hB2.cell (i := 0) rfl
      have HX : Hid (opsGood regs slots (l ++ [⟨a, b, c', d⟩]) = true) := by
        show opsGood _ _ _ = true
        have := hlg.out
        simp only [opsGood, List.all_append, List.all_cons, List.all_nil, Bool.and_true, Bool.and_eq_true] at this ⊢
        exact ⟨this, hg⟩
      clear hown hro hke hzz hA hB hk2 hg hlg
      go_wp2_with (at_builtin; refine wpList_append_own _ rfl _ _ 34 rfl (w.heap.size + 2) 36 i0 (.agg #[.int .i64 0, .int .i64 0, .int .i64 0, .int .i64 0]) 4 32 Tryz.underlying34 ii iz0 iz1 iz2 rfl (by decide) _ _ _ rfl ((own2.alloc _).alloc _) ⟨w2.heap.size + 1, 0, none⟩ 1 1 [.int .i64 a, .int .i64 b, .int .i64 c', .int .i64 d] rfl rfl ?c1 four_one ?c3 ?c4 ?c5 ?_)
      case c1 => simpa using four_new (w2.alloc _) _ _ _ _ _
      case c3 => unfold maxLen; omega
      case c4 => omega
      case c5 => first | omega | (simp; omega)
      intro v' w3 hown' hgrow _
      rw [← opCells_snoc] at hown'
      have hb2 := ((((Below.refl (w.heap.size + 2) w2).alloc hzq _).alloc (by simp; omega) _).grown hgrow (by simp; omega) (fun g hg => (own2.lt g hg).1))
      have hA3 := hA2.below hb2 (by omega)
      have hB3 := hB2.below hb2 (by omega)
      have hr3 := hr2.below h hb2 (by omega)
      have hke3 := hke2.below hb2 (by omega)
      have hz3 := hb2.size
      have y0 := hB3.cell (i := 0) rfl
      have yf := hB3.frozen 0
      obtain ⟨lo', lc', rfl⟩ := owns_slice hown'
      have hB4 := hB3.set 0 (.slice lo' (j + 1) lc')
      have hA4 := hA3.unset (a := ⟨w.heap.size + 1, 0, none⟩) (by show w.heap.size ≠ w.heap.size + 1; omega) (.slice lo' (j + 1) lc')
      have hr4 := hr3.set h (g := w.heap.size + 1) (i := 0) (by omega) (.slice lo' (j + 1) lc')
      have hke4 := hke3.setCell (p := ⟨w.heap.size + 1, 0, none⟩) (.inr (by show w.heap.size ≤ w.heap.size + 1; omega)) (.slice lo' (j + 1) lc')
      have own4 := ownsRow_setCell_below hown' (a := ⟨w.heap.size + 1, 0, none⟩) (by show w.heap.size + 1 < w.heap.size + 2; omega) (.slice lo' (j + 1) lc')
      clear hgrow hown' hb2 hA2 hB2 own2 hr2 hke2 b0 hA3 hB3 hr3 hke3
      go_wp2
      go_roundw
      case rel => exact ⟨j + 1, _, l ++ [⟨a, b, c', d⟩], k2, by omega, by go_num, by show List.length _ = _; have := hll.out; simp; exact this, HX, hA4, hB4, own4, hr4, hke4, by simp; omega⟩
      case measure => simp [intOf]; omega
    · obtain rfl : j = c.toNat := by omega
      go_wp2_with fail
      refine end_cps R ao n cap kk regs nb _ hro hre hnb _ ?_
      intro a b c' d k2 w2 hg hr2 hk2
      have hA2 := hA.kept hk2 (by omega)
      have hB2 := hB.kept hk2 (by omega)
      have own2 := owns_keep hown hk2 (fun g hg => by omega)
      have hke2 := hke.trans hk2
      have b0 := hB2.cell (i := 0) rfl
      have b1 := hB2.cell (i := 1) rfl
      have b2 := hB2.cell (i := 2) rfl
      have b3 := hB2.cell (i := 3) rfl
      have b4 := hB2.cell (i := 4) rfl
      have g1 := hB2.frozen 1
      have g2 := hB2.frozen 2
      have g3 := hB2.frozen 3
      have g4 := hB2.frozen 4
      have a0 := hA2.cell (i := 0) rfl
      have a1 := hA2.cell (i := 1) rfl
      have a2 := hA2.cell (i := 2) rfl
      have a3 := hA2.cell (i := 3) rfl
      have a4 := hA2.cell (i := 4) rfl
      have f0 := hA2.frozen 0
      have f1 := hA2.frozen 1
      have f2 := hA2.frozen 2
      have f3 := hA2.frozen 3
      have f4 := hA2.frozen 4
      have hgood : blockGood regs slots nb ⟨l, ⟨a, b, c', d⟩⟩ = true := by
        have e1 := hll.out
        simp only [blockGood, Bool.and_eq_true, decide_eq_true_eq]
        exact ⟨⟨by show l.length ≤ 12; omega, hlg.out⟩, hg⟩
      have hfin := hp (.slice lo c.toNat lc) l a b c' d k2 (set4 ((set4 w2 (w.heap.size + 1) 1 a b c' d).setCell ⟨w.heap.size, 0, none⟩ (.slice lo c.toNat lc)) w.heap.size 1 a b c' d) hgood (by have := hll.out; show (l.length : Int) ≤ ops; omega)
        (by
          rw [hll.out]
          refine owns_base (base := w.heap.size + 2) ?_ (by omega)
          exact (ownsRow_setCell_below · (by simp) _) ((ownsRow_setCell_below · (by simp) _) ((ownsRow_setCell_below · (by simp) _) ((ownsRow_setCell_below · (by simp) _) ((ownsRow_setCell_below · (by simp) _) ((ownsRow_setCell_below · (by simp) _) ((ownsRow_setCell_below · (by simp) _) ((ownsRow_setCell_below · (by simp) _) ((ownsRow_setCell_below · (by simp) _) own2)))))))))
        (((((((((hr2.set h (by omega) _).set h (by omega) _).set h (by omega) _).set h (by omega) _).set h (by omega) _).set h (by omega) _).set h (by omega) _).set h (by omega) _).set h (by omega) _)
        (((hke2.set4 (.inr (by omega)) _ _ _ _).setCell (.inr (by simp)) _).set4 (.inr (by omega)) _ _ _ _)
      have HF : Hid (Post (.returned (.agg #[.slice lo c.toNat lc, .int .i64 a, .int .i64 b, .int .i64 c', .int .i64 d])) (set4 ((set4 w2 (w.heap.size + 1) 1 a b c' d).setCell ⟨w.heap.size, 0, none⟩ (.slice lo c.toNat lc)) w.heap.size 1 a b c' d)) := hfin
      clear hfin hp hgood hA hB hown hro hke hA2 hB2 own2 hke2 hk2 hr2 h
      go_wp2
      exact bodyPost_ret (v := .agg #[.slice lo c.toNat lc, .int .i64 a, .int .i64 b, .int .i64 c', .int .i64 d]) (by simp [results, Tryz.results30, go_sem, a0, a1, a2, a3, a4]) rfl HF.out

set_option maxRecDepth 100000 in
set_option maxHeartbeats 8000000 in
theorem built_cps (ao : Option Addr) (n cap : Nat) (lo hi ops : Int) (w : World) (hlo : 1 ≤ lo ∧ lo ≤ hi) (hhi : hi ≤ 8) (hop : 0 ≤ ops ∧ ops ≤ 12) (hraw : RdInts w (.slice ao n cap) n) (Post : Ending → World → Prop)
    (hp : ∀ a0 a1 a2 v bv w', progGood ⟨a0, a1, a2, 0, bdat bv⟩ = true → lo ≤ a1 → a1 ≤ hi → (∀ x ∈ bv, (x.1.ops.length : Int) ≤ ops) → OwnBlocks w' w.heap.size v bv → Below w.heap.size w w' → Post (.returned (.agg #[.int .i64 a0, .int .i64 a1, .int .i64 a2, .int .i64 0, v])) w') :
    Calls Tryz.prog 10 #[.slice ao n cap, .int .i64 lo, .int .i64 hi, .int .i64 ops] w Post := by
  obtain ⟨i0, ii, iz0, iz1, iz2⟩ := info_parts Tryz.infoBlk
  have rA : Row (((w.alloc (.cells #[.int .i64 0, .int .i64 0, .int .i64 0, .int .i64 0, .slice none 0 0] 25)).alloc (.cells #[.slice ao n cap, .int .i64 0] 47)).alloc (.cells #[.int .i64 0, .int .i64 0, .int .i64 0, .int .i64 0, .slice none 0 0] 25)) w.heap.size 25 [.int .i64 0, .int .i64 0, .int .i64 0, .int .i64 0, .slice none 0 0] := by
    have q : Row (w.alloc (.cells #[.int .i64 0, .int .i64 0, .int .i64 0, .int .i64 0, .slice none 0 0] 25)) w.heap.size 25 [.int .i64 0, .int .i64 0, .int .i64 0, .int .i64 0, .slice none 0 0] := heap_alloc_new w _
    exact (q.alloc _).alloc _
  have rR : Row (((w.alloc (.cells #[.int .i64 0, .int .i64 0, .int .i64 0, .int .i64 0, .slice none 0 0] 25)).alloc (.cells #[.slice ao n cap, .int .i64 0] 47)).alloc (.cells #[.int .i64 0, .int .i64 0, .int .i64 0, .int .i64 0, .slice none 0 0] 25)) (w.heap.size + 1) 47 [.slice ao n cap, .int .i64 0] := by
    have q : Row ((w.alloc (.cells #[.int .i64 0, .int .i64 0, .int .i64 0, .int .i64 0, .slice none 0 0] 25)).alloc (.cells #[.slice ao n cap, .int .i64 0] 47)) (w.heap.size + 1) 47 [.slice ao n cap, .int .i64 0] := heap_alloc2_new w _ _
    exact q.alloc _
  have rP : Row (((w.alloc (.cells #[.int .i64 0, .int .i64 0, .int .i64 0, .int .i64 0, .slice none 0 0] 25)).alloc (.cells #[.slice ao n cap, .int .i64 0] 47)).alloc (.cells #[.int .i64 0, .int .i64 0, .int .i64 0, .int .i64 0, .slice none 0 0] 25)) (w.heap.size + 2) 25 [.int .i64 0, .int .i64 0, .int .i64 0, .int .i64 0, .slice none 0 0] := by
    have q := heap_alloc2_new (w.alloc (.cells #[.int .i64 0, .int .i64 0, .int .i64 0, .int .i64 0, .slice none 0 0] 25)) (.cells #[.slice ao n cap, .int .i64 0] 47) (.cells #[.int .i64 0, .int .i64 0, .int .i64 0, .int .i64 0, .slice none 0 0] 25)
    simp only [World.size_alloc] at q
    exact q
  have hb0 : Below w.heap.size w (((w.alloc (.cells #[.int .i64 0, .int .i64 0, .int .i64 0, .int .i64 0, .slice none 0 0] 25)).alloc (.cells #[.slice ao n cap, .int .i64 0] 47)).alloc (.cells #[.int .i64 0, .int .i64 0, .int .i64 0, .int .i64 0, .slice none 0 0] 25)) := (((Below.refl w.heap.size w).alloc (Nat.le_refl _) _).alloc (by simp) _).alloc (by simp; omega) _
  have ro0 := Rolls.fresh hraw hb0 rR (by omega)
  have ke : Keep (fun g => g = w.heap.size + 1) w (((w.alloc (.cells #[.int .i64 0, .int .i64 0, .int .i64 0, .int .i64 0, .slice none 0 0] 25)).alloc (.cells #[.slice ao n cap, .int .i64 0] 47)).alloc (.cells #[.int .i64 0, .int .i64 0, .int .i64 0, .int .i64 0, .slice none 0 0] 25)) := (((Keep.refl _ _).alloc _).alloc _).alloc _
  clear rR hb0
  go_enter Tryz.func10, Tryz.ntmps10
  go_wp2_with fail
  refine next_cps (w.heap.size + 1) ao n cap _ (hi - lo + 1) _ ro0 (by omega) _ ?_
  intro x0 k0 w0 xa0 xb0 hr hk hzz
  have ro := hr
  have rA := rA.kept hk (by omega)
  have rP := rP.kept hk (by omega)
  have ke := ke.trans hk
  clear hr hk
  have pc := rP.cell (i := 1) rfl
  have pf := rP.frozen 1
  have ro1 := ro.away hraw (g := (w.heap.size + 2)) (i := 1) (by omega) (by omega) (.int .i64 (lo + x0))
  have rA := rA.unset (a := ⟨(w.heap.size + 2), 1, none⟩) (by show w.heap.size ≠ w.heap.size + 2; omega) (.int .i64 (lo + x0))
  have rP := rP.set 1 (.int .i64 (lo + x0))
  have ke := ke.setCell (p := ⟨(w.heap.size + 2), 1, none⟩) (.inr (by show w.heap.size ≤ w.heap.size + 2; omega)) (.int .i64 (lo + x0))
  clear ro
  have p1 := rP.cell (i := 1) (u := .int .i64 (lo + x0)) rfl
  go_wp2_with fail
  refine next_cps (w.heap.size + 1) ao n cap _ (lo + x0 + 1) _ ro1 (by omega) _ ?_
  intro x1 k1 w1 xa1 xb1 hr hk hzz
  have ro := hr
  have rA := rA.kept hk (by omega)
  have rP := rP.kept hk (by omega)
  have ke := ke.trans hk
  clear hr hk
  clear p1
  have pc := rP.cell (i := 0) rfl
  have pf := rP.frozen 0
  have ro2 := ro.away hraw (g := (w.heap.size + 2)) (i := 0) (by omega) (by omega) (.int .i64 x1)
  have rA := rA.unset (a := ⟨(w.heap.size + 2), 0, none⟩) (by show w.heap.size ≠ w.heap.size + 2; omega) (.int .i64 x1)
  have rP := rP.set 0 (.int .i64 x1)
  have ke := ke.setCell (p := ⟨(w.heap.size + 2), 0, none⟩) (.inr (by show w.heap.size ≤ w.heap.size + 2; omega)) (.int .i64 x1)
  clear ro
  go_wp2_with fail
  refine next_cps (w.heap.size + 1) ao n cap _ 9 _ ro2 (by omega) _ ?_
  intro x2 k2 w2 xa2 xb2 hr hk hzz
  have ro := hr
  have rA := rA.kept hk (by omega)
  have rP := rP.kept hk (by omega)
  have ke := ke.trans hk
  clear hr hk
  have pc := rP.cell (i := 2) rfl
  have pf := rP.frozen 2
  have ro3 := ro.away hraw (g := (w.heap.size + 2)) (i := 2) (by omega) (by omega) (.int .i64 x2)
  have rA := rA.unset (a := ⟨(w.heap.size + 2), 2, none⟩) (by show w.heap.size ≠ w.heap.size + 2; omega) (.int .i64 x2)
  have rP := rP.set 2 (.int .i64 x2)
  have ke := ke.setCell (p := ⟨(w.heap.size + 2), 2, none⟩) (.inr (by show w.heap.size ≤ w.heap.size + 2; omega)) (.int .i64 x2)
  clear ro
  go_wp2_with fail
  refine next_cps (w.heap.size + 1) ao n cap _ 6 _ ro3 (by omega) _ ?_
  intro x4 k4 w4 xa4 xb4 hr hk hz4
  have ro := hr
  have rA := rA.kept hk (by omega)
  have rP := rP.kept hk (by omega)
  have ke := ke.trans hk
  have hz : w.heap.size + 3 ≤ w4.heap.size := by have := rP.lt; omega
  clear hr hk ro3
  go_wp2
  go_loopw [12] (fun i wr => ∃ (j : Nat) (v : Value) (bv : List (BlockD × Value)) (kk : Nat), (j : Int) ≤ 1 + x4 ∧ i = .int .i64 j ∧ Hid (bv.length = j) ∧ Hid (∀ x ∈ bv, blockGood (lo + x0) 0 (1 + x4) x.1 = true ∧ (x.1.ops.length : Int) ≤ ops) ∧ Row wr w.heap.size 25 [.int .i64 0, .int .i64 0, .int .i64 0, .int .i64 0, .slice none 0 0] ∧ Row wr (w.heap.size + 2) 25 [.int .i64 x1, .int .i64 (lo + x0), .int .i64 x2, .int .i64 0, v] ∧
      OwnBlocks wr (w.heap.size + 3) v bv ∧ Rolls wr (w.heap.size + 1) ao n cap kk ∧ Keep (fun g => g = w.heap.size + 1) w wr ∧ w.heap.size + 3 ≤ wr.heap.size)
    (fun i _ => (1 + x4).toNat - (intOf i).toNat)
  case atStart => exact ⟨0, .slice none 0 0, [], _, by omega, rfl, rfl, (fun x hx => by cases hx), rA, rP, ownBlocks_nil _ _, ro, ke, hz⟩
  case round =>
    clear rA rP ke ro hz hz4 w4
    obtain ⟨j, v, bv, kk, hj, rfl, hvl, hbg, rA, rP, own, ro, ke, hz⟩ := hrel
    obtain ⟨bo, bc, rfl⟩ := owns_slice own.row
    have p1 := rP.cell (i := 1) rfl
    by_cases hlt : (j : Int) < 1 + x4
    · go_wp2_with fail
      refine blockN_cps (w.heap.size + 1) ao n cap kk ops 13 (lo + x0) 0 (1 + x4) _ ro (by omega) (by omega) hop (by omega) (.inl (by omega)) (by omega) _ ?_
      intro sv l a b c d k2 w2 hg hgl hsv hr2 hk2
      obtain ⟨so, sc, rfl⟩ := owns_slice hsv
      have rA2 := rA.kept hk2 (by omega)
      have rP2 := rP.kept hk2 (by omega)
      have own2 := own.apartFrom hk2 (fun g hg => by omega)
      have ke2 := ke.trans hk2
      have hz2 := hk2.size
      have hzl : w.heap.size + 2 < w2.heap.size := by omega
      have hzq : w.heap.size + 3 ≤ w2.heap.size := by omega
      have p4 := rP2.cell (i := 4) rfl
      have hfree : ∀ y ∈ bv, ∀ g, y.2.ownBlock = some g → (Value.slice so l.length sc).ownBlock ≠ some g := by
        intro y hy g hg e
        have q1 := ((own.each y hy).lt g hg).2
        have q2 := (hsv.lt g e).1
        omega
      have HG : Hid (∀ x ∈ bv ++ [(⟨l, ⟨a, b, c, d⟩⟩, Value.slice so l.length sc)], blockGood (lo + x0) 0 (1 + x4) x.1 = true ∧ (x.1.ops.length : Int) ≤ ops) := by
        intro x hx
        rcases List.mem_append.1 hx with hx | hx
        · exact hbg.out x hx
        · simp at hx; subst hx; exact ⟨hg, hgl.out⟩
      have hsv2 := owns_base hsv (show w.heap.size + 3 ≤ _ by omega)
      clear rA rP own ke hk2 p1 ro hsv hg hgl hbg
      go_wp2_with (at_builtin; refine wpList_append_own _ rfl _ _ 23 rfl (w.heap.size + 3) 42 i0 (.agg #[.slice none 0 0, .int .i64 0, .int .i64 0, .int .i64 0, .int .i64 0]) 5 56 Tryz.underlying23 ii iz0 iz1 iz2 rfl (by decide) _ _ _ rfl ((own2.row.alloc _).alloc _) ⟨w2.heap.size + 1, 0, none⟩ 1 1 [.slice so l.length sc, .int .i64 a, .int .i64 b, .int .i64 c, .int .i64 d] rfl rfl ?c113 five_one ?c313 ?c413 ?c513 ?_)
      case c113 => simpa using five_new (w2.alloc _) _ _ _ _ _ _
      case c313 => have := hvl.out; unfold maxLen; omega
      case c413 => have := hvl.out; omega
      case c513 => first | omega | (simp; omega)
      intro v' w3 hown' hgrow _
      have own3 : OwnBlocks w3 (w.heap.size + 3) v' (bv ++ [(⟨l, ⟨a, b, c, d⟩⟩, .slice so l.length sc)]) := ((own2.alloc _).alloc _).snoc ((hsv2.alloc _).alloc _) hfree hgrow hown'
      have hb2 := ((((Below.refl (w.heap.size + 3) w2).alloc hzq _).alloc (by simp; omega) _).grown hgrow (by simp; omega) (fun g hg => (own2.row.lt g hg).1))
      have rA3 := rA2.below hb2 (by omega)
      have rP3 := rP2.below hb2 (by omega)
      have ro3 := hr2.belowB hraw hb2 (by omega) (by omega)
      have ke3 := ke2.below hb2 (by omega)
      have hz3 := hb2.size
      have y4 := rP3.cell (i := 4) rfl
      have yf := rP3.frozen 4
      obtain ⟨bo', bc', hv'⟩ := owns_slice own3.row
      rw [List.length_append] at hv'
      simp only [List.length_cons, List.length_nil, Nat.zero_add] at hv'
      subst hv'
      have rP4 := rP3.set 4 (.slice bo' (bv.length + 1) bc')
      have rA4 := rA3.unset (a := ⟨(w.heap.size + 2), 4, none⟩) (by show w.heap.size ≠ w.heap.size + 2; omega) (.slice bo' (bv.length + 1) bc')
      have ro4 := ro3.away hraw (g := (w.heap.size + 2)) (i := 4) (by omega) (by omega) (.slice bo' (bv.length + 1) bc')
      have ke4 := ke3.setCell (p := ⟨(w.heap.size + 2), 4, none⟩) (.inr (by show w.heap.size ≤ w.heap.size + 2; omega)) (.slice bo' (bv.length + 1) bc')
      have own4 := own3.set (a := ⟨(w.heap.size + 2), 4, none⟩) (by show w.heap.size + 2 < w.heap.size + 3; omega) (.slice bo' (bv.length + 1) bc')
      clear hgrow hown' hb2 rA2 rP2 own2 hr2 ke2 p4 rA3 rP3 ro3 ke3 own3 hsv2 hfree
      go_wp2
      go_roundw
      case rel => exact ⟨j + 1, _, _, k2, by omega, by go_num, by show List.length _ = _; have := hvl.out; simp; exact this, HG, rA4, rP4, own4, ro4, ke4, by simp; omega⟩
      case measure => simp [intOf]; omega
    · have hje : (j : Int) = 1 + x4 := by omega
      have b0 := rP.cell (i := 0) rfl
      have b3 := rP.cell (i := 3) rfl
      have b2 := rP.cell (i := 2) rfl
      have b4 := rP.cell (i := 4) rfl
      have a0 := rA.cell (i := 0) rfl
      have a1 := rA.cell (i := 1) rfl
      have a2 := rA.cell (i := 2) rfl
      have a3 := rA.cell (i := 3) rfl
      have a4 := rA.cell (i := 4) rfl
      have f0 := rA.frozen 0
      have f1 := rA.frozen 1
      have f2 := rA.frozen 2
      have f3 := rA.frozen 3
      have f4 := rA.frozen 4
      have hgood : progGood ⟨x1, lo + x0, x2, 0, bdat bv⟩ = true := by
        have e := hvl.out
        simp only [progGood, blocksGood, Bool.and_eq_true, decide_eq_true_eq, List.all_eq_true, bdat_length]
        refine ⟨⟨⟨⟨⟨by omega, by omega⟩, by omega⟩, by omega⟩, by omega⟩, ?_⟩
        intro x hx
        obtain ⟨y, hy, rfl⟩ := List.mem_map.1 hx
        have := (hbg.out y hy).1
        rw [e, hje]
        exact this
      have hfin := hp x1 (lo + x0) x2 (.slice bo bv.length bc) bv (((((wr.setCell ⟨w.heap.size, 0, none⟩ (.int .i64 x1)).setCell ⟨w.heap.size, 1, none⟩ (.int .i64 (lo + x0))).setCell ⟨w.heap.size, 2, none⟩ (.int .i64 x2)).setCell ⟨w.heap.size, 3, none⟩ (.int .i64 0)).setCell ⟨w.heap.size, 4, none⟩ (.slice bo bv.length bc)) hgood (by omega) (by omega) (fun x hx => (hbg.out x hx).2)
        ((((((own.set (by simp) _).set (by simp) _).set (by simp) _).set (by simp) _).set (by simp) _).base (by omega))
        ((((((ke.setCell (.inr (by simp)) _).setCell (.inr (by simp)) _).setCell (.inr (by simp)) _).setCell (.inr (by simp)) _).setCell (.inr (by simp)) _).toBelow (Nat.le_refl _) (fun g hg => by omega))
      have HF : Hid (Post (.returned (.agg #[.int .i64 x1, .int .i64 (lo + x0), .int .i64 x2, .int .i64 0, .slice bo bv.length bc])) (((((wr.setCell ⟨w.heap.size, 0, none⟩ (.int .i64 x1)).setCell ⟨w.heap.size, 1, none⟩ (.int .i64 (lo + x0))).setCell ⟨w.heap.size, 2, none⟩ (.int .i64 x2)).setCell ⟨w.heap.size, 3, none⟩ (.int .i64 0)).setCell ⟨w.heap.size, 4, none⟩ (.slice bo bv.length bc))) := hfin
      clear hfin hp hgood own ro ke rA rP
      go_wp2
      exact bodyPost_ret (v := .agg #[.int .i64 x1, .int .i64 (lo + x0), .int .i64 x2, .int .i64 0, .slice bo bv.length bc]) (by simp [results, Tryz.results10, go_sem, a0, a1, a2, a3, a4]) rfl HF.out

end Go.Proofs.YtblhmeidbjigaabGreatDoor

/- A hint out of raw numbers. -/
set_option linter.unusedSimpArgs false
set_option linter.unusedVariables false
namespace Go.Proofs.YtblhmeidbjigaabGreatDoor
open Go.RowKit

theorem pairs_one (a b : Int) : ∀ u ∈ [Value.int .i64 a, Value.int .i64 b], u.oneCell' = true := by
  intro u hu; simp at hu; rcases hu with rfl | rfl <;> rfl

end Go.Proofs.YtblhmeidbjigaabGreatDoor

/- The hint that says: as it is (twinkeep.identity). -/
set_option linter.unusedSimpArgs false
set_option linter.unusedVariables false
namespace Go.Proofs.YtblhmeidbjigaabGreatDoor
open Go.RowKit

theorem hdat_snoc (hv : List (PingD × Value)) (x : PingD) (v : Value) : hdat (hv ++ [(x, v)]) = hdat hv ++ [x] := by
  simp [hdat]

end Go.Proofs.YtblhmeidbjigaabGreatDoor

/- The code's terms as values; the functions that look at one. -/
set_option linter.unusedSimpArgs false
set_option linter.unusedVariables false
namespace Go.Proofs.YtblhmeidbjigaabGreatDoor
open Go.RowKit

/-- A term's kind and number, as the code has them. -/
def ckind : TD → Int
  | .leaf k _ => if k = 100 then 1 else 0
  | .two k _ _ => k
  | .three k _ _ _ => k

def cval : TD → Int
  | .leaf k n => if k = 100 then n else 0
  | _ => 0

/-- A term's cells, given its list of parts. -/
def tcells (t : TD) (ps : Value) : List Value := [.int .i64 (ckind t), .int .i64 (cval t), ps, .int .i64 t.size, .string (str (showT t))]

/-- A term as a value. -/
def termV (t : TD) (ps : Value) : Value := .agg #[.int .i64 (ckind t), .int .i64 (cval t), ps, .int .i64 t.size, .string (str (showT t))]

/-- A term's parts in memory, all in blocks from Lo on. -/
def PartsAt (Lo : Nat) (w : World) : TD → Value → Prop
  | .leaf _ _, ps => ps = .slice none 0 0 ∧ Lo ≤ w.heap.size
  | .two _ a b, ps => ∃ g pa pb, ps = .slice (some ⟨g, 0, none⟩) 2 2 ∧ Lo ≤ g ∧ Row w g 179 (tcells a pa ++ tcells b pb) ∧ PartsAt Lo w a pa ∧ PartsAt Lo w b pb
  | .three _ a b c, ps => ∃ g pa pb pc, ps = .slice (some ⟨g, 0, none⟩) 3 3 ∧ Lo ≤ g ∧ Row w g 179 (tcells a pa ++ tcells b pb ++ tcells c pc) ∧ PartsAt Lo w a pa ∧ PartsAt Lo w b pb ∧ PartsAt Lo w c pc

theorem PartsAt.lo {Lo : Nat} {w : World} {t : TD} {ps : Value} (h : PartsAt Lo w t ps) : Lo ≤ w.heap.size := by
  induction t generalizing ps with
  | leaf k n => exact h.2
  | two k a b iha ihb => obtain ⟨g, pa, pb, e, lg, r, h1, h2⟩ := h; exact iha h1
  | three k a b c iha ihb ihc => obtain ⟨g, pa, pb, pc, e, lg, r, h1, h2, h3⟩ := h; exact iha h1

theorem PartsAt.keep {Lo : Nat} {w w' : World} {t : TD} {ps : Value} (h : PartsAt Lo w t ps) (hb : Below w.heap.size w w') : PartsAt Lo w' t ps := by
  induction t generalizing ps with
  | leaf k n => exact ⟨h.1, Nat.le_trans h.2 hb.size⟩
  | two k a b iha ihb => obtain ⟨g, pa, pb, e, lg, r, h1, h2⟩ := h; exact ⟨g, pa, pb, e, lg, r.keep hb, iha h1, ihb h2⟩
  | three k a b c iha ihb ihc => obtain ⟨g, pa, pb, pc, e, lg, r, h1, h2, h3⟩ := h; exact ⟨g, pa, pb, pc, e, lg, r.keep hb, iha h1, ihb h2, ihc h3⟩

/-- A leaf has its parts wherever another term has them. -/
theorem PartsAt.leaf {Lo : Nat} {w w' : World} {t : TD} {ps : Value} (h : PartsAt Lo w t ps) (hb : Below w.heap.size w w') (k n : Int) : PartsAt Lo w' (.leaf k n) (.slice none 0 0) := ⟨rfl, (h.keep hb).lo⟩

/-- A store below Lo meets no parts. -/
theorem PartsAt.under {Lo : Nat} {w : World} {t : TD} {ps : Value} (h : PartsAt Lo w t ps) {g : Nat} (hg : g < Lo) (i : Nat) (u : Value) : PartsAt Lo (w.setCell ⟨g, i, none⟩ u) t ps := by
  induction t generalizing ps with
  | leaf k n => exact ⟨h.1, by simpa using h.2⟩
  | two k a b iha ihb =>
    obtain ⟨g', pa, pb, e, lg, r, h1, h2⟩ := h
    exact ⟨g', pa, pb, e, lg, r.unset (by show g' ≠ g; omega) _, iha h1, ihb h2⟩
  | three k a b c iha ihb ihc =>
    obtain ⟨g', pa, pb, pc, e, lg, r, h1, h2, h3⟩ := h
    exact ⟨g', pa, pb, pc, e, lg, r.unset (by show g' ≠ g; omega) _, iha h1, ihb h2, ihc h3⟩

theorem row_one {w : World} {g : Nat} {t t' : TypeId} {xs ys : List Value} (h : Row w g t xs) (h' : Row w g t' ys) : xs = ys := by
  unfold Row at h h'
  rw [h] at h'
  simp only [Option.some.injEq, Obj.cells.injEq] at h'
  simpa using h'.1

/-- A block of one term is no list of parts. -/
theorem PartsAt.set {Lo : Nat} {w : World} {t : TD} {ps : Value} (h : PartsAt Lo w t ps) {g : Nat} {ty : TypeId} {xs : List Value} (hr : Row w g ty xs) (hx : xs.length = 5) (i : Nat) (u : Value) : PartsAt Lo (w.setCell ⟨g, i, none⟩ u) t ps := by
  induction t generalizing ps with
  | leaf k n => exact ⟨h.1, by simpa using h.2⟩
  | two k a b iha ihb =>
    obtain ⟨g', pa, pb, e, lg, r, h1, h2⟩ := h
    refine ⟨g', pa, pb, e, lg, r.unset (fun q => ?_) _, iha h1, ihb h2⟩
    have q' : g' = g := q
    subst q'
    have := row_one r hr
    rw [← this] at hx
    simp [tcells] at hx
  | three k a b c iha ihb ihc =>
    obtain ⟨g', pa, pb, pc, e, lg, r, h1, h2, h3⟩ := h
    refine ⟨g', pa, pb, pc, e, lg, r.unset (fun q => ?_) _, iha h1, ihb h2, ihc h3⟩
    have q' : g' = g := q
    subst q'
    have := row_one r hr
    rw [← this] at hx
    simp [tcells] at hx

/-- Five cells of a block are set. -/
def set5 (w : World) (g : Nat) (a b c d e : Value) : World :=
  ((((w.setCell ⟨g, 0, none⟩ a).setCell ⟨g, 1, none⟩ b).setCell ⟨g, 2, none⟩ c).setCell ⟨g, 3, none⟩ d).setCell ⟨g, 4, none⟩ e

theorem cbelow_set {w0 w : World} (h : Below w0.heap.size w0 w) {g i : Nat} (hg : w0.heap.size ≤ g) (u : Value) : Below w0.heap.size w0 (w.setCell ⟨g, i, none⟩ u) :=
  ⟨h.os, h.tape, h.output, by simpa using h.size, fun k hk => (Below.heap_setCell _ _ _ _ (by show k ≠ g; omega)).trans (h.block k hk)⟩

theorem set5_below {w0 w : World} (h : Below w0.heap.size w0 w) {g : Nat} (hg : w0.heap.size ≤ g) (a b c d e : Value) : Below w0.heap.size w0 (set5 w g a b c d e) :=
  cbelow_set (cbelow_set (cbelow_set (cbelow_set (cbelow_set h hg _) hg _) hg _) hg _) hg _

theorem PartsAt.on5 {Lo : Nat} {w : World} {t : TD} {ps : Value} (h : PartsAt Lo w t ps) {g : Nat} {ty : TypeId} {xs : List Value} (hr : Row w g ty xs) (hx : xs.length = 5) (a b c d e : Value) : PartsAt Lo (set5 w g a b c d e) t ps := by
  have r1 := hr.set 0 a
  have r2 := r1.set 1 b
  have r3 := r2.set 2 c
  have r4 := r3.set 3 d
  exact ((((h.set hr hx 0 a).set r1 (by simpa using hx) 1 b).set r2 (by simpa using hx) 2 c).set r3 (by simpa using hx) 3 d).set r4 (by simpa using hx) 4 e

theorem Row.on5 {w : World} {g : Nat} {ty : TypeId} {x0 x1 x2 x3 x4 : Value} (hr : Row w g ty [x0, x1, x2, x3, x4]) (a b c d e : Value) : Row (set5 w g a b c d e) g ty [a, b, c, d, e] :=
  ((((hr.set 0 a).set 1 b).set 2 c).set 3 d).set 4 e

theorem Row.off5 {w : World} {g g' : Nat} {ty : TypeId} {xs : List Value} (h : Row w g ty xs) (hg : g ≠ g') (a b c d e : Value) : Row (set5 w g' a b c d e) g ty xs :=
  ((((h.unset (a := ⟨g', 0, none⟩) hg a).unset (a := ⟨g', 1, none⟩) hg b).unset (a := ⟨g', 2, none⟩) hg c).unset (a := ⟨g', 3, none⟩) hg d).unset (a := ⟨g', 4, none⟩) hg e

def zT : List Value := [.int .i64 0, .int .i64 0, .slice none 0 0, .int .i64 0, .string ⟨#[]⟩]

theorem ckind_none {t : TD} (hf : t.fine) : ckind t ≠ 1 ↔ t.isNum = none := by
  cases t with
  | leaf k n => by_cases h : k = 100 <;> simp [ckind, TD.isNum, h]
  | two k a b => obtain ⟨h1, h2, _⟩ := hf; simp only [ckind, TD.isNum]; constructor; intro _; trivial; intro _; omega
  | three k a b c => obtain ⟨h1, _⟩ := hf; simp only [ckind, TD.isNum]; constructor; intro _; trivial; intro _; omega

theorem same_show {u v : TD} (hu : u.fine) (hv : v.fine) : ((str (showT u)).toList == (str (showT v)).toList) = sameT u v := by
  simp only [str, ByteArray.toList_mk]
  by_cases h : u = v
  · subst h; rw [sameT_self]; simp
  · rw [sameT_ne h]
    simp only [beq_eq_false_iff_ne, ne_eq]
    exact fun e => h (show_inj hu.ok hv.ok e)

set_option maxRecDepth 100000 in
set_option maxHeartbeats 1000000 in
theorem cNumber_any (k n s : Int) (ps : Value) (x : ByteArray) (w : World) :
    Calls Tryz.prog 164 #[.agg #[.int .i64 k, .int .i64 n, ps, .int .i64 s, .string x]] w fun e w' => e = .returned (.tuple #[.int .i64 (if k = 1 then n else 0), .bool (k == 1)]) ∧ Below w.heap.size w w' := by
  have hb : Below w.heap.size w (w.alloc (.cells #[.int .i64 k, .int .i64 n, ps, .int .i64 s, .string x] 179)) := (Below.refl _ _).alloc (Nat.le_refl _) _
  by_cases h : k = 1
  · subst h
    go_enter Tryz.func164, Tryz.ntmps164
    go_wp2
    go_ret2
    exact ⟨rfl, hb⟩
  · have hd : (k == 1) = false := by simp [h]
    rw [if_neg h, hd]
    go_enter Tryz.func164, Tryz.ntmps164
    go_wp2
    go_ret2
    exact ⟨rfl, hb⟩

set_option maxRecDepth 100000 in
set_option maxHeartbeats 1000000 in
theorem cSame_any (u v : TD) (pu pv : Value) (fu : u.fine) (fv : v.fine) (w : World) :
    Calls Tryz.prog 134 #[termV u pu, termV v pv] w fun e w' => e = .returned (.bool (sameT u v)) ∧ Below w.heap.size w w' := by
  have hb : Below w.heap.size w ((w.alloc (.cells #[.int .i64 (ckind u), .int .i64 (cval u), pu, .int .i64 u.size, .string (str (showT u))] 179)).alloc (.cells #[.int .i64 (ckind v), .int .i64 (cval v), pv, .int .i64 v.size, .string (str (showT v))] 179)) := ((Below.refl _ _).alloc (Nat.le_refl _) _).alloc (by simp) _
  have e := same_show fu fv
  unfold termV
  rw [← e]
  clear e
  generalize str (showT u) = X at *
  generalize str (showT v) = Y at *
  go_enter Tryz.func134, Tryz.ntmps134
  go_wp2
  go_ret
  exact ⟨rfl, hb⟩

set_option maxRecDepth 100000 in
set_option maxHeartbeats 1000000 in
theorem cSign_any (k : Int) (hk : 3 ≤ k ∧ k ≤ 13) (w : World) : Calls Tryz.prog 226 #[.int .i64 k] w fun e w' => e = .returned (.string (str [signT k])) ∧ w = w' := by
  have h : k = 3 ∨ k = 4 ∨ k = 5 ∨ k = 6 ∨ k = 7 ∨ k = 8 ∨ k = 9 ∨ k = 10 ∨ k = 11 ∨ k = 12 ∨ k = 13 := by omega
  rcases h with rfl | rfl | rfl | rfl | rfl | rfl | rfl | rfl | rfl | rfl | rfl
  all_goals
    go_enter Tryz.func226, Tryz.ntmps226
    go_wp2
    go_ret
    exact ⟨rfl, rfl⟩

set_option maxRecDepth 100000 in
set_option maxHeartbeats 1000000 in
theorem cText_any (k n s : Int) (ps : Value) (x : ByteArray) (w : World) :
    Calls Tryz.prog 148 #[.agg #[.int .i64 k, .int .i64 n, ps, .int .i64 s, .string x]] w fun e w' => e = .returned (.string x) ∧ Below w.heap.size w w' := by
  have hb : Below w.heap.size w (w.alloc (.cells #[.int .i64 k, .int .i64 n, ps, .int .i64 s, .string x] 179)) := (Below.refl _ _).alloc (Nat.le_refl _) _
  go_enter Tryz.func148, Tryz.ntmps148
  go_wp2
  go_ret
  exact ⟨rfl, hb⟩

set_option maxRecDepth 100000 in
set_option maxHeartbeats 1000000 in
theorem cSize_any (k n s : Int) (ps : Value) (x : ByteArray) (w : World) :
    Calls Tryz.prog 220 #[.agg #[.int .i64 k, .int .i64 n, ps, .int .i64 s, .string x]] w fun e w' => e = .returned (.int .i64 s) ∧ Below w.heap.size w w' := by
  have hb : Below w.heap.size w (w.alloc (.cells #[.int .i64 k, .int .i64 n, ps, .int .i64 s, .string x] 179)) := (Below.refl _ _).alloc (Nat.le_refl _) _
  go_enter Tryz.func220, Tryz.ntmps220
  go_wp2
  go_ret
  exact ⟨rfl, hb⟩

end Go.Proofs.YtblhmeidbjigaabGreatDoor

/- The code's terms: how they are put together, taken apart. -/
set_option linter.unusedSimpArgs false
set_option linter.unusedVariables false
namespace Go.Proofs.YtblhmeidbjigaabGreatDoor
open Go.RowKit

theorem num_V (n : Int) (ps : Value) : termV (tnum n) ps = .agg #[.int .i64 1, .int .i64 n, ps, .int .i64 1, .string (str (Lib.itoa n))] := by simp [termV, ckind, cval, tnum, TD.size, showT]

set_option maxRecDepth 100000 in
set_option maxHeartbeats 1000000 in
theorem cOfNumber_any (n : Int) (hn : W64 n) (w : World) (ht : TabW w) :
    Calls Tryz.prog 199 #[.int .i64 n] w fun e w' => e = .returned (termV (tnum n) (.slice none 0 0)) ∧ Below w.heap.size w w' := by
  have hb : Below w.heap.size w (w.alloc (.cells #[.int .i64 0, .int .i64 0, .slice none 0 0, .int .i64 0, .string ⟨#[]⟩] 179)) := (Below.refl _ _).alloc (Nat.le_refl _) _
  have r : Row (w.alloc (.cells #[.int .i64 0, .int .i64 0, .slice none 0 0, .int .i64 0, .string ⟨#[]⟩] 179)) w.heap.size 179 zT := heap_alloc_new w _
  have q := itoa_any n hn _ (ht.keep hb)
  rw [num_V]
  generalize str (Lib.itoa n) = S at *
  go_enter Tryz.func199, Tryz.ntmps199
  go_wp2_with fail
  refine q.mono ?_
  rintro e w1 ⟨rfl, hb1⟩
  have r1 := r.keep hb1
  have z0 := r1.cell (i := 0) rfl
  have z1 := r1.cell (i := 1) rfl
  have z2 := r1.cell (i := 2) rfl
  have z3 := r1.cell (i := 3) rfl
  have z4 := r1.cell (i := 4) rfl
  have f0 := r1.frozen 0
  have f1 := r1.frozen 1
  have f2 := r1.frozen 2
  have f3 := r1.frozen 3
  have f4 := r1.frozen 4
  have HF : Hid (Below w.heap.size w (set5 w1 w.heap.size (.int .i64 1) (.int .i64 n) (.slice none 0 0) (.int .i64 1) (.string S))) := set5_below (hb.trans (hb1.mono hb.size)) (Nat.le_refl _) _ _ _ _ _
  clear q hb hb1 r r1
  go_wp2
  exact bodyPost_ret (v := .agg #[.int .i64 1, .int .i64 n, .slice none 0 0, .int .i64 1, .string S]) (by simp [results, Tryz.results199, go_sem, z0, z1, z2, z3, z4]) rfl ⟨rfl, HF.out⟩

theorem letter_V (k n : Int) (c : UInt8) (hk : k = 101 ∧ c = 114 ∨ k = 102 ∧ c = 120) (ps : Value) : termV (.leaf k n) ps = .agg #[.int .i64 0, .int .i64 0, ps, .int .i64 1, .string (str [c] ++ str (Lib.itoa n))] := by
  rw [str_append]
  rcases hk with ⟨rfl, rfl⟩ | ⟨rfl, rfl⟩ <;> simp [termV, ckind, cval, TD.size, showT]

set_option maxRecDepth 100000 in
set_option maxHeartbeats 1000000 in
theorem cOfRegister_any (n : Int) (hn : W64 n) (w : World) (ht : TabW w) :
    Calls Tryz.prog 162 #[.int .i64 n] w fun e w' => e = .returned (termV (.leaf 101 n) (.slice none 0 0)) ∧ Below w.heap.size w w' := by
  have hb : Below w.heap.size w (w.alloc (.cells #[.int .i64 0, .int .i64 0, .slice none 0 0, .int .i64 0, .string ⟨#[]⟩] 179)) := (Below.refl _ _).alloc (Nat.le_refl _) _
  have r : Row (w.alloc (.cells #[.int .i64 0, .int .i64 0, .slice none 0 0, .int .i64 0, .string ⟨#[]⟩] 179)) w.heap.size 179 zT := heap_alloc_new w _
  have q := itoa_any n hn _ (ht.keep hb)
  have hz := itoa_size hn
  rw [letter_V 101 n 114 (by simp)]
  generalize str (Lib.itoa n) = S at *
  go_enter Tryz.func162, Tryz.ntmps162
  go_wp2_with fail
  refine q.mono ?_
  rintro e w1 ⟨rfl, hb1⟩
  have r1 := r.keep hb1
  have z0 := r1.cell (i := 0) rfl
  have z1 := r1.cell (i := 1) rfl
  have z2 := r1.cell (i := 2) rfl
  have z3 := r1.cell (i := 3) rfl
  have z4 := r1.cell (i := 4) rfl
  have f0 := r1.frozen 0
  have f1 := r1.frozen 1
  have f2 := r1.frozen 2
  have f3 := r1.frozen 3
  have f4 := r1.frozen 4
  have HF : Hid (Below w.heap.size w (set5 w1 w.heap.size (.int .i64 0) (.int .i64 0) (.slice none 0 0) (.int .i64 1) (.string (⟨#[114]⟩ ++ S)))) := set5_below (hb.trans (hb1.mono hb.size)) (Nat.le_refl _) _ _ _ _ _
  clear q hb hb1 r r1
  go_wp2
  exact bodyPost_ret (v := .agg #[.int .i64 0, .int .i64 0, .slice none 0 0, .int .i64 1, .string (⟨#[114]⟩ ++ S)]) (by simp [results, Tryz.results162, go_sem, z0, z1, z2, z3, z4]) rfl ⟨rfl, HF.out⟩

set_option maxRecDepth 100000 in
set_option maxHeartbeats 1000000 in
theorem cOfPlace_any (n : Int) (hn : W64 n) (w : World) (ht : TabW w) :
    Calls Tryz.prog 183 #[.int .i64 n] w fun e w' => e = .returned (termV (.leaf 102 n) (.slice none 0 0)) ∧ Below w.heap.size w w' := by
  have hb : Below w.heap.size w (w.alloc (.cells #[.int .i64 0, .int .i64 0, .slice none 0 0, .int .i64 0, .string ⟨#[]⟩] 179)) := (Below.refl _ _).alloc (Nat.le_refl _) _
  have r : Row (w.alloc (.cells #[.int .i64 0, .int .i64 0, .slice none 0 0, .int .i64 0, .string ⟨#[]⟩] 179)) w.heap.size 179 zT := heap_alloc_new w _
  have q := itoa_any n hn _ (ht.keep hb)
  have hz := itoa_size hn
  rw [letter_V 102 n 120 (by simp)]
  generalize str (Lib.itoa n) = S at *
  go_enter Tryz.func183, Tryz.ntmps183
  go_wp2_with fail
  refine q.mono ?_
  rintro e w1 ⟨rfl, hb1⟩
  have r1 := r.keep hb1
  have z0 := r1.cell (i := 0) rfl
  have z1 := r1.cell (i := 1) rfl
  have z2 := r1.cell (i := 2) rfl
  have z3 := r1.cell (i := 3) rfl
  have z4 := r1.cell (i := 4) rfl
  have f0 := r1.frozen 0
  have f1 := r1.frozen 1
  have f2 := r1.frozen 2
  have f3 := r1.frozen 3
  have f4 := r1.frozen 4
  have HF : Hid (Below w.heap.size w (set5 w1 w.heap.size (.int .i64 0) (.int .i64 0) (.slice none 0 0) (.int .i64 1) (.string (⟨#[120]⟩ ++ S)))) := set5_below (hb.trans (hb1.mono hb.size)) (Nat.le_refl _) _ _ _ _ _
  clear q hb hb1 r r1
  go_wp2
  exact bodyPost_ret (v := .agg #[.int .i64 0, .int .i64 0, .slice none 0 0, .int .i64 1, .string (⟨#[120]⟩ ++ S)]) (by simp [results, Tryz.results183, go_sem, z0, z1, z2, z3, z4]) rfl ⟨rfl, HF.out⟩

set_option maxRecDepth 100000 in
set_option maxHeartbeats 1000000 in
theorem cOfCells_any (w : World) :
    Calls Tryz.prog 184 #[] w fun e w' => e = .returned (termV (.leaf 103 0) (.slice none 0 0)) ∧ Below w.heap.size w w' := by
  have hb : Below w.heap.size w (w.alloc (.cells #[.int .i64 0, .int .i64 0, .slice none 0 0, .int .i64 1, .string ⟨#[109]⟩] 179)) := (Below.refl _ _).alloc (Nat.le_refl _) _
  have e : termV (.leaf 103 0) (.slice none 0 0) = .agg #[.int .i64 0, .int .i64 0, .slice none 0 0, .int .i64 1, .string ⟨#[109]⟩] := by
    simp [termV, ckind, cval, TD.size, showT, str]
  rw [e]
  clear e
  go_enter Tryz.func184, Tryz.ntmps184
  go_wp2
  exact bodyPost_ret (v := .agg #[.int .i64 0, .int .i64 0, .slice none 0 0, .int .i64 1, .string ⟨#[109]⟩]) (by simp [results, Tryz.results184, go_sem]) rfl ⟨rfl, hb⟩

theorem parts_two {Lo : Nat} {w : World} {k : Int} {a b : TD} {pa pb : Value} (ha : PartsAt Lo w a pa) (hb : PartsAt Lo w b pb) : PartsAt Lo (w.alloc (.cells (tcells a pa ++ tcells b pb).toArray 179)) (.two k a b) (.slice (some ⟨w.heap.size, 0, none⟩) 2 2) :=
  have hb' : Below w.heap.size w (w.alloc (.cells (tcells a pa ++ tcells b pb).toArray 179)) := (Below.refl _ _).alloc (Nat.le_refl _) _
  ⟨_, pa, pb, rfl, ha.lo, heap_alloc_new w _, ha.keep hb', hb.keep hb'⟩

theorem parts_three {Lo : Nat} {w : World} {k : Int} {a b c : TD} {pa pb pc : Value} (ha : PartsAt Lo w a pa) (hb : PartsAt Lo w b pb) (hc : PartsAt Lo w c pc) : PartsAt Lo (w.alloc (.cells (tcells a pa ++ tcells b pb ++ tcells c pc).toArray 179)) (.three k a b c) (.slice (some ⟨w.heap.size, 0, none⟩) 3 3) :=
  have hb' : Below w.heap.size w (w.alloc (.cells (tcells a pa ++ tcells b pb ++ tcells c pc).toArray 179)) := (Below.refl _ _).alloc (Nat.le_refl _) _
  ⟨_, pa, pb, pc, rfl, ha.lo, heap_alloc_new w _, ha.keep hb', hb.keep hb', hc.keep hb'⟩

/-- Two terms in boxes, and a box for what is handed back. -/
structure Box2 (w W : World) (A B G : Nat) (u v : TD) (pu pv : Value) : Prop where
  ru : Row W A 179 (tcells u pu)
  rv : Row W B 179 (tcells v pv)
  rg : Row W G 179 zT
  keep : Below w.heap.size w W
  ge : w.heap.size ≤ G
  ag : A ≠ G
  bg : B ≠ G

theorem Box2.next {w W W' : World} {A B G : Nat} {u v : TD} {pu pv : Value} (h : Box2 w W A B G u v pu pv) (hb : Below W.heap.size W W') : Box2 w W' A B G u v pu pv :=
  ⟨h.ru.keep hb, h.rv.keep hb, h.rg.keep hb, h.keep.trans (hb.mono h.keep.size), h.ge, h.ag, h.bg⟩

theorem Box2.start (w : World) (u v : TD) (pu pv : Value) : Box2 w (((w.alloc (.cells #[.int .i64 (ckind u), .int .i64 (cval u), pu, .int .i64 u.size, .string (str (showT u))] 179)).alloc (.cells #[.int .i64 (ckind v), .int .i64 (cval v), pv, .int .i64 v.size, .string (str (showT v))] 179)).alloc (.cells #[.int .i64 0, .int .i64 0, .slice none 0 0, .int .i64 0, .string ⟨#[]⟩] 179)) w.heap.size (w.heap.size + 1) (w.heap.size + 1 + 1) u v pu pv := by
  refine ⟨Row.alloc (Row.alloc (heap_alloc_new w _) _) _, Row.alloc (heap_alloc2_new w _ _) _, ?_, (((Below.refl _ _).alloc (Nat.le_refl _) _).alloc (by simp) _).alloc (by simp; omega) _, by omega, by omega, by omega⟩
  have := heap_alloc_new ((w.alloc (.cells #[.int .i64 (ckind u), .int .i64 (cval u), pu, .int .i64 u.size, .string (str (showT u))] 179)).alloc (.cells #[.int .i64 (ckind v), .int .i64 (cval v), pv, .int .i64 v.size, .string (str (showT v))] 179)) (.cells #[.int .i64 0, .int .i64 0, .slice none 0 0, .int .i64 0, .string ⟨#[]⟩] 179)
  simp only [World.size_alloc] at this
  exact this

/-- What is handed back is laid into its box. -/
theorem Box2.fin {Lo : Nat} {w W : World} {A B G : Nat} {u v : TD} {pu pv : Value} (h : Box2 w W A B G u v pu pv) {t : TD} {ps : Value} (hp : PartsAt Lo W t ps) :
    PartsAt Lo (set5 W G (.int .i64 (ckind t)) (.int .i64 (cval t)) ps (.int .i64 t.size) (.string (str (showT t)))) t ps ∧ Below w.heap.size w (set5 W G (.int .i64 (ckind t)) (.int .i64 (cval t)) ps (.int .i64 t.size) (.string (str (showT t)))) :=
  ⟨hp.on5 h.rg rfl _ _ _ _ _, set5_below h.keep h.ge _ _ _ _ _⟩

/-- Three terms in boxes, and a box for what is handed back. -/
structure Box3 (w W : World) (A B C G : Nat) (u v x : TD) (pu pv px : Value) : Prop where
  ru : Row W A 179 (tcells u pu)
  rv : Row W B 179 (tcells v pv)
  rx : Row W C 179 (tcells x px)
  rg : Row W G 179 zT
  keep : Below w.heap.size w W
  ge : w.heap.size ≤ G

theorem Box3.next {w W W' : World} {A B C G : Nat} {u v x : TD} {pu pv px : Value} (h : Box3 w W A B C G u v x pu pv px) (hb : Below W.heap.size W W') : Box3 w W' A B C G u v x pu pv px :=
  ⟨h.ru.keep hb, h.rv.keep hb, h.rx.keep hb, h.rg.keep hb, h.keep.trans (hb.mono h.keep.size), h.ge⟩

theorem Box3.start (w : World) (u v x : TD) (pu pv px : Value) : Box3 w ((((w.alloc (.cells #[.int .i64 (ckind u), .int .i64 (cval u), pu, .int .i64 u.size, .string (str (showT u))] 179)).alloc (.cells #[.int .i64 (ckind v), .int .i64 (cval v), pv, .int .i64 v.size, .string (str (showT v))] 179)).alloc (.cells #[.int .i64 (ckind x), .int .i64 (cval x), px, .int .i64 x.size, .string (str (showT x))] 179)).alloc (.cells #[.int .i64 0, .int .i64 0, .slice none 0 0, .int .i64 0, .string ⟨#[]⟩] 179)) w.heap.size (w.heap.size + 1) (w.heap.size + 1 + 1) (w.heap.size + 1 + 1 + 1) u v x pu pv px := by
  refine ⟨Row.alloc (Row.alloc (Row.alloc (heap_alloc_new w _) _) _) _, Row.alloc (Row.alloc (heap_alloc2_new w _ _) _) _, ?_, ?_, ((((Below.refl _ _).alloc (Nat.le_refl _) _).alloc (by simp) _).alloc (by simp; omega) _).alloc (by simp; omega) _, by omega⟩
  · have := heap_alloc_new ((w.alloc (.cells #[.int .i64 (ckind u), .int .i64 (cval u), pu, .int .i64 u.size, .string (str (showT u))] 179)).alloc (.cells #[.int .i64 (ckind v), .int .i64 (cval v), pv, .int .i64 v.size, .string (str (showT v))] 179)) (.cells #[.int .i64 (ckind x), .int .i64 (cval x), px, .int .i64 x.size, .string (str (showT x))] 179)
    simp only [World.size_alloc] at this
    exact Row.alloc this _
  · have := heap_alloc_new (((w.alloc (.cells #[.int .i64 (ckind u), .int .i64 (cval u), pu, .int .i64 u.size, .string (str (showT u))] 179)).alloc (.cells #[.int .i64 (ckind v), .int .i64 (cval v), pv, .int .i64 v.size, .string (str (showT v))] 179)).alloc (.cells #[.int .i64 (ckind x), .int .i64 (cval x), px, .int .i64 x.size, .string (str (showT x))] 179)) (.cells #[.int .i64 0, .int .i64 0, .slice none 0 0, .int .i64 0, .string ⟨#[]⟩] 179)
    simp only [World.size_alloc] at this
    exact this

theorem Box3.fin {Lo : Nat} {w W : World} {A B C G : Nat} {u v x : TD} {pu pv px : Value} (h : Box3 w W A B C G u v x pu pv px) {t : TD} {ps : Value} (hp : PartsAt Lo W t ps) :
    PartsAt Lo (set5 W G (.int .i64 (ckind t)) (.int .i64 (cval t)) ps (.int .i64 t.size) (.string (str (showT t)))) t ps ∧ Below w.heap.size w (set5 W G (.int .i64 (ckind t)) (.int .i64 (cval t)) ps (.int .i64 t.size) (.string (str (showT t)))) :=
  ⟨hp.on5 h.rg rfl _ _ _ _ _, set5_below h.keep h.ge _ _ _ _ _⟩

set_option maxRecDepth 100000 in
set_option maxHeartbeats 2000000 in
theorem cOfTwo_cps {Lo : Nat} (k : Int) (hk : 3 ≤ k ∧ k ≤ 12) (u v : TD) (pu pv : Value) (w : World) (hu : PartsAt Lo w u pu) (hv : PartsAt Lo w v pv) (fu : u.fine) (fv : v.fine) (su : u.size ≤ 1000000000000) (sv : v.size ≤ 1000000000000) (Post : Ending → World → Prop)
    (hp : ∀ ps w', PartsAt Lo w' (.two k u v) ps → Below w.heap.size w w' → Post (.returned (termV (.two k u v) ps)) w') :
    Calls Tryz.prog 219 #[.int .i64 k, termV u pu, termV v pv] w Post := by
  have X0 := Box2.start w u v pu pv
  have HR : Hid (_ = _) := show_two k u v
  have q3 := fun w' => cSign_any k ⟨hk.1, by omega⟩ w'
  have zs : (str [signT k]).size = 1 := rfl
  have y1 := show_size fu (by omega)
  have y2 := show_size fv (by omega)
  have es : ((TD.two k u v).size : Int) = 1 + (u.size : Int) + (v.size : Int) := by simp only [TD.size]; omega
  have HP : Hid (∀ W A B G, Box2 w W A B G u v pu pv → Post (.returned (.agg #[.int .i64 k, .int .i64 0, .slice (some ⟨W.heap.size, 0, none⟩) 2 2, .int .i64 (1 + (u.size : Int) + (v.size : Int)), .string (str (showT (.two k u v)))]))
      (set5 (W.alloc (.cells #[.int .i64 (ckind u), .int .i64 (cval u), pu, .int .i64 u.size, .string (str (showT u)), .int .i64 (ckind v), .int .i64 (cval v), pv, .int .i64 v.size, .string (str (showT v))] 179)) G (.int .i64 k) (.int .i64 0) (.slice (some ⟨W.heap.size, 0, none⟩) 2 2) (.int .i64 (1 + (u.size : Int) + (v.size : Int))) (.string (str (showT (.two k u v)))))) := by
    intro W A B G X
    have h1 := parts_two (k := k) (hu.keep X.keep) (hv.keep X.keep)
    have h2 := (X.next ((Below.refl W.heap.size W).alloc (Nat.le_refl _) (.cells (tcells u pu ++ tcells v pv).toArray 179))).fin h1
    have h3 := hp _ _ h2.1 h2.2
    unfold termV at h3
    rw [es] at h3
    exact h3
  unfold termV
  clear hp hu hv fu fv es
  go_enter Tryz.func219, Tryz.ntmps219
  generalize str [signT k] = S at *
  go_wp2
  go_quiet (exact Calls.quiet_of_same ((q3 _).mono (fun _ _ h => ⟨h.1, h.2.symm⟩)))
  generalize hq : World.drewN _ nq = W
  have X : Box2 w W w.heap.size (w.heap.size + 1) (w.heap.size + 1 + 1) u v pu pv := by rw [← hq]; exact X0.next (below_drewN (Below.refl _ _) nq)
  clear hq X0 q3
  generalize w.heap.size + 1 + 1 = G at *
  generalize w.heap.size + 1 = B at *
  generalize hA : w.heap.size = A at X ⊢
  have HF := Lib.hid (HP.out W A B G X)
  clear hA HP
  have a0 := X.ru.cell (i := 0) rfl
  have a0' := fun o => (X.ru.alloc o).cell (i := 0) rfl
  have a1 := X.ru.cell (i := 1) rfl
  have a1' := fun o => (X.ru.alloc o).cell (i := 1) rfl
  have a2 := X.ru.cell (i := 2) rfl
  have a2' := fun o => (X.ru.alloc o).cell (i := 2) rfl
  have a3 := X.ru.cell (i := 3) rfl
  have a3' := fun o => (X.ru.alloc o).cell (i := 3) rfl
  have a4 := X.ru.cell (i := 4) rfl
  have a4' := fun o => (X.ru.alloc o).cell (i := 4) rfl
  have b0 := X.rv.cell (i := 0) rfl
  have b0' := fun o => (X.rv.alloc o).cell (i := 0) rfl
  have b1 := X.rv.cell (i := 1) rfl
  have b1' := fun o => (X.rv.alloc o).cell (i := 1) rfl
  have b2 := X.rv.cell (i := 2) rfl
  have b2' := fun o => (X.rv.alloc o).cell (i := 2) rfl
  have b3 := X.rv.cell (i := 3) rfl
  have b3' := fun o => (X.rv.alloc o).cell (i := 3) rfl
  have b4 := X.rv.cell (i := 4) rfl
  have b4' := fun o => (X.rv.alloc o).cell (i := 4) rfl
  have z0 := fun o => (X.rg.alloc o).cell (i := 0) rfl
  have f0 := fun o => (X.rg.alloc o).frozen 0
  have z1 := fun o => (X.rg.alloc o).cell (i := 1) rfl
  have f1 := fun o => (X.rg.alloc o).frozen 1
  have z2 := fun o => (X.rg.alloc o).cell (i := 2) rfl
  have f2 := fun o => (X.rg.alloc o).frozen 2
  have z3 := fun o => (X.rg.alloc o).cell (i := 3) rfl
  have f3 := fun o => (X.rg.alloc o).frozen 3
  have z4 := fun o => (X.rg.alloc o).cell (i := 4) rfl
  have f4 := fun o => (X.rg.alloc o).frozen 4
  unfold set5 at HF
  clear X
  generalize str (showT (.two k u v)) = R at *
  generalize str (showT u) = X1 at *
  generalize ckind u = ku at *
  generalize cval u = nu at *
  generalize u.size = zu at *
  generalize str (showT v) = Y1 at *
  generalize ckind v = kv at *
  generalize cval v = nv at *
  generalize v.size = zv at *
  go_wp2
  rw [HR.out]
  exact bodyPost_ret (v := .agg #[.int .i64 k, .int .i64 0, .slice (some ⟨W.heap.size, 0, none⟩) 2 2, .int .i64 (1 + (zu : Int) + (zv : Int)), .string R]) (by simp [results, Tryz.results219, go_sem, z0, z1, z2, z3, z4]) rfl HF.out

set_option maxRecDepth 100000 in
set_option maxHeartbeats 2000000 in
theorem cOfThree_cps {Lo : Nat} (u v x : TD) (pu pv px : Value) (w : World) (hu : PartsAt Lo w u pu) (hv : PartsAt Lo w v pv) (hx : PartsAt Lo w x px) (fu : u.fine) (fv : v.fine) (fx : x.fine) (su : u.size ≤ 1000000000000) (sv : v.size ≤ 1000000000000) (sx : x.size ≤ 1000000000000) (Post : Ending → World → Prop)
    (hp : ∀ ps w', PartsAt Lo w' (.three 13 u v x) ps → Below w.heap.size w w' → Post (.returned (termV (.three 13 u v x) ps)) w') :
    Calls Tryz.prog 227 #[termV u pu, termV v pv, termV x px] w Post := by
  have X0 := Box3.start w u v x pu pv px
  have HR : Hid (_ = _) := show_three 13 u v x
  have q3 := fun w' => cSign_any 13 (by omega) w'
  have zs : (str [signT 13]).size = 1 := rfl
  have y1 := show_size fu (by omega)
  have y2 := show_size fv (by omega)
  have y3 := show_size fx (by omega)
  have es : ((TD.three 13 u v x).size : Int) = 1 + (u.size : Int) + (v.size : Int) + (x.size : Int) := by simp only [TD.size]; omega
  have HP : Hid (∀ W A B C G, Box3 w W A B C G u v x pu pv px → Post (.returned (.agg #[.int .i64 13, .int .i64 0, .slice (some ⟨W.heap.size, 0, none⟩) 3 3, .int .i64 (1 + (u.size : Int) + (v.size : Int) + (x.size : Int)), .string (str (showT (.three 13 u v x)))]))
      (set5 (W.alloc (.cells #[.int .i64 (ckind u), .int .i64 (cval u), pu, .int .i64 u.size, .string (str (showT u)), .int .i64 (ckind v), .int .i64 (cval v), pv, .int .i64 v.size, .string (str (showT v)), .int .i64 (ckind x), .int .i64 (cval x), px, .int .i64 x.size, .string (str (showT x))] 179)) G (.int .i64 13) (.int .i64 0) (.slice (some ⟨W.heap.size, 0, none⟩) 3 3) (.int .i64 (1 + (u.size : Int) + (v.size : Int) + (x.size : Int))) (.string (str (showT (.three 13 u v x)))))) := by
    intro W A B C G X
    have h1 := parts_three (k := 13) (hu.keep X.keep) (hv.keep X.keep) (hx.keep X.keep)
    have h2 := (X.next ((Below.refl W.heap.size W).alloc (Nat.le_refl _) (.cells (tcells u pu ++ tcells v pv ++ tcells x px).toArray 179))).fin h1
    have h3 := hp _ _ h2.1 h2.2
    unfold termV at h3
    rw [es] at h3
    exact h3
  unfold termV
  clear hp hu hv hx fu fv fx es
  go_enter Tryz.func227, Tryz.ntmps227
  generalize str [signT 13] = S at *
  go_wp2
  go_quiet (exact Calls.quiet_of_same ((q3 _).mono (fun _ _ h => ⟨h.1, h.2.symm⟩)))
  generalize hq : World.drewN _ nq = W
  have X : Box3 w W w.heap.size (w.heap.size + 1) (w.heap.size + 1 + 1) (w.heap.size + 1 + 1 + 1) u v x pu pv px := by rw [← hq]; exact X0.next (below_drewN (Below.refl _ _) nq)
  clear hq X0 q3
  generalize w.heap.size + 1 + 1 + 1 = G at *
  generalize w.heap.size + 1 + 1 = C at *
  generalize w.heap.size + 1 = B at *
  generalize hA : w.heap.size = A at X ⊢
  have HF := Lib.hid (HP.out W A B C G X)
  clear hA HP
  have a0 := X.ru.cell (i := 0) rfl
  have a0' := fun o => (X.ru.alloc o).cell (i := 0) rfl
  have a1 := X.ru.cell (i := 1) rfl
  have a1' := fun o => (X.ru.alloc o).cell (i := 1) rfl
  have a2 := X.ru.cell (i := 2) rfl
  have a2' := fun o => (X.ru.alloc o).cell (i := 2) rfl
  have a3 := X.ru.cell (i := 3) rfl
  have a3' := fun o => (X.ru.alloc o).cell (i := 3) rfl
  have a4 := X.ru.cell (i := 4) rfl
  have a4' := fun o => (X.ru.alloc o).cell (i := 4) rfl
  have b0 := X.rv.cell (i := 0) rfl
  have b0' := fun o => (X.rv.alloc o).cell (i := 0) rfl
  have b1 := X.rv.cell (i := 1) rfl
  have b1' := fun o => (X.rv.alloc o).cell (i := 1) rfl
  have b2 := X.rv.cell (i := 2) rfl
  have b2' := fun o => (X.rv.alloc o).cell (i := 2) rfl
  have b3 := X.rv.cell (i := 3) rfl
  have b3' := fun o => (X.rv.alloc o).cell (i := 3) rfl
  have b4 := X.rv.cell (i := 4) rfl
  have b4' := fun o => (X.rv.alloc o).cell (i := 4) rfl
  have c0 := X.rx.cell (i := 0) rfl
  have c0' := fun o => (X.rx.alloc o).cell (i := 0) rfl
  have c1 := X.rx.cell (i := 1) rfl
  have c1' := fun o => (X.rx.alloc o).cell (i := 1) rfl
  have c2 := X.rx.cell (i := 2) rfl
  have c2' := fun o => (X.rx.alloc o).cell (i := 2) rfl
  have c3 := X.rx.cell (i := 3) rfl
  have c3' := fun o => (X.rx.alloc o).cell (i := 3) rfl
  have c4 := X.rx.cell (i := 4) rfl
  have c4' := fun o => (X.rx.alloc o).cell (i := 4) rfl
  have z0 := fun o => (X.rg.alloc o).cell (i := 0) rfl
  have f0 := fun o => (X.rg.alloc o).frozen 0
  have z1 := fun o => (X.rg.alloc o).cell (i := 1) rfl
  have f1 := fun o => (X.rg.alloc o).frozen 1
  have z2 := fun o => (X.rg.alloc o).cell (i := 2) rfl
  have f2 := fun o => (X.rg.alloc o).frozen 2
  have z3 := fun o => (X.rg.alloc o).cell (i := 3) rfl
  have f3 := fun o => (X.rg.alloc o).frozen 3
  have z4 := fun o => (X.rg.alloc o).cell (i := 4) rfl
  have f4 := fun o => (X.rg.alloc o).frozen 4
  unfold set5 at HF
  clear X
  generalize str (showT (.three 13 u v x)) = R at *
  generalize str (showT u) = X1 at *
  generalize ckind u = ku at *
  generalize cval u = nu at *
  generalize u.size = zu at *
  generalize str (showT v) = Y1 at *
  generalize ckind v = kv at *
  generalize cval v = nv at *
  generalize v.size = zv at *
  generalize str (showT x) = Z1 at *
  generalize ckind x = kx at *
  generalize cval x = nx at *
  generalize x.size = zx at *
  go_wp2
  rw [HR.out]
  exact bodyPost_ret (v := .agg #[.int .i64 13, .int .i64 0, .slice (some ⟨W.heap.size, 0, none⟩) 3 3, .int .i64 (1 + (zu : Int) + (zv : Int) + (zx : Int)), .string R]) (by simp [results, Tryz.results227, go_sem, z0, z1, z2, z3, z4]) rfl HF.out

end Go.Proofs.YtblhmeidbjigaabGreatDoor
