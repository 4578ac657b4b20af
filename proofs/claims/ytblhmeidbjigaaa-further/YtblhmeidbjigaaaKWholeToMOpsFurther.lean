/- A program out of raw numbers. -/
import Derived.Test.YtblhmeidbjigaaaRows
import Derived.WalkKit
import Derived.WalkSpells
import Derived.WalkLawsBesides
import Derived.Laws.BytesArg
import Derived.Deep.QuietTactic
import Derived.BigQuiet
import Derived.Deep.RegionHeld3
import Derived.Maps.AppendAt
import Derived.StillTailTactics
import Derived.Test.YtblhmeidbjigaaaKEndToKBlockFurther

set_option linter.unusedSimpArgs false
set_option linter.unusedVariables false
namespace Go.Proofs.Ytblhmeidbjigaaa
open Go.RowKit

theorem Rolls.away {w w0 : World} {R : Nat} {ao : Option Addr} {n cap k : Nat} (h : Rolls w R ao n cap k) (h0 : RdInts w0 (.slice ao n cap) n) {g i : Nat} (hg : w0.heap.size ≤ g) (hgR : R ≠ g) (u : Value) : Rolls (w.setCell ⟨g, i, none⟩ u) R ao n cap k := by
  refine ⟨h.row.unset (a := ⟨g, i, none⟩) hgR _, h.le, ?_, h.off⟩
  obtain ⟨ao', cap', e, hn, hc⟩ := h.rd
  obtain ⟨ao2, cap2, e2, _, hc2⟩ := h0
  simp only [Value.slice.injEq, true_and] at e e2
  obtain ⟨rfl, rfl⟩ := e
  obtain ⟨rfl, rfl⟩ := e2
  refine ⟨ao, cap, rfl, hn, fun i hi => ?_⟩
  obtain ⟨b, off, x, e1, h1, h2, h3⟩ := hc i hi
  obtain ⟨b2, off2, x2, e2, _, _, h4⟩ := hc2 i hi
  rw [e1] at e2
  simp only [Option.some.injEq, Addr.mk.injEq, and_true] at e2
  obtain ⟨rfl, rfl⟩ := e2
  have := World.block_lt_of_cell? _ _ h4
  exact ⟨b, off, x, e1, h1, h2, cell_unset (fun e => by simp at e; simp at this; omega) h3⟩

theorem Rolls.belowB {w w' w0 : World} {R : Nat} {ao : Option Addr} {n cap k : Nat} (h : Rolls w R ao n cap k) (h0 : RdInts w0 (.slice ao n cap) n) {B : Nat} (hb : Below B w w') (hB : w0.heap.size ≤ B) (hR : R < B) : Rolls w' R ao n cap k := by
  refine ⟨h.row.below hb hR, h.le, ?_, h.off⟩
  obtain ⟨ao', cap', e, hn, hc⟩ := h.rd
  obtain ⟨ao2, cap2, e2, _, hc2⟩ := h0
  simp only [Value.slice.injEq, true_and] at e e2
  obtain ⟨rfl, rfl⟩ := e
  obtain ⟨rfl, rfl⟩ := e2
  refine ⟨ao, cap, rfl, hn, fun i hi => ?_⟩
  obtain ⟨b, off, x, e1, h1, h2, h3⟩ := hc i hi
  obtain ⟨b2, off2, x2, e2, _, _, h4⟩ := hc2 i hi
  rw [e1] at e2
  simp only [Option.some.injEq, Addr.mk.injEq, and_true] at e2
  obtain ⟨rfl, rfl⟩ := e2
  have := World.block_lt_of_cell? _ _ h4
  exact ⟨b, off, x, e1, h1, h2, (hb.cell (by simp at this ⊢; omega)).trans h3⟩

theorem RdInts.keep {w w' : World} {v : Value} {n : Nat} (h : RdInts w v n) (hb : Below w.heap.size w w') : RdInts w' v n := by
  obtain ⟨ao', cap', e, hn, hc⟩ := h
  exact ⟨ao', cap', e, hn, fun i hi => let ⟨b, off, x, e1, h1, h2, h3⟩ := hc i hi; ⟨b, off, x, e1, h1, h2, cell_keep hb h3⟩⟩

/-- Rolls that begin, in a block that is new. -/
theorem Rolls.fresh {w w' : World} {R : Nat} {ao : Option Addr} {n cap : Nat} (h : RdInts w (.slice ao n cap) n) (hb : Below w.heap.size w w') (hrow : Row w' R 84 [.slice ao n cap, .int .i64 0]) (hR : w.heap.size ≤ R) : Rolls w' R ao n cap 0 := by
  refine ⟨hrow, Nat.zero_le _, h.keep hb, fun hn b o e => ?_⟩
  obtain ⟨ao', cap', e0, _, hc⟩ := h
  simp only [Value.slice.injEq, true_and] at e0
  obtain ⟨rfl, rfl⟩ := e0
  obtain ⟨b2, off2, x2, e2, _, _, h4⟩ := hc 0 hn
  rw [e] at e2
  simp only [Option.some.injEq, Addr.mk.injEq, and_true] at e2
  obtain ⟨rfl, rfl⟩ := e2
  have := World.block_lt_of_cell? _ _ h4
  simp at this
  omega

set_option maxRecDepth 100000 in
set_option maxHeartbeats 8000000 in
theorem whole_cps (ao : Option Addr) (n cap : Nat) (w : World) (hraw : RdInts w (.slice ao n cap) n) (Post : Ending → World → Prop)
    (hp : ∀ a0 a1 a2 a3 v bv w', progGood ⟨a0, a1, a2, a3, bdat bv⟩ = true → OwnBlocks w' w.heap.size v bv → Below w.heap.size w w' → Post (.returned (.agg #[.int .i64 a0, .int .i64 a1, .int .i64 a2, .int .i64 a3, v])) w') :
    Calls Try.prog 12 #[.slice ao n cap] w Post := by
  obtain ⟨i0, ii, iz0, iz1, iz2⟩ := info_parts Try.infoBlk
  have rA : Row (((w.alloc (.cells #[.int .i64 0, .int .i64 0, .int .i64 0, .int .i64 0, .slice none 0 0] 24)).alloc (.cells #[.slice ao n cap, .int .i64 0] 84)).alloc (.cells #[.int .i64 0, .int .i64 0, .int .i64 0, .int .i64 0, .slice none 0 0] 24)) w.heap.size 24 [.int .i64 0, .int .i64 0, .int .i64 0, .int .i64 0, .slice none 0 0] := by
    have q : Row (w.alloc (.cells #[.int .i64 0, .int .i64 0, .int .i64 0, .int .i64 0, .slice none 0 0] 24)) w.heap.size 24 [.int .i64 0, .int .i64 0, .int .i64 0, .int .i64 0, .slice none 0 0] := heap_alloc_new w _
    exact (q.alloc _).alloc _
  have rR : Row (((w.alloc (.cells #[.int .i64 0, .int .i64 0, .int .i64 0, .int .i64 0, .slice none 0 0] 24)).alloc (.cells #[.slice ao n cap, .int .i64 0] 84)).alloc (.cells #[.int .i64 0, .int .i64 0, .int .i64 0, .int .i64 0, .slice none 0 0] 24)) (w.heap.size + 1) 84 [.slice ao n cap, .int .i64 0] := by
    have q : Row ((w.alloc (.cells #[.int .i64 0, .int .i64 0, .int .i64 0, .int .i64 0, .slice none 0 0] 24)).alloc (.cells #[.slice ao n cap, .int .i64 0] 84)) (w.heap.size + 1) 84 [.slice ao n cap, .int .i64 0] := heap_alloc2_new w _ _
    exact q.alloc _
  have rP : Row (((w.alloc (.cells #[.int .i64 0, .int .i64 0, .int .i64 0, .int .i64 0, .slice none 0 0] 24)).alloc (.cells #[.slice ao n cap, .int .i64 0] 84)).alloc (.cells #[.int .i64 0, .int .i64 0, .int .i64 0, .int .i64 0, .slice none 0 0] 24)) (w.heap.size + 2) 24 [.int .i64 0, .int .i64 0, .int .i64 0, .int .i64 0, .slice none 0 0] := by
    have q := heap_alloc2_new (w.alloc (.cells #[.int .i64 0, .int .i64 0, .int .i64 0, .int .i64 0, .slice none 0 0] 24)) (.cells #[.slice ao n cap, .int .i64 0] 84) (.cells #[.int .i64 0, .int .i64 0, .int .i64 0, .int .i64 0, .slice none 0 0] 24)
    simp only [World.size_alloc] at q
    exact q
  have hb0 : Below w.heap.size w (((w.alloc (.cells #[.int .i64 0, .int .i64 0, .int .i64 0, .int .i64 0, .slice none 0 0] 24)).alloc (.cells #[.slice ao n cap, .int .i64 0] 84)).alloc (.cells #[.int .i64 0, .int .i64 0, .int .i64 0, .int .i64 0, .slice none 0 0] 24)) := (((Below.refl w.heap.size w).alloc (Nat.le_refl _) _).alloc (by simp) _).alloc (by simp; omega) _
  have ro0 := Rolls.fresh hraw hb0 rR (by omega)
  have ke : Keep (fun g => g = w.heap.size + 1) w (((w.alloc (.cells #[.int .i64 0, .int .i64 0, .int .i64 0, .int .i64 0, .slice none 0 0] 24)).alloc (.cells #[.slice ao n cap, .int .i64 0] 84)).alloc (.cells #[.int .i64 0, .int .i64 0, .int .i64 0, .int .i64 0, .slice none 0 0] 24)) := (((Keep.refl _ _).alloc _).alloc _).alloc _
  clear rR hb0
  go_enter Try.func12, Try.ntmps12
  go_wp2_with fail
  refine next_cps (w.heap.size + 1) ao n cap _ 8 _ ro0 (by omega) _ ?_
  intro x0 k0 w0 xa0 xb0 hr hk hzz
  have ro := hr
  have rA := rA.kept hk (by omega)
  have rP := rP.kept hk (by omega)
  have ke := ke.trans hk
  clear hr hk
  have pc := rP.cell (i := 1) rfl
  have pf := rP.frozen 1
  have ro1 := ro.away hraw (g := (w.heap.size + 2)) (i := 1) (by omega) (by omega) (.int .i64 (1 + x0))
  have rA := rA.unset (a := ⟨(w.heap.size + 2), 1, none⟩) (by show w.heap.size ≠ w.heap.size + 2; omega) (.int .i64 (1 + x0))
  have rP := rP.set 1 (.int .i64 (1 + x0))
  have ke := ke.setCell (p := ⟨(w.heap.size + 2), 1, none⟩) (.inr (by show w.heap.size ≤ w.heap.size + 2; omega)) (.int .i64 (1 + x0))
  clear ro
  have p1 := rP.cell (i := 1) (u := .int .i64 (1 + x0)) rfl
  go_wp2_with fail
  refine next_cps (w.heap.size + 1) ao n cap _ (1 + x0 + 1) _ ro1 (by omega) _ ?_
  intro x1 k1 w1 xa1 xb1 hr hk hzz
  have ro := hr
  have rA := rA.kept hk (by omega)
  have rP := rP.kept hk (by omega)
  have ke := ke.trans hk
  clear hr hk
  clear p1
  have pc := rP.cell (i := 0) rfl
  have pf := rP.frozen 0
  have ro2 := ro.away hraw (g := (w.heap.size + 2)) (i := 0) (by omega) (by omega) (.int .i64 x1)
  have rA := rA.unset (a := ⟨(w.heap.size + 2), 0, none⟩) (by show w.heap.size ≠ w.heap.size + 2; omega) (.int .i64 x1)
  have rP := rP.set 0 (.int .i64 x1)
  have ke := ke.setCell (p := ⟨(w.heap.size + 2), 0, none⟩) (.inr (by show w.heap.size ≤ w.heap.size + 2; omega)) (.int .i64 x1)
  clear ro
  go_wp2_with fail
  refine next_cps (w.heap.size + 1) ao n cap _ 9 _ ro2 (by omega) _ ?_
  intro x2 k2 w2 xa2 xb2 hr hk hzz
  have ro := hr
  have rA := rA.kept hk (by omega)
  have rP := rP.kept hk (by omega)
  have ke := ke.trans hk
  clear hr hk
  have pc := rP.cell (i := 2) rfl
  have pf := rP.frozen 2
  have ro3 := ro.away hraw (g := (w.heap.size + 2)) (i := 2) (by omega) (by omega) (.int .i64 x2)
  have rA := rA.unset (a := ⟨(w.heap.size + 2), 2, none⟩) (by show w.heap.size ≠ w.heap.size + 2; omega) (.int .i64 x2)
  have rP := rP.set 2 (.int .i64 x2)
  have ke := ke.setCell (p := ⟨(w.heap.size + 2), 2, none⟩) (.inr (by show w.heap.size ≤ w.heap.size + 2; omega)) (.int .i64 x2)
  clear ro
  go_wp2_with fail
  refine next_cps (w.heap.size + 1) ao n cap _ 9 _ ro3 (by omega) _ ?_
  intro x3 k3 w3 xa3 xb3 hr hk hzz
  have ro := hr
  have rA := rA.kept hk (by omega)
  have rP := rP.kept hk (by omega)
  have ke := ke.trans hk
  clear hr hk
  have pc := rP.cell (i := 3) rfl
  have pf := rP.frozen 3
  have ro4 := ro.away hraw (g := (w.heap.size + 2)) (i := 3) (by omega) (by omega) (.int .i64 x3)
  have rA := rA.unset (a := ⟨(w.heap.size + 2), 3, none⟩) (by show w.heap.size ≠ w.heap.size + 2; omega) (.int .i64 x3)
  have rP := rP.set 3 (.int .i64 x3)
  have ke := ke.setCell (p := ⟨(w.heap.size + 2), 3, none⟩) (.inr (by show w.heap.size ≤ w.heap.size + 2; omega)) (.int .i64 x3)
  clear ro
  by_cases hs0 : x3 = 0
  · have hs1 : (x3 == 0) = true := by simp [hs0]
    have p3 := rP.cell (i := 3) (u := .int .i64 x3) rfl
    have hms : (13 : Int) ≤ 13 ∨ 1 ≤ x3 := by omega
    clear hs0
    go_wp2_with fail
    refine next_cps (w.heap.size + 1) ao n cap _ 6 _ ro4 (by omega) _ ?_
    intro x4 k4 w4 xa4 xb4 hr hk hz4
    have ro := hr
    have rA := rA.kept hk (by omega)
    have rP := rP.kept hk (by omega)
    have ke := ke.trans hk
    have hz : w.heap.size + 3 ≤ w4.heap.size := by have := rP.lt; omega
    clear hr hk p3 ro4
    go_wp2
    go_loopw [7] (fun i wr => ∃ (j : Nat) (v : Value) (bv : List (BlockD × Value)) (kk : Nat), (j : Int) ≤ 1 + x4 ∧ i = .int .i64 j ∧ Hid (bv.length = j) ∧ Hid (∀ x ∈ bv, blockGood (1 + x0) x3 (1 + x4) x.1 = true) ∧ Row wr w.heap.size 24 [.int .i64 0, .int .i64 0, .int .i64 0, .int .i64 0, .slice none 0 0] ∧ Row wr (w.heap.size + 2) 24 [.int .i64 x1, .int .i64 (1 + x0), .int .i64 x2, .int .i64 x3, v] ∧
        OwnBlocks wr (w.heap.size + 3) v bv ∧ Rolls wr (w.heap.size + 1) ao n cap kk ∧ Keep (fun g => g = w.heap.size + 1) w wr ∧ w.heap.size + 3 ≤ wr.heap.size)
      (fun i _ => (1 + x4).toNat - (intOf i).toNat)
    case atStart => exact ⟨0, .slice none 0 0, [], _, by omega, rfl, rfl, (fun x hx => by cases hx), rA, rP, ownBlocks_nil _ _, ro, ke, hz⟩
    case round =>
      clear rA rP ke ro hz hz4 w4
      obtain ⟨j, v, bv, kk, hj, rfl, hvl, hbg, rA, rP, own, ro, ke, hz⟩ := hrel
      obtain ⟨bo, bc, rfl⟩ := owns_slice own.row
      have p1 := rP.cell (i := 1) rfl
      have p3 := rP.cell (i := 3) rfl
      by_cases hlt : (j : Int) < 1 + x4
      · go_wp2_with fail
        refine block_cps (w.heap.size + 1) ao n cap kk 13 (1 + x0) x3 (1 + x4) _ ro (by omega) (by omega) (by omega) hms (by omega) _ ?_
        intro sv l a b c d k2 w2 hg hsv hr2 hk2
        obtain ⟨so, sc, rfl⟩ := owns_slice hsv
        have rA2 := rA.kept hk2 (by omega)
        have rP2 := rP.kept hk2 (by omega)
        have own2 := own.apartFrom hk2 (fun g hg => by omega)
        have ke2 := ke.trans hk2
        have hz2 := hk2.size
        have hzl : w.heap.size + 2 < w2.heap.size := by omega
        have hzq : w.heap.size + 3 ≤ w2.heap.size := by omega
        have p4 := rP2.cell (i := 4) rfl
        have hfree : ∀ y ∈ bv, ∀ g, y.2.ownBlock = some g → (Value.slice so l.length sc).ownBlock ≠ some g := by
          intro y hy g hg e
          have q1 := ((own.each y hy).lt g hg).2
          have q2 := (hsv.lt g e).1
          omega
        have HG : Hid (∀ x ∈ bv ++ [(⟨l, ⟨a, b, c, d⟩⟩, Value.slice so l.length sc)], blockGood (1 + x0) x3 (1 + x4) x.1 = true) := by
          intro x hx
          rcases List.mem_append.1 hx with hx | hx
          · exact hbg.out x hx
          · simp at hx; subst hx; exact hg
        have hsv2 := owns_base hsv (show w.heap.size + 3 ≤ _ by omega)
        clear rA rP own ke hk2 p1 p3 ro hsv hg hbg
        go_wp2_with (at_builtin; refine wpList_append_own _ rfl _ _ 22 rfl (w.heap.size + 3) 90 i0 (.agg #[.slice none 0 0, .int .i64 0, .int .i64 0, .int .i64 0, .int .i64 0]) 5 56 Try.underlying22 ii iz0 iz1 iz2 rfl (by decide) _ _ _ rfl ((own2.row.alloc _).alloc _) ⟨w2.heap.size + 1, 0, none⟩ 1 1 [.slice so l.length sc, .int .i64 a, .int .i64 b, .int .i64 c, .int .i64 d] rfl rfl ?c113 five_one ?c313 ?c413 ?c513 ?_)
        case c113 => simpa using five_new (w2.alloc _) _ _ _ _ _ _
        case c313 => have := hvl.out; unfold maxLen; omega
        case c413 => have := hvl.out; omega
        case c513 => first | omega | (simp; omega)
        intro v' w3 hown' hgrow _
        have own3 : OwnBlocks w3 (w.heap.size + 3) v' (bv ++ [(⟨l, ⟨a, b, c, d⟩⟩, .slice so l.length sc)]) := ((own2.alloc _).alloc _).snoc ((hsv2.alloc _).alloc _) hfree hgrow hown'
        have hb2 := ((((Below.refl (w.heap.size + 3) w2).alloc hzq _).alloc (by simp; omega) _).grown hgrow (by simp; omega) (fun g hg => (own2.row.lt g hg).1))
        have rA3 := rA2.below hb2 (by omega)
        have rP3 := rP2.below hb2 (by omega)
        have ro3 := hr2.belowB hraw hb2 (by omega) (by omega)
        have ke3 := ke2.below hb2 (by omega)
        have hz3 := hb2.size
        have y4 := rP3.cell (i := 4) rfl
        have yf := rP3.frozen 4
        obtain ⟨bo', bc', hv'⟩ := owns_slice own3.row
        rw [List.length_append] at hv'
        simp only [List.length_cons, List.length_nil, Nat.zero_add] at hv'
        subst hv'
        have rP4 := rP3.set 4 (.slice bo' (bv.length + 1) bc')
        have rA4 := rA3.unset (a := ⟨(w.heap.size + 2), 4, none⟩) (by show w.heap.size ≠ w.heap.size + 2; omega) (.slice bo' (bv.length + 1) bc')
        have ro4 := ro3.away hraw (g := (w.heap.size + 2)) (i := 4) (by omega) (by omega) (.slice bo' (bv.length + 1) bc')
        have ke4 := ke3.setCell (p := ⟨(w.heap.size + 2), 4, none⟩) (.inr (by show w.heap.size ≤ w.heap.size + 2; omega)) (.slice bo' (bv.length + 1) bc')
        have own4 := own3.set (a := ⟨(w.heap.size + 2), 4, none⟩) (by show w.heap.size + 2 < w.heap.size + 3; omega) (.slice bo' (bv.length + 1) bc')
        clear hgrow hown' hb2 rA2 rP2 own2 hr2 ke2 p4 rA3 rP3 ro3 ke3 own3 hsv2 hfree
        go_wp2
        go_roundw
        case rel => exact ⟨j + 1, _, _, k2, by omega, by go_num, by show List.length _ = _; have := hvl.out; simp; exact this, HG, rA4, rP4, own4, ro4, ke4, by simp; omega⟩
        case measure => simp [intOf]; omega
      · have hje : (j : Int) = 1 + x4 := by omega
        have b0 := rP.cell (i := 0) rfl
        have b2 := rP.cell (i := 2) rfl
        have b4 := rP.cell (i := 4) rfl
        have a0 := rA.cell (i := 0) rfl
        have a1 := rA.cell (i := 1) rfl
        have a2 := rA.cell (i := 2) rfl
        have a3 := rA.cell (i := 3) rfl
        have a4 := rA.cell (i := 4) rfl
        have f0 := rA.frozen 0
        have f1 := rA.frozen 1
        have f2 := rA.frozen 2
        have f3 := rA.frozen 3
        have f4 := rA.frozen 4
        have hgood : progGood ⟨x1, 1 + x0, x2, x3, bdat bv⟩ = true := by
          have e := hvl.out
          simp only [progGood, blocksGood, Bool.and_eq_true, decide_eq_true_eq, List.all_eq_true, bdat_length]
          refine ⟨⟨⟨⟨⟨by omega, by omega⟩, by omega⟩, by omega⟩, by omega⟩, ?_⟩
          intro x hx
          obtain ⟨y, hy, rfl⟩ := List.mem_map.1 hx
          have := hbg.out y hy
          rw [e, hje]
          exact this
        have hfin := hp x1 (1 + x0) x2 x3 (.slice bo bv.length bc) bv (((((wr.setCell ⟨w.heap.size, 0, none⟩ (.int .i64 x1)).setCell ⟨w.heap.size, 1, none⟩ (.int .i64 (1 + x0))).setCell ⟨w.heap.size, 2, none⟩ (.int .i64 x2)).setCell ⟨w.heap.size, 3, none⟩ (.int .i64 x3)).setCell ⟨w.heap.size, 4, none⟩ (.slice bo bv.length bc)) hgood
          ((((((own.set (by simp) _).set (by simp) _).set (by simp) _).set (by simp) _).set (by simp) _).base (by omega))
          ((((((ke.setCell (.inr (by simp)) _).setCell (.inr (by simp)) _).setCell (.inr (by simp)) _).setCell (.inr (by simp)) _).setCell (.inr (by simp)) _).toBelow (Nat.le_refl _) (fun g hg => by omega))
        have HF : Hid (Post (.returned (.agg #[.int .i64 x1, .int .i64 (1 + x0), .int .i64 x2, .int .i64 x3, .slice bo bv.length bc])) (((((wr.setCell ⟨w.heap.size, 0, none⟩ (.int .i64 x1)).setCell ⟨w.heap.size, 1, none⟩ (.int .i64 (1 + x0))).setCell ⟨w.heap.size, 2, none⟩ (.int .i64 x2)).setCell ⟨w.heap.size, 3, none⟩ (.int .i64 x3)).setCell ⟨w.heap.size, 4, none⟩ (.slice bo bv.length bc))) := hfin
        clear hfin hp hgood own ro ke rA rP
        go_wp2
        exact bodyPost_ret (v := .agg #[.int .i64 x1, .int .i64 (1 + x0), .int .i64 x2, .int .i64 x3, .slice bo bv.length bc]) (by simp [results, Try.results12, go_sem, a0, a1, a2, a3, a4]) rfl HF.out
  · have hs1 : (x3 == 0) = false := by simp [hs0]
    have p3 := rP.cell (i := 3) (u := .int .i64 x3) rfl
    have hms : (15 : Int) ≤ 13 ∨ 1 ≤ x3 := by omega
    clear hs0
    go_wp2_with fail
    refine next_cps (w.heap.size + 1) ao n cap _ 6 _ ro4 (by omega) _ ?_
    intro x4 k4 w4 xa4 xb4 hr hk hz4
    have ro := hr
    have rA := rA.kept hk (by omega)
    have rP := rP.kept hk (by omega)
    have ke := ke.trans hk
    have hz : w.heap.size + 3 ≤ w4.heap.size := by have := rP.lt; omega
    clear hr hk p3 ro4
    go_wp2
    go_loopw [7] (fun i wr => ∃ (j : Nat) (v : Value) (bv : List (BlockD × Value)) (kk : Nat), (j : Int) ≤ 1 + x4 ∧ i = .int .i64 j ∧ Hid (bv.length = j) ∧ Hid (∀ x ∈ bv, blockGood (1 + x0) x3 (1 + x4) x.1 = true) ∧ Row wr w.heap.size 24 [.int .i64 0, .int .i64 0, .int .i64 0, .int .i64 0, .slice none 0 0] ∧ Row wr (w.heap.size + 2) 24 [.int .i64 x1, .int .i64 (1 + x0), .int .i64 x2, .int .i64 x3, v] ∧
        OwnBlocks wr (w.heap.size + 3) v bv ∧ Rolls wr (w.heap.size + 1) ao n cap kk ∧ Keep (fun g => g = w.heap.size + 1) w wr ∧ w.heap.size + 3 ≤ wr.heap.size)
      (fun i _ => (1 + x4).toNat - (intOf i).toNat)
    case atStart => exact ⟨0, .slice none 0 0, [], _, by omega, rfl, rfl, (fun x hx => by cases hx), rA, rP, ownBlocks_nil _ _, ro, ke, hz⟩
    case round =>
      clear rA rP ke ro hz hz4 w4
      obtain ⟨j, v, bv, kk, hj, rfl, hvl, hbg, rA, rP, own, ro, ke, hz⟩ := hrel
      obtain ⟨bo, bc, rfl⟩ := owns_slice own.row
      have p1 := rP.cell (i := 1) rfl
      have p3 := rP.cell (i := 3) rfl
      by_cases hlt : (j : Int) < 1 + x4
      · go_wp2_with fail
        refine block_cps (w.heap.size + 1) ao n cap kk 15 (1 + x0) x3 (1 + x4) _ ro (by omega) (by omega) (by omega) hms (by omega) _ ?_
        intro sv l a b c d k2 w2 hg hsv hr2 hk2
        obtain ⟨so, sc, rfl⟩ := owns_slice hsv
        have rA2 := rA.kept hk2 (by omega)
        have rP2 := rP.kept hk2 (by omega)
        have own2 := own.apartFrom hk2 (fun g hg => by omega)
        have ke2 := ke.trans hk2
        have hz2 := hk2.size
        have hzl : w.heap.size + 2 < w2.heap.size := by omega
        have hzq : w.heap.size + 3 ≤ w2.heap.size := by omega
        have p4 := rP2.cell (i := 4) rfl
        have hfree : ∀ y ∈ bv, ∀ g, y.2.ownBlock = some g → (Value.slice so l.length sc).ownBlock ≠ some g := by
          intro y hy g hg e
          have q1 := ((own.each y hy).lt g hg).2
          have q2 := (hsv.lt g e).1
          omega
        have HG : Hid (∀ x ∈ bv ++ [(⟨l, ⟨a, b, c, d⟩⟩, Value.slice so l.length sc)], blockGood (1 + x0) x3 (1 + x4) x.1 = true) := by
          intro x hx
          rcases List.mem_append.1 hx with hx | hx
          · exact hbg.out x hx
          · simp at hx; subst hx; exact hg
        have hsv2 := owns_base hsv (show w.heap.size + 3 ≤ _ by omega)
        clear rA rP own ke hk2 p1 p3 ro hsv hg hbg
        go_wp2_with (at_builtin; refine wpList_append_own _ rfl _ _ 22 rfl (w.heap.size + 3) 90 i0 (.agg #[.slice none 0 0, .int .i64 0, .int .i64 0, .int .i64 0, .int .i64 0]) 5 56 Try.underlying22 ii iz0 iz1 iz2 rfl (by decide) _ _ _ rfl ((own2.row.alloc _).alloc _) ⟨w2.heap.size + 1, 0, none⟩ 1 1 [.slice so l.length sc, .int .i64 a, .int .i64 b, .int .i64 c, .int .i64 d] rfl rfl ?c115 five_one ?c315 ?c415 ?c515 ?_)
        case c115 => simpa using five_new (w2.alloc _) _ _ _ _ _ _
        case c315 => have := hvl.out; unfold maxLen; omega
        case c415 => have := hvl.out; omega
        case c515 => first | omega | (simp; omega)
        intro v' w3 hown' hgrow _
        have own3 : OwnBlocks w3 (w.heap.size + 3) v' (bv ++ [(⟨l, ⟨a, b, c, d⟩⟩, .slice so l.length sc)]) := ((own2.alloc _).alloc _).snoc ((hsv2.alloc _).alloc _) hfree hgrow hown'
        have hb2 := ((((Below.refl (w.heap.size + 3) w2).alloc hzq _).alloc (by simp; omega) _).grown hgrow (by simp; omega) (fun g hg => (own2.row.lt g hg).1))
        have rA3 := rA2.below hb2 (by omega)
        have rP3 := rP2.below hb2 (by omega)
        have ro3 := hr2.belowB hraw hb2 (by omega) (by omega)
        have ke3 := ke2.below hb2 (by omega)
        have hz3 := hb2.size
        have y4 := rP3.cell (i := 4) rfl
        have yf := rP3.frozen 4
        obtain ⟨bo', bc', hv'⟩ := owns_slice own3.row
        rw [List.length_append] at hv'
        simp only [List.length_cons, List.length_nil, Nat.zero_add] at hv'
        subst hv'
        have rP4 := rP3.set 4 (.slice bo' (bv.length + 1) bc')
        have rA4 := rA3.unset (a := ⟨(w.heap.size + 2), 4, none⟩) (by show w.heap.size ≠ w.heap.size + 2; omega) (.slice bo' (bv.length + 1) bc')
        have ro4 := ro3.away hraw (g := (w.heap.size + 2)) (i := 4) (by omega) (by omega) (.slice bo' (bv.length + 1) bc')
        have ke4 := ke3.setCell (p := ⟨(w.heap.size + 2), 4, none⟩) (.inr (by show w.heap.size ≤ w.heap.size + 2; omega)) (.slice bo' (bv.length + 1) bc')
        have own4 := own3.set (a := ⟨(w.heap.size + 2), 4, none⟩) (by show w.heap.size + 2 < w.heap.size + 3; omega) (.slice bo' (bv.length + 1) bc')
        clear hgrow hown' hb2 rA2 rP2 own2 hr2 ke2 p4 rA3 rP3 ro3 ke3 own3 hsv2 hfree
        go_wp2
        go_roundw
        case rel => exact ⟨j + 1, _, _, k2, by omega, by go_num, by show List.length _ = _; have := hvl.out; simp; exact this, HG, rA4, rP4, own4, ro4, ke4, by simp; omega⟩
        case measure => simp [intOf]; omega
      · have hje : (j : Int) = 1 + x4 := by omega
        have b0 := rP.cell (i := 0) rfl
        have b2 := rP.cell (i := 2) rfl
        have b4 := rP.cell (i := 4) rfl
        have a0 := rA.cell (i := 0) rfl
        have a1 := rA.cell (i := 1) rfl
        have a2 := rA.cell (i := 2) rfl
        have a3 := rA.cell (i := 3) rfl
        have a4 := rA.cell (i := 4) rfl
        have f0 := rA.frozen 0
        have f1 := rA.frozen 1
        have f2 := rA.frozen 2
        have f3 := rA.frozen 3
        have f4 := rA.frozen 4
        have hgood : progGood ⟨x1, 1 + x0, x2, x3, bdat bv⟩ = true := by
          have e := hvl.out
          simp only [progGood, blocksGood, Bool.and_eq_true, decide_eq_true_eq, List.all_eq_true, bdat_length]
          refine ⟨⟨⟨⟨⟨by omega, by omega⟩, by omega⟩, by omega⟩, by omega⟩, ?_⟩
          intro x hx
          obtain ⟨y, hy, rfl⟩ := List.mem_map.1 hx
          have := hbg.out y hy
          rw [e, hje]
          exact this
        have hfin := hp x1 (1 + x0) x2 x3 (.slice bo bv.length bc) bv (((((wr.setCell ⟨w.heap.size, 0, none⟩ (.int .i64 x1)).setCell ⟨w.heap.size, 1, none⟩ (.int .i64 (1 + x0))).setCell ⟨w.heap.size, 2, none⟩ (.int .i64 x2)).setCell ⟨w.heap.size, 3, none⟩ (.int .i64 x3)).setCell ⟨w.heap.size, 4, none⟩ (.slice bo bv.length bc)) hgood
          ((((((own.set (by simp) _).set (by simp) _).set (by simp) _).set (by simp) _).set (by simp) _).base (by omega))
          ((((((ke.setCell (.inr (by simp)) _).setCell (.inr (by simp)) _).setCell (.inr (by simp)) _).setCell (.inr (by simp)) _).setCell (.inr (by simp)) _).toBelow (Nat.le_refl _) (fun g hg => by omega))
        have HF : Hid (Post (.returned (.agg #[.int .i64 x1, .int .i64 (1 + x0), .int .i64 x2, .int .i64 x3, .slice bo bv.length bc])) (((((wr.setCell ⟨w.heap.size, 0, none⟩ (.int .i64 x1)).setCell ⟨w.heap.size, 1, none⟩ (.int .i64 (1 + x0))).setCell ⟨w.heap.size, 2, none⟩ (.int .i64 x2)).setCell ⟨w.heap.size, 3, none⟩ (.int .i64 x3)).setCell ⟨w.heap.size, 4, none⟩ (.slice bo bv.length bc))) := hfin
        clear hfin hp hgood own ro ke rA rP
        go_wp2
        exact bodyPost_ret (v := .agg #[.int .i64 x1, .int .i64 (1 + x0), .int .i64 x2, .int .i64 x3, .slice bo bv.length bc]) (by simp [results, Try.results12, go_sem, a0, a1, a2, a3, a4]) rfl HF.out

end Go.Proofs.Ytblhmeidbjigaaa

/- Words: what an operation from Add to Div gives, in the program's package word and in the reference. -/
set_option linter.unusedSimpArgs false
set_option linter.unusedVariables false
namespace Go.Proofs.Ytblhmeidbjigaaa
open Go.RowKit

/-- The word of an operation from Add to Div. -/
def calcW (k x y : Int) : Int :=
  if k = 3 then wrap64 (x + y)
  else if k = 4 then wrap64 (x - y)
  else if k = 5 then wrap64 (x * y)
  else if k = 6 then bits .and .i64 x y
  else if k = 7 then bits .or .i64 x y
  else if k = 8 then bits .xor .i64 x y
  else if k = 9 then (if x < y then 1 else 0)
  else if k = 10 then (if x = y then 1 else 0)
  else wrap64 (x.tdiv y)

theorem ofTruth_any (b : Bool) (w : World) : Calls Try.prog 109 #[.bool b] w fun e w' => e = .returned (.int .i64 (if b then 1 else 0)) ∧ w = w' := by
  go_enter Try.func109, Try.ntmps109
  cases b
  · go_wp2
    go_ret
    exact ⟨by simp, rfl⟩
  · go_wp2
    go_ret
    exact ⟨by simp, rfl⟩

theorem ofConst_any (b c : Int) (w : World) (hb : 0 ≤ b ∧ b < 256) (hc : 0 ≤ c ∧ c < 256) : Calls Try.prog 103 #[.int .i64 b, .int .i64 c] w fun e w' => e = .returned (.int .i64 (256 * b + c - 32768)) ∧ w = w' := by
  go_enter Try.func103, Try.ntmps103
  go_wp2
  go_ret
  exact ⟨by simp, rfl⟩

theorem quotient_any (x y : Int) (hy : y ≠ 0) (w : World) : Calls Try.prog 110 #[.int .i64 x, .int .i64 y] w fun e w' => e = .returned (.tuple #[.int .i64 (wrap64 (x.tdiv y)), .bool true]) ∧ w = w' := by
  go_enter Try.func110, Try.ntmps110
  go_wp2
  go_ret2
  exact ⟨by simp, rfl⟩

theorem quotient_zero (x : Int) (w : World) : Calls Try.prog 110 #[.int .i64 x, .int .i64 0] w fun e w' => e = .returned (.tuple #[.int .i64 0, .bool false]) ∧ w = w' := by
  go_enter Try.func110, Try.ntmps110
  go_wp2
  go_ret2
  exact ⟨by simp, rfl⟩

set_option maxHeartbeats 2000000 in
theorem wordOf_any (k x y : Int) (w : World) (hk : 3 ≤ k ∧ k ≤ 11) (hy : k = 11 → y ≠ 0) : Calls Try.prog 108 #[.int .i64 k, .int .i64 x, .int .i64 y] w fun e w' => e = .returned (.tuple #[.int .i64 (calcW k x y), .bool true]) ∧ w = w' := by
  obtain rfl | rfl | rfl | rfl | rfl | rfl | rfl | rfl | rfl : k = 9 ∨ k = 10 ∨ k = 3 ∨ k = 4 ∨ k = 5 ∨ k = 6 ∨ k = 7 ∨ k = 8 ∨ k = 11 := by omega
  · by_cases h : x < y
    all_goals
      go_enter Try.func108, Try.ntmps108
      go_wp2_with (first | (go_at_call 109; refine (ofTruth_any _ _).mono ?_; rintro e w' ⟨rfl, rfl⟩))
      go_ret2
      exact ⟨by simp [calcW, h], rfl⟩
  · by_cases h : x = y
    all_goals
      go_enter Try.func108, Try.ntmps108
      go_wp2_with (first | (go_at_call 109; refine (ofTruth_any _ _).mono ?_; rintro e w' ⟨rfl, rfl⟩))
      go_ret2
      exact ⟨by simp [calcW, h], rfl⟩
  all_goals
    go_enter Try.func108, Try.ntmps108
    go_wp2_with (first | (go_at_call 110; refine (quotient_any _ _ (hy rfl) _).mono ?_; rintro e w' ⟨rfl, rfl⟩))
    go_ret2
    exact ⟨by simp [calcW], rfl⟩

set_option maxHeartbeats 2000000 in
theorem wordOf_zero (x : Int) (w : World) : Calls Try.prog 108 #[.int .i64 11, .int .i64 x, .int .i64 0] w fun e w' => e = .returned (.tuple #[.int .i64 0, .bool false]) ∧ w = w' := by
  go_enter Try.func108, Try.ntmps108
  go_wp2_with (go_at_call 110; refine (quotient_zero _ _).mono ?_; rintro e w' ⟨rfl, rfl⟩)
  go_ret2
  exact ⟨by simp, rfl⟩

end Go.Proofs.Ytblhmeidbjigaaa

/- Runs as plain data; a run underway in memory: four lists of words, each in a block of its own. -/
set_option linter.unusedSimpArgs false
set_option linter.unusedVariables false
namespace Go.Proofs.Ytblhmeidbjigaaa
open Go.RowKit

/-! ### Runs, pure -/

structure RunD where
  regs : List Int
  cells : List Int
  slots : List Int
  leak : List Int
  trap : Int

structure OutD where
  kind : Int
  result : Int
  mem : List Int
  leak : List Int

def rg (l : List Int) (i : Int) : Int := l.getD i.toNat 0
def stI (l : List Int) (i v : Int) : List Int := l.set i.toNat v

theorem stI_length (l : List Int) (i v : Int) : (stI l i v).length = l.length := by simp [stI]

/-- A Load or Store of the cell n: it is let out. -/
def RunD.out (s : RunD) (n : Int) : RunD := ⟨s.regs, s.cells, s.slots, s.leak ++ [n], s.trap⟩
def RunD.reg (s : RunD) (i v : Int) : RunD := ⟨stI s.regs i v, s.cells, s.slots, s.leak, s.trap⟩
def RunD.cell (s : RunD) (i v : Int) : RunD := ⟨s.regs, stI s.cells i v, s.slots, s.leak, s.trap⟩
def RunD.slot (s : RunD) (i v : Int) : RunD := ⟨s.regs, s.cells, stI s.slots i v, s.leak, s.trap⟩
def RunD.die (s : RunD) (t : Int) : RunD := ⟨s.regs, s.cells, s.slots, s.leak, t⟩

def stepOp (s : RunD) (o : OpD) : RunD :=
  if o.kind = 1 then s.reg o.a (256 * o.b + o.c - 32768)
  else if o.kind = 2 then s.reg o.a (rg s.regs o.b)
  else if o.kind = 12 then
    if 0 ≤ rg s.regs o.b ∧ rg s.regs o.b < s.cells.length then (s.out (rg s.regs o.b)).reg o.a (rg s.cells (rg s.regs o.b)) else (s.out (rg s.regs o.b)).die 2
  else if o.kind = 13 then
    if 0 ≤ rg s.regs o.a ∧ rg s.regs o.a < s.cells.length then (s.out (rg s.regs o.a)).cell (rg s.regs o.a) (rg s.regs o.b) else (s.out (rg s.regs o.a)).die 2
  else if o.kind = 14 then s.slot o.a (rg s.regs o.b)
  else if o.kind = 15 then s.reg o.a (rg s.slots o.b)
  else if o.kind = 11 then
    if rg s.regs o.c = 0 then ((s.out (rg s.regs o.b)).out (rg s.regs o.c)).die 3
    else ((s.out (rg s.regs o.b)).out (rg s.regs o.c)).reg o.a (calcW 11 (rg s.regs o.b) (rg s.regs o.c))
  else s.reg o.a (calcW o.kind (rg s.regs o.b) (rg s.regs o.c))

def doOps : List OpD → RunD → RunD
  | [], s => s
  | o :: r, s => if s.trap = 0 then doOps r (stepOp s o) else s

theorem doOps_trap (l : List OpD) {s : RunD} (h : s.trap ≠ 0) : doOps l s = s := by
  cases l with
  | nil => rfl
  | cons o r => simp [doOps, h]

theorem doOps_snoc (l : List OpD) (o : OpD) (s : RunD) : doOps (l ++ [o]) s = if (doOps l s).trap = 0 then stepOp (doOps l s) o else doOps l s := by
  induction l generalizing s with
  | nil => rfl
  | cons p r ih =>
    simp only [doOps, List.cons_append]
    by_cases h : s.trap = 0
    · simp only [h, if_true]; exact ih _
    · simp only [h, if_false]

theorem doOps_take {l : List OpD} {k : Nat} (h : k < l.length) (s : RunD) : doOps (l.take (k + 1)) s = if (doOps (l.take k) s).trap = 0 then stepOp (doOps (l.take k) s) ⟨okind l k, oa l k, ob l k, oc l k⟩ else doOps (l.take k) s := by
  rw [take_getD l oz k h, doOps_snoc]; rfl

/-- A trap stays. -/
theorem doOps_stop {l : List OpD} {k : Nat} {s : RunD} (h : (doOps (l.take k) s).trap ≠ 0) : doOps l s = doOps (l.take k) s := by
  have e : ∀ (a b : List OpD) (s : RunD), doOps (a ++ b) s = doOps b (doOps a s) := by
    intro a
    induction a with
    | nil => intro b s; rfl
    | cons o r ih =>
      intro b s
      simp only [doOps, List.cons_append]
      by_cases ht : s.trap = 0
      · simp only [ht, if_true]; exact ih _ _
      · simp only [ht, if_false]; exact (doOps_trap b ht).symm
  conv => lhs; rw [← List.take_append_drop k l, e]
  exact doOps_trap _ h

/-- Where a run is: the sizes of its lists. -/
structure Sized (s : RunD) (r c k : Int) : Prop where
  regs : (s.regs.length : Int) = r
  cells : (s.cells.length : Int) = c
  slots : (s.slots.length : Int) = k

theorem Sized.out {s : RunD} {r c k : Int} (h : Sized s r c k) (n : Int) : Sized (s.out n) r c k := ⟨h.regs, h.cells, h.slots⟩
theorem Sized.die {s : RunD} {r c k : Int} (h : Sized s r c k) (n : Int) : Sized (s.die n) r c k := ⟨h.regs, h.cells, h.slots⟩
theorem Sized.reg {s : RunD} {r c k : Int} (h : Sized s r c k) (i n : Int) : Sized (s.reg i n) r c k := ⟨by simp only [RunD.reg, stI_length]; exact h.regs, h.cells, h.slots⟩
theorem Sized.cell {s : RunD} {r c k : Int} (h : Sized s r c k) (i n : Int) : Sized (s.cell i n) r c k := ⟨h.regs, by simp only [RunD.cell, stI_length]; exact h.cells, h.slots⟩
theorem Sized.slot {s : RunD} {r c k : Int} (h : Sized s r c k) (i n : Int) : Sized (s.slot i n) r c k := ⟨h.regs, h.cells, by simp only [RunD.slot, stI_length]; exact h.slots⟩

theorem Sized.step {s : RunD} {r c k : Int} (h : Sized s r c k) (o : OpD) : Sized (stepOp s o) r c k := by
  unfold stepOp
  repeat' split
  · exact h.reg _ _
  · exact h.reg _ _
  · exact (h.out _).reg _ _
  · exact (h.out _).die _
  · exact (h.out _).cell _ _
  · exact (h.out _).die _
  · exact h.slot _ _
  · exact h.reg _ _
  · exact ((h.out _).out _).die _
  · exact ((h.out _).out _).reg _ _
  · exact h.reg _ _

theorem step_leak (s : RunD) (o : OpD) : (stepOp s o).leak.length ≤ s.leak.length + 2 := by
  unfold stepOp
  repeat' split
  all_goals simp [RunD.reg, RunD.out, RunD.die, RunD.cell, RunD.slot]

theorem Sized.doOps {s : RunD} {r c k : Int} (l : List OpD) (h : Sized s r c k) : Sized (doOps l s) r c k := by
  induction l generalizing s with
  | nil => exact h
  | cons o t ih =>
    simp only [Go.Proofs.Ytblhmeidbjigaaa.doOps]
    split
    · exact ih (h.step o)
    · exact h

theorem doOps_leak (l : List OpD) (s : RunD) : (doOps l s).leak.length ≤ s.leak.length + 2 * l.length := by
  induction l generalizing s with
  | nil => simp [doOps]
  | cons o t ih =>
    simp only [doOps, List.length_cons]
    split
    · have := ih (stepOp s o); have := step_leak s o; omega
    · omega

/-- Where a run goes on, behind a Jump or a Branch. -/
def goesOn (s : RunD) (e : EndD) : RunD := if e.kind = 2 then s.out (if rg s.regs e.r = 0 then 0 else 1) else s
def goesTo (s : RunD) (e : EndD) : Int := if e.kind = 2 then (if rg s.regs e.r = 0 then e.y else e.x) else e.x

def runN (bs : List BlockD) : Nat → Int → RunD → OutD
  | 0, _, s => ⟨4, 0, s.cells, s.leak⟩
  | f + 1, i, s =>
    if (doOps (bops bs i.toNat) s).trap ≠ 0 then ⟨(doOps (bops bs i.toNat) s).trap, 0, [], (doOps (bops bs i.toNat) s).leak⟩
    else if bek bs i.toNat = 3 then ⟨1, rg (doOps (bops bs i.toNat) s).regs (ber bs i.toNat), (doOps (bops bs i.toNat) s).cells, (doOps (bops bs i.toNat) s).leak⟩
    else runN bs f (goesTo (doOps (bops bs i.toNat) s) (bfin bs i.toNat)) (goesOn (doOps (bops bs i.toNat) s) (bfin bs i.toNat))

theorem Sized.on {s : RunD} {r c k : Int} (h : Sized s r c k) (e : EndD) : Sized (goesOn s e) r c k := by
  unfold goesOn
  split
  · exact h.out _
  · exact h

/-! ### In memory -/

def ints (l : List Int) : List Value := l.map (.int .i64)

theorem ints_length (l : List Int) : (ints l).length = l.length := by simp [ints]
theorem ints_set (l : List Int) (i : Nat) (v : Int) : ints (l.set i v) = (ints l).set i (.int .i64 v) := by simp [ints, List.map_set]
theorem ints_snoc (l : List Int) (v : Int) : ints (l ++ [v]) = ints l ++ [.int .i64 v] := by simp [ints]

theorem Try.infoInt : (Try.prog.info? 3).map (fun i => (i.zero, i.size, i.bytes)) = some (some (.int .i64 0), 1, 8) := by kernel_rfl

/-- A list of words in a block of its own. -/
abbrev OwnW (w : World) (v : Value) (l : List Int) : Prop := w.ownsRow 0 3 1 v l.length (ints l)

/-- A word of a list of one's own. -/
theorem OwnW.at {w : World} {v : Value} {l : List Int} (h : OwnW w v l) {i : Nat} (hi : i < l.length) :
    ∃ b cap, v = .slice (some ⟨b, 0, none⟩) l.length cap ∧ v.ownBlock = some b ∧ w.cell? ⟨b, i, none⟩ = some (.int .i64 (l.getD i 0)) ∧ ∀ o, w.frozen? ⟨b, o, none⟩ = false := by
  obtain ⟨ao, cap, rfl⟩ := owns_slice h
  obtain ⟨b, rfl, _, hb, hc⟩ := owns_cell h rfl (i := i) (by rw [ints_length]; exact hi)
  refine ⟨b, cap, rfl, hb, ?_, fun o => owns_frozen h hb o⟩
  rw [hc]
  simp [ints, List.getD, hi]

theorem OwnW.set {w : World} {v : Value} {l : List Int} (h : OwnW w v l) {g i : Nat} (hg : v.ownBlock = some g) (hi : i < l.length) (u : Int) : OwnW (w.setCell ⟨g, i, none⟩ (.int .i64 u)) v (l.set i u) := by
  have := owns_set h hg (i := i) (by rw [ints_length]; exact hi) (.int .i64 u)
  rw [← ints_set] at this
  show World.ownsRow _ _ _ _ _ _ _
  rw [List.length_set]
  exact this

/-- A row of another type lies elsewhere. -/
theorem row_owns_apart {w : World} {H : Nat} {t : TypeId} {xs : List Value} {v : Value} {l : List Int} (hr : Row w H t xs) (h : OwnW w v l) (ht : t ≠ 3) : v.ownBlock ≠ some H := by
  intro e
  rcases h.2 with ⟨rfl, _⟩ | ⟨k, cap, cur, rfl, _, hh, _⟩
  · simp [Value.ownBlock] at e
  · simp only [Value.ownBlock, Option.some.injEq] at e
    subst e
    have := hr.symm.trans hh
    simp at this
    exact ht this.2

/-- Four lists of words, each in a block of its own; none of them a block of K. -/
structure Bunch (K : Nat → Prop) (w : World) (rv cv sv lv : Value) (s : RunD) : Prop where
  regs : OwnW w rv s.regs
  cells : OwnW w cv s.cells
  slots : OwnW w sv s.slots
  leak : OwnW w lv s.leak
  rc : ∀ g, rv.ownBlock = some g → cv.ownBlock ≠ some g
  rs : ∀ g, rv.ownBlock = some g → sv.ownBlock ≠ some g
  rl : ∀ g, rv.ownBlock = some g → lv.ownBlock ≠ some g
  cs : ∀ g, cv.ownBlock = some g → sv.ownBlock ≠ some g
  cl : ∀ g, cv.ownBlock = some g → lv.ownBlock ≠ some g
  sl : ∀ g, sv.ownBlock = some g → lv.ownBlock ≠ some g
  kr : ∀ g, rv.ownBlock = some g → ¬ K g
  kc : ∀ g, cv.ownBlock = some g → ¬ K g
  ks : ∀ g, sv.ownBlock = some g → ¬ K g
  kl : ∀ g, lv.ownBlock = some g → ¬ K g
  lt : ∀ g, K g → g < w.heap.size

section
variable {K : Nat → Prop} {w w' : World} {rv cv sv lv : Value} {s : RunD}

theorem Bunch.same (h : Bunch K w rv cv sv lv s) (hs : w.heap.size ≤ w'.heap.size) (hb : ∀ g, (rv.ownBlock = some g ∨ cv.ownBlock = some g ∨ sv.ownBlock = some g ∨ lv.ownBlock = some g) → w'.heap[g]? = w.heap[g]?) : Bunch K w' rv cv sv lv s :=
  ⟨owns_same h.regs fun g e => hb g (.inl e), owns_same h.cells fun g e => hb g (.inr (.inl e)), owns_same h.slots fun g e => hb g (.inr (.inr (.inl e))), owns_same h.leak fun g e => hb g (.inr (.inr (.inr e))),
    h.rc, h.rs, h.rl, h.cs, h.cl, h.sl, h.kr, h.kc, h.ks, h.kl, fun g hg => Nat.lt_of_lt_of_le (h.lt g hg) hs⟩

theorem Bunch.inHeap (h : Bunch K w rv cv sv lv s) {g : Nat} (hg : rv.ownBlock = some g ∨ cv.ownBlock = some g ∨ sv.ownBlock = some g ∨ lv.ownBlock = some g) : g < w.heap.size := by
  rcases hg with e | e | e | e
  · exact (World.ownsRow.lt h.regs g e).2
  · exact (World.ownsRow.lt h.cells g e).2
  · exact (World.ownsRow.lt h.slots g e).2
  · exact (World.ownsRow.lt h.leak g e).2

theorem Bunch.keep (h : Bunch K w rv cv sv lv s) (hb : Below w.heap.size w w') : Bunch K w' rv cv sv lv s :=
  h.same hb.size fun g hg => hb.block g (h.inHeap hg)

/-- A store elsewhere. -/
theorem Bunch.far (h : Bunch K w rv cv sv lv s) {H : Nat} {t : TypeId} {xs : List Value} (hr : Row w H t xs) (ht : t ≠ 3) (i : Nat) (u : Value) : Bunch K (w.setCell ⟨H, i, none⟩ u) rv cv sv lv s :=
  h.same (by simp) fun g hg => Below.heap_setCell _ _ _ _ (fun e => by
    subst e
    rcases hg with e | e | e | e
    · exact row_owns_apart hr h.regs ht e
    · exact row_owns_apart hr h.cells ht e
    · exact row_owns_apart hr h.slots ht e
    · exact row_owns_apart hr h.leak ht e)

theorem Bunch.setReg (h : Bunch K w rv cv sv lv s) {g i : Nat} (hg : rv.ownBlock = some g) (hi : i < s.regs.length) (u : Int) : Bunch K (w.setCell ⟨g, i, none⟩ (.int .i64 u)) rv cv sv lv ⟨s.regs.set i u, s.cells, s.slots, s.leak, s.trap⟩ :=
  ⟨h.regs.set hg hi u, owns_unset h.cells (h.rc g hg) _, owns_unset h.slots (h.rs g hg) _, owns_unset h.leak (h.rl g hg) _, h.rc, h.rs, h.rl, h.cs, h.cl, h.sl, h.kr, h.kc, h.ks, h.kl, fun g hg => by simpa using h.lt g hg⟩

theorem Bunch.setMem (h : Bunch K w rv cv sv lv s) {g i : Nat} (hg : cv.ownBlock = some g) (hi : i < s.cells.length) (u : Int) : Bunch K (w.setCell ⟨g, i, none⟩ (.int .i64 u)) rv cv sv lv ⟨s.regs, s.cells.set i u, s.slots, s.leak, s.trap⟩ :=
  ⟨owns_unset h.regs (fun e => h.rc g e hg) _, h.cells.set hg hi u, owns_unset h.slots (h.cs g hg) _, owns_unset h.leak (h.cl g hg) _, h.rc, h.rs, h.rl, h.cs, h.cl, h.sl, h.kr, h.kc, h.ks, h.kl, fun g hg => by simpa using h.lt g hg⟩

theorem Bunch.setSlot (h : Bunch K w rv cv sv lv s) {g i : Nat} (hg : sv.ownBlock = some g) (hi : i < s.slots.length) (u : Int) : Bunch K (w.setCell ⟨g, i, none⟩ (.int .i64 u)) rv cv sv lv ⟨s.regs, s.cells, s.slots.set i u, s.leak, s.trap⟩ :=
  ⟨owns_unset h.regs (fun e => h.rs g e hg) _, owns_unset h.cells (fun e => h.cs g e hg) _, h.slots.set hg hi u, owns_unset h.leak (h.sl g hg) _, h.rc, h.rs, h.rl, h.cs, h.cl, h.sl, h.kr, h.kc, h.ks, h.kl, fun g hg => by simpa using h.lt g hg⟩

/-- A word is let out. -/
theorem Bunch.app (h : Bunch K w rv cv sv lv s) {lv' : Value} {x : Int} (hown : w'.ownsRow 0 3 1 lv' (s.leak.length + 1) (ints s.leak ++ [.int .i64 x])) (hg : w.grownBy w' lv.ownBlock) (hat : lv'.ownBlock = lv.ownBlock ∨ lv'.ownBlock = some w.heap.size) : Bunch K w' rv cv sv lv' (s.out x) := by
  have kp : ∀ {v : Value} {l : List Int}, OwnW w v l → (∀ g, v.ownBlock = some g → lv.ownBlock ≠ some g) → OwnW w' v l := by
    intro v l hv ha
    refine World.ownsRow.kept hv hg ?_
    cases hb : v.ownBlock with
    | none => exact .inl rfl
    | some g => exact .inr (fun e => ha g hb e.symm)
  have nw : ∀ {v : Value} {l : List Int}, OwnW w v l → (∀ g, v.ownBlock = some g → lv.ownBlock ≠ some g) → ∀ g, v.ownBlock = some g → lv'.ownBlock ≠ some g := by
    intro v l hv ha g hg' e
    rcases hat with q | q
    · exact ha g hg' (q.symm.trans e)
    · rw [q] at e
      simp only [Option.some.injEq] at e
      have := (World.ownsRow.lt hv g hg').2
      omega
  refine ⟨kp h.regs h.rl, kp h.cells h.cl, kp h.slots h.sl, ?_, h.rc, h.rs, nw h.regs h.rl, h.cs, nw h.cells h.cl, nw h.slots h.sl, h.kr, h.kc, h.ks, ?_, fun g hg' => Nat.lt_of_lt_of_le (h.lt g hg') hg.size⟩
  · show World.ownsRow _ _ _ _ _ _ _
    simp only [RunD.out, List.length_append, List.length_cons, List.length_nil, Nat.zero_add]
    rw [ints_snoc]
    exact hown
  · intro g e hk
    rcases hat with q | q
    · exact h.kl g (q.symm.trans e) hk
    · rw [q] at e
      simp only [Option.some.injEq] at e
      have := h.lt g hk
      omega

theorem Bunch.trapped (h : Bunch K w rv cv sv lv s) (t : Int) : Bunch K w rv cv sv lv (s.die t) := ⟨h.regs, h.cells, h.slots, h.leak, h.rc, h.rs, h.rl, h.cs, h.cl, h.sl, h.kr, h.kc, h.ks, h.kl, h.lt⟩

/-- Fewer or other blocks are kept. -/
theorem Bunch.kept {K' : Nat → Prop} (h : Bunch K w rv cv sv lv s) (hk : ∀ g, K' g → K g ∨ w.heap.size ≤ g) (hl : ∀ g, K' g → g < w'.heap.size) (hb : Below w.heap.size w w') : Bunch K' w' rv cv sv lv s := by
  have n : ∀ {v : Value} {l : List Int}, OwnW w v l → (∀ g, v.ownBlock = some g → ¬ K g) → ∀ g, v.ownBlock = some g → ¬ K' g := by
    intro v l hv ha g e hk'
    rcases hk g hk' with q | q
    · exact ha g e q
    · have := (World.ownsRow.lt hv g e).2
      omega
  have h2 := h.keep hb
  exact ⟨h2.regs, h2.cells, h2.slots, h2.leak, h.rc, h.rs, h.rl, h.cs, h.cl, h.sl, n h.regs h.kr, n h.cells h.kc, n h.slots h.ks, n h.leak h.kl, hl⟩

end

end Go.Proofs.Ytblhmeidbjigaaa

/- The machine lets words out. -/
set_option linter.unusedSimpArgs false
set_option linter.unusedVariables false
namespace Go.Proofs.Ytblhmeidbjigaaa
open Go.RowKit

theorem Row.grown {w w' : World} {M : Nat} {t : TypeId} {xs : List Value} {row : Option Nat} (h : Row w M t xs) (hg : w.grownBy w' row) (hne : row ≠ some M) : Row w' M t xs := h.same (hg.block M h.lt (fun e => hne e.symm))

theorem Keep.mono {S S' : Nat → Prop} {w w' : World} (h : Keep S w w') (hs : ∀ g, S g → S' g) : Keep S' w w' := ⟨h.os, h.tape, h.output, h.size, fun k hk hn => h.block k hk (fun e => hn (hs k e))⟩

/-- The machine at block M. -/
def Mach (K : Nat → Prop) (w : World) (M : Nat) (s : RunD) : Prop :=
  ∃ rv cv sv lv, Row w M 123 [rv, cv, sv, lv, .int .i64 s.trap] ∧ Bunch K w rv cv sv lv s ∧ ¬ K M

theorem Mach.keep {K : Nat → Prop} {w w' : World} {M : Nat} {s : RunD} (h : Mach K w M s) (hb : Below w.heap.size w w') : Mach K w' M s := by
  obtain ⟨rv, cv, sv, lv, h1, h2, h3⟩ := h
  exact ⟨rv, cv, sv, lv, h1.keep hb, h2.keep hb, h3⟩

/-- Other blocks are kept: some of those, and new ones. -/
theorem Mach.kept {K K' : Nat → Prop} {w w' : World} {M : Nat} {s : RunD} (h : Mach K w M s) (hk : ∀ g, K' g → K g ∨ w.heap.size ≤ g) (hl : ∀ g, K' g → g < w'.heap.size) (hb : Below w.heap.size w w') : Mach K' w' M s := by
  obtain ⟨rv, cv, sv, lv, h1, h2, h3⟩ := h
  refine ⟨rv, cv, sv, lv, h1.keep hb, h2.kept hk hl hb, fun e => ?_⟩
  rcases hk M e with q | q
  · exact h3 q
  · have := h1.lt; omega

theorem Mach.lt {K : Nat → Prop} {w : World} {M : Nat} {s : RunD} (h : Mach K w M s) : ∀ g, K g → g < w.heap.size := by
  obtain ⟨rv, cv, sv, lv, h1, h2, h3⟩ := h
  exact h2.lt

theorem one_new (w : World) (x : Value) (t : TypeId) : ∀ j u, [x][j]? = some u → (w.alloc (.cells #[x] t)).cell? ((⟨w.heap.size, 0, none⟩ : Addr).add j) = some u := by
  intro j u hj
  match j, hj with
  | 0, hj => simp at hj; subst hj; simp [Addr.add]

set_option maxRecDepth 100000 in
set_option maxHeartbeats 2000000 in
theorem letOut_cps (K : Nat → Prop) (M : Nat) (s : RunD) (x : Int) (w : World) (h : Mach K w M s) (hl : s.leak.length ≤ 100000) (Post : Ending → World → Prop)
    (hp : ∀ w', Mach K w' M (s.out x) → Keep (fun g => ¬ K g) w w' → Post (.returned (.tuple #[])) w') :
    Calls Try.prog 101 #[.pointer (some ⟨M, 0, none⟩), .int .i64 x] w Post := by
  obtain ⟨rv, cv, sv, lv, hrow, hb, hK⟩ := h
  obtain ⟨i0, ii, iz0, iz1, iz2⟩ := info_parts Try.infoInt
  obtain ⟨lo, lc, rfl⟩ := owns_slice hb.leak
  have x3 := hrow.cell (i := 3) rfl
  have hne := row_owns_apart hrow hb.leak (by decide)
  have hal := (Below.refl w.heap.size w).alloc (Nat.le_refl _) (.cells #[.int .i64 x] 3)
  have hb0 := hb.keep hal
  have hr0 := hrow.keep hal
  have hk0 : Keep (fun g => ¬ K g) w (w.alloc (.cells #[.int .i64 x] 3)) := (Keep.refl _ _).alloc _
  go_enter Try.func101, Try.ntmps101
  go_wp2_with (at_builtin; refine wpList_append_own_at _ rfl _ _ 36 rfl 0 3 i0 (.int .i64 0) 1 8 Try.underlying36 ii iz0 iz1 iz2 rfl (by decide) _ _ _ rfl hb0.leak ⟨w.heap.size, 0, none⟩ 1 1 [.int .i64 x] rfl rfl ?c1 ?c2 ?c3 ?c4 (by omega) ?_)
  case c1 => exact one_new w _ _
  case c2 => intro u hu; simp at hu; subst hu; rfl
  case c3 => unfold maxLen; omega
  case c4 => omega
  intro v' w1 hown hgrow _ hat
  have hb1 := hb0.app hown hgrow (by simpa using hat)
  have hr1 := hr0.grown hgrow hne
  have hk1 := hk0.grown hgrow (fun g e => .inl (hb.kl g e))
  have y3 := hr1.cell (i := 3) rfl
  have yf := hr1.frozen 3
  have hb2 := hb1.far hr1 (by decide) 3 v'
  have hr2 := hr1.set 3 v'
  have hk2 := hk1.setCell (p := ⟨M, 3, none⟩) (.inl hK) v'
  have HF : Hid (Post (.returned (.tuple #[])) (w1.setCell ⟨M, 3, none⟩ v')) := hp _ ⟨rv, cv, sv, v', hr2, hb2, hK⟩ hk2
  obtain ⟨lo', lc', rfl⟩ := owns_slice hown
  clear hp hb hb0 hr0 hb1 hr1 hk1 hb2 hr2 hk2 hgrow hown hat hal hk0 hrow
  go_wp2
  go_end0
  exact HF.out

set_option maxRecDepth 100000 in
set_option maxHeartbeats 2000000 in
theorem reaches_cps (K : Nat → Prop) (M : Nat) (s : RunD) (n : Int) (w : World) (h : Mach K w M s) (hl : s.leak.length ≤ 100000) (Post : Ending → World → Prop)
    (hyes : 0 ≤ n ∧ n < s.cells.length → ∀ w', Mach K w' M (s.out n) → Keep (fun g => ¬ K g) w w' → Post (.returned (.bool true)) w')
    (hno : ¬ (0 ≤ n ∧ n < s.cells.length) → ∀ w', Mach K w' M ((s.out n).die 2) → Keep (fun g => ¬ K g) w w' → Post (.returned (.bool false)) w') :
    Calls Try.prog 107 #[.pointer (some ⟨M, 0, none⟩), .int .i64 n] w Post := by
  go_enter Try.func107, Try.ntmps107
  go_wp2_with fail
  refine letOut_cps K M s n w h hl _ ?_
  intro w1 hm hk
  clear h hl
  obtain ⟨rv, cv, sv, lv, hrow, hb, hK⟩ := id hm
  obtain ⟨co, cc, rfl⟩ := owns_slice hb.cells
  have x1 := hrow.cell (i := 1) rfl
  have hlc : (s.out n).cells.length = s.cells.length := rfl
  rw [hlc] at x1 hrow hb
  by_cases h0 : n < 0
  · have x4 := hrow.cell (i := 4) rfl
    have xf := hrow.frozen 4
    have hk2 := hk.setCell (p := ⟨M, 4, none⟩) (.inl hK) (.int .i64 2)
    have HF : Hid (Post (.returned (.bool false)) (w1.setCell ⟨M, 4, none⟩ (.int .i64 2))) := hno (by omega) _ ⟨rv, _, sv, lv, hrow.set 4 (.int .i64 2), (hb.far hrow (by decide) 4 _).trapped 2, hK⟩ hk2
    clear hyes hno hk hk2 hb hrow hm
    go_wp2
    exact HF.out
  by_cases h1 : n < s.cells.length
  · have HF : Hid (Post (.returned (.bool true)) w1) := hyes ⟨by omega, h1⟩ _ hm hk
    clear hyes hno hk hb hrow hm
    go_wp2
    exact HF.out
  · have x4 := hrow.cell (i := 4) rfl
    have xf := hrow.frozen 4
    have hk2 := hk.setCell (p := ⟨M, 4, none⟩) (.inl hK) (.int .i64 2)
    have HF : Hid (Post (.returned (.bool false)) (w1.setCell ⟨M, 4, none⟩ (.int .i64 2))) := hno (by omega) _ ⟨rv, _, sv, lv, hrow.set 4 (.int .i64 2), (hb.far hrow (by decide) 4 _).trapped 2, hK⟩ hk2
    clear hyes hno hk hk2 hb hrow hm
    go_wp2
    exact HF.out

end Go.Proofs.Ytblhmeidbjigaaa

/- The machine's Load. -/
set_option linter.unusedSimpArgs false
set_option linter.unusedVariables false
namespace Go.Proofs.Ytblhmeidbjigaaa
open Go.RowKit

/-- A region that reads, then one store (or what follows of itself). -/
theorem wp_tail {P : Program} {id : Nat} {Q : Exit → Act → World → Prop} {a : Act} {w : World} {l : List Oper} (n : Nat) (hm : P.follows .mixedOrders = true) (hB : Region.lexTailB .any l.toArray n = true)
    (h : wpStill P l.toArray w.drew (fun a' => wpList P l.toArray Q (l.drop n) a' w.drew) (l.take n) a) : (Code.region id l.toArray true).wp P Q a w :=
  wp_region_still_tail n hm hB h

/-- The machine beside a boxed operation (or end) at block O. -/
structure With (K : Nat → Prop) (w0 w : World) (M O : Nat) (t : TypeId) (xs : List Value) (s : RunD) : Prop where
  mach : Mach (fun g => K g ∨ g = O) w M s
  row : Row w O t xs
  keep : Keep (fun g => ¬ K g) w0 w
  lt : ∀ g, K g → g < w0.heap.size
  ge : w0.heap.size ≤ O

theorem With.start {K : Nat → Prop} {w : World} {M : Nat} {s : RunD} (h : Mach K w M s) (t : TypeId) (xs : List Value) : With K w (w.alloc (.cells xs.toArray t)) M w.heap.size t xs s :=
  ⟨h.kept (fun g hg => by rcases hg with hg | hg; exact .inl hg; exact .inr (by omega)) (fun g hg => by rcases hg with hg | hg; have := h.lt g hg; simp; omega; simp; omega) ((Below.refl _ _).alloc (Nat.le_refl _) _),
    heap_alloc_new w _, (Keep.refl _ _).alloc _, h.lt, Nat.le_refl _⟩

theorem With.below {K : Nat → Prop} {w0 w w' : World} {M O : Nat} {t : TypeId} {xs : List Value} {s : RunD} (h : With K w0 w M O t xs s) (hb : Below w.heap.size w w') : With K w0 w' M O t xs s :=
  ⟨h.mach.keep hb, h.row.keep hb, h.keep.below hb h.keep.size, h.lt, h.ge⟩

theorem With.next {K : Nat → Prop} {w0 w w' : World} {M O : Nat} {t : TypeId} {xs : List Value} {s s' : RunD} (h : With K w0 w M O t xs s) (hm : Mach (fun g => K g ∨ g = O) w' M s') (hk : Keep (fun g => ¬ (K g ∨ g = O)) w w') : With K w0 w' M O t xs s' :=
  ⟨hm, h.row.same (hk.block O h.row.lt (fun hn => hn (.inr rfl))), h.keep.trans (hk.mono (fun g hn e => hn (.inl e))), h.lt, h.ge⟩

theorem With.done {K : Nat → Prop} {w0 w : World} {M O : Nat} {t : TypeId} {xs : List Value} {s : RunD} (h : With K w0 w M O t xs s) : Mach K w M s :=
  h.mach.kept (fun g hg => .inl (.inl hg)) (fun g hg => Nat.lt_of_lt_of_le (h.lt g hg) h.keep.size) (Below.refl _ _)

/-- A word becomes another: a register. -/
theorem With.setReg {K : Nat → Prop} {w0 w : World} {M O : Nat} {t : TypeId} {xs : List Value} {s : RunD} (h : With K w0 w M O t xs s) {rv cv sv lv : Value} (hrow : Row w M 123 [rv, cv, sv, lv, .int .i64 s.trap]) (hb : Bunch (fun g => K g ∨ g = O) w rv cv sv lv s)
    {g i : Nat} (hg : rv.ownBlock = some g) (hi : i < s.regs.length) (u : Int) : Mach K (w.setCell ⟨g, i, none⟩ (.int .i64 u)) M (s.reg i u) ∧ Keep (fun g => ¬ K g) w0 (w.setCell ⟨g, i, none⟩ (.int .i64 u)) := by
  have hne : ¬ (rv.ownBlock = some M) := row_owns_apart hrow hb.regs (by decide)
  have hK : ¬ (K g ∨ g = O) := hb.kr g hg
  have hM : ¬ K M := by obtain ⟨_, _, _, _, _, _, h3⟩ := h.mach; exact fun e => h3 (.inl e)
  have b2 := hb.setReg hg hi u
  have r2 := hrow.unset (a := ⟨g, i, none⟩) (fun e => hne (by rw [hg]; exact congrArg some e.symm)) (.int .i64 u)
  have b3 := b2.kept (K' := K) (fun g hg => .inl (.inl hg)) (fun g hg => by have := h.lt g hg; have := h.keep.size; simp; omega) (Below.refl _ _)
  exact ⟨⟨rv, cv, sv, lv, r2, b3, hM⟩, h.keep.setCell (.inl (fun e => hK (.inl e))) _⟩

theorem With.setMem {K : Nat → Prop} {w0 w : World} {M O : Nat} {t : TypeId} {xs : List Value} {s : RunD} (h : With K w0 w M O t xs s) {rv cv sv lv : Value} (hrow : Row w M 123 [rv, cv, sv, lv, .int .i64 s.trap]) (hb : Bunch (fun g => K g ∨ g = O) w rv cv sv lv s)
    {g i : Nat} (hg : cv.ownBlock = some g) (hi : i < s.cells.length) (u : Int) : Mach K (w.setCell ⟨g, i, none⟩ (.int .i64 u)) M (s.cell i u) ∧ Keep (fun g => ¬ K g) w0 (w.setCell ⟨g, i, none⟩ (.int .i64 u)) := by
  have hne : ¬ (cv.ownBlock = some M) := row_owns_apart hrow hb.cells (by decide)
  have hK : ¬ (K g ∨ g = O) := hb.kc g hg
  have hM : ¬ K M := by obtain ⟨_, _, _, _, _, _, h3⟩ := h.mach; exact fun e => h3 (.inl e)
  have b2 := hb.setMem hg hi u
  have r2 := hrow.unset (a := ⟨g, i, none⟩) (fun e => hne (by rw [hg]; exact congrArg some e.symm)) (.int .i64 u)
  have b3 := b2.kept (K' := K) (fun g hg => .inl (.inl hg)) (fun g hg => by have := h.lt g hg; have := h.keep.size; simp; omega) (Below.refl _ _)
  exact ⟨⟨rv, cv, sv, lv, r2, b3, hM⟩, h.keep.setCell (.inl (fun e => hK (.inl e))) _⟩

theorem With.setSlot {K : Nat → Prop} {w0 w : World} {M O : Nat} {t : TypeId} {xs : List Value} {s : RunD} (h : With K w0 w M O t xs s) {rv cv sv lv : Value} (hrow : Row w M 123 [rv, cv, sv, lv, .int .i64 s.trap]) (hb : Bunch (fun g => K g ∨ g = O) w rv cv sv lv s)
    {g i : Nat} (hg : sv.ownBlock = some g) (hi : i < s.slots.length) (u : Int) : Mach K (w.setCell ⟨g, i, none⟩ (.int .i64 u)) M (s.slot i u) ∧ Keep (fun g => ¬ K g) w0 (w.setCell ⟨g, i, none⟩ (.int .i64 u)) := by
  have hne : ¬ (sv.ownBlock = some M) := row_owns_apart hrow hb.slots (by decide)
  have hK : ¬ (K g ∨ g = O) := hb.ks g hg
  have hM : ¬ K M := by obtain ⟨_, _, _, _, _, _, h3⟩ := h.mach; exact fun e => h3 (.inl e)
  have b2 := hb.setSlot hg hi u
  have r2 := hrow.unset (a := ⟨g, i, none⟩) (fun e => hne (by rw [hg]; exact congrArg some e.symm)) (.int .i64 u)
  have b3 := b2.kept (K' := K) (fun g hg => .inl (.inl hg)) (fun g hg => by have := h.lt g hg; have := h.keep.size; simp; omega) (Below.refl _ _)
  exact ⟨⟨rv, cv, sv, lv, r2, b3, hM⟩, h.keep.setCell (.inl (fun e => hK (.inl e))) _⟩

set_option maxRecDepth 100000 in
set_option maxHeartbeats 4000000 in
theorem load_cps (K : Nat → Prop) (M : Nat) (s : RunD) (k c : Int) (a b : Nat) (w : World) (h : Mach K w M s) (hl : s.leak.length ≤ 100000) (ha : a < s.regs.length) (hb : b < s.regs.length) (Post : Ending → World → Prop)
    (hp : ∀ w', Mach K w' M (if 0 ≤ rg s.regs b ∧ rg s.regs b < s.cells.length then (s.out (rg s.regs b)).reg a (rg s.cells (rg s.regs b)) else (s.out (rg s.regs b)).die 2) → Keep (fun g => ¬ K g) w w' → Post (.returned (.tuple #[])) w') :
    Calls Try.prog 104 #[.pointer (some ⟨M, 0, none⟩), .agg #[.int .i64 k, .int .i64 a, .int .i64 b, .int .i64 c]] w Post := by
  have W0 := With.start h 101 [.int .i64 k, .int .i64 a, .int .i64 b, .int .i64 c]
  clear h
  obtain ⟨rv, cv, sv, lv, hrow, hbu, hK⟩ := id W0.mach
  obtain ⟨rb, rc, hrv, hrb, hrc, hrf⟩ := hbu.regs.at hb
  subst hrv
  have m0 := hrow.cell (i := 0) rfl
  have o2 := W0.row.cell (i := 2) rfl
  have hbi : (0 : Int) ≤ (b : Int) := by omega
  have hbj : (b : Int) < (s.regs.length : Int) := by omega
  have hn : s.regs.getD b 0 = rg s.regs b := by simp [rg]
  rw [hn] at hrc
  generalize rg s.regs b = n at *
  have Wd : ∀ d, With K w ((w.alloc (.cells #[.int .i64 k, .int .i64 a, .int .i64 b, .int .i64 c] 101)).drewN d) M w.heap.size 101 [.int .i64 k, .int .i64 a, .int .i64 b, .int .i64 c] s := fun d => W0.below (below_drewN (Below.refl _ _) d)
  clear W0 hrow hbu
  go_enter Try.func104, Try.ntmps104
  go_wp2
  go_quiet (fail)
  go_wp2_with fail
  generalize hwq : (w.alloc (.cells #[.int .i64 k, .int .i64 a, .int .i64 b, .int .i64 c] 101)).drewN _ = wq
  have Wq : With K w wq M w.heap.size 101 [.int .i64 k, .int .i64 a, .int .i64 b, .int .i64 c] s := by rw [← hwq]; exact Wd _
  clear Wd hwq m0 o2 hrc hrf
  refine reaches_cps _ M s n wq Wq.mach hl _ ?_ ?_
  · intro hin w2 hm2 hk2
    rw [if_pos hin] at hp
    obtain ⟨hn0, hn1⟩ := hin
    obtain ⟨j, rfl⟩ := Int.eq_ofNat_of_zero_le hn0
    have W2 := Wq.next hm2 hk2
    clear Wq hm2 hk2
    have Wd := W2.below ((Below.refl w2.heap.size w2).drew)
    obtain ⟨rv, cv, sv, lv, hrow, hbu, hK⟩ := id Wd.mach
    obtain ⟨g1, cc, hcv, hgc, hcc, hcf⟩ := hbu.cells.at (i := j) (by show j < s.cells.length; omega)
    obtain ⟨g2, rc, hrv, hgr, hrc, hrf⟩ := hbu.regs.at (i := a) ha
    subst hcv hrv
    have e1 : (s.out j).cells.getD j 0 = rg s.cells j := by simp [rg, RunD.out]
    rw [e1] at hcc
    have m0 := hrow.cell (i := 0) rfl
    have m1 := hrow.cell (i := 1) rfl
    have o1 := Wd.row.cell (i := 1) rfl
    have f2 := hrf a
    have hai : (0 : Int) ≤ (a : Int) := by omega
    have haj : (a : Int) < ((s.out j).regs.length : Int) := by show (a : Int) < (s.regs.length : Int); omega
    have hji : (0 : Int) ≤ (j : Int) := by omega
    have hjj : (j : Int) < ((s.out j).cells.length : Int) := hn1
    obtain ⟨q1, q2⟩ := Wd.setReg hrow hbu hgr (i := a) ha (rg s.cells j)
    have HF : Hid (Post (.returned (.tuple #[])) (w2.drew.setCell ⟨g2, a, none⟩ (.int .i64 (rg s.cells j)))) := hp _ q1 q2
    clear hp q1 q2 W2 Wd hrow hbu
    go_wp2
    refine wp_tail 14 (by kernel_rfl) (by kernel_rfl) ?_
    simp only [List.take_succ_cons, List.take_zero, List.drop_succ_cons, List.drop_zero]
    repeat still_step
    refine wpStill_nil ?_
    go_wp2
    go_end0
    exact HF.out
  · intro hin w2 hm2 hk2
    rw [if_neg hin] at hp
    have W2 := Wq.next hm2 hk2
    have HF : Hid (Post (.returned (.tuple #[])) w2) := hp _ W2.done W2.keep
    clear hp W2 Wq hm2 hk2
    go_wp2
    go_end0
    exact HF.out

end Go.Proofs.Ytblhmeidbjigaaa
