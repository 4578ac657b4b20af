/- A program out of raw numbers. -/
import Derived.Test.YtblhmeidbjigaaaRows
import Derived.WalkKit
import Derived.WalkSpells
import Derived.WalkLawsBesides
import Derived.Laws.BytesArg
import Derived.Deep.QuietTactic
import Derived.BigQuiet
import Derived.Deep.RegionHeld3
import Derived.Deep.RegionLaw
import Derived.Deep.AppendLies
import Derived.ProofKit
import Derived.SizedLaws
import Derived.Deep.Slices
import Derived.Lib.SmallJoins
import Derived.Test.YtblhmeidbjigaaaKEndToKBlockBack

set_option linter.unusedSimpArgs false
set_option linter.unusedVariables false
namespace Go.Proofs.Ytblhmeidbjigaaa
open Go.RowKit

theorem Rolls.away {w w0 : World} {R : Nat} {ao : Option Addr} {n cap k : Nat} (h : Rolls w R ao n cap k) (h0 : RdInts w0 (.slice ao n cap) n) {g i : Nat} (hg : w0.heap.size ≤ g) (hgR : R ≠ g) (u : Value) : Rolls (w.setCell ⟨g, i, none⟩ u) R ao n cap k := by
  refine ⟨h.row.unset (a := ⟨g, i, none⟩) hgR _, h.le, ?_, h.off⟩
  obtain ⟨ao', cap', e, hn, hc⟩ := h.rd
  obtain ⟨ao2, cap2, e2, _, hc2⟩ := h0
  simp only [Value.slice.injEq, true_and] at e e2
  obtain ⟨rfl, rfl⟩ := e
  obtain ⟨rfl, rfl⟩ := e2
  refine ⟨ao, cap, rfl, hn, fun i hi => ?_⟩
  obtain ⟨b, off, x, e1, h1, h2, h3⟩ := hc i hi
  obtain ⟨b2, off2, x2, e2, _, _, h4⟩ := hc2 i hi
  rw [e1] at e2
  simp only [Option.some.injEq, Addr.mk.injEq, and_true] at e2
  obtain ⟨rfl, rfl⟩ := e2
  have := World.block_lt_of_cell? _ _ h4
  exact ⟨b, off, x, e1, h1, h2, cell_unset (fun e => by simp at e; simp at this; omega) h3⟩

theorem Rolls.belowB {w w' w0 : World} {R : Nat} {ao : Option Addr} {n cap k : Nat} (h : Rolls w R ao n cap k) (h0 : RdInts w0 (.slice ao n cap) n) {B : Nat} (hb : Below B w w') (hB : w0.heap.size ≤ B) (hR : R < B) : Rolls w' R ao n cap k := by
  refine ⟨h.row.below hb hR, h.le, ?_, h.off⟩
  obtain ⟨ao', cap', e, hn, hc⟩ := h.rd
  obtain ⟨ao2, cap2, e2, _, hc2⟩ := h0
  simp only [Value.slice.injEq, true_and] at e e2
  obtain ⟨rfl, rfl⟩ := e
  obtain ⟨rfl, rfl⟩ := e2
  refine ⟨ao, cap, rfl, hn, fun i hi => ?_⟩
  obtain ⟨b, off, x, e1, h1, h2, h3⟩ := hc i hi
  obtain ⟨b2, off2, x2, e2, _, _, h4⟩ := hc2 i hi
  rw [e1] at e2
  simp only [Option.some.injEq, Addr.mk.injEq, and_true] at e2
  obtain ⟨rfl, rfl⟩ := e2
  have := World.block_lt_of_cell? _ _ h4
  exact ⟨b, off, x, e1, h1, h2, (hb.cell (by simp at this ⊢; omega)).trans h3⟩

theorem RdInts.keep {w w' : World} {v : Value} {n : Nat} (h : RdInts w v n) (hb : Below w.heap.size w w') : RdInts w' v n := by
  obtain ⟨ao', cap', e, hn, hc⟩ := h
  exact ⟨ao', cap', e, hn, fun i hi => let ⟨b, off, x, e1, h1, h2, h3⟩ := hc i hi; ⟨b, off, x, e1, h1, h2, cell_keep hb h3⟩⟩

/-- Rolls that begin, in a block that is new. -/
theorem Rolls.fresh {w w' : World} {R : Nat} {ao : Option Addr} {n cap : Nat} (h : RdInts w (.slice ao n cap) n) (hb : Below w.heap.size w w') (hrow : Row w' R 84 [.slice ao n cap, .int .i64 0]) (hR : w.heap.size ≤ R) : Rolls w' R ao n cap 0 := by
  refine ⟨hrow, Nat.zero_le _, h.keep hb, fun hn b o e => ?_⟩
  obtain ⟨ao', cap', e0, _, hc⟩ := h
  simp only [Value.slice.injEq, true_and] at e0
  obtain ⟨rfl, rfl⟩ := e0
  obtain ⟨b2, off2, x2, e2, _, _, h4⟩ := hc 0 hn
  rw [e] at e2
  simp only [Option.some.injEq, Addr.mk.injEq, and_true] at e2
  obtain ⟨rfl, rfl⟩ := e2
  have := World.block_lt_of_cell? _ _ h4
  simp at this
  omega

set_option maxRecDepth 100000 in
set_option maxHeartbeats 8000000 in
theorem whole_cps (ao : Option Addr) (n cap : Nat) (w : World) (hraw : RdInts w (.slice ao n cap) n) (Post : Ending → World → Prop)
    (hp : ∀ a0 a1 a2 a3 v bv w', progGood ⟨a0, a1, a2, a3, bdat bv⟩ = true → OwnBlocks w' w.heap.size v bv → Below w.heap.size w w' → Post (.returned (.agg #[.int .i64 a0, .int .i64 a1, .int .i64 a2, .int .i64 a3, v])) w') :
    Calls Try.prog 12 #[.slice ao n cap] w Post := by
  obtain ⟨i0, ii, iz0, iz1, iz2⟩ := info_parts Try.infoBlk
  have rA : Row (((w.alloc (.cells #[.int .i64 0, .int .i64 0, .int .i64 0, .int .i64 0, .slice none 0 0] 24)).alloc (.cells #[.slice ao n cap, .int .i64 0] 84)).alloc (.cells #[.int .i64 0, .int .i64 0, .int .i64 0, .int .i64 0, .slice none 0 0] 24)) w.heap.size 24 [.int .i64 0, .int .i64 0, .int .i64 0, .int .i64 0, .slice none 0 0] := by
    have q : Row (w.alloc (.cells #[.int .i64 0, .int .i64 0, .int .i64 0, .int .i64 0, .slice none 0 0] 24)) w.heap.size 24 [.int .i64 0, .int .i64 0, .int .i64 0, .int .i64 0, .slice none 0 0] := heap_alloc_new w _
    exact (q.alloc _).alloc _
  have rR : Row (((w.alloc (.cells #[.int .i64 0, .int .i64 0, .int .i64 0, .int .i64 0, .slice none 0 0] 24)).alloc (.cells #[.slice ao n cap, .int .i64 0] 84)).alloc (.cells #[.int .i64 0, .int .i64 0, .int .i64 0, .int .i64 0, .slice none 0 0] 24)) (w.heap.size + 1) 84 [.slice ao n cap, .int .i64 0] := by
    have q : Row ((w.alloc (.cells #[.int .i64 0, .int .i64 0, .int .i64 0, .int .i64 0, .slice none 0 0] 24)).alloc (.cells #[.slice ao n cap, .int .i64 0] 84)) (w.heap.size + 1) 84 [.slice ao n cap, .int .i64 0] := heap_alloc2_new w _ _
    exact q.alloc _
  have rP : Row (((w.alloc (.cells #[.int .i64 0, .int .i64 0, .int .i64 0, .int .i64 0, .slice none 0 0] 24)).alloc (.cells #[.slice ao n cap, .int .i64 0] 84)).alloc (.cells #[.int .i64 0, .int .i64 0, .int .i64 0, .int .i64 0, .slice none 0 0] 24)) (w.heap.size + 2) 24 [.int .i64 0, .int .i64 0, .int .i64 0, .int .i64 0, .slice none 0 0] := by
    have q := heap_alloc2_new (w.alloc (.cells #[.int .i64 0, .int .i64 0, .int .i64 0, .int .i64 0, .slice none 0 0] 24)) (.cells #[.slice ao n cap, .int .i64 0] 84) (.cells #[.int .i64 0, .int .i64 0, .int .i64 0, .int .i64 0, .slice none 0 0] 24)
    simp only [World.size_alloc] at q
    exact q
  have hb0 : Below w.heap.size w (((w.alloc (.cells #[.int .i64 0, .int .i64 0, .int .i64 0, .int .i64 0, .slice none 0 0] 24)).alloc (.cells #[.slice ao n cap, .int .i64 0] 84)).alloc (.cells #[.int .i64 0, .int .i64 0, .int .i64 0, .int .i64 0, .slice none 0 0] 24)) := (((Below.refl w.heap.size w).alloc (Nat.le_refl _) _).alloc (by simp) _).alloc (by simp; omega) _
  have ro0 := Rolls.fresh hraw hb0 rR (by omega)
  have ke : Keep (fun g => g = w.heap.size + 1) w (((w.alloc (.cells #[.int .i64 0, .int .i64 0, .int .i64 0, .int .i64 0, .slice none 0 0] 24)).alloc (.cells #[.slice ao n cap, .int .i64 0] 84)).alloc (.cells #[.int .i64 0, .int .i64 0, .int .i64 0, .int .i64 0, .slice none 0 0] 24)) := (((Keep.refl _ _).alloc _).alloc _).alloc _
  clear rR hb0
  go_enter Try.func12, Try.ntmps12
  go_wp2_with fail
  refine next_cps (w.heap.size + 1) ao n cap _ 8 _ ro0 (by omega) _ ?_
  intro x0 k0 w0 xa0 xb0 hr hk hzz
  have ro := hr
  have rA := rA.kept hk (by omega)
  have rP := rP.kept hk (by omega)
  have ke := ke.trans hk
  clear hr hk
  have pc := rP.cell (i := 1) rfl
  have pf := rP.frozen 1
  have ro1 := ro.away hraw (g := (w.heap.size + 2)) (i := 1) (by omega) (by omega) (.int .i64 (1 + x0))
  have rA := rA.unset (a := ⟨(w.heap.size + 2), 1, none⟩) (by show w.heap.size ≠ w.heap.size + 2; omega) (.int .i64 (1 + x0))
  have rP := rP.set 1 (.int .i64 (1 + x0))
  have ke := ke.setCell (p := ⟨(w.heap.size + 2), 1, none⟩) (.inr (by show w.heap.size ≤ w.heap.size + 2; omega)) (.int .i64 (1 + x0))
  clear ro
  have p1 := rP.cell (i := 1) (u := .int .i64 (1 + x0)) rfl
  go_wp2_with fail
  refine next_cps (w.heap.size + 1) ao n cap _ (1 + x0 + 1) _ ro1 (by omega) _ ?_
  intro x1 k1 w1 xa1 xb1 hr hk hzz
  have ro := hr
  have rA := rA.kept hk (by omega)
  have rP := rP.kept hk (by omega)
  have ke := ke.trans hk
  clear hr hk
  clear p1
  have pc := rP.cell (i := 0) rfl
  have pf := rP.frozen 0
  have ro2 := ro.away hraw (g := (w.heap.size + 2)) (i := 0) (by omega) (by omega) (.int .i64 x1)
  have rA := rA.unset (a := ⟨(w.heap.size + 2), 0, none⟩) (by show w.heap.size ≠ w.heap.size + 2; omega) (.int .i64 x1)
  have rP := rP.set 0 (.int .i64 x1)
  have ke := ke.setCell (p := ⟨(w.heap.size + 2), 0, none⟩) (.inr (by show w.heap.size ≤ w.heap.size + 2; omega)) (.int .i64 x1)
  clear ro
  go_wp2_with fail
  refine next_cps (w.heap.size + 1) ao n cap _ 9 _ ro2 (by omega) _ ?_
  intro x2 k2 w2 xa2 xb2 hr hk hzz
  have ro := hr
  have rA := rA.kept hk (by omega)
  have rP := rP.kept hk (by omega)
  have ke := ke.trans hk
  clear hr hk
  have pc := rP.cell (i := 2) rfl
  have pf := rP.frozen 2
  have ro3 := ro.away hraw (g := (w.heap.size + 2)) (i := 2) (by omega) (by omega) (.int .i64 x2)
  have rA := rA.unset (a := ⟨(w.heap.size + 2), 2, none⟩) (by show w.heap.size ≠ w.heap.size + 2; omega) (.int .i64 x2)
  have rP := rP.set 2 (.int .i64 x2)
  have ke := ke.setCell (p := ⟨(w.heap.size + 2), 2, none⟩) (.inr (by show w.heap.size ≤ w.heap.size + 2; omega)) (.int .i64 x2)
  clear ro
  go_wp2_with fail
  refine next_cps (w.heap.size + 1) ao n cap _ 9 _ ro3 (by omega) _ ?_
  intro x3 k3 w3 xa3 xb3 hr hk hzz
  have ro := hr
  have rA := rA.kept hk (by omega)
  have rP := rP.kept hk (by omega)
  have ke := ke.trans hk
  clear hr hk
  have pc := rP.cell (i := 3) rfl
  have pf := rP.frozen 3
  have ro4 := ro.away hraw (g := (w.heap.size + 2)) (i := 3) (by omega) (by omega) (.int .i64 x3)
  have rA := rA.unset (a := ⟨(w.heap.size + 2), 3, none⟩) (by show w.heap.size ≠ w.heap.size + 2; omega) (.int .i64 x3)
  have rP := rP.set 3 (.int .i64 x3)
  have ke := ke.setCell (p := ⟨(w.heap.size + 2), 3, none⟩) (.inr (by show w.heap.size ≤ w.heap.size + 2; omega)) (.int .i64 x3)
  clear ro
  by_cases hs0 : x3 = 0
  · have hs1 : (x3 == 0) = true := by simp [hs0]
    have p3 := rP.cell (i := 3) (u := .int .i64 x3) rfl
    have hms : (13 : Int) ≤ 13 ∨ 1 ≤ x3 := by omega
    clear hs0
    go_wp2_with fail
    refine next_cps (w.heap.size + 1) ao n cap _ 6 _ ro4 (by omega) _ ?_
    intro x4 k4 w4 xa4 xb4 hr hk hz4
    have ro := hr
    have rA := rA.kept hk (by omega)
    have rP := rP.kept hk (by omega)
    have ke := ke.trans hk
    have hz : w.heap.size + 3 ≤ w4.heap.size := by have := rP.lt; omega
    clear hr hk p3 ro4
    go_wp2
    go_loopw [7] (fun i wr => ∃ (j : Nat) (v : Value) (bv : List (BlockD × Value)) (kk : Nat), (j : Int) ≤ 1 + x4 ∧ i = .int .i64 j ∧ Hid (bv.length = j) ∧ Hid (∀ x ∈ bv, blockGood (1 + x0) x3 (1 + x4) x.1 = true) ∧ Row wr w.heap.size 24 [.int .i64 0, .int .i64 0, .int .i64 0, .int .i64 0, .slice none 0 0] ∧ Row wr (w.heap.size + 2) 24 [.int .i64 x1, .int .i64 (1 + x0), .int .i64 x2, .int .i64 x3, v] ∧
        OwnBlocks wr (w.heap.size + 3) v bv ∧ Rolls wr (w.heap.size + 1) ao n cap kk ∧ Keep (fun g => g = w.heap.size + 1) w wr ∧ w.heap.size + 3 ≤ wr.heap.size)
      (fun i _ => (1 + x4).toNat - (intOf i).toNat)
    case atStart => exact ⟨0, .slice none 0 0, [], _, by omega, rfl, rfl, (fun x hx => by cases hx), rA, rP, ownBlocks_nil _ _, ro, ke, hz⟩
    case round =>
      clear rA rP ke ro hz hz4 w4
      obtain ⟨j, v, bv, kk, hj, rfl, hvl, hbg, rA, rP, own, ro, ke, hz⟩ := hrel
      obtain ⟨bo, bc, rfl⟩ := owns_slice own.row
      have p1 := rP.cell (i := 1) rfl
      have p3 := rP.cell (i := 3) rfl
      by_cases hlt : (j : Int) < 1 + x4
      · go_wp2_with fail
        refine block_cps (w.heap.size + 1) ao n cap kk 13 (1 + x0) x3 (1 + x4) _ ro (by omega) (by omega) (by omega) hms (by omega) _ ?_
        intro sv l a b c d k2 w2 hg hsv hr2 hk2
        obtain ⟨so, sc, rfl⟩ := owns_slice hsv
        have rA2 := rA.kept hk2 (by omega)
        have rP2 := rP.kept hk2 (by omega)
        have own2 := own.apartFrom hk2 (fun g hg => by omega)
        have ke2 := ke.trans hk2
        have hz2 := hk2.size
        have hzl : w.heap.size + 2 < w2.heap.size := by omega
        have hzq : w.heap.size + 3 ≤ w2.heap.size := by omega
        have p4 := rP2.cell (i := 4) rfl
        have hfree : ∀ y ∈ bv, ∀ g, y.2.ownBlock = some g → (Value.slice so l.length sc).ownBlock ≠ some g := by
          intro y hy g hg e
          have q1 := ((own.each y hy).lt g hg).2
          have q2 := (hsv.lt g e).1
          omega
        have HG : Hid (∀ x ∈ bv ++ [(⟨l, ⟨a, b, c, d⟩⟩, Value.slice so l.length sc)], blockGood (1 + x0) x3 (1 + x4) x.1 = true) := by
          intro x hx
          rcases List.mem_append.1 hx with hx | hx
          · exact hbg.out x hx
          · simp at hx; subst hx; exact hg
        have hsv2 := owns_base hsv (show w.heap.size + 3 ≤ _ by omega)
        clear rA rP own ke hk2 p1 p3 ro hsv hg hbg
        go_wp2_with (at_builtin; refine wpList_append_own _ rfl _ _ 22 rfl (w.heap.size + 3) 90 i0 (.agg #[.slice none 0 0, .int .i64 0, .int .i64 0, .int .i64 0, .int .i64 0]) 5 56 Try.underlying22 ii iz0 iz1 iz2 rfl (by decide) _ _ _ rfl ((own2.row.alloc _).alloc _) ⟨w2.heap.size + 1, 0, none⟩ 1 1 [.slice so l.length sc, .int .i64 a, .int .i64 b, .int .i64 c, .int .i64 d] rfl rfl ?c113 five_one ?c313 ?c413 ?c513 ?_)
        case c113 => simpa using five_new (w2.alloc _) _ _ _ _ _ _
        case c313 => have := hvl.out; unfold maxLen; omega
        case c413 => have := hvl.out; omega
        case c513 => first | omega | (simp; omega)
        intro v' w3 hown' hgrow _
        have own3 : OwnBlocks w3 (w.heap.size + 3) v' (bv ++ [(⟨l, ⟨a, b, c, d⟩⟩, .slice so l.length sc)]) := ((own2.alloc _).alloc _).snoc ((hsv2.alloc _).alloc _) hfree hgrow hown'
        have hb2 := ((((Below.refl (w.heap.size + 3) w2).alloc hzq _).alloc (by simp; omega) _).grown hgrow (by simp; omega) (fun g hg => (own2.row.lt g hg).1))
        have rA3 := rA2.below hb2 (by omega)
        have rP3 := rP2.below hb2 (by omega)
        have ro3 := hr2.belowB hraw hb2 (by omega) (by omega)
        have ke3 := ke2.below hb2 (by omega)
        have hz3 := hb2.size
        have y4 := rP3.cell (i := 4) rfl
        have yf := rP3.frozen 4
        obtain ⟨bo', bc', hv'⟩ := owns_slice own3.row
        rw [List.length_append] at hv'
        simp only [List.length_cons, List.length_nil, Nat.zero_add] at hv'
        subst hv'
        have rP4 := rP3.set 4 (.slice bo' (bv.length + 1) bc')
        have rA4 := rA3.unset (a := ⟨(w.heap.size + 2), 4, none⟩) (by show w.heap.size ≠ w.heap.size + 2; omega) (.slice bo' (bv.length + 1) bc')
        have ro4 := ro3.away hraw (g := (w.heap.size + 2)) (i := 4) (by omega) (by omega) (.slice bo' (bv.length + 1) bc')
        have ke4 := ke3.setCell (p := ⟨(w.heap.size + 2), 4, none⟩) (.inr (by show w.heap.size ≤ w.heap.size + 2; omega)) (.slice bo' (bv.length + 1) bc')
        have own4 := own3.set (a := ⟨(w.heap.size + 2), 4, none⟩) (by show w.heap.size + 2 < w.heap.size + 3; omega) (.slice bo' (bv.length + 1) bc')
        clear hgrow hown' hb2 rA2 rP2 own2 hr2 ke2 p4 rA3 rP3 ro3 ke3 own3 hsv2 hfree
        go_wp2
        go_roundw
        case rel => exact ⟨j + 1, _, _, k2, by omega, by go_num, by show List.length _ = _; have := hvl.out; simp; exact this, HG, rA4, rP4, own4, ro4, ke4, by simp; omega⟩
        case measure => simp [intOf]; omega
      · have hje : (j : Int) = 1 + x4 := by omega
        have b0 := rP.cell (i := 0) rfl
        have b2 := rP.cell (i := 2) rfl
        have b4 := rP.cell (i := 4) rfl
        have a0 := rA.cell (i := 0) rfl
        have a1 := rA.cell (i := 1) rfl
        have a2 := rA.cell (i := 2) rfl
        have a3 := rA.cell (i := 3) rfl
        have a4 := rA.cell (i := 4) rfl
        have f0 := rA.frozen 0
        have f1 := rA.frozen 1
        have f2 := rA.frozen 2
        have f3 := rA.frozen 3
        have f4 := rA.frozen 4
        have hgood : progGood ⟨x1, 1 + x0, x2, x3, bdat bv⟩ = true := by
          have e := hvl.out
          simp only [progGood, blocksGood, Bool.and_eq_true, decide_eq_true_eq, List.all_eq_true, bdat_length]
          refine ⟨⟨⟨⟨⟨by omega, by omega⟩, by omega⟩, by omega⟩, by omega⟩, ?_⟩
          intro x hx
          obtain ⟨y, hy, rfl⟩ := List.mem_map.1 hx
          have := hbg.out y hy
          rw [e, hje]
          exact this
        have hfin := hp x1 (1 + x0) x2 x3 (.slice bo bv.length bc) bv (((((wr.setCell ⟨w.heap.size, 0, none⟩ (.int .i64 x1)).setCell ⟨w.heap.size, 1, none⟩ (.int .i64 (1 + x0))).setCell ⟨w.heap.size, 2, none⟩ (.int .i64 x2)).setCell ⟨w.heap.size, 3, none⟩ (.int .i64 x3)).setCell ⟨w.heap.size, 4, none⟩ (.slice bo bv.length bc)) hgood
          ((((((own.set (by simp) _).set (by simp) _).set (by simp) _).set (by simp) _).set (by simp) _).base (by omega))
          ((((((ke.setCell (.inr (by simp)) _).setCell (.inr (by simp)) _).setCell (.inr (by simp)) _).setCell (.inr (by simp)) _).setCell (.inr (by simp)) _).toBelow (Nat.le_refl _) (fun g hg => by omega))
        have HF : Hid (Post (.returned (.agg #[.int .i64 x1, .int .i64 (1 + x0), .int .i64 x2, .int .i64 x3, .slice bo bv.length bc])) (((((wr.setCell ⟨w.heap.size, 0, none⟩ (.int .i64 x1)).setCell ⟨w.heap.size, 1, none⟩ (.int .i64 (1 + x0))).setCell ⟨w.heap.size, 2, none⟩ (.int .i64 x2)).setCell ⟨w.heap.size, 3, none⟩ (.int .i64 x3)).setCell ⟨w.heap.size, 4, none⟩ (.slice bo bv.length bc))) := hfin
        clear hfin hp hgood own ro ke rA rP
        go_wp2
        exact bodyPost_ret (v := .agg #[.int .i64 x1, .int .i64 (1 + x0), .int .i64 x2, .int .i64 x3, .slice bo bv.length bc]) (by simp [results, Try.results12, go_sem, a0, a1, a2, a3, a4]) rfl HF.out
  · have hs1 : (x3 == 0) = false := by simp [hs0]
    have p3 := rP.cell (i := 3) (u := .int .i64 x3) rfl
    have hms : (15 : Int) ≤ 13 ∨ 1 ≤ x3 := by omega
    clear hs0
    go_wp2_with fail
    refine next_cps (w.heap.size + 1) ao n cap _ 6 _ ro4 (by omega) _ ?_
    intro x4 k4 w4 xa4 xb4 hr hk hz4
    have ro := hr
    have rA := rA.kept hk (by omega)
    have rP := rP.kept hk (by omega)
    have ke := ke.trans hk
    have hz : w.heap.size + 3 ≤ w4.heap.size := by have := rP.lt; omega
    clear hr hk p3 ro4
    go_wp2
    go_loopw [7] (fun i wr => ∃ (j : Nat) (v : Value) (bv : List (BlockD × Value)) (kk : Nat), (j : Int) ≤ 1 + x4 ∧ i = .int .i64 j ∧ Hid (bv.length = j) ∧ Hid (∀ x ∈ bv, blockGood (1 + x0) x3 (1 + x4) x.1 = true) ∧ Row wr w.heap.size 24 [.int .i64 0, .int .i64 0, .int .i64 0, .int .i64 0, .slice none 0 0] ∧ Row wr (w.heap.size + 2) 24 [.int .i64 x1, .int .i64 (1 + x0), .int .i64 x2, .int .i64 x3, v] ∧
        OwnBlocks wr (w.heap.size + 3) v bv ∧ Rolls wr (w.heap.size + 1) ao n cap kk ∧ Keep (fun g => g = w.heap.size + 1) w wr ∧ w.heap.size + 3 ≤ wr.heap.size)
      (fun i _ => (1 + x4).toNat - (intOf i).toNat)
    case atStart => exact ⟨0, .slice none 0 0, [], _, by omega, rfl, rfl, (fun x hx => by cases hx), rA, rP, ownBlocks_nil _ _, ro, ke, hz⟩
    case round =>
      clear rA rP ke ro hz hz4 w4
      obtain ⟨j, v, bv, kk, hj, rfl, hvl, hbg, rA, rP, own, ro, ke, hz⟩ := hrel
      obtain ⟨bo, bc, rfl⟩ := owns_slice own.row
      have p1 := rP.cell (i := 1) rfl
      have p3 := rP.cell (i := 3) rfl
      by_cases hlt : (j : Int) < 1 + x4
      · go_wp2_with fail
        refine block_cps (w.heap.size + 1) ao n cap kk 15 (1 + x0) x3 (1 + x4) _ ro (by omega) (by omega) (by omega) hms (by omega) _ ?_
        intro sv l a b c d k2 w2 hg hsv hr2 hk2
        obtain ⟨so, sc, rfl⟩ := owns_slice hsv
        have rA2 := rA.kept hk2 (by omega)
        have rP2 := rP.kept hk2 (by omega)
        have own2 := own.apartFrom hk2 (fun g hg => by omega)
        have ke2 := ke.trans hk2
        have hz2 := hk2.size
        have hzl : w.heap.size + 2 < w2.heap.size := by omega
        have hzq : w.heap.size + 3 ≤ w2.heap.size := by omega
        have p4 := rP2.cell (i := 4) rfl
        have hfree : ∀ y ∈ bv, ∀ g, y.2.ownBlock = some g → (Value.slice so l.length sc).ownBlock ≠ some g := by
          intro y hy g hg e
          have q1 := ((own.each y hy).lt g hg).2
          have q2 := (hsv.lt g e).1
          omega
        have HG : Hid (∀ x ∈ bv ++ [(⟨l, ⟨a, b, c, d⟩⟩, Value.slice so l.length sc)], blockGood (1 + x0) x3 (1 + x4) x.1 = true) := by
          intro x hx
          rcases List.mem_append.1 hx with hx | hx
          · exact hbg.out x hx
          · simp at hx; subst hx; exact hg
        have hsv2 := owns_base hsv (show w.heap.size + 3 ≤ _ by omega)
        clear rA rP own ke hk2 p1 p3 ro hsv hg hbg
        go_wp2_with (at_builtin; refine wpList_append_own _ rfl _ _ 22 rfl (w.heap.size + 3) 90 i0 (.agg #[.slice none 0 0, .int .i64 0, .int .i64 0, .int .i64 0, .int .i64 0]) 5 56 Try.underlying22 ii iz0 iz1 iz2 rfl (by decide) _ _ _ rfl ((own2.row.alloc _).alloc _) ⟨w2.heap.size + 1, 0, none⟩ 1 1 [.slice so l.length sc, .int .i64 a, .int .i64 b, .int .i64 c, .int .i64 d] rfl rfl ?c115 five_one ?c315 ?c415 ?c515 ?_)
        case c115 => simpa using five_new (w2.alloc _) _ _ _ _ _ _
        case c315 => have := hvl.out; unfold maxLen; omega
        case c415 => have := hvl.out; omega
        case c515 => first | omega | (simp; omega)
        intro v' w3 hown' hgrow _
        have own3 : OwnBlocks w3 (w.heap.size + 3) v' (bv ++ [(⟨l, ⟨a, b, c, d⟩⟩, .slice so l.length sc)]) := ((own2.alloc _).alloc _).snoc ((hsv2.alloc _).alloc _) hfree hgrow hown'
        have hb2 := ((((Below.refl (w.heap.size + 3) w2).alloc hzq _).alloc (by simp; omega) _).grown hgrow (by simp; omega) (fun g hg => (own2.row.lt g hg).1))
        have rA3 := rA2.below hb2 (by omega)
        have rP3 := rP2.below hb2 (by omega)
        have ro3 := hr2.belowB hraw hb2 (by omega) (by omega)
        have ke3 := ke2.below hb2 (by omega)
        have hz3 := hb2.size
        have y4 := rP3.cell (i := 4) rfl
        have yf := rP3.frozen 4
        obtain ⟨bo', bc', hv'⟩ := owns_slice own3.row
        rw [List.length_append] at hv'
        simp only [List.length_cons, List.length_nil, Nat.zero_add] at hv'
        subst hv'
        have rP4 := rP3.set 4 (.slice bo' (bv.length + 1) bc')
        have rA4 := rA3.unset (a := ⟨(w.heap.size + 2), 4, none⟩) (by show w.heap.size ≠ w.heap.size + 2; omega) (.slice bo' (bv.length + 1) bc')
        have ro4 := ro3.away hraw (g := (w.heap.size + 2)) (i := 4) (by omega) (by omega) (.slice bo' (bv.length + 1) bc')
        have ke4 := ke3.setCell (p := ⟨(w.heap.size + 2), 4, none⟩) (.inr (by show w.heap.size ≤ w.heap.size + 2; omega)) (.slice bo' (bv.length + 1) bc')
        have own4 := own3.set (a := ⟨(w.heap.size + 2), 4, none⟩) (by show w.heap.size + 2 < w.heap.size + 3; omega) (.slice bo' (bv.length + 1) bc')
        clear hgrow hown' hb2 rA2 rP2 own2 hr2 ke2 p4 rA3 rP3 ro3 ke3 own3 hsv2 hfree
        go_wp2
        go_roundw
        case rel => exact ⟨j + 1, _, _, k2, by omega, by go_num, by show List.length _ = _; have := hvl.out; simp; exact this, HG, rA4, rP4, own4, ro4, ke4, by simp; omega⟩
        case measure => simp [intOf]; omega
      · have hje : (j : Int) = 1 + x4 := by omega
        have b0 := rP.cell (i := 0) rfl
        have b2 := rP.cell (i := 2) rfl
        have b4 := rP.cell (i := 4) rfl
        have a0 := rA.cell (i := 0) rfl
        have a1 := rA.cell (i := 1) rfl
        have a2 := rA.cell (i := 2) rfl
        have a3 := rA.cell (i := 3) rfl
        have a4 := rA.cell (i := 4) rfl
        have f0 := rA.frozen 0
        have f1 := rA.frozen 1
        have f2 := rA.frozen 2
        have f3 := rA.frozen 3
        have f4 := rA.frozen 4
        have hgood : progGood ⟨x1, 1 + x0, x2, x3, bdat bv⟩ = true := by
          have e := hvl.out
          simp only [progGood, blocksGood, Bool.and_eq_true, decide_eq_true_eq, List.all_eq_true, bdat_length]
          refine ⟨⟨⟨⟨⟨by omega, by omega⟩, by omega⟩, by omega⟩, by omega⟩, ?_⟩
          intro x hx
          obtain ⟨y, hy, rfl⟩ := List.mem_map.1 hx
          have := hbg.out y hy
          rw [e, hje]
          exact this
        have hfin := hp x1 (1 + x0) x2 x3 (.slice bo bv.length bc) bv (((((wr.setCell ⟨w.heap.size, 0, none⟩ (.int .i64 x1)).setCell ⟨w.heap.size, 1, none⟩ (.int .i64 (1 + x0))).setCell ⟨w.heap.size, 2, none⟩ (.int .i64 x2)).setCell ⟨w.heap.size, 3, none⟩ (.int .i64 x3)).setCell ⟨w.heap.size, 4, none⟩ (.slice bo bv.length bc)) hgood
          ((((((own.set (by simp) _).set (by simp) _).set (by simp) _).set (by simp) _).set (by simp) _).base (by omega))
          ((((((ke.setCell (.inr (by simp)) _).setCell (.inr (by simp)) _).setCell (.inr (by simp)) _).setCell (.inr (by simp)) _).setCell (.inr (by simp)) _).toBelow (Nat.le_refl _) (fun g hg => by omega))
        have HF : Hid (Post (.returned (.agg #[.int .i64 x1, .int .i64 (1 + x0), .int .i64 x2, .int .i64 x3, .slice bo bv.length bc])) (((((wr.setCell ⟨w.heap.size, 0, none⟩ (.int .i64 x1)).setCell ⟨w.heap.size, 1, none⟩ (.int .i64 (1 + x0))).setCell ⟨w.heap.size, 2, none⟩ (.int .i64 x2)).setCell ⟨w.heap.size, 3, none⟩ (.int .i64 x3)).setCell ⟨w.heap.size, 4, none⟩ (.slice bo bv.length bc))) := hfin
        clear hfin hp hgood own ro ke rA rP
        go_wp2
        exact bodyPost_ret (v := .agg #[.int .i64 x1, .int .i64 (1 + x0), .int .i64 x2, .int .i64 x3, .slice bo bv.length bc]) (by simp [results, Try.results12, go_sem, a0, a1, a2, a3, a4]) rfl HF.out

end Go.Proofs.Ytblhmeidbjigaaa

/- A hint out of raw numbers. -/
set_option linter.unusedSimpArgs false
set_option linter.unusedVariables false
namespace Go.Proofs.Ytblhmeidbjigaaa
open Go.RowKit

theorem goodPairs_snoc {ps : List PairD} {last : Int} {x : PairD} (h : goodPairs last ps = true) (hl : last < x.place) (hq : ∀ q ∈ ps, q.place < x.place) (h1 : below x.reg 8 = true) (h2 : below x.place 16 = true) : goodPairs last (ps ++ [x]) = true := by
  induction ps generalizing last with
  | nil => simp [goodPairs, h1, h2, hl]
  | cons p r ih =>
    simp only [goodPairs, List.cons_append, Bool.and_eq_true] at h ⊢
    exact ⟨h.1, ih h.2 (hq p (by simp)) (fun q hq' => hq q (by simp [hq']))⟩

theorem pairs_one (a b : Int) : ∀ u ∈ [Value.int .i64 a, Value.int .i64 b], u.oneCell' = true := by
  intro u hu; simp at hu; rcases hu with rfl | rfl <;> rfl

/-- Pairs underway, at the places below p. -/
structure PairsTo (ps : List PairD) (p : Nat) : Prop where
  good : goodPairs (-1) ps = true
  low : ∀ q ∈ ps, q.place < p
  len : ps.length ≤ p

theorem PairsTo.skip {ps : List PairD} {p : Nat} (h : PairsTo ps p) : PairsTo ps (p + 1) :=
  ⟨h.good, fun q hq => by have := h.low q hq; omega, by have := h.len; omega⟩

theorem PairsTo.snoc {ps : List PairD} {p : Nat} (h : PairsTo ps p) (hp : p < 16) {x : Int} (h0 : 0 ≤ x) (h8 : x < 8) : PairsTo (ps ++ [⟨x, p⟩]) (p + 1) := by
  refine ⟨goodPairs_snoc h.good (by simp; omega) (fun q hq => by simpa using h.low q hq) (by simp [below]; omega) (by simp [below]; omega), ?_, by have := h.len; simp; omega⟩
  intro q hq
  rcases List.mem_append.1 hq with hq | hq
  · have := h.low q hq; omega
  · simp at hq; subst hq; simp; omega

set_option maxRecDepth 100000 in
set_option maxHeartbeats 8000000 in
theorem sugg_cps (ao : Option Addr) (n cap : Nat) (w : World) (hraw : RdInts w (.slice ao n cap) n) (Post : Ending → World → Prop)
    (hp : ∀ v hv w', goodHint (hdat hv) = true → OwnHint w' w.heap.size v hv → Below w.heap.size w w' → Post (.returned (.agg #[v])) w') :
    Calls Try.prog 14 #[.slice ao n cap] w Post := by
  obtain ⟨i0, ii, iz0, iz1, iz2⟩ := info_parts Try.infoPing
  obtain ⟨j0, ji, jz0, jz1, jz2⟩ := info_parts Try.infoPair
  have rA : Row (((w.alloc (.cells #[.slice none 0 0] 31)).alloc (.cells #[.slice ao n cap, .int .i64 0] 84)).alloc (.cells #[.slice none 0 0] 31)) w.heap.size 31 [.slice none 0 0] := by
    have q : Row (w.alloc (.cells #[.slice none 0 0] 31)) w.heap.size 31 [.slice none 0 0] := heap_alloc_new w _
    exact (q.alloc _).alloc _
  have rR : Row (((w.alloc (.cells #[.slice none 0 0] 31)).alloc (.cells #[.slice ao n cap, .int .i64 0] 84)).alloc (.cells #[.slice none 0 0] 31)) (w.heap.size + 1) 84 [.slice ao n cap, .int .i64 0] := by
    have q : Row ((w.alloc (.cells #[.slice none 0 0] 31)).alloc (.cells #[.slice ao n cap, .int .i64 0] 84)) (w.heap.size + 1) 84 [.slice ao n cap, .int .i64 0] := heap_alloc2_new w _ _
    exact q.alloc _
  have rH : Row (((w.alloc (.cells #[.slice none 0 0] 31)).alloc (.cells #[.slice ao n cap, .int .i64 0] 84)).alloc (.cells #[.slice none 0 0] 31)) (w.heap.size + 2) 31 [.slice none 0 0] := by
    have q := heap_alloc2_new (w.alloc (.cells #[.slice none 0 0] 31)) (.cells #[.slice ao n cap, .int .i64 0] 84) (.cells #[.slice none 0 0] 31)
    simp only [World.size_alloc] at q
    exact q
  have hb0 : Below w.heap.size w (((w.alloc (.cells #[.slice none 0 0] 31)).alloc (.cells #[.slice ao n cap, .int .i64 0] 84)).alloc (.cells #[.slice none 0 0] 31)) := (((Below.refl w.heap.size w).alloc (Nat.le_refl _) _).alloc (by simp) _).alloc (by simp; omega) _
  have ro0 := Rolls.fresh hraw hb0 rR (by omega)
  have ke : Keep (fun g => g = w.heap.size + 1) w (((w.alloc (.cells #[.slice none 0 0] 31)).alloc (.cells #[.slice ao n cap, .int .i64 0] 84)).alloc (.cells #[.slice none 0 0] 31)) := (((Keep.refl _ _).alloc _).alloc _).alloc _
  clear rR hb0
  go_enter Try.func14, Try.ntmps14
  go_wp2_with fail
  refine next_cps (w.heap.size + 1) ao n cap _ 6 _ ro0 (by omega) _ ?_
  intro x0 k0 w0 xa0 xb0 hr hk hzz
  have ro := hr
  have rA := rA.kept hk (by omega)
  have rH := rH.kept hk (by omega)
  have ke := ke.trans hk
  have hz : w.heap.size + 3 ≤ w0.heap.size := by have := rH.lt; omega
  clear hr hk hzz ro0
  go_wp2
  go_loopw [6] (fun i wr => ∃ (j : Nat) (v : Value) (hv : List (PingD × Value)) (kk : Nat), (j : Int) ≤ 1 + x0 ∧ i = .int .i64 j ∧ Hid (hv.length = j) ∧ Hid (∀ x ∈ hv, goodPing x.1 = true) ∧ Row wr w.heap.size 31 [.slice none 0 0] ∧ Row wr (w.heap.size + 2) 31 [v] ∧
      OwnHint wr (w.heap.size + 3) v hv ∧ Rolls wr (w.heap.size + 1) ao n cap kk ∧ Keep (fun g => g = w.heap.size + 1) w wr ∧ w.heap.size + 3 ≤ wr.heap.size)
    (fun i _ => (1 + x0).toNat - (intOf i).toNat)
  case atStart => exact ⟨0, .slice none 0 0, [], _, by omega, rfl, rfl, (fun x hx => by cases hx), rA, rH, ownHint_nil _ _, ro, ke, hz⟩
  case round =>
    clear rA rH ke ro hz w0
    obtain ⟨j, v, hv, kk, hj, rfl, hvl, hbg, rA, rH, own, ro, ke, hz⟩ := hrel
    obtain ⟨bo, bc, rfl⟩ := owns_slice own.row
    by_cases hlt : (j : Int) < 1 + x0
    · go_wp2_with fail
      refine next_cps (w.heap.size + 1) ao n cap _ 6 _ ro (by omega) _ ?_
      intro src k1 w1 sa sb hr1 hk1 hz1
      have rA1 := rA.kept hk1 (by omega)
      have rH1 := rH.kept hk1 (by omega)
      have own1 := own.apartFrom hk1 (fun g hg => by omega)
      have ke1 := ke.trans hk1
      have hz1' : w.heap.size + 3 ≤ w1.heap.size := by omega
      have rX1 : Row (w1.alloc (.cells #[.int .i64 src, .slice none 0 0] 94)) w1.heap.size 94 [.int .i64 src, .slice none 0 0] := heap_alloc_new w1 _
      have roX := hr1.belowB hraw ((Below.refl w1.heap.size w1).alloc (Nat.le_refl _) (.cells #[.int .i64 src, .slice none 0 0] 94)) (by omega) (by omega)
      have keX : Keep (fun g => g = w.heap.size + 1) w1 (w1.alloc (.cells #[.int .i64 src, .slice none 0 0] 94)) := (Keep.refl _ _).alloc _
      clear rA rH own ke hz hz1 hr1 hk1 ro
      go_wp2
      go_loopw [8] (fun i wi => ∃ (p : Nat) (ps : List PairD) (sv : Value) (k2 : Nat), p ≤ 16 ∧ i = .int .i64 p ∧ Hid (PairsTo ps p) ∧ Row wi w1.heap.size 94 [.int .i64 src, sv] ∧ wi.ownsRow (w1.heap.size + 1) 96 2 sv ps.length (pairCells ps) ∧
          Rolls wi (w.heap.size + 1) ao n cap k2 ∧ Keep (fun g => g = w.heap.size + 1) w1 wi ∧ w1.heap.size + 1 ≤ wi.heap.size)
        (fun i _ => 16 - (intOf i).toNat)
      case atStart => exact ⟨0, [], _, _, by omega, rfl, ⟨rfl, (fun x hx => by cases hx), Nat.le_refl _⟩, rX1, World.ownsRow_nil _ _ _ _, roX, keX, by simp⟩
      case round =>
        clear rX1 roX keX
        obtain ⟨p, ps, sv, k2, hpp, rfl, hpt, rX, pown, ro, ke, hzi⟩ := hrel
        obtain ⟨so, sc, rfl⟩ := owns_slice pown
        by_cases hp16 : p < 16
        · go_wp2_with fail
          refine next_cps (w.heap.size + 1) ao n cap _ 2 _ ro (by omega) _ ?_
          intro yes k3 w3 ya yb hr3 hk3 hz3
          have rX3 := rX.kept hk3 (by omega)
          have pown3 := owns_keep pown hk3 (fun g hg => by omega)
          have ke3 := ke.trans hk3
          have hz3' : w1.heap.size + 1 ≤ w3.heap.size := by omega
          clear rX pown ke hz3 hk3 ro hzi
          by_cases hy : yes = 1
          · subst hy
            have hdb : Below w3.heap.size w3 w3.drew := (Below.refl _ _).drew
            have hrd := hr3.keep hdb
            have rXd := rX3.keep hdb
            have pownd := owns_below pown3 hdb (Nat.le_refl _)
            have ked := ke3.below hdb (by omega)
            have hzd : w1.heap.size + 1 ≤ w3.drew.heap.size := hz3'
            have a1 := rX3.cell (i := 1) rfl
            clear hr3 hdb
            go_wp2
            go_region_law (first | (go_simp; go_at_call 44; refine next_cps (w.heap.size + 1) ao n cap k3 8 w3.drew hrd (by omega) _ ?_; intro y k4 w4 ya yb hr4 hk4 hz4; have rX4 := rXd.kept hk4 (by omega); have b1 := rX4.cell (i := 1) rfl; have b2 := (rX4.alloc (.cells #[.int .i64 y, .int .i64 p] 96)).cell (i := 1) rfl; have pown4 := owns_keep pownd hk4 (fun g hg => by omega); have ke4 := ked.trans hk4; have hz4' : w1.heap.size + 1 ≤ w4.heap.size := (by omega); clear hz4) | (refine step_append_lies _ (by rfl) _ _ 92 (by rfl) (w1.heap.size + 1) 96 j0 (.agg #[.int .i64 0, .int .i64 0]) 2 16 Try.underlying92 ji jz0 jz1 jz2 rfl (by decide) _ _ _ (by rfl) (pown4.alloc _) ⟨w4.heap.size, 0, none⟩ 1 1 [.int .i64 y, .int .i64 p] (by rfl) rfl (by simpa using two_new w4 _ _ _) (pairs_one _ _) (by decide) (by have := hpt.out.len; unfold maxLen; omega) (by have := hpt.out.len; omega) (by simp; omega) _ rfl ?_; intro g c5 w5 hown5 hgrow5 _ _; have hb5 := ((Below.refl (w1.heap.size + 1) w4).alloc hz4' (.cells #[.int .i64 y, .int .i64 p] 96)).grown hgrow5 (by simp; omega) (fun g hg => (pown4.lt g hg).1); have rX5 := rX4.below hb5 (by omega); have y1 := rX5.cell (i := 1) rfl; have yf := rX5.frozen 1; have ro5 := hr4.belowB hraw hb5 (by omega) (by omega); have ke5 := ke4.below hb5 (by omega); have hz5 := hb5.size))
            all_goals
              have rX6 := rX5.set 1 (.slice (some ⟨g, 0, none⟩) (ps.length + 1) c5)
              have ro6 := ro5.away hraw (g := w1.heap.size) (i := 1) (by omega) (by omega) (.slice (some ⟨g, 0, none⟩) (ps.length + 1) c5)
              have ke6 := ke5.setCell (p := ⟨w1.heap.size, 1, none⟩) (.inr (Nat.le_refl _)) (.slice (some ⟨g, 0, none⟩) (ps.length + 1) c5)
              have own6 := ownsRow_setCell_below hown5 (a := ⟨w1.heap.size, 1, none⟩) (by show w1.heap.size < w1.heap.size + 1; omega) (.slice (some ⟨g, 0, none⟩) (ps.length + 1) c5)
              rw [← pairCells_snoc] at own6
              have HP : Hid (PairsTo (ps ++ [⟨y, p⟩]) (p + 1)) := hpt.out.snoc hp16 ya yb
              clear rX5 ro5 ke5 hown5 hgrow5 hb5 y1 yf rX4 b1 b2 pown4 ke4 hr4 hk4 hrd rXd pownd ked a1 rX3 pown3 ke3 hpt
              go_wp2
              go_roundw
              case rel => exact ⟨p + 1, ps ++ [⟨y, p⟩], _, _, by omega, by go_num, HP, rX6, by simpa using own6, ro6, ke6, by simp; omega⟩
              case measure => simp [intOf]; omega
          · have HP : Hid (PairsTo ps (p + 1)) := hpt.out.skip
            have hy0 : yes = 0 := by omega
            subst hy0
            go_wp2
            go_roundw
            case rel => exact ⟨p + 1, ps, _, _, by omega, by go_num, HP, rX3, pown3, hr3, ke3, hz3'⟩
            case measure => simp [intOf]; omega
        · obtain rfl : p = 16 := by omega
          have rA2 := rA1.kept ke (by omega)
          have rH2 := rH1.kept ke (by omega)
          have own2 := own1.apartFrom ke (fun g hg => by omega)
          have ke2 := ke1.trans ke
          have hzl : w.heap.size + 3 ≤ wr.heap.size := by omega
          have h0 := rH2.cell (i := 0) rfl
          have x0' := rX.cell (i := 0) rfl
          have x1' := rX.cell (i := 1) rfl
          have hfree : ∀ y ∈ hv, ∀ g, y.2.ownBlock = some g → (Value.slice so ps.length sc).ownBlock ≠ some g := by
            intro y hy g hg e
            have q1 := ((own1.each y hy).lt g hg).2
            have q2 := (pown.lt g e).1
            omega
          have HG : Hid (∀ x ∈ hv ++ [(⟨src, ps⟩, Value.slice so ps.length sc)], goodPing x.1 = true) := by
            intro x hx
            rcases List.mem_append.1 hx with hx | hx
            · exact hbg.out x hx
            · simp at hx
              subst hx
              have := hpt.out
              simp only [goodPing, below, Bool.and_eq_true, decide_eq_true_eq]
              exact ⟨⟨by omega, this.len⟩, this.good⟩
          have pown2 := owns_base pown (show w.heap.size + 3 ≤ _ by omega)
          clear rA1 rH1 own1 ke1 ke pown hbg rX
          go_wp2_with (at_builtin; refine wpList_append_own _ rfl _ _ 29 rfl (w.heap.size + 3) 94 i0 (.agg #[.int .i64 0, .slice none 0 0]) 2 32 Try.underlying29 ii iz0 iz1 iz2 rfl (by decide) _ _ _ rfl (own2.row.alloc _) ⟨wr.heap.size, 0, none⟩ 1 1 [.int .i64 src, .slice so ps.length sc] rfl rfl ?c1 ?c2 ?c3 ?c4 ?c5 ?_)
          case c1 => simpa using two_new wr _ _ _
          case c2 => intro u hu; simp at hu; rcases hu with rfl | rfl <;> rfl
          case c3 => have := hvl.out; unfold maxLen; omega
          case c4 => have := hvl.out; omega
          case c5 => simp; omega
          intro v' w7 hown' hgrow _
          have own7 : OwnHint w7 (w.heap.size + 3) v' (hv ++ [(⟨src, ps⟩, .slice so ps.length sc)]) := (own2.alloc _).snoc (x := ⟨src, ps⟩) (pown2.alloc _) hfree hgrow hown'
          have hb7 := (((Below.refl (w.heap.size + 3) wr).alloc hzl _).grown hgrow (by simp; omega) (fun g hg => (own2.row.lt g hg).1))
          have rA7 := rA2.below hb7 (by omega)
          have rH7 := rH2.below hb7 (by omega)
          have ro7 := ro.belowB hraw hb7 (by omega) (by omega)
          have ke7 := ke2.below hb7 (by omega)
          have hz7 := hb7.size
          have y4 := rH7.cell (i := 0) rfl
          have yf := rH7.frozen 0
          obtain ⟨bo', bc', hv'⟩ := owns_slice own7.row
          rw [List.length_append] at hv'
          simp only [List.length_cons, List.length_nil, Nat.zero_add] at hv'
          subst hv'
          have rH8 := rH7.set 0 (.slice bo' (hv.length + 1) bc')
          have rA8 := rA7.unset (a := ⟨(w.heap.size + 2), 0, none⟩) (by show w.heap.size ≠ w.heap.size + 2; omega) (.slice bo' (hv.length + 1) bc')
          have ro8 := ro7.away hraw (g := (w.heap.size + 2)) (i := 0) (by omega) (by omega) (.slice bo' (hv.length + 1) bc')
          have ke8 := ke7.setCell (p := ⟨(w.heap.size + 2), 0, none⟩) (.inr (by show w.heap.size ≤ w.heap.size + 2; omega)) (.slice bo' (hv.length + 1) bc')
          have own8 := own7.set (a := ⟨(w.heap.size + 2), 0, none⟩) (by show w.heap.size + 2 < w.heap.size + 3; omega) (.slice bo' (hv.length + 1) bc')
          clear hgrow hown' hb7 rA2 rH2 own2 ke2 h0 x0' x1' rA7 rH7 ro7 ke7 own7 pown2 hfree ro
          go_wp2
          go_roundw
          case rel => exact ⟨j + 1, _, _, k2, by omega, by go_num, by show List.length _ = _; have := hvl.out; simp; exact this, HG, rA8, rH8, own8, ro8, ke8, by simp; omega⟩
          case measure => simp [intOf]; omega
    · have hje : (j : Int) = 1 + x0 := by omega
      have b0 := rH.cell (i := 0) rfl
      have a0 := rA.cell (i := 0) rfl
      have f0 := rA.frozen 0
      have hgood : goodHint (hdat hv) = true := by
        have e := hvl.out
        simp only [goodHint, goodPings, Bool.and_eq_true, decide_eq_true_eq, List.all_eq_true, hdat_length]
        refine ⟨by omega, ?_⟩
        intro x hx
        obtain ⟨y, hy, rfl⟩ := List.mem_map.1 hx
        exact hbg.out y hy
      have HF : Hid (Post (.returned (.agg #[.slice bo hv.length bc])) (wr.setCell ⟨w.heap.size, 0, none⟩ (.slice bo hv.length bc))) :=
        hp (.slice bo hv.length bc) hv _ hgood ((own.set (by simp) _).base (by omega)) ((ke.setCell (.inr (by simp)) _).toBelow (Nat.le_refl _) (fun g hg => by omega))
      clear hp hgood own ro ke rA rH
      go_wp2
      exact bodyPost_ret (v := .agg #[.slice bo hv.length bc]) (by simp [results, Try.results14, go_sem, a0]) rfl HF.out

end Go.Proofs.Ytblhmeidbjigaaa

/- Lists of words that are read. -/
set_option linter.unusedSimpArgs false
set_option linter.unusedVariables false
namespace Go.Proofs.Ytblhmeidbjigaaa
open Go.RowKit

/-- A list of words that is read. -/
def RdWords (w : World) (v : Value) (l : List Int) : Prop :=
  ∃ ao cap, v = .slice ao l.length cap ∧ l.length ≤ 9223372036854775807 ∧ ∀ i, i < l.length → ∃ b off, ao = some ⟨b, off, none⟩ ∧ w.cell? ⟨b, off + i, none⟩ = some (.int .i64 (l.getD i 0))

theorem RdWords.keep {w w' : World} {v : Value} {l : List Int} (h : RdWords w v l) (hb : Below w.heap.size w w') : RdWords w' v l := by
  obtain ⟨ao, cap, rfl, hl, hc⟩ := h
  exact ⟨ao, cap, rfl, hl, fun i hi => let ⟨b, off, e, h1⟩ := hc i hi; ⟨b, off, e, cell_keep hb h1⟩⟩

theorem rdWords_nil (w : World) : RdWords w (.slice none 0 0) [] := ⟨none, 0, rfl, by simp, fun i hi => by simp at hi⟩

end Go.Proofs.Ytblhmeidbjigaaa

/- A hint that came in, read. -/
set_option linter.unusedSimpArgs false
set_option linter.unusedVariables false
namespace Go.Proofs.Ytblhmeidbjigaaa
open Go.RowKit Go.ChangeShapes Go.WideShapes Go.ChangeAt Go.Deep

theorem Try.cellsInt : Try.prog.cellsOf 3 = 1 := by kernel_rfl
section
variable {H : Type} {enc : TypeId × Value → H} {w : World} {spare : Nat → Bool} {held : Bool}

theorem cells_get {base n : Nat} {a : Addr} {cs : List Value} (h : w.cells? base a n = some cs) : cs.length = n ∧ ∀ i (hi : i < cs.length), w.cell? (a.add i) = some cs[i] := by
  obtain ⟨_, hl, hc⟩ := World.cells?_some h
  refine ⟨hl, fun i hi => ?_⟩
  have := hc i (by omega)
  rw [List.getElem?_eq_getElem hi] at this
  exact this

/-- The address of a slice's first cell, where there is one. -/
theorem addr_lit {a : Addr} {v : Value} (h : w.cell? (a.add 0) = some v) : a = ⟨a.block, a.off, none⟩ := by
  have e : a.add 0 = a := by simp [Addr.add]
  rw [e] at h
  have hs := World.cell?_spot h
  cases a
  simp at hs
  rw [hs]

end

end Go.Proofs.Ytblhmeidbjigaaa

/- A list of words that came in, read. -/
set_option linter.unusedSimpArgs false
set_option linter.unusedVariables false
namespace Go.Proofs.Ytblhmeidbjigaaa
open Go.RowKit Go.ChangeShapes Go.WideShapes Go.ChangeAt Go.Deep

theorem Try.bytesInt : Try.prog.bytesOf 3 = 8 := by kernel_rfl

/-- Words: within 64 bits. -/
def Wide (l : List Int) : Prop := ∀ x ∈ l, -9223372036854775808 ≤ x ∧ x ≤ 9223372036854775807

section
variable {H : Type} {enc : TypeId × Value → H} {w : World} {spare : Nat → Bool} {held : Bool}

theorem open_words {fuel : Nat} {v : Value} {x : DataW H × List MemPlace} (h : DataW.trod enc Try.prog w 0 spare held fuel 36 [v] = some x) (hs : ∀ n ∈ x.1.weights Try.prog 36, n ≤ reachBytes) :
    ∃ l, RdWords w v l ∧ l.length ≤ 17592186044416 ∧ Wide l := by
  rcases open_slice Try.underlying36 h with ⟨e, _⟩ | ⟨a, len, cap, m, n, D, Pl, e, _, hlc, hcm, hm, hx, hel⟩
  · simp at e
    subst e
    exact ⟨[], rdWords_nil w, by simp, fun x hx => by cases hx⟩
  · simp at e
    subst e
    have hlm : len ≤ m := by rw [hm]; split <;> omega
    have key : ∀ i, i < len → ∃ p : Int, w.cell? (a.add i) = some (.int .i64 p) ∧ -9223372036854775808 ≤ p ∧ p ≤ 9223372036854775807 := by
      intro i hi
      obtain ⟨cs', hc, ht⟩ := hel i (by omega)
      rw [Try.cellsInt] at hc
      obtain ⟨x0, rfl, _, hwf⟩ := DataW.trod_int Try.underlying3 ht
      have := (cells_get hc).2
      refine ⟨x0, ?_, ?_⟩
      · have := this 0 (by simp); simpa [add_add] using this
      · simp only [Lit.wf, Bool.and_eq_true, decide_eq_true_eq] at hwf
        exact ⟨Int.le_trans (by decide) hwf.1, Int.le_trans hwf.2 (by decide)⟩
    obtain ⟨f, hf⟩ := @choose_lt Int ⟨0⟩ len _ key
    have hw : len * 8 ≤ reachBytes := by
      have := hs ((len + (m - len)) * 8) (by rw [hx]; simp [DataW.weights, Try.underlying36, Try.bytesInt])
      omega
    have hlen : len ≤ 17592186044416 := by unfold reachBytes at hw; omega
    refine ⟨(List.range len).map f, ⟨some a, cap, by simp, by simp; omega, fun i hi => ?_⟩, by simpa using hlen, ?_⟩
    · have hi' : i < len := by simpa using hi
      obtain ⟨c1, _⟩ := hf i hi'
      have ha := addr_lit (by simpa using (hf 0 (by omega)).1)
      rw [ha, Addr.add_lit] at c1
      refine ⟨a.block, a.off, by rw [← ha], ?_⟩
      rw [c1]; simp [List.getD, hi']
    · intro x hx
      obtain ⟨i, hi, rfl⟩ := List.mem_map.1 hx
      exact (hf i (by simpa using hi)).2

set_option maxRecDepth 100000 in
theorem open_words_arg {v : Value} {d : DataW H} {p : List MemPlace} {r : Reach} {b0 : Nat} (hv : Value.okWide Try.prog w r b0 36 v) (h : DataW.Trod enc Try.prog w 0 spare held 36 v d p) (hs : ∀ n ∈ d.weights Try.prog 36, n ≤ reachBytes) :
    ∃ l, RdWords w v l ∧ l.length ≤ 17592186044416 ∧ Wide l := by
  obtain ⟨a, len, cap, rfl⟩ := okWide_slice Try.underlying36 hv
  obtain ⟨fuel, hf⟩ := h
  exact open_words (x := (d, p)) (by simpa [Value.cells] using hf) hs

end

end Go.Proofs.Ytblhmeidbjigaaa
