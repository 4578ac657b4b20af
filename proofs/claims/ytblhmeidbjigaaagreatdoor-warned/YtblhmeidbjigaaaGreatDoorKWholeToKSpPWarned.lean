/- A program out of raw numbers. -/
import Derived.Test.YtblhmeidbjigaaaGreatDoorRows
import Derived.WalkKit
import Derived.WalkSpells
import Derived.WalkLawsBesides
import Derived.Laws.BytesArg
import Derived.Deep.QuietTactic
import Derived.BigQuiet
import Derived.Deep.RegionHeld3
import Derived.Lib.ItoaNum
import Derived.Lib.ItoaLen
import Derived.OpenShut
import Derived.Maps.AppendAt
import Derived.StillTailTactics
import Derived.ProofKit
import Derived.SizedLaws
import Derived.Deep.Slices
import Derived.Lib.SmallJoins
import Derived.Deep.RegionLaw
import Derived.Deep.AppendLies
import Derived.Shelf.Strconv.Itoa3
import Derived.Shelf.Lay
import Derived.Ground.NamesProg
import Derived.Lib.Hide
import Derived.BigRegion
import Derived.Test.YtblhmeidbjigaaaGreatDoorCCpJToKMnPWarned

set_option linter.unusedSimpArgs false
set_option linter.unusedVariables false
namespace Go.Proofs.YtblhmeidbjigaaaGreatDoor
open Go.RowKit

theorem Rolls.away {w w0 : World} {R : Nat} {ao : Option Addr} {n cap k : Nat} (h : Rolls w R ao n cap k) (h0 : RdInts w0 (.slice ao n cap) n) {g i : Nat} (hg : w0.heap.size ≤ g) (hgR : R ≠ g) (u : Value) : Rolls (w.setCell ⟨g, i, none⟩ u) R ao n cap k := by
  refine ⟨h.row.unset (a := ⟨g, i, none⟩) hgR _, h.le, ?_, h.off⟩
  obtain ⟨ao', cap', e, hn, hc⟩ := h.rd
  obtain ⟨ao2, cap2, e2, _, hc2⟩ := h0
  simp only [Value.slice.injEq, true_and] at e e2
  obtain ⟨rfl, rfl⟩ := e
  obtain ⟨rfl, rfl⟩ := e2
  refine ⟨ao, cap, rfl, hn, fun i hi => ?_⟩
  obtain ⟨b, off, x, e1, h1, h2, h3⟩ := hc i hi
  obtain ⟨b2, off2, x2, e2, _, _, h4⟩ := hc2 i hi
  rw [e1] at e2
  simp only [Option.some.injEq, Addr.mk.injEq, and_true] at e2
  obtain ⟨rfl, rfl⟩ := e2
  have := World.block_lt_of_cell? _ _ h4
  exact ⟨b, off, x, e1, h1, h2, cell_unset (fun e => by simp at e; simp at this; omega) h3⟩

theorem Rolls.belowB {w w' w0 : World} {R : Nat} {ao : Option Addr} {n cap k : Nat} (h : Rolls w R ao n cap k) (h0 : RdInts w0 (.slice ao n cap) n) {B : Nat} (hb : Below B w w') (hB : w0.heap.size ≤ B) (hR : R < B) : Rolls w' R ao n cap k := by
  refine ⟨h.row.below hb hR, h.le, ?_, h.off⟩
  obtain ⟨ao', cap', e, hn, hc⟩ := h.rd
  obtain ⟨ao2, cap2, e2, _, hc2⟩ := h0
  simp only [Value.slice.injEq, true_and] at e e2
  obtain ⟨rfl, rfl⟩ := e
  obtain ⟨rfl, rfl⟩ := e2
  refine ⟨ao, cap, rfl, hn, fun i hi => ?_⟩
  obtain ⟨b, off, x, e1, h1, h2, h3⟩ := hc i hi
  obtain ⟨b2, off2, x2, e2, _, _, h4⟩ := hc2 i hi
  rw [e1] at e2
  simp only [Option.some.injEq, Addr.mk.injEq, and_true] at e2
  obtain ⟨rfl, rfl⟩ := e2
  have := World.block_lt_of_cell? _ _ h4
  exact ⟨b, off, x, e1, h1, h2, (hb.cell (by simp at this ⊢; omega)).trans h3⟩

theorem RdInts.keep {w w' : World} {v : Value} {n : Nat} (h : RdInts w v n) (hb : Below w.heap.size w w') : RdInts w' v n := by
  obtain ⟨ao', cap', e, hn, hc⟩ := h
  exact ⟨ao', cap', e, hn, fun i hi => let ⟨b, off, x, e1, h1, h2, h3⟩ := hc i hi; ⟨b, off, x, e1, h1, h2, cell_keep hb h3⟩⟩

/-- Rolls that begin, in a block that is new. -/
theorem Rolls.fresh {w w' : World} {R : Nat} {ao : Option Addr} {n cap : Nat} (h : RdInts w (.slice ao n cap) n) (hb : Below w.heap.size w w') (hrow : Row w' R 111 [.slice ao n cap, .int .i64 0]) (hR : w.heap.size ≤ R) : Rolls w' R ao n cap 0 := by
  refine ⟨hrow, Nat.zero_le _, h.keep hb, fun hn b o e => ?_⟩
  obtain ⟨ao', cap', e0, _, hc⟩ := h
  simp only [Value.slice.injEq, true_and] at e0
  obtain ⟨rfl, rfl⟩ := e0
  obtain ⟨b2, off2, x2, e2, _, _, h4⟩ := hc 0 hn
  rw [e] at e2
  simp only [Option.some.injEq, Addr.mk.injEq, and_true] at e2
  obtain ⟨rfl, rfl⟩ := e2
  have := World.block_lt_of_cell? _ _ h4
  simp at this
  omega

set_option maxRecDepth 100000 in
set_option maxHeartbeats 8000000 in
theorem whole_cps (ao : Option Addr) (n cap : Nat) (w : World) (hraw : RdInts w (.slice ao n cap) n) (Post : Ending → World → Prop)
    (hp : ∀ a0 a1 a2 a3 v bv w', progGood ⟨a0, a1, a2, a3, bdat bv⟩ = true → OwnBlocks w' w.heap.size v bv → Below w.heap.size w w' → Post (.returned (.agg #[.int .i64 a0, .int .i64 a1, .int .i64 a2, .int .i64 a3, v])) w') :
    Calls Tryz.prog 42 #[.slice ao n cap] w Post := by
  obtain ⟨i0, ii, iz0, iz1, iz2⟩ := info_parts Tryz.infoBlk
  have rA : Row (((w.alloc (.cells #[.int .i64 0, .int .i64 0, .int .i64 0, .int .i64 0, .slice none 0 0] 33)).alloc (.cells #[.slice ao n cap, .int .i64 0] 111)).alloc (.cells #[.int .i64 0, .int .i64 0, .int .i64 0, .int .i64 0, .slice none 0 0] 33)) w.heap.size 33 [.int .i64 0, .int .i64 0, .int .i64 0, .int .i64 0, .slice none 0 0] := by
    have q : Row (w.alloc (.cells #[.int .i64 0, .int .i64 0, .int .i64 0, .int .i64 0, .slice none 0 0] 33)) w.heap.size 33 [.int .i64 0, .int .i64 0, .int .i64 0, .int .i64 0, .slice none 0 0] := heap_alloc_new w _
    exact (q.alloc _).alloc _
  have rR : Row (((w.alloc (.cells #[.int .i64 0, .int .i64 0, .int .i64 0, .int .i64 0, .slice none 0 0] 33)).alloc (.cells #[.slice ao n cap, .int .i64 0] 111)).alloc (.cells #[.int .i64 0, .int .i64 0, .int .i64 0, .int .i64 0, .slice none 0 0] 33)) (w.heap.size + 1) 111 [.slice ao n cap, .int .i64 0] := by
    have q : Row ((w.alloc (.cells #[.int .i64 0, .int .i64 0, .int .i64 0, .int .i64 0, .slice none 0 0] 33)).alloc (.cells #[.slice ao n cap, .int .i64 0] 111)) (w.heap.size + 1) 111 [.slice ao n cap, .int .i64 0] := heap_alloc2_new w _ _
    exact q.alloc _
  have rP : Row (((w.alloc (.cells #[.int .i64 0, .int .i64 0, .int .i64 0, .int .i64 0, .slice none 0 0] 33)).alloc (.cells #[.slice ao n cap, .int .i64 0] 111)).alloc (.cells #[.int .i64 0, .int .i64 0, .int .i64 0, .int .i64 0, .slice none 0 0] 33)) (w.heap.size + 2) 33 [.int .i64 0, .int .i64 0, .int .i64 0, .int .i64 0, .slice none 0 0] := by
    have q := heap_alloc2_new (w.alloc (.cells #[.int .i64 0, .int .i64 0, .int .i64 0, .int .i64 0, .slice none 0 0] 33)) (.cells #[.slice ao n cap, .int .i64 0] 111) (.cells #[.int .i64 0, .int .i64 0, .int .i64 0, .int .i64 0, .slice none 0 0] 33)
    simp only [World.size_alloc] at q
    exact q
  have hb0 : Below w.heap.size w (((w.alloc (.cells #[.int .i64 0, .int .i64 0, .int .i64 0, .int .i64 0, .slice none 0 0] 33)).alloc (.cells #[.slice ao n cap, .int .i64 0] 111)).alloc (.cells #[.int .i64 0, .int .i64 0, .int .i64 0, .int .i64 0, .slice none 0 0] 33)) := (((Below.refl w.heap.size w).alloc (Nat.le_refl _) _).alloc (by simp) _).alloc (by simp; omega) _
  have ro0 := Rolls.fresh hraw hb0 rR (by omega)
  have ke : Keep (fun g => g = w.heap.size + 1) w (((w.alloc (.cells #[.int .i64 0, .int .i64 0, .int .i64 0, .int .i64 0, .slice none 0 0] 33)).alloc (.cells #[.slice ao n cap, .int .i64 0] 111)).alloc (.cells #[.int .i64 0, .int .i64 0, .int .i64 0, .int .i64 0, .slice none 0 0] 33)) := (((Keep.refl _ _).alloc _).alloc _).alloc _
  clear rR hb0
  go_enter Tryz.func42, Tryz.ntmps42
  go_wp2_with fail
  refine next_cps (w.heap.size + 1) ao n cap _ 8 _ ro0 (by omega) _ ?_
  intro x0 k0 w0 xa0 xb0 hr hk hzz
  have ro := hr
  have rA := rA.kept hk (by omega)
  have rP := rP.kept hk (by omega)
  have ke := ke.trans hk
  clear hr hk
  have pc := rP.cell (i := 1) rfl
  have pf := rP.frozen 1
  have ro1 := ro.away hraw (g := (w.heap.size + 2)) (i := 1) (by omega) (by omega) (.int .i64 (1 + x0))
  have rA := rA.unset (a := ⟨(w.heap.size + 2), 1, none⟩) (by show w.heap.size ≠ w.heap.size + 2; omega) (.int .i64 (1 + x0))
  have rP := rP.set 1 (.int .i64 (1 + x0))
  have ke := ke.setCell (p := ⟨(w.heap.size + 2), 1, none⟩) (.inr (by show w.heap.size ≤ w.heap.size + 2; omega)) (.int .i64 (1 + x0))
  clear ro
  have p1 := rP.cell (i := 1) (u := .int .i64 (1 + x0)) rfl
  go_wp2_with fail
  refine next_cps (w.heap.size + 1) ao n cap _ (1 + x0 + 1) _ ro1 (by omega) _ ?_
  intro x1 k1 w1 xa1 xb1 hr hk hzz
  have ro := hr
  have rA := rA.kept hk (by omega)
  have rP := rP.kept hk (by omega)
  have ke := ke.trans hk
  clear hr hk
  clear p1
  have pc := rP.cell (i := 0) rfl
  have pf := rP.frozen 0
  have ro2 := ro.away hraw (g := (w.heap.size + 2)) (i := 0) (by omega) (by omega) (.int .i64 x1)
  have rA := rA.unset (a := ⟨(w.heap.size + 2), 0, none⟩) (by show w.heap.size ≠ w.heap.size + 2; omega) (.int .i64 x1)
  have rP := rP.set 0 (.int .i64 x1)
  have ke := ke.setCell (p := ⟨(w.heap.size + 2), 0, none⟩) (.inr (by show w.heap.size ≤ w.heap.size + 2; omega)) (.int .i64 x1)
  clear ro
  go_wp2_with fail
  refine next_cps (w.heap.size + 1) ao n cap _ 9 _ ro2 (by omega) _ ?_
  intro x2 k2 w2 xa2 xb2 hr hk hzz
  have ro := hr
  have rA := rA.kept hk (by omega)
  have rP := rP.kept hk (by omega)
  have ke := ke.trans hk
  clear hr hk
  have pc := rP.cell (i := 2) rfl
  have pf := rP.frozen 2
  have ro3 := ro.away hraw (g := (w.heap.size + 2)) (i := 2) (by omega) (by omega) (.int .i64 x2)
  have rA := rA.unset (a := ⟨(w.heap.size + 2), 2, none⟩) (by show w.heap.size ≠ w.heap.size + 2; omega) (.int .i64 x2)
  have rP := rP.set 2 (.int .i64 x2)
  have ke := ke.setCell (p := ⟨(w.heap.size + 2), 2, none⟩) (.inr (by show w.heap.size ≤ w.heap.size + 2; omega)) (.int .i64 x2)
  clear ro
  go_wp2_with fail
  refine next_cps (w.heap.size + 1) ao n cap _ 9 _ ro3 (by omega) _ ?_
  intro x3 k3 w3 xa3 xb3 hr hk hzz
  have ro := hr
  have rA := rA.kept hk (by omega)
  have rP := rP.kept hk (by omega)
  have ke := ke.trans hk
  clear hr hk
  have pc := rP.cell (i := 3) rfl
  have pf := rP.frozen 3
  have ro4 := ro.away hraw (g := (w.heap.size + 2)) (i := 3) (by omega) (by omega) (.int .i64 x3)
  have rA := rA.unset (a := ⟨(w.heap.size + 2), 3, none⟩) (by show w.heap.size ≠ w.heap.size + 2; omega) (.int .i64 x3)
  have rP := rP.set 3 (.int .i64 x3)
  have ke := ke.setCell (p := ⟨(w.heap.size + 2), 3, none⟩) (.inr (by show w.heap.size ≤ w.heap.size + 2; omega)) (.int .i64 x3)
  clear ro
  by_cases hs0 : x3 = 0
  · have hs1 : (x3 == 0) = true := by simp [hs0]
    have p3 := rP.cell (i := 3) (u := .int .i64 x3) rfl
    have hms : (13 : Int) ≤ 13 ∨ 1 ≤ x3 := by omega
    clear hs0
    go_wp2_with fail
    refine next_cps (w.heap.size + 1) ao n cap _ 6 _ ro4 (by omega) _ ?_
    intro x4 k4 w4 xa4 xb4 hr hk hz4
    have ro := hr
    have rA := rA.kept hk (by omega)
    have rP := rP.kept hk (by omega)
    have ke := ke.trans hk
    have hz : w.heap.size + 3 ≤ w4.heap.size := by have := rP.lt; omega
    clear hr hk p3 ro4
    go_wp2
    go_loopw [7] (fun i wr => ∃ (j : Nat) (v : Value) (bv : List (BlockD × Value)) (kk : Nat), (j : Int) ≤ 1 + x4 ∧ i = .int .i64 j ∧ Hid (bv.length = j) ∧ Hid (∀ x ∈ bv, blockGood (1 + x0) x3 (1 + x4) x.1 = true) ∧ Row wr w.heap.size 33 [.int .i64 0, .int .i64 0, .int .i64 0, .int .i64 0, .slice none 0 0] ∧ Row wr (w.heap.size + 2) 33 [.int .i64 x1, .int .i64 (1 + x0), .int .i64 x2, .int .i64 x3, v] ∧
        OwnBlocks wr (w.heap.size + 3) v bv ∧ Rolls wr (w.heap.size + 1) ao n cap kk ∧ Keep (fun g => g = w.heap.size + 1) w wr ∧ w.heap.size + 3 ≤ wr.heap.size)
      (fun i _ => (1 + x4).toNat - (intOf i).toNat)
    case atStart => exact ⟨0, .slice none 0 0, [], _, by omega, rfl, rfl, (fun x hx => by cases hx), rA, rP, ownBlocks_nil _ _, ro, ke, hz⟩
    case round =>
      clear rA rP ke ro hz hz4 w4
      obtain ⟨j, v, bv, kk, hj, rfl, hvl, hbg, rA, rP, own, ro, ke, hz⟩ := hrel
      obtain ⟨bo, bc, rfl⟩ := owns_slice own.row
      have p1 := rP.cell (i := 1) rfl
      have p3 := rP.cell (i := 3) rfl
      by_cases hlt : (j : Int) < 1 + x4
      · go_wp2_with fail
        refine block_cps (w.heap.size + 1) ao n cap kk 13 (1 + x0) x3 (1 + x4) _ ro (by omega) (by omega) (by omega) hms (by omega) _ ?_
        intro sv l a b c d k2 w2 hg hsv hr2 hk2
        obtain ⟨so, sc, rfl⟩ := owns_slice hsv
        have rA2 := rA.kept hk2 (by omega)
        have rP2 := rP.kept hk2 (by omega)
        have own2 := own.apartFrom hk2 (fun g hg => by omega)
        have ke2 := ke.trans hk2
        have hz2 := hk2.size
        have hzl : w.heap.size + 2 < w2.heap.size := by omega
        have hzq : w.heap.size + 3 ≤ w2.heap.size := by omega
        have p4 := rP2.cell (i := 4) rfl
        have hfree : ∀ y ∈ bv, ∀ g, y.2.ownBlock = some g → (Value.slice so l.length sc).ownBlock ≠ some g := by
          intro y hy g hg e
          have q1 := ((own.each y hy).lt g hg).2
          have q2 := (hsv.lt g e).1
          omega
        have HG : Hid (∀ x ∈ bv ++ [(⟨l, ⟨a, b, c, d⟩⟩, Value.slice so l.length sc)], blockGood (1 + x0) x3 (1 + x4) x.1 = true) := by
          intro x hx
          rcases List.mem_append.1 hx with hx | hx
          · exact hbg.out x hx
          · simp at hx; subst hx; exact hg
        have hsv2 := owns_base hsv (show w.heap.size + 3 ≤ _ by omega)
        clear rA rP own ke hk2 p1 p3 ro hsv hg hbg
        go_wp2_with (at_builtin; refine wpList_append_own _ rfl _ _ 31 rfl (w.heap.size + 3) 40 i0 (.agg #[.slice none 0 0, .int .i64 0, .int .i64 0, .int .i64 0, .int .i64 0]) 5 56 Tryz.underlying31 ii iz0 iz1 iz2 rfl (by decide) _ _ _ rfl ((own2.row.alloc _).alloc _) ⟨w2.heap.size + 1, 0, none⟩ 1 1 [.slice so l.length sc, .int .i64 a, .int .i64 b, .int .i64 c, .int .i64 d] rfl rfl ?c113 five_one ?c313 ?c413 ?c513 ?_)
        case c113 => simpa using five_new (w2.alloc _) _ _ _ _ _ _
        case c313 => have := hvl.out; unfold maxLen; omega
        case c413 => have := hvl.out; omega
        case c513 => first | omega | (simp; omega)
        intro v' w3 hown' hgrow _
        have own3 : OwnBlocks w3 (w.heap.size + 3) v' (bv ++ [(⟨l, ⟨a, b, c, d⟩⟩, .slice so l.length sc)]) := ((own2.alloc _).alloc _).snoc ((hsv2.alloc _).alloc _) hfree hgrow hown'
        have hb2 := ((((Below.refl (w.heap.size + 3) w2).alloc hzq _).alloc (by simp; omega) _).grown hgrow (by simp; omega) (fun g hg => (own2.row.lt g hg).1))
        have rA3 := rA2.below hb2 (by omega)
        have rP3 := rP2.below hb2 (by omega)
        have ro3 := hr2.belowB hraw hb2 (by omega) (by omega)
        have ke3 := ke2.below hb2 (by omega)
        have hz3 := hb2.size
        have y4 := rP3.cell (i := 4) rfl
        have yf := rP3.frozen 4
        obtain ⟨bo', bc', hv'⟩ := owns_slice own3.row
        rw [List.length_append] at hv'
        simp only [List.length_cons, List.length_nil, Nat.zero_add] at hv'
        subst hv'
        have rP4 := rP3.set 4 (.slice bo' (bv.length + 1) bc')
        have rA4 := rA3.unset (a := ⟨(w.heap.size + 2), 4, none⟩) (by show w.heap.size ≠ w.heap.size + 2; omega) (.slice bo' (bv.length + 1) bc')
        have ro4 := ro3.away hraw (g := (w.heap.size + 2)) (i := 4) (by omega) (by omega) (.slice bo' (bv.length + 1) bc')
        have ke4 := ke3.setCell (p := ⟨(w.heap.size + 2), 4, none⟩) (.inr (by show w.heap.size ≤ w.heap.size + 2; omega)) (.slice bo' (bv.length + 1) bc')
        have own4 := own3.set (a := ⟨(w.heap.size + 2), 4, none⟩) (by show w.heap.size + 2 < w.heap.size + 3; omega) (.slice bo' (bv.length + 1) bc')
        clear hgrow hown' hb2 rA2 rP2 own2 hr2 ke2 p4 rA3 rP3 ro3 ke3 own3 hsv2 hfree
        go_wp2
        go_roundw
        case rel => exact ⟨j + 1, _, _, k2, by omega, by go_num, by show List.length _ = _; have := hvl.out; simp; exact this, HG, rA4, rP4, own4, ro4, ke4, by simp; omega⟩
        case measure => simp [intOf]; omega
      · have hje : (j : Int) = 1 + x4 := by omega
        have b0 := rP.cell (i := 0) rfl
        have b2 := rP.cell (i := 2) rfl
        have b4 := rP.cell (i := 4) rfl
        have a0 := rA.cell (i := 0) rfl
        have a1 := rA.cell (i := 1) rfl
        have a2 := rA.cell (i := 2) rfl
        have a3 := rA.cell (i := 3) rfl
        have a4 := rA.cell (i := 4) rfl
        have f0 := rA.frozen 0
        have f1 := rA.frozen 1
        have f2 := rA.frozen 2
        have f3 := rA.frozen 3
        have f4 := rA.frozen 4
        have hgood : progGood ⟨x1, 1 + x0, x2, x3, bdat bv⟩ = true := by
          have e := hvl.out
          simp only [progGood, blocksGood, Bool.and_eq_true, decide_eq_true_eq, List.all_eq_true, bdat_length]
          refine ⟨⟨⟨⟨⟨by omega, by omega⟩, by omega⟩, by omega⟩, by omega⟩, ?_⟩
          intro x hx
          obtain ⟨y, hy, rfl⟩ := List.mem_map.1 hx
          have := hbg.out y hy
          rw [e, hje]
          exact this
        have hfin := hp x1 (1 + x0) x2 x3 (.slice bo bv.length bc) bv (((((wr.setCell ⟨w.heap.size, 0, none⟩ (.int .i64 x1)).setCell ⟨w.heap.size, 1, none⟩ (.int .i64 (1 + x0))).setCell ⟨w.heap.size, 2, none⟩ (.int .i64 x2)).setCell ⟨w.heap.size, 3, none⟩ (.int .i64 x3)).setCell ⟨w.heap.size, 4, none⟩ (.slice bo bv.length bc)) hgood
          ((((((own.set (by simp) _).set (by simp) _).set (by simp) _).set (by simp) _).set (by simp) _).base (by omega))
          ((((((ke.setCell (.inr (by simp)) _).setCell (.inr (by simp)) _).setCell (.inr (by simp)) _).setCell (.inr (by simp)) _).setCell (.inr (by simp)) _).toBelow (Nat.le_refl _) (fun g hg => by omega))
        have HF : Hid (Post (.returned (.agg #[.int .i64 x1, .int .i64 (1 + x0), .int .i64 x2, .int .i64 x3, .slice bo bv.length bc])) (((((wr.setCell ⟨w.heap.size, 0, none⟩ (.int .i64 x1)).setCell ⟨w.heap.size, 1, none⟩ (.int .i64 (1 + x0))).setCell ⟨w.heap.size, 2, none⟩ (.int .i64 x2)).setCell ⟨w.heap.size, 3, none⟩ (.int .i64 x3)).setCell ⟨w.heap.size, 4, none⟩ (.slice bo bv.length bc))) := hfin
        clear hfin hp hgood own ro ke rA rP
        go_wp2
        exact bodyPost_ret (v := .agg #[.int .i64 x1, .int .i64 (1 + x0), .int .i64 x2, .int .i64 x3, .slice bo bv.length bc]) (by simp [results, Tryz.results42, go_sem, a0, a1, a2, a3, a4]) rfl HF.out
  · have hs1 : (x3 == 0) = false := by simp [hs0]
    have p3 := rP.cell (i := 3) (u := .int .i64 x3) rfl
    have hms : (15 : Int) ≤ 13 ∨ 1 ≤ x3 := by omega
    clear hs0
    go_wp2_with fail
    refine next_cps (w.heap.size + 1) ao n cap _ 6 _ ro4 (by omega) _ ?_
    intro x4 k4 w4 xa4 xb4 hr hk hz4
    have ro := hr
    have rA := rA.kept hk (by omega)
    have rP := rP.kept hk (by omega)
    have ke := ke.trans hk
    have hz : w.heap.size + 3 ≤ w4.heap.size := by have := rP.lt; omega
    clear hr hk p3 ro4
    go_wp2
    go_loopw [7] (fun i wr => ∃ (j : Nat) (v : Value) (bv : List (BlockD × Value)) (kk : Nat), (j : Int) ≤ 1 + x4 ∧ i = .int .i64 j ∧ Hid (bv.length = j) ∧ Hid (∀ x ∈ bv, blockGood (1 + x0) x3 (1 + x4) x.1 = true) ∧ Row wr w.heap.size 33 [.int .i64 0, .int .i64 0, .int .i64 0, .int .i64 0, .slice none 0 0] ∧ Row wr (w.heap.size + 2) 33 [.int .i64 x1, .int .i64 (1 + x0), .int .i64 x2, .int .i64 x3, v] ∧
        OwnBlocks wr (w.heap.size + 3) v bv ∧ Rolls wr (w.heap.size + 1) ao n cap kk ∧ Keep (fun g => g = w.heap.size + 1) w wr ∧ w.heap.size + 3 ≤ wr.heap.size)
      (fun i _ => (1 + x4).toNat - (intOf i).toNat)
    case atStart => exact ⟨0, .slice none 0 0, [], _, by omega, rfl, rfl, (fun x hx => by cases hx), rA, rP, ownBlocks_nil _ _, ro, ke, hz⟩
    case round =>
      clear rA rP ke ro hz hz4 w4
      obtain ⟨j, v, bv, kk, hj, rfl, hvl, hbg, rA, rP, own, ro, ke, hz⟩ := hrel
      obtain ⟨bo, bc, rfl⟩ := owns_slice own.row
      have p1 := rP.cell (i := 1) rfl
      have p3 := rP.cell (i := 3) rfl
      by_cases hlt : (j : Int) < 1 + x4
      · go_wp2_with fail
        refine block_cps (w.heap.size + 1) ao n cap kk 15 (1 + x0) x3 (1 + x4) _ ro (by omega) (by omega) (by omega) hms (by omega) _ ?_
        intro sv l a b c d k2 w2 hg hsv hr2 hk2
        obtain ⟨so, sc, rfl⟩ := owns_slice hsv
        have rA2 := rA.kept hk2 (by omega)
        have rP2 := rP.kept hk2 (by omega)
        have own2 := own.apartFrom hk2 (fun g hg => by omega)
        have ke2 := ke.trans hk2
        have hz2 := hk2.size
        have hzl : w.heap.size + 2 < w2.heap.size := by omega
        have hzq : w.heap.size + 3 ≤ w2.heap.size := by omega
        have p4 := rP2.cell (i := 4) rfl
        have hfree : ∀ y ∈ bv, ∀ g, y.2.ownBlock = some g → (Value.slice so l.length sc).ownBlock ≠ some g := by
          intro y hy g hg e
          have q1 := ((own.each y hy).lt g hg).2
          have q2 := (hsv.lt g e).1
          omega
        have HG : Hid (∀ x ∈ bv ++ [(⟨l, ⟨a, b, c, d⟩⟩, Value.slice so l.length sc)], blockGood (1 + x0) x3 (1 + x4) x.1 = true) := by
          intro x hx
          rcases List.mem_append.1 hx with hx | hx
          · exact hbg.out x hx
          · simp at hx; subst hx; exact hg
        have hsv2 := owns_base hsv (show w.heap.size + 3 ≤ _ by omega)
        clear rA rP own ke hk2 p1 p3 ro hsv hg hbg
        go_wp2_with (at_builtin; refine wpList_append_own _ rfl _ _ 31 rfl (w.heap.size + 3) 40 i0 (.agg #[.slice none 0 0, .int .i64 0, .int .i64 0, .int .i64 0, .int .i64 0]) 5 56 Tryz.underlying31 ii iz0 iz1 iz2 rfl (by decide) _ _ _ rfl ((own2.row.alloc _).alloc _) ⟨w2.heap.size + 1, 0, none⟩ 1 1 [.slice so l.length sc, .int .i64 a, .int .i64 b, .int .i64 c, .int .i64 d] rfl rfl ?c115 five_one ?c315 ?c415 ?c515 ?_)
        case c115 => simpa using five_new (w2.alloc _) _ _ _ _ _ _
        case c315 => have := hvl.out; unfold maxLen; omega
        case c415 => have := hvl.out; omega
        case c515 => first | omega | (simp; omega)
        intro v' w3 hown' hgrow _
        have own3 : OwnBlocks w3 (w.heap.size + 3) v' (bv ++ [(⟨l, ⟨a, b, c, d⟩⟩, .slice so l.length sc)]) := ((own2.alloc _).alloc _).snoc ((hsv2.alloc _).alloc _) hfree hgrow hown'
        have hb2 := ((((Below.refl (w.heap.size + 3) w2).alloc hzq _).alloc (by simp; omega) _).grown hgrow (by simp; omega) (fun g hg => (own2.row.lt g hg).1))
        have rA3 := rA2.below hb2 (by omega)
        have rP3 := rP2.below hb2 (by omega)
        have ro3 := hr2.belowB hraw hb2 (by omega) (by omega)
        have ke3 := ke2.below hb2 (by omega)
        have hz3 := hb2.size
        have y4 := rP3.cell (i := 4) rfl
        have yf := rP3.frozen 4
        obtain ⟨bo', bc', hv'⟩ := owns_slice own3.row
        rw [List.length_append] at hv'
        simp only [List.length_cons, List.length_nil, Nat.zero_add] at hv'
        subst hv'
        have rP4 := rP3.set 4 (.slice bo' (bv.length + 1) bc')
        have rA4 := rA3.unset (a := ⟨(w.heap.size + 2), 4, none⟩) (by show w.heap.size ≠ w.heap.size + 2; omega) (.slice bo' (bv.length + 1) bc')
        have ro4 := ro3.away hraw (g := (w.heap.size + 2)) (i := 4) (by omega) (by omega) (.slice bo' (bv.length + 1) bc')
        have ke4 := ke3.setCell (p := ⟨(w.heap.size + 2), 4, none⟩) (.inr (by show w.heap.size ≤ w.heap.size + 2; omega)) (.slice bo' (bv.length + 1) bc')
        have own4 := own3.set (a := ⟨(w.heap.size + 2), 4, none⟩) (by show w.heap.size + 2 < w.heap.size + 3; omega) (.slice bo' (bv.length + 1) bc')
        clear hgrow hown' hb2 rA2 rP2 own2 hr2 ke2 p4 rA3 rP3 ro3 ke3 own3 hsv2 hfree
        go_wp2
        go_roundw
        case rel => exact ⟨j + 1, _, _, k2, by omega, by go_num, by show List.length _ = _; have := hvl.out; simp; exact this, HG, rA4, rP4, own4, ro4, ke4, by simp; omega⟩
        case measure => simp [intOf]; omega
      · have hje : (j : Int) = 1 + x4 := by omega
        have b0 := rP.cell (i := 0) rfl
        have b2 := rP.cell (i := 2) rfl
        have b4 := rP.cell (i := 4) rfl
        have a0 := rA.cell (i := 0) rfl
        have a1 := rA.cell (i := 1) rfl
        have a2 := rA.cell (i := 2) rfl
        have a3 := rA.cell (i := 3) rfl
        have a4 := rA.cell (i := 4) rfl
        have f0 := rA.frozen 0
        have f1 := rA.frozen 1
        have f2 := rA.frozen 2
        have f3 := rA.frozen 3
        have f4 := rA.frozen 4
        have hgood : progGood ⟨x1, 1 + x0, x2, x3, bdat bv⟩ = true := by
          have e := hvl.out
          simp only [progGood, blocksGood, Bool.and_eq_true, decide_eq_true_eq, List.all_eq_true, bdat_length]
          refine ⟨⟨⟨⟨⟨by omega, by omega⟩, by omega⟩, by omega⟩, by omega⟩, ?_⟩
          intro x hx
          obtain ⟨y, hy, rfl⟩ := List.mem_map.1 hx
          have := hbg.out y hy
          rw [e, hje]
          exact this
        have hfin := hp x1 (1 + x0) x2 x3 (.slice bo bv.length bc) bv (((((wr.setCell ⟨w.heap.size, 0, none⟩ (.int .i64 x1)).setCell ⟨w.heap.size, 1, none⟩ (.int .i64 (1 + x0))).setCell ⟨w.heap.size, 2, none⟩ (.int .i64 x2)).setCell ⟨w.heap.size, 3, none⟩ (.int .i64 x3)).setCell ⟨w.heap.size, 4, none⟩ (.slice bo bv.length bc)) hgood
          ((((((own.set (by simp) _).set (by simp) _).set (by simp) _).set (by simp) _).set (by simp) _).base (by omega))
          ((((((ke.setCell (.inr (by simp)) _).setCell (.inr (by simp)) _).setCell (.inr (by simp)) _).setCell (.inr (by simp)) _).setCell (.inr (by simp)) _).toBelow (Nat.le_refl _) (fun g hg => by omega))
        have HF : Hid (Post (.returned (.agg #[.int .i64 x1, .int .i64 (1 + x0), .int .i64 x2, .int .i64 x3, .slice bo bv.length bc])) (((((wr.setCell ⟨w.heap.size, 0, none⟩ (.int .i64 x1)).setCell ⟨w.heap.size, 1, none⟩ (.int .i64 (1 + x0))).setCell ⟨w.heap.size, 2, none⟩ (.int .i64 x2)).setCell ⟨w.heap.size, 3, none⟩ (.int .i64 x3)).setCell ⟨w.heap.size, 4, none⟩ (.slice bo bv.length bc))) := hfin
        clear hfin hp hgood own ro ke rA rP
        go_wp2
        exact bodyPost_ret (v := .agg #[.int .i64 x1, .int .i64 (1 + x0), .int .i64 x2, .int .i64 x3, .slice bo bv.length bc]) (by simp [results, Tryz.results42, go_sem, a0, a1, a2, a3, a4]) rfl HF.out

end Go.Proofs.YtblhmeidbjigaaaGreatDoor

/- What an operation writes, reads and lets out (twinkeep.writes, reads, tells, loose). -/
set_option linter.unusedSimpArgs false
set_option linter.unusedVariables false
namespace Go.Proofs.YtblhmeidbjigaaaGreatDoor
open Go.RowKit

set_option maxRecDepth 100000 in
set_option maxHeartbeats 1000000 in
theorem kTells_cps (k a b c : Int) (w : World) (Post : Ending → World → Prop) (hp : ∀ z w', (z = true ↔ tellsT ⟨k, a, b, c⟩) → Below w.heap.size w w' → Post (.returned (.bool z)) w') :
    Calls Tryz.prog 82 #[.agg #[.int .i64 k, .int .i64 a, .int .i64 b, .int .i64 c]] w Post := by
  have b0 : Below w.heap.size w (w.alloc (.cells #[.int .i64 k, .int .i64 a, .int .i64 b, .int .i64 c] 77)) := (Below.refl _ _).alloc (Nat.le_refl _) _
  by_cases h1 : k = 11
  · subst h1
    have HF := Lib.hid (hp true _ (by simp [tellsT]) b0)
    clear hp b0
    go_enter Tryz.func82, Tryz.ntmps82
    go_wp2
    exact HF.out
  have e1 : (k == 11) = false := by simp [h1]
  by_cases h2 : k = 12
  · subst h2
    have HF := Lib.hid (hp true _ (by simp [tellsT]) b0)
    clear hp b0
    go_enter Tryz.func82, Tryz.ntmps82
    go_wp2
    exact HF.out
  have e2 : (k == 12) = false := by simp [h2]
  by_cases h3 : k = 13
  · subst h3
    have HF := Lib.hid (hp true _ (by simp [tellsT]) b0)
    clear hp b0
    go_enter Tryz.func82, Tryz.ntmps82
    go_wp2
    exact HF.out
  have e3 : (k == 13) = false := by simp [h3]
  have HF := Lib.hid (hp false _ (by simp [tellsT, h1, h2, h3]) b0)
  clear hp b0 h1 h2 h3
  go_enter Tryz.func82, Tryz.ntmps82
  go_wp2
  exact HF.out

end Go.Proofs.YtblhmeidbjigaaaGreatDoor

/- A run that the document fixes. -/
set_option linter.unusedSimpArgs false
set_option linter.unusedVariables false
namespace Go.Proofs.YtblhmeidbjigaaaGreatDoor
open Go.RowKit

def pWorks : ProgD := ⟨1, 2, 0, 0, [⟨[⟨3, 1, 0, 0⟩], ⟨3, 1, 0, 0⟩⟩]⟩
def sWorks : ByteArray := ⟨#[84, 87, 1, 2, 0, 0, 1, 1, 3, 1, 0, 0, 3, 1, 0, 0]⟩

theorem works_wrap : wrap64 42 = 42 := by unfold wrap64; omega

theorem works_run : runN pWorks.blocks (Int.toNat 1) 0 (begins pWorks [21] [] []) = ⟨1, 42, [], []⟩ := by
  simp [runN, pWorks, begins, regs0, doOps, stepOp, bops, bek, ber, bfin, rg, stI, calcW, RunD.reg, works_wrap]

theorem works_ans : RunAns sWorks [21] [] [] 1 ⟨1, 42, [], []⟩ 0 :=
  .inr ⟨pWorks, by decide, by rfl, .inr (.inr ⟨rfl, ⟨rfl, rfl, rfl⟩, by omega, works_run.symm⟩)⟩

set_option maxRecDepth 100000 in
set_option maxHeartbeats 1000000 in
theorem works_any (w : World) : Calls Tryz.prog 49 #[] w fun e w' => e = .returned (.bool true) ∧ Below w.heap.size w w' := by
  have hal := (Below.refl w.heap.size w).alloc (Nat.le_refl _) (.cells #[.int .i64 21] 3)
  have r0 : RdWords (w.alloc (.cells #[.int .i64 21] 3)) (.slice (some ⟨w.heap.size, 0, none⟩) 1 1) [21] := by
    refine ⟨_, _, rfl, by simp, fun i hi => ⟨w.heap.size, 0, rfl, ?_⟩⟩
    obtain rfl : i = 0 := by simp at hi; omega
    simp
  go_enter Tryz.func49, Tryz.ntmps49
  go_wp2_with fail
  refine tRun_cps sWorks _ _ _ [21] [] [] 1 _ r0 (rdWords_nil _) (rdWords_nil _) (by decide) _ ?_
  intro o e mv lv w1 ha ho
  obtain ⟨rfl, rfl⟩ := ha.one works_ans
  obtain ⟨mo, mc, rfl⟩ := owns_slice ho.mem
  obtain ⟨lo, lc, rfl⟩ := owns_slice ho.leak
  have hz := ho.below.size
  simp at hz
  have hb1 : Below w.heap.size w w1 := hal.trans (ho.below.mono (by simp))
  have hb2 := hb1.alloc (show w.heap.size ≤ w1.heap.size by omega) (.cells #[.int .i64 1, .int .i64 42, .slice mo 0 mc, .slice lo 0 lc] 47)
  clear ha ho hal r0 hb1
  go_wp2
  go_ret
  exact ⟨by simp, hb2⟩

end Go.Proofs.YtblhmeidbjigaaaGreatDoor

/- Operations that change over; pure. -/
set_option linter.unusedSimpArgs false
set_option linter.unusedVariables false
namespace Go.Proofs.YtblhmeidbjigaaaGreatDoor
open Go.RowKit

theorem good_at {a0 a1 a2 a3 : Int} {m : List BlockD} (g : progGood ⟨a0, a1, a2, a3, m⟩ = true) {b : Nat} (hb : b < m.length) : blockGood a1 a3 m.length ⟨bops m b, bfin m b⟩ = true :=
  progGood_block g (m.getD b bz) (getD_mem' hb)

end Go.Proofs.YtblhmeidbjigaaaGreatDoor

/- A hint that came in, read. -/
set_option linter.unusedSimpArgs false
set_option linter.unusedVariables false
namespace Go.Proofs.YtblhmeidbjigaaaGreatDoor
open Go.RowKit Go.ChangeShapes Go.WideShapes Go.ChangeAt Go.Deep

theorem Tryz.cellsInt : Tryz.prog.cellsOf 3 = 1 := by kernel_rfl
section
variable {H : Type} {enc : TypeId × Value → H} {w : World} {spare : Nat → Bool} {held : Bool}

theorem cells_get {base n : Nat} {a : Addr} {cs : List Value} (h : w.cells? base a n = some cs) : cs.length = n ∧ ∀ i (hi : i < cs.length), w.cell? (a.add i) = some cs[i] := by
  obtain ⟨_, hl, hc⟩ := World.cells?_some h
  refine ⟨hl, fun i hi => ?_⟩
  have := hc i (by omega)
  rw [List.getElem?_eq_getElem hi] at this
  exact this

/-- The address of a slice's first cell, where there is one. -/
theorem addr_lit {a : Addr} {v : Value} (h : w.cell? (a.add 0) = some v) : a = ⟨a.block, a.off, none⟩ := by
  have e : a.add 0 = a := by simp [Addr.add]
  rw [e] at h
  have hs := World.cell?_spot h
  cases a
  simp at hs
  rw [hs]

end

end Go.Proofs.YtblhmeidbjigaaaGreatDoor

/- A list of words that came in, read. -/
set_option linter.unusedSimpArgs false
set_option linter.unusedVariables false
namespace Go.Proofs.YtblhmeidbjigaaaGreatDoor
open Go.RowKit Go.ChangeShapes Go.WideShapes Go.ChangeAt Go.Deep

theorem Tryz.bytesInt : Tryz.prog.bytesOf 3 = 8 := by kernel_rfl

/-- Words: within 64 bits. -/
def Wide (l : List Int) : Prop := ∀ x ∈ l, -9223372036854775808 ≤ x ∧ x ≤ 9223372036854775807

section
variable {H : Type} {enc : TypeId × Value → H} {w : World} {spare : Nat → Bool} {held : Bool}

theorem open_words {fuel : Nat} {v : Value} {x : DataW H × List MemPlace} (h : DataW.trod enc Tryz.prog w 0 spare held fuel 30 [v] = some x) (hs : ∀ n ∈ x.1.weights Tryz.prog 30, n ≤ reachBytes) :
    ∃ l, RdWords w v l ∧ l.length ≤ 17592186044416 ∧ Wide l := by
  rcases open_slice Tryz.underlying30 h with ⟨e, _⟩ | ⟨a, len, cap, m, n, D, Pl, e, _, hlc, hcm, hm, hx, hel⟩
  · simp at e
    subst e
    exact ⟨[], rdWords_nil w, by simp, fun x hx => by cases hx⟩
  · simp at e
    subst e
    have hlm : len ≤ m := by rw [hm]; split <;> omega
    have key : ∀ i, i < len → ∃ p : Int, w.cell? (a.add i) = some (.int .i64 p) ∧ -9223372036854775808 ≤ p ∧ p ≤ 9223372036854775807 := by
      intro i hi
      obtain ⟨cs', hc, ht⟩ := hel i (by omega)
      rw [Tryz.cellsInt] at hc
      obtain ⟨x0, rfl, _, hwf⟩ := DataW.trod_int Tryz.underlying3 ht
      have := (cells_get hc).2
      refine ⟨x0, ?_, ?_⟩
      · have := this 0 (by simp); simpa [add_add] using this
      · simp only [Lit.wf, Bool.and_eq_true, decide_eq_true_eq] at hwf
        exact ⟨Int.le_trans (by decide) hwf.1, Int.le_trans hwf.2 (by decide)⟩
    obtain ⟨f, hf⟩ := @choose_lt Int ⟨0⟩ len _ key
    have hw : len * 8 ≤ reachBytes := by
      have := hs ((len + (m - len)) * 8) (by rw [hx]; simp [DataW.weights, Tryz.underlying30, Tryz.bytesInt])
      omega
    have hlen : len ≤ 17592186044416 := by unfold reachBytes at hw; omega
    refine ⟨(List.range len).map f, ⟨some a, cap, by simp, by simp; omega, fun i hi => ?_⟩, by simpa using hlen, ?_⟩
    · have hi' : i < len := by simpa using hi
      obtain ⟨c1, _⟩ := hf i hi'
      have ha := addr_lit (by simpa using (hf 0 (by omega)).1)
      rw [ha, Addr.add_lit] at c1
      refine ⟨a.block, a.off, by rw [← ha], ?_⟩
      rw [c1]; simp [List.getD, hi']
    · intro x hx
      obtain ⟨i, hi, rfl⟩ := List.mem_map.1 hx
      exact (hf i (by simpa using hi)).2

set_option maxRecDepth 100000 in
theorem open_words_arg {v : Value} {d : DataW H} {p : List MemPlace} {r : Reach} {b0 : Nat} (hv : Value.okWide Tryz.prog w r b0 30 v) (h : DataW.Trod enc Tryz.prog w 0 spare held 30 v d p) (hs : ∀ n ∈ d.weights Tryz.prog 30, n ≤ reachBytes) :
    ∃ l, RdWords w v l ∧ l.length ≤ 17592186044416 ∧ Wide l := by
  obtain ⟨a, len, cap, rfl⟩ := okWide_slice Tryz.underlying30 hv
  obtain ⟨fuel, hf⟩ := h
  exact open_words (x := (d, p)) (by simpa [Value.cells] using hf) hs

end

end Go.Proofs.YtblhmeidbjigaaaGreatDoor

/- twinkeep.Same: a source is its own twin. -/
set_option linter.unusedSimpArgs false
set_option linter.unusedVariables false
namespace Go.Proofs.YtblhmeidbjigaaaGreatDoor
open Go.RowKit Go.Deep

theorem RdWords.rawI {w : World} {v : Value} {l : List Int} (h : RdWords w v l) (hw : Wide l) : RdInts w v l.length := by
  obtain ⟨ao, cap, rfl, hl, hc⟩ := h
  refine ⟨ao, cap, rfl, hl, fun i hi => ?_⟩
  obtain ⟨b, off, e, h1⟩ := hc i hi
  have hm : l.getD i 0 ∈ l := getD_mem' hi
  exact ⟨b, off, _, e, (hw _ hm).1, (hw _ hm).2, h1⟩

end Go.Proofs.YtblhmeidbjigaaaGreatDoor

/- twinkeep.Swapped: operations that have nothing to do with one another may change over. -/
set_option linter.unusedSimpArgs false
set_option linter.unusedVariables false
namespace Go.Proofs.YtblhmeidbjigaaaGreatDoor
open Go.RowKit Go.Deep

theorem rdInts_stay {w w' : World} {v : Value} {n : Nat} (h : RdInts w v n) (hb : Below w.heap.size w w') : RdInts w' v n := by
  obtain ⟨ao, cap, rfl, hl, hc⟩ := h
  exact ⟨ao, cap, rfl, hl, fun i hi => by obtain ⟨b, off, x, e, h1, h2, h3⟩ := hc i hi; exact ⟨b, off, x, e, h1, h2, cell_keep hb h3⟩⟩

end Go.Proofs.YtblhmeidbjigaaaGreatDoor

/- Programs of one block: Single, safe. -/
set_option linter.unusedSimpArgs false
set_option linter.unusedVariables false
namespace Go.Proofs.YtblhmeidbjigaaaGreatDoor
open Go.RowKit Go.Deep

theorem owns_five {w : World} {g base : Nat} {v : Value} {a b c d : Int} (h : w.heap[g]? = some (.cells #[v, .int .i64 a, .int .i64 b, .int .i64 c, .int .i64 d] 40 (0, 0))) (hb : base ≤ g) (ops : List OpD) :
    w.ownsRow base 40 5 (.slice (some ⟨g, 0, none⟩) 1 1) 1 (blkCells [(⟨ops, ⟨a, b, c, d⟩⟩, v)]) :=
  ⟨rfl, .inr ⟨g, 1, _, rfl, hb, h, Nat.le_refl _, by unfold maxLen; omega, rfl, rfl⟩⟩

set_option maxRecDepth 100000 in
set_option maxHeartbeats 1500000 in
theorem single_cps (ao : Option Addr) (n cap : Nat) (w : World) (hraw : RdInts w (.slice ao n cap) n) (Post : Ending → World → Prop)
    (hp : ∀ (R D S : Nat) (ops : List OpD) (g : Nat) (ov : Value) (w' : World), (1 ≤ R ∧ R ≤ 8) → D ≤ 8 → S ≤ 8 → ops.length ≤ 12 → opsGood R S ops = true → OwnBlocks w' w.heap.size (.slice (some ⟨g, 0, none⟩) 1 1) [(⟨ops, ⟨3, 0, 0, 0⟩⟩, ov)] → Below w.heap.size w w' → Post (.returned (.agg #[.int .i64 R, .int .i64 R, .int .i64 D, .int .i64 S, .slice (some ⟨g, 0, none⟩) 1 1])) w') :
    Calls Tryz.prog 13 #[.slice ao n cap] w Post := by
  have b0 : Below w.heap.size w (w.alloc (.cells #[.int .i64 0, .int .i64 0, .int .i64 0, .int .i64 0, .slice none 0 0] 33)) := (Below.refl _ _).alloc (Nat.le_refl _) _
  have rZ0 : Row (w.alloc (.cells #[.int .i64 0, .int .i64 0, .int .i64 0, .int .i64 0, .slice none 0 0] 33)) w.heap.size 33 [.int .i64 0, .int .i64 0, .int .i64 0, .int .i64 0, .slice none 0 0] := heap_alloc_new w _
  have q1 := fun P' => whole_cps ao n cap (w.alloc (.cells #[.int .i64 0, .int .i64 0, .int .i64 0, .int .i64 0, .slice none 0 0] 33)) (rdInts_stay hraw b0) P'
  have HP := Lib.hid hp
  clear hp hraw
  go_enter Tryz.func13, Tryz.ntmps13
  go_wp2_with fail
  refine q1 _ ?_
  intro a0 a1 a2 a3 v bv w1 gp ho hb1
  have g := gp
  simp only [progGood, Bool.and_eq_true, decide_eq_true_eq] at g
  obtain ⟨⟨⟨⟨⟨g1, g2⟩, g3⟩, g4⟩, g5⟩, g6⟩ := g
  obtain ⟨R, rfl⟩ : ∃ R : Nat, a1 = (R : Int) := ⟨a1.toNat, by omega⟩
  obtain ⟨D, rfl⟩ : ∃ D : Nat, a2 = (D : Int) := ⟨a2.toNat, by omega⟩
  obtain ⟨S, rfl⟩ : ∃ S : Nat, a3 = (S : Int) := ⟨a3.toNat, by omega⟩
  have hbl : 0 < bv.length := by have := g5.1; rw [bdat_length] at this; omega
  have gb := good_at gp (b := 0) (by rw [bdat_length]; exact hbl)
  have eops : bops (bdat bv) 0 = bv[0].1.ops := (bdat_get bv hbl).1
  rw [eops] at gb
  simp only [blockGood, Bool.and_eq_true, decide_eq_true_eq] at gb
  obtain ⟨⟨gl, go⟩, gjunk⟩ := gb
  clear gjunk
  obtain ⟨bo, bc, rfl⟩ := owns_slice ho.row
  obtain ⟨nb, hnb⟩ : ∃ nb, nb = bv.length := ⟨_, rfl⟩
  have hrow := ho.each _ (List.getElem_mem hbl)
  obtain ⟨g0, rfl, hg0, c0, c1, c2, c3, c4, cjunk⟩ := ownBlocks_at ho hbl
  clear cjunk
  obtain ⟨ops, hops⟩ : ∃ ops, ops = bv[0].1.ops := ⟨_, rfl⟩
  obtain ⟨oo, oc, hov⟩ := owns_slice hrow
  rw [← hops] at hrow hov gl go
  obtain ⟨on, hon⟩ : ∃ on, on = ops.length := ⟨_, rfl⟩
  rw [← hon] at hov
  rw [hov] at c0 hrow
  rw [← hnb]
  rw [Nat.zero_mul] at c0 c1 c2 c3 c4
  rw [Nat.zero_add] at c1 c2 c3 c4
  generalize bv[0].1.fin.kind = k1 at *
  generalize bv[0].1.fin.r = k2 at *
  generalize bv[0].1.fin.x = k3 at *
  generalize bv[0].1.fin.y = k4 at *
  have hnb0 : (0 : Int) < (nb : Int) := by omega
  have hnb1 : 0 < nb := by omega
  have d0 := fun o => cell_keep ((Below.refl w1.heap.size w1).alloc (Nat.le_refl _) o) c0
  have d1 := fun o => cell_keep ((Below.refl w1.heap.size w1).alloc (Nat.le_refl _) o) c1
  have d2 := fun o => cell_keep ((Below.refl w1.heap.size w1).alloc (Nat.le_refl _) o) c2
  have d3 := fun o => cell_keep ((Below.refl w1.heap.size w1).alloc (Nat.le_refl _) o) c3
  have d4 := fun o => cell_keep ((Below.refl w1.heap.size w1).alloc (Nat.le_refl _) o) c4
  have rZ := rZ0.keep hb1
  have z0 := rZ.cell (i := 0) rfl
  have z1 := rZ.cell (i := 1) rfl
  have z2 := rZ.cell (i := 2) rfl
  have z3 := rZ.cell (i := 3) rfl
  have z4 := rZ.cell (i := 4) rfl
  have f0 := rZ.frozen 0
  have f1 := rZ.frozen 1
  have f2 := rZ.frozen 2
  have f3 := rZ.frozen 3
  have f4 := rZ.frozen 4
  have hz1 : w.heap.size + 1 ≤ w1.heap.size := by have := hb1.size; simp at this; omega
  have HGL := Lib.hid gl
  have HGO := Lib.hid go
  have HROW := Lib.hid hrow
  have HB1 := Lib.hid hb1
  have HON := Lib.hid hon
  obtain ⟨W, hW⟩ : ∃ W, W = ((w1.alloc (.cells #[.int .i64 R, .int .i64 R, .int .i64 D, .int .i64 S, .slice (some ⟨w1.heap.size + 1 + 1, 0, none⟩) 1 1] 33)).alloc (.cells #[.slice oo on oc, .int .i64 3, .int .i64 0, .int .i64 0, .int .i64 0] 40)).alloc (.cells #[.slice oo on oc, .int .i64 3, .int .i64 0, .int .i64 0, .int .i64 0] 40) := ⟨_, rfl⟩
  have HF : Hid (Post (.returned (.agg #[.int .i64 R, .int .i64 R, .int .i64 D, .int .i64 S, .slice (some ⟨w1.heap.size + 1 + 1, 0, none⟩) 1 1])) (((((W.setCell ⟨w.heap.size, 0, none⟩ (.int .i64 R)).setCell ⟨w.heap.size, 1, none⟩ (.int .i64 R)).setCell ⟨w.heap.size, 2, none⟩ (.int .i64 D)).setCell ⟨w.heap.size, 3, none⟩ (.int .i64 S)).setCell ⟨w.heap.size, 4, none⟩ (.slice (some ⟨w1.heap.size + 1 + 1, 0, none⟩) 1 1))) := by
    have hhp : W.heap[w1.heap.size + 1 + 1]? = some (.cells #[.slice oo on oc, .int .i64 3, .int .i64 0, .int .i64 0, .int .i64 0] 40 (0, 0)) := by
      rw [hW]
      have := heap_alloc_new ((w1.alloc (.cells #[.int .i64 R, .int .i64 R, .int .i64 D, .int .i64 S, .slice (some ⟨w1.heap.size + 1 + 1, 0, none⟩) 1 1] 33)).alloc (.cells #[.slice oo on oc, .int .i64 3, .int .i64 0, .int .i64 0, .int .i64 0] 40)) (.cells #[.slice oo on oc, .int .i64 3, .int .i64 0, .int .i64 0, .int .i64 0] 40)
      simpa using this
    have r1 : W.ownsRow (w.heap.size + 1) 40 5 (.slice (some ⟨w1.heap.size + 1 + 1, 0, none⟩) 1 1) 1 (blkCells [(⟨ops, ⟨3, 0, 0, 0⟩⟩, .slice oo on oc)]) := owns_five hhp (by omega) ops
    have r2 : W.ownsRow (w.heap.size + 1) 77 4 (.slice oo on oc) ops.length (opCells ops) := by
      rw [hW]
      have h := owns_base HROW.out (show w.heap.size + 1 ≤ (w.alloc (.cells #[.int .i64 0, .int .i64 0, .int .i64 0, .int .i64 0, .slice none 0 0] 33)).heap.size by simp)
      exact ((h.alloc _).alloc _).alloc _
    have own : OwnBlocks W (w.heap.size + 1) (.slice (some ⟨w1.heap.size + 1 + 1, 0, none⟩) 1 1) [(⟨ops, ⟨3, 0, 0, 0⟩⟩, .slice oo on oc)] := ⟨r1, fun x hx => by rw [List.mem_singleton] at hx; subst hx; exact r2, List.pairwise_singleton _ _⟩
    have bel : Below w.heap.size w W := by
      rw [hW]
      have h := b0.trans (HB1.out.mono (show w.heap.size ≤ _ by simp))
      exact ((h.alloc h.size _).alloc (Nat.le_trans h.size (by simp)) _).alloc (Nat.le_trans h.size (by simp; omega)) _
    exact HP.out R D S ops _ (.slice oo on oc) _ (by omega) (by omega) (by omega) HGL.out HGO.out ((((((own.set (Nat.lt_succ_self _) _).set (Nat.lt_succ_self _) _).set (Nat.lt_succ_self _) _).set (Nat.lt_succ_self _) _).set (Nat.lt_succ_self _) _).base (by omega))
      (((((bel.setCell (Nat.le_refl _) _).setCell (Nat.le_refl _) _).setCell (Nat.le_refl _) _).setCell (Nat.le_refl _) _).setCell (Nat.le_refl _) _)
  have rZW : Row W w.heap.size 33 [.int .i64 0, .int .i64 0, .int .i64 0, .int .i64 0, .slice none 0 0] := by rw [hW]; exact ((rZ.alloc _).alloc _).alloc _
  have zw0 := rZW.cell (i := 0) rfl
  have zw1 := rZW.cell (i := 1) rfl
  have zw2 := rZW.cell (i := 2) rfl
  have zw3 := rZW.cell (i := 3) rfl
  have zw4 := rZW.cell (i := 4) rfl
  have fw0 := rZW.frozen 0
  have fw1 := rZW.frozen 1
  have fw2 := rZW.frozen 2
  have fw3 := rZW.frozen 3
  have fw4 := rZW.frozen 4
  rw [hW] at HF zw0 zw1 zw2 zw3 zw4 fw0 fw1 fw2 fw3 fw4
  clear rZW hW W q1 gp g1 g2 g3 g4 g5 g6 gl go hrow hb1 ho hops eops rZ rZ0 b0 HP hon hov hnb c0 c1 c2 c3 c4 hbl
  go_wp2
  exact bodyPost_ret (v := .agg #[.int .i64 R, .int .i64 R, .int .i64 D, .int .i64 S, .slice (some ⟨w1.heap.size + 1 + 1, 0, none⟩) 1 1]) (by simp [results, Tryz.results13, go_sem, zw0, zw1, zw2, zw3, zw4]) rfl HF.out

set_option maxRecDepth 100000 in
set_option maxHeartbeats 1000000 in
theorem kSafe_cps (v : Value) (l : List OpD) (w : World) (hr : RdOps w v l) (hl : l.length ≤ 1000) (Post : Ending → World → Prop) (hp : ∀ z w', (z = true ↔ ∀ o ∈ l, ¬ tellsT o) → Below w.heap.size w w' → Post (.returned (.bool z)) w') :
    Calls Tryz.prog 48 #[v] w Post := by
  obtain ⟨so, sc, rfl, hol, hoc⟩ := hr
  obtain ⟨n, hn⟩ : ∃ n, n = l.length := ⟨_, rfl⟩
  rw [← hn] at hoc hl hol ⊢
  have HN := Lib.hid hn
  have HP := Lib.hid hp
  clear hn hp
  go_enter Tryz.func48, Tryz.ntmps48
  go_wp2
  go_loopw [3] (fun iv wi => ∃ (i : Nat), i ≤ n ∧ iv = .int .i64 i ∧ Hid (∀ j, j < i → ¬ tellsT (l.getD j oz)) ∧ Below w.heap.size w wi)
    (fun iv _ => n - (intOf iv).toNat)
  case atStart => exact ⟨0, Nat.zero_le _, rfl, fun j hj => absurd hj (by omega), Below.refl _ _⟩
  case round =>
    obtain ⟨i, hi, rfl, hall, hb⟩ := hrel
    by_cases hlt : i < n
    · obtain ⟨b, off, rfl, x0, x1, x2, x3⟩ := hoc i hlt
      have y0 := cell_keep hb x0
      have y1 := cell_keep hb x1
      have y2 := cell_keep hb x2
      have y3 := cell_keep hb x3
      have q1 := fun P' => kTells_cps (okind l i) (oa l i) (ob l i) (oc l i) wr P'
      have HO : Hid ((⟨okind l i, oa l i, ob l i, oc l i⟩ : OpD) = l.getD i oz) := rfl
      rw [HO.out] at q1
      have hii : (0 : Int) ≤ (i : Int) := by omega
      have hij : (i : Int) < (n : Int) := by omega
      clear x0 x1 x2 x3 hoc
      generalize okind l i = t0 at *
      generalize oa l i = t1 at *
      generalize ob l i = t2 at *
      generalize oc l i = t3 at *
      go_wp2_with fail
      refine q1 _ ?_
      intro z w2 hz hb2
      have HZ := Lib.hid hz
      have hb3 := hb.trans (hb2.mono hb.size)
      clear q1 hz hb2 y0 y1 y2 y3
      cases z with
      | true =>
        have HF := Lib.hid (HP.out false w2 ⟨fun h => (by cases h), fun h => by
          exfalso
          refine h (l.getD i oz) ?_ (HZ.out.1 rfl)
          have hil : i < l.length := by rw [← HN.out]; exact hlt
          simp [List.getD, hil]⟩ hb3)
        clear HP HZ hb hb3
        go_wp2
        first | exact HF.out | (go_ret; exact HF.out)
      | false =>
        have hall2 : Hid (∀ j, j < i + 1 → ¬ tellsT (l.getD j oz)) := fun j hj => by
          by_cases e : j = i
          · subst e; intro ht; have := HZ.out.2 ht; cases this
          · exact hall.out j (by omega)
        clear HZ hall
        go_wp2
        go_roundw
        case rel => exact ⟨i + 1, by omega, by go_num, hall2, hb3⟩
        case measure => simp [intOf]; omega
    · have hin : i = n := by omega
      subst hin
      have HF := Lib.hid (HP.out true wr ⟨fun _ o ho => by
        obtain ⟨j, hj, rfl⟩ := List.getElem_of_mem ho
        have := hall.out j (by rw [HN.out]; exact hj)
        simpa [List.getD, hj] using this, fun _ => rfl⟩ hb)
      clear HP hall hb hoc
      go_wp2
      first | exact HF.out | (go_ret; exact HF.out)

end Go.Proofs.YtblhmeidbjigaaaGreatDoor

/- What is asked of a run of one block (ended); a text that begins to be read (begun). -/
set_option linter.unusedSimpArgs false
set_option linter.unusedVariables false
namespace Go.Proofs.YtblhmeidbjigaaaGreatDoor
open Go.RowKit Go.Deep

set_option maxRecDepth 100000 in
set_option maxHeartbeats 1000000 in
theorem kEnded_cps (a0 a1 a2 a3 : Int) (v mv lv : Value) (B : BlockD) (kd rs : Int) (w : World) (hr : RdBlocks w v [B]) (hl : B.ops.length ≤ 1000) (hmv : ∃ o n c, mv = .slice o n c) (hlv : ∃ o n c, lv = .slice o n c) (hk : kd = 1 ∨ kd = 2 ∨ kd = 3) (hq : (∀ o ∈ B.ops, ¬ tellsT o) → kd = 1) (Post : Ending → World → Prop)
    (hp : ∀ w', Below w.heap.size w w' → Post (.returned (.bool true)) w') :
    Calls Tryz.prog 18 #[.agg #[.int .i64 a0, .int .i64 a1, .int .i64 a2, .int .i64 a3, v], .agg #[.int .i64 kd, .int .i64 rs, mv, lv]] w Post := by
  obtain ⟨mo, mn, mc, rfl⟩ := hmv
  obtain ⟨lo, ln, lc, rfl⟩ := hlv
  obtain ⟨bo, bc, rfl, _, hcc⟩ := hr
  obtain ⟨b, off, sv, rfl, y0, y1, y2, y3, y4, hro⟩ := hcc 0 (by simp)
  have hro' : RdOps w sv B.ops := hro
  have y0' : w.cell? ⟨b, off, none⟩ = some sv := by simpa using y0
  obtain ⟨W, hW⟩ : ∃ W, W = (w.alloc (.cells #[.int .i64 a0, .int .i64 a1, .int .i64 a2, .int .i64 a3, .slice (some ⟨b, off, none⟩) 1 bc] 33)).alloc (.cells #[.int .i64 kd, .int .i64 rs, .slice mo mn mc, .slice lo ln lc] 47) := ⟨_, rfl⟩
  have bW : Below w.heap.size w W := by rw [hW]; exact ((Below.refl _ _).alloc (Nat.le_refl _) _).alloc (by simp) _
  have rO : Row W (w.heap.size + 1) 47 [.int .i64 kd, .int .i64 rs, .slice mo mn mc, .slice lo ln lc] := by rw [hW]; exact heap_alloc2_new w _ _
  have c0 := cell_keep bW y0'
  have q1 := fun P' => kSafe_cps sv B.ops W (hro'.keep bW) hl P'
  have HP := Lib.hid hp
  have HRO := Lib.hid rO
  have HBW := Lib.hid bW
  have HQ := Lib.hid hq
  have HK := Lib.hid hk
  obtain ⟨so, sc, rfl, _, _⟩ := id hro'
  obtain ⟨on, hon⟩ : ∃ on, on = B.ops.length := ⟨_, rfl⟩
  rw [← hon] at q1 c0 y0 y0'
  rw [hW] at c0 q1
  have HW := Lib.hid hW
  clear hp hcc y0 y1 y2 y3 y4 y0' hro hro' bW rO hq hk hl hon hW
  go_enter Tryz.func18, Tryz.ntmps18
  go_wp2_with fail
  refine q1 _ ?_
  rw [← HW.out]
  intro z w1 hz hb1
  have HZ := Lib.hid hz
  have HB1 := Lib.hid hb1
  clear q1 hz hb1 c0 HW
  have q2 := works_any w1
  go_wp2_with fail
  refine q2.mono ?_
  rintro e w2 ⟨rfl, hb2⟩
  have b12 := HB1.out.trans (hb2.mono HB1.out.size)
  have rO2 := HRO.out.keep b12
  have o0 := rO2.cell (i := 0) rfl
  have HF := Lib.hid (HP.out w2 (HBW.out.trans (b12.mono HBW.out.size)))
  clear q2 hb2 b12 rO2 HP HB1 HRO HBW
  cases z with
  | true =>
    have hk1 : kd = 1 := HQ.out (HZ.out.1 rfl)
    subst hk1
    clear HQ HZ HK
    go_wp2
    first | exact HF.out | (go_ret; exact HF.out)
  | false =>
    have hk1 : 1 ≤ kd := by have := HK.out; omega
    have hk2 : kd ≤ 3 := by have := HK.out; omega
    clear HQ HZ HK
    go_wp2
    first | exact HF.out | (go_ret; exact HF.out)

theorem owns_later {w w' : World} {base : Nat} {e : TypeId} {sz : Nat} {v : Value} {n : Nat} {xs : List Value} (h : w.ownsRow base e sz v n xs) (hb : Below w.heap.size w w') : w'.ownsRow base e sz v n xs :=
  owns_keep h ((Keep.refl (fun _ => False) w).below hb (Nat.le_refl _)) (fun g hg => hg.elim)

theorem padTo_get (l : List Int) {n i : Nat} (h : i < n) : (padTo l n).getD i 0 = l.getD i 0 := by simp [padTo, List.getD, h]

set_option maxRecDepth 100000 in
set_option maxHeartbeats 1000000 in
theorem begun_cps (L : List UInt8) (a0 : Int) (R D S : Nat) (pv av mv sv : Value) (la lm ls : List Int) (w : World) (ha : RdWords w av la) (hm : RdWords w mv lm) (hs : RdWords w sv ls) (hpv : ∃ o n c, pv = .slice o n c) (hR : R ≤ 8) (hD : D ≤ 8) (hS : S ≤ 8) (Post : Ending → World → Prop)
    (hp : ∀ Rb rv' sv' mv' w', Row w' Rb 57 (rdgC L ((0 : Nat) : Int) false rv' sv' mv') → RdEnv (envS R la lm ls) R S D w' Rb rv' sv' mv' → w.heap.size ≤ Rb → Below w.heap.size w w' → Post (.returned (.pointer (some ⟨Rb, 0, none⟩))) w') :
    Calls Tryz.prog 19 #[.string (str L), .agg #[.int .i64 a0, .int .i64 R, .int .i64 D, .int .i64 S, pv], .agg #[av, mv, sv]] w Post := by
  obtain ⟨po, pn, pc, rfl⟩ := hpv
  obtain ⟨W, hW⟩ : ∃ W, W = ((w.alloc (.cells #[.int .i64 a0, .int .i64 R, .int .i64 D, .int .i64 S, .slice po pn pc] 33)).alloc (.cells #[av, mv, sv] 44)).alloc (.cells #[.string (str L), .int .i64 0, .bool false, .slice none 0 0, .slice none 0 0, .slice none 0 0] 57) := ⟨_, rfl⟩
  have bW : Below w.heap.size w W := by rw [hW]; exact (((Below.refl _ _).alloc (Nat.le_refl _) _).alloc (by simp) _).alloc (by simp; omega) _
  have rP : Row W w.heap.size 33 [.int .i64 a0, .int .i64 R, .int .i64 D, .int .i64 S, .slice po pn pc] := by rw [hW]; exact Row.alloc (Row.alloc (heap_alloc_new w _) _) _
  have rI : Row W (w.heap.size + 1) 44 [av, mv, sv] := by rw [hW]; exact Row.alloc (heap_alloc2_new w _ _) _
  have rG : Row W (w.heap.size + 1 + 1) 57 (rdgC L ((0 : Nat) : Int) false (.slice none 0 0) (.slice none 0 0) (.slice none 0 0)) := by
    rw [hW]
    have q := heap_alloc2_new (w.alloc (.cells #[.int .i64 a0, .int .i64 R, .int .i64 D, .int .i64 S, .slice po pn pc] 33)) (.cells #[av, mv, sv] 44) (.cells #[.string (str L), .int .i64 0, .bool false, .slice none 0 0, .slice none 0 0, .slice none 0 0] 57)
    simp only [World.size_alloc] at q
    exact q
  have hzW : w.heap.size + 3 ≤ W.heap.size := by rw [hW]; simp
  have q1 := fun P' => kList_cps av la R W (ha.keep bW) (by omega) P'
  have HP := Lib.hid hp
  have HBW := Lib.hid bW
  have HM := Lib.hid hm
  have HS := Lib.hid hs
  have HRP := Lib.hid rP
  have HRI := Lib.hid rI
  have HRG := Lib.hid rG
  have HW := Lib.hid hW
  obtain ⟨ao, ac, rfl, _, _⟩ := ha
  obtain ⟨mo, mc, rfl, _, _⟩ := hm
  obtain ⟨so, sc, rfl, _, _⟩ := hs
  rw [hW] at q1
  clear hp bW rP rI rG hW
  generalize str L = X at *
  go_enter Tryz.func19, Tryz.ntmps19
  go_wp2_with fail
  refine q1 _ ?_
  rw [← HW.out]
  intro v1 w1 ow1 hb1
  have hz1 := hb1.size
  have rI1 := HRI.out.keep hb1
  have rP1 := HRP.out.keep hb1
  have rG1 := HRG.out.keep hb1
  have p3 := rG1.cell (i := 3) rfl
  have pf3 := rG1.frozen 3
  have rG2 := rG1.set 3 v1
  have rI2 := rI1.unset (a := ⟨w.heap.size + 1 + 1, 3, none⟩) (by show w.heap.size + 1 ≠ w.heap.size + 1 + 1; omega) v1
  have rP2 := rP1.unset (a := ⟨w.heap.size + 1 + 1, 3, none⟩) (by show w.heap.size ≠ w.heap.size + 1 + 1; omega) v1
  have b2 : Below w.heap.size w (w1.setCell ⟨w.heap.size + 1 + 1, 3, none⟩ v1) := (HBW.out.trans (hb1.mono HBW.out.size)).setCell (p := ⟨w.heap.size + 1 + 1, 3, none⟩) (by show w.heap.size ≤ w.heap.size + 1 + 1; omega) v1
  have ow2 := ownsRow_setCell_below ow1 (a := ⟨w.heap.size + 1 + 1, 3, none⟩) (by show w.heap.size + 1 + 1 < W.heap.size; omega) v1
  have s2 := rI2.cell (i := 2) rfl
  have t3 := rP2.cell (i := 3) rfl
  obtain ⟨o1, c1, hv1⟩ := owns_slice ow1
  rw [padTo_length] at hv1
  have hz2 : w.heap.size + 3 ≤ (w1.setCell ⟨w.heap.size + 1 + 1, 3, none⟩ v1).heap.size := by simp; omega
  have q2 := fun P' => kList_cps (.slice so ls.length sc) ls S (w1.setCell ⟨w.heap.size + 1 + 1, 3, none⟩ v1) (HS.out.keep b2) (by omega) P'
  have HOW2 := Lib.hid ow2
  have HB2 := Lib.hid b2
  have HRP2 := Lib.hid rP2
  have HRI2 := Lib.hid rI2
  have HRG2 := Lib.hid rG2
  subst hv1
  clear q1 ow1 ow2 hb1 rI1 rP1 rG1 rG2 rI2 rP2 b2 HRG HRI HRP HBW HW HS
  go_wp2_with fail
  refine q2 _ ?_
  intro v3 w3 ow3 hb3
  have hz3 := hb3.size
  have rI3 := HRI2.out.keep hb3
  have rP3 := HRP2.out.keep hb3
  have rG3 := HRG2.out.keep hb3
  have p4 := rG3.cell (i := 4) rfl
  have pf4 := rG3.frozen 4
  have rG4 := rG3.set 4 v3
  have rI4 := rI3.unset (a := ⟨w.heap.size + 1 + 1, 4, none⟩) (by show w.heap.size + 1 ≠ w.heap.size + 1 + 1; omega) v3
  have rP4 := rP3.unset (a := ⟨w.heap.size + 1 + 1, 4, none⟩) (by show w.heap.size ≠ w.heap.size + 1 + 1; omega) v3
  have b4 : Below w.heap.size w (w3.setCell ⟨w.heap.size + 1 + 1, 4, none⟩ v3) := (HB2.out.trans (hb3.mono HB2.out.size)).setCell (p := ⟨w.heap.size + 1 + 1, 4, none⟩) (by show w.heap.size ≤ w.heap.size + 1 + 1; omega) v3
  have ow4 := ownsRow_setCell_below (owns_base ow3 hz2) (a := ⟨w.heap.size + 1 + 1, 4, none⟩) (by show w.heap.size + 1 + 1 < w.heap.size + 3; omega) v3
  have ow5 := ownsRow_setCell_below (owns_later (owns_base HOW2.out hzW) hb3) (a := ⟨w.heap.size + 1 + 1, 4, none⟩) (by show w.heap.size + 1 + 1 < w.heap.size + 3; omega) v3
  have s1 := rI4.cell (i := 1) rfl
  have t2 := rP4.cell (i := 2) rfl
  obtain ⟨o3, c3, hv3⟩ := owns_slice ow3
  rw [padTo_length] at hv3
  have hz4 : w.heap.size + 3 ≤ (w3.setCell ⟨w.heap.size + 1 + 1, 4, none⟩ v3).heap.size := by simp; simp at hz3; omega
  have q3 := fun P' => kList_cps (.slice mo lm.length mc) lm D (w3.setCell ⟨w.heap.size + 1 + 1, 4, none⟩ v3) (HM.out.keep b4) (by omega) P'
  have HOW4 := Lib.hid ow4
  have HOW5 := Lib.hid ow5
  have HB4 := Lib.hid b4
  have HRG4 := Lib.hid rG4
  subst hv3
  clear q2 ow3 ow4 ow5 hb3 rI3 rP3 rG3 rG4 rI4 rP4 b4 HRG2 HRI2 HRP2 HB2 HM HOW2 p3 pf3 s2 t3
  go_wp2_with fail
  refine q3 _ ?_
  intro v5 w5 ow5 hb5
  have rG5 := HRG4.out.keep hb5
  have p5 := rG5.cell (i := 5) rfl
  have pf5 := rG5.frozen 5
  have rG6 := rG5.set 5 v5
  have b6 : Below w.heap.size w (w5.setCell ⟨w.heap.size + 1 + 1, 5, none⟩ v5) := (HB4.out.trans (hb5.mono HB4.out.size)).setCell (p := ⟨w.heap.size + 1 + 1, 5, none⟩) (by show w.heap.size ≤ w.heap.size + 1 + 1; omega) v5
  have u5 := ownsRow_setCell_below (owns_base ow5 hz4) (a := ⟨w.heap.size + 1 + 1, 5, none⟩) (by show w.heap.size + 1 + 1 < w.heap.size + 3; omega) v5
  have u3 := ownsRow_setCell_below (owns_later HOW4.out hb5) (a := ⟨w.heap.size + 1 + 1, 5, none⟩) (by show w.heap.size + 1 + 1 < w.heap.size + 3; omega) v5
  have u1 := ownsRow_setCell_below (owns_later HOW5.out hb5) (a := ⟨w.heap.size + 1 + 1, 5, none⟩) (by show w.heap.size + 1 + 1 < w.heap.size + 3; omega) v5
  have env : RdEnv (envS R la lm ls) R S D (w5.setCell ⟨w.heap.size + 1 + 1, 5, none⟩ v5) (w.heap.size + 1 + 1) _ _ v5 :=
    ⟨⟨padTo la R, owns_away u1 (by omega) (by rw [padTo_length]; omega), padTo_length _ _, fun i hi => by rw [padTo_get la hi]; rfl⟩,
      ⟨padTo ls S, owns_away u3 (by omega) (by rw [padTo_length]; omega), padTo_length _ _, fun i hi => by
        rw [padTo_get ls hi]
        have e : ((R : Int) + (i : Int)) - (R : Int) = (i : Int) := by omega
        show _ = rg ls (((R : Int) + (i : Int)) - (R : Int))
        rw [e]; rfl⟩,
      ⟨padTo lm D, owns_away u5 (by omega) (by rw [padTo_length]; omega), padTo_length _ _, fun i hi => by rw [padTo_get lm hi]; rfl⟩⟩
  have HF := Lib.hid (HP.out (w.heap.size + 1 + 1) _ _ v5 _ rG6 env (by omega) b6)
  obtain ⟨o5, c5, hv5⟩ := owns_slice ow5
  rw [padTo_length] at hv5
  subst hv5
  clear q3 ow5 hb5 rG5 rG6 b6 u5 u3 u1 env HP HRG4 HB4 HOW4 HOW5 p4 pf4 s1 t2
  go_wp2
  first | exact HF.out | (go_ret; exact HF.out)

end Go.Proofs.YtblhmeidbjigaaaGreatDoor

/- Other names for registers: twinkeep.names, twinkeep.renamed. -/
set_option linter.unusedSimpArgs false
set_option linter.unusedVariables false
namespace Go.Proofs.YtblhmeidbjigaaaGreatDoor
open Go.RowKit

theorem owns_rdI {w : World} {B : Nat} {v : Value} {l : List Int} (h : w.ownsRow B 3 1 v l.length (ints l)) : RdWords w v l := by
  obtain ⟨ao, cap, rfl⟩ := owns_slice h
  refine ⟨ao, cap, rfl, owns_le h, fun i hi => ?_⟩
  obtain ⟨b, rfl, _, hb, hc⟩ := owns_cell h rfl (i := i) (by rw [ints_length]; exact hi)
  refine ⟨b, 0, rfl, ?_⟩
  have := h.cells (g := b) hb i (.int .i64 (l.getD i 0)) (by simp [ints, List.getD, hi])
  simpa [Addr.add_lit] using this

end Go.Proofs.YtblhmeidbjigaaaGreatDoor

/- Registers kept in slots: what is built, and blocks whose list of operations is another one. -/
set_option linter.unusedSimpArgs false
set_option linter.unusedVariables false
namespace Go.Proofs.YtblhmeidbjigaaaGreatDoor
open Go.RowKit

/-- The operations ahead of the block's own. -/
def gl (b i : Nat) : List OpD := if b = 0 then [] else getOps i
end Go.Proofs.YtblhmeidbjigaaaGreatDoor
