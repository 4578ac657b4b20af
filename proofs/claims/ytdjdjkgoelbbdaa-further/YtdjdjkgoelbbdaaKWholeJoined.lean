/- A program out of raw numbers. -/
import Derived.Test.YtdjdjkgoelbbdaaKBlockJoined
set_option linter.unusedSimpArgs false
set_option linter.unusedVariables false
namespace Go.Proofs.Ytdjdjkgoelbbdaa
open Go.RowKit

theorem Rolls.away {w w0 : World} {R : Nat} {ao : Option Addr} {n cap k : Nat} (h : Rolls w R ao n cap k) (h0 : RdInts w0 (.slice ao n cap) n) {g i : Nat} (hg : w0.heap.size ≤ g) (hgR : R ≠ g) (u : Value) : Rolls (w.setCell ⟨g, i, none⟩ u) R ao n cap k := by
  refine ⟨h.row.unset (a := ⟨g, i, none⟩) hgR _, h.le, ?_, h.off⟩
  obtain ⟨ao', cap', e, hn, hc⟩ := h.rd
  obtain ⟨ao2, cap2, e2, _, hc2⟩ := h0
  simp only [Value.slice.injEq, true_and] at e e2
  obtain ⟨rfl, rfl⟩ := e
  obtain ⟨rfl, rfl⟩ := e2
  refine ⟨ao, cap, rfl, hn, fun i hi => ?_⟩
  obtain ⟨b, off, x, e1, h1, h2, h3⟩ := hc i hi
  obtain ⟨b2, off2, x2, e2, _, _, h4⟩ := hc2 i hi
  rw [e1] at e2
  simp only [Option.some.injEq, Addr.mk.injEq, and_true] at e2
  obtain ⟨rfl, rfl⟩ := e2
  have := World.block_lt_of_cell? _ _ h4
  exact ⟨b, off, x, e1, h1, h2, cell_unset (fun e => by simp at e; simp at this; omega) h3⟩

theorem Rolls.belowB {w w' w0 : World} {R : Nat} {ao : Option Addr} {n cap k : Nat} (h : Rolls w R ao n cap k) (h0 : RdInts w0 (.slice ao n cap) n) {B : Nat} (hb : Below B w w') (hB : w0.heap.size ≤ B) (hR : R < B) : Rolls w' R ao n cap k := by
  refine ⟨h.row.below hb hR, h.le, ?_, h.off⟩
  obtain ⟨ao', cap', e, hn, hc⟩ := h.rd
  obtain ⟨ao2, cap2, e2, _, hc2⟩ := h0
  simp only [Value.slice.injEq, true_and] at e e2
  obtain ⟨rfl, rfl⟩ := e
  obtain ⟨rfl, rfl⟩ := e2
  refine ⟨ao, cap, rfl, hn, fun i hi => ?_⟩
  obtain ⟨b, off, x, e1, h1, h2, h3⟩ := hc i hi
  obtain ⟨b2, off2, x2, e2, _, _, h4⟩ := hc2 i hi
  rw [e1] at e2
  simp only [Option.some.injEq, Addr.mk.injEq, and_true] at e2
  obtain ⟨rfl, rfl⟩ := e2
  have := World.block_lt_of_cell? _ _ h4
  exact ⟨b, off, x, e1, h1, h2, (hb.cell (by simp at this ⊢; omega)).trans h3⟩

theorem RdInts.keep {w w' : World} {v : Value} {n : Nat} (h : RdInts w v n) (hb : Below w.heap.size w w') : RdInts w' v n := by
  obtain ⟨ao', cap', e, hn, hc⟩ := h
  exact ⟨ao', cap', e, hn, fun i hi => let ⟨b, off, x, e1, h1, h2, h3⟩ := hc i hi; ⟨b, off, x, e1, h1, h2, cell_keep hb h3⟩⟩

/-- Rolls that begin, in a block that is new. -/
theorem Rolls.fresh {w w' : World} {R : Nat} {ao : Option Addr} {n cap : Nat} (h : RdInts w (.slice ao n cap) n) (hb : Below w.heap.size w w') (hrow : Row w' R 103 [.slice ao n cap, .int .i64 0]) (hR : w.heap.size ≤ R) : Rolls w' R ao n cap 0 := by
  refine ⟨hrow, Nat.zero_le _, h.keep hb, fun hn b o e => ?_⟩
  obtain ⟨ao', cap', e0, _, hc⟩ := h
  simp only [Value.slice.injEq, true_and] at e0
  obtain ⟨rfl, rfl⟩ := e0
  obtain ⟨b2, off2, x2, e2, _, _, h4⟩ := hc 0 hn
  rw [e] at e2
  simp only [Option.some.injEq, Addr.mk.injEq, and_true] at e2
  obtain ⟨rfl, rfl⟩ := e2
  have := World.block_lt_of_cell? _ _ h4
  simp at this
  omega

set_option maxRecDepth 100000 in
set_option maxHeartbeats 8000000 in
theorem whole_cps (ao : Option Addr) (n cap : Nat) (w : World) (hraw : RdInts w (.slice ao n cap) n) (Post : Ending → World → Prop)
    (hp : ∀ a0 a1 a2 a3 v bv w', progGood ⟨a0, a1, a2, a3, bdat bv⟩ = true → OwnBlocks w' w.heap.size v bv → Below w.heap.size w w' → Post (.returned (.agg #[.int .i64 a0, .int .i64 a1, .int .i64 a2, .int .i64 a3, v])) w') :
    Calls Try.prog 14 #[.slice ao n cap] w Post := by
  obtain ⟨i0, ii, iz0, iz1, iz2⟩ := info_parts Try.infoBlk
  have rA : Row (((w.alloc (.cells #[.int .i64 0, .int .i64 0, .int .i64 0, .int .i64 0, .slice none 0 0] 24)).alloc (.cells #[.slice ao n cap, .int .i64 0] 103)).alloc (.cells #[.int .i64 0, .int .i64 0, .int .i64 0, .int .i64 0, .slice none 0 0] 24)) w.heap.size 24 [.int .i64 0, .int .i64 0, .int .i64 0, .int .i64 0, .slice none 0 0] := by
    have q : Row (w.alloc (.cells #[.int .i64 0, .int .i64 0, .int .i64 0, .int .i64 0, .slice none 0 0] 24)) w.heap.size 24 [.int .i64 0, .int .i64 0, .int .i64 0, .int .i64 0, .slice none 0 0] := heap_alloc_new w _
    exact (q.alloc _).alloc _
  have rR : Row (((w.alloc (.cells #[.int .i64 0, .int .i64 0, .int .i64 0, .int .i64 0, .slice none 0 0] 24)).alloc (.cells #[.slice ao n cap, .int .i64 0] 103)).alloc (.cells #[.int .i64 0, .int .i64 0, .int .i64 0, .int .i64 0, .slice none 0 0] 24)) (w.heap.size + 1) 103 [.slice ao n cap, .int .i64 0] := by
    have q : Row ((w.alloc (.cells #[.int .i64 0, .int .i64 0, .int .i64 0, .int .i64 0, .slice none 0 0] 24)).alloc (.cells #[.slice ao n cap, .int .i64 0] 103)) (w.heap.size + 1) 103 [.slice ao n cap, .int .i64 0] := heap_alloc2_new w _ _
    exact q.alloc _
  have rP : Row (((w.alloc (.cells #[.int .i64 0, .int .i64 0, .int .i64 0, .int .i64 0, .slice none 0 0] 24)).alloc (.cells #[.slice ao n cap, .int .i64 0] 103)).alloc (.cells #[.int .i64 0, .int .i64 0, .int .i64 0, .int .i64 0, .slice none 0 0] 24)) (w.heap.size + 2) 24 [.int .i64 0, .int .i64 0, .int .i64 0, .int .i64 0, .slice none 0 0] := by
    have q := heap_alloc2_new (w.alloc (.cells #[.int .i64 0, .int .i64 0, .int .i64 0, .int .i64 0, .slice none 0 0] 24)) (.cells #[.slice ao n cap, .int .i64 0] 103) (.cells #[.int .i64 0, .int .i64 0, .int .i64 0, .int .i64 0, .slice none 0 0] 24)
    simp only [World.size_alloc] at q
    exact q
  have hb0 : Below w.heap.size w (((w.alloc (.cells #[.int .i64 0, .int .i64 0, .int .i64 0, .int .i64 0, .slice none 0 0] 24)).alloc (.cells #[.slice ao n cap, .int .i64 0] 103)).alloc (.cells #[.int .i64 0, .int .i64 0, .int .i64 0, .int .i64 0, .slice none 0 0] 24)) := (((Below.refl w.heap.size w).alloc (Nat.le_refl _) _).alloc (by simp) _).alloc (by simp; omega) _
  have ro0 := Rolls.fresh hraw hb0 rR (by omega)
  have ke : Keep (fun g => g = w.heap.size + 1) w (((w.alloc (.cells #[.int .i64 0, .int .i64 0, .int .i64 0, .int .i64 0, .slice none 0 0] 24)).alloc (.cells #[.slice ao n cap, .int .i64 0] 103)).alloc (.cells #[.int .i64 0, .int .i64 0, .int .i64 0, .int .i64 0, .slice none 0 0] 24)) := (((Keep.refl _ _).alloc _).alloc _).alloc _
  clear rR hb0
  go_enter Try.func14, Try.ntmps14
  go_wp2_with fail
  refine next_cps (w.heap.size + 1) ao n cap _ 8 _ ro0 (by omega) _ ?_
  intro x0 k0 w0 xa0 xb0 hr hk hzz
  have ro := hr
  have rA := rA.kept hk (by omega)
  have rP := rP.kept hk (by omega)
  have ke := ke.trans hk
  clear hr hk
  have pc := rP.cell (i := 1) rfl
  have pf := rP.frozen 1
  have ro1 := ro.away hraw (g := (w.heap.size + 2)) (i := 1) (by omega) (by omega) (.int .i64 (1 + x0))
  have rA := rA.unset (a := ⟨(w.heap.size + 2), 1, none⟩) (by show w.heap.size ≠ w.heap.size + 2; omega) (.int .i64 (1 + x0))
  have rP := rP.set 1 (.int .i64 (1 + x0))
  have ke := ke.setCell (p := ⟨(w.heap.size + 2), 1, none⟩) (.inr (by show w.heap.size ≤ w.heap.size + 2; omega)) (.int .i64 (1 + x0))
  clear ro
  have p1 := rP.cell (i := 1) (u := .int .i64 (1 + x0)) rfl
  go_wp2_with fail
  refine next_cps (w.heap.size + 1) ao n cap _ (1 + x0 + 1) _ ro1 (by omega) _ ?_
  intro x1 k1 w1 xa1 xb1 hr hk hzz
  have ro := hr
  have rA := rA.kept hk (by omega)
  have rP := rP.kept hk (by omega)
  have ke := ke.trans hk
  clear hr hk
  clear p1
  have pc := rP.cell (i := 0) rfl
  have pf := rP.frozen 0
  have ro2 := ro.away hraw (g := (w.heap.size + 2)) (i := 0) (by omega) (by omega) (.int .i64 x1)
  have rA := rA.unset (a := ⟨(w.heap.size + 2), 0, none⟩) (by show w.heap.size ≠ w.heap.size + 2; omega) (.int .i64 x1)
  have rP := rP.set 0 (.int .i64 x1)
  have ke := ke.setCell (p := ⟨(w.heap.size + 2), 0, none⟩) (.inr (by show w.heap.size ≤ w.heap.size + 2; omega)) (.int .i64 x1)
  clear ro
  go_wp2_with fail
  refine next_cps (w.heap.size + 1) ao n cap _ 9 _ ro2 (by omega) _ ?_
  intro x2 k2 w2 xa2 xb2 hr hk hzz
  have ro := hr
  have rA := rA.kept hk (by omega)
  have rP := rP.kept hk (by omega)
  have ke := ke.trans hk
  clear hr hk
  have pc := rP.cell (i := 2) rfl
  have pf := rP.frozen 2
  have ro3 := ro.away hraw (g := (w.heap.size + 2)) (i := 2) (by omega) (by omega) (.int .i64 x2)
  have rA := rA.unset (a := ⟨(w.heap.size + 2), 2, none⟩) (by show w.heap.size ≠ w.heap.size + 2; omega) (.int .i64 x2)
  have rP := rP.set 2 (.int .i64 x2)
  have ke := ke.setCell (p := ⟨(w.heap.size + 2), 2, none⟩) (.inr (by show w.heap.size ≤ w.heap.size + 2; omega)) (.int .i64 x2)
  clear ro
  go_wp2_with fail
  refine next_cps (w.heap.size + 1) ao n cap _ 9 _ ro3 (by omega) _ ?_
  intro x3 k3 w3 xa3 xb3 hr hk hzz
  have ro := hr
  have rA := rA.kept hk (by omega)
  have rP := rP.kept hk (by omega)
  have ke := ke.trans hk
  clear hr hk
  have pc := rP.cell (i := 3) rfl
  have pf := rP.frozen 3
  have ro4 := ro.away hraw (g := (w.heap.size + 2)) (i := 3) (by omega) (by omega) (.int .i64 x3)
  have rA := rA.unset (a := ⟨(w.heap.size + 2), 3, none⟩) (by show w.heap.size ≠ w.heap.size + 2; omega) (.int .i64 x3)
  have rP := rP.set 3 (.int .i64 x3)
  have ke := ke.setCell (p := ⟨(w.heap.size + 2), 3, none⟩) (.inr (by show w.heap.size ≤ w.heap.size + 2; omega)) (.int .i64 x3)
  clear ro
  by_cases hs0 : x3 = 0
  · have hs1 : (x3 == 0) = true := by simp [hs0]
    have p3 := rP.cell (i := 3) (u := .int .i64 x3) rfl
    have hms : (13 : Int) ≤ 13 ∨ 1 ≤ x3 := by omega
    clear hs0
    go_wp2_with fail
    refine next_cps (w.heap.size + 1) ao n cap _ 6 _ ro4 (by omega) _ ?_
    intro x4 k4 w4 xa4 xb4 hr hk hz4
    have ro := hr
    have rA := rA.kept hk (by omega)
    have rP := rP.kept hk (by omega)
    have ke := ke.trans hk
    have hz : w.heap.size + 3 ≤ w4.heap.size := by have := rP.lt; omega
    clear hr hk p3 ro4
    go_wp2
    go_loopw [7] (fun i wr => ∃ (j : Nat) (v : Value) (bv : List (BlockD × Value)) (kk : Nat), (j : Int) ≤ 1 + x4 ∧ i = .int .i64 j ∧ Hid (bv.length = j) ∧ Hid (∀ x ∈ bv, blockGood (1 + x0) x3 (1 + x4) x.1 = true) ∧ Row wr w.heap.size 24 [.int .i64 0, .int .i64 0, .int .i64 0, .int .i64 0, .slice none 0 0] ∧ Row wr (w.heap.size + 2) 24 [.int .i64 x1, .int .i64 (1 + x0), .int .i64 x2, .int .i64 x3, v] ∧
        OwnBlocks wr (w.heap.size + 3) v bv ∧ Rolls wr (w.heap.size + 1) ao n cap kk ∧ Keep (fun g => g = w.heap.size + 1) w wr ∧ w.heap.size + 3 ≤ wr.heap.size)
      (fun i _ => (1 + x4).toNat - (intOf i).toNat)
    case atStart => exact ⟨0, .slice none 0 0, [], _, by omega, rfl, rfl, (fun x hx => by cases hx), rA, rP, ownBlocks_nil _ _, ro, ke, hz⟩
    case round =>
      clear rA rP ke ro hz hz4 w4
      obtain ⟨j, v, bv, kk, hj, rfl, hvl, hbg, rA, rP, own, ro, ke, hz⟩ := hrel
      obtain ⟨bo, bc, rfl⟩ := owns_slice own.row
      have p1 := rP.cell (i := 1) rfl
      have p3 := rP.cell (i := 3) rfl
      by_cases hlt : (j : Int) < 1 + x4
      · go_wp2_with fail
        refine block_cps (w.heap.size + 1) ao n cap kk 13 (1 + x0) x3 (1 + x4) _ ro (by omega) (by omega) (by omega) hms (by omega) _ ?_
        intro sv l a b c d k2 w2 hg hsv hr2 hk2
        obtain ⟨so, sc, rfl⟩ := owns_slice hsv
        have rA2 := rA.kept hk2 (by omega)
        have rP2 := rP.kept hk2 (by omega)
        have own2 := own.apartFrom hk2 (fun g hg => by omega)
        have ke2 := ke.trans hk2
        have hz2 := hk2.size
        have hzl : w.heap.size + 2 < w2.heap.size := by omega
        have hzq : w.heap.size + 3 ≤ w2.heap.size := by omega
        have p4 := rP2.cell (i := 4) rfl
        have hfree : ∀ y ∈ bv, ∀ g, y.2.ownBlock = some g → (Value.slice so l.length sc).ownBlock ≠ some g := by
          intro y hy g hg e
          have q1 := ((own.each y hy).lt g hg).2
          have q2 := (hsv.lt g e).1
          omega
        have HG : Hid (∀ x ∈ bv ++ [(⟨l, ⟨a, b, c, d⟩⟩, Value.slice so l.length sc)], blockGood (1 + x0) x3 (1 + x4) x.1 = true) := by
          intro x hx
          rcases List.mem_append.1 hx with hx | hx
          · exact hbg.out x hx
          · simp at hx; subst hx; exact hg
        have hsv2 := owns_base hsv (show w.heap.size + 3 ≤ _ by omega)
        clear rA rP own ke hk2 p1 p3 ro hsv hg hbg
        go_wp2_with (at_builtin; refine wpList_append_own _ rfl _ _ 22 rfl (w.heap.size + 3) 76 i0 (.agg #[.slice none 0 0, .int .i64 0, .int .i64 0, .int .i64 0, .int .i64 0]) 5 56 Try.underlying22 ii iz0 iz1 iz2 rfl (by decide) _ _ _ rfl ((own2.row.alloc _).alloc _) ⟨w2.heap.size + 1, 0, none⟩ 1 1 [.slice so l.length sc, .int .i64 a, .int .i64 b, .int .i64 c, .int .i64 d] rfl rfl ?c113 five_one ?c313 ?c413 ?c513 ?_)
        case c113 => simpa using five_new (w2.alloc _) _ _ _ _ _ _
        case c313 => have := hvl.out; unfold maxLen; omega
        case c413 => have := hvl.out; omega
        case c513 => first | omega | (simp; omega)
        intro v' w3 hown' hgrow _
        have own3 : OwnBlocks w3 (w.heap.size + 3) v' (bv ++ [(⟨l, ⟨a, b, c, d⟩⟩, .slice so l.length sc)]) := ((own2.alloc _).alloc _).snoc ((hsv2.alloc _).alloc _) hfree hgrow hown'
        have hb2 := ((((Below.refl (w.heap.size + 3) w2).alloc hzq _).alloc (by simp; omega) _).grown hgrow (by simp; omega) (fun g hg => (own2.row.lt g hg).1))
        have rA3 := rA2.below hb2 (by omega)
        have rP3 := rP2.below hb2 (by omega)
        have ro3 := hr2.belowB hraw hb2 (by omega) (by omega)
        have ke3 := ke2.below hb2 (by omega)
        have hz3 := hb2.size
        have y4 := rP3.cell (i := 4) rfl
        have yf := rP3.frozen 4
        obtain ⟨bo', bc', hv'⟩ := owns_slice own3.row
        rw [List.length_append] at hv'
        simp only [List.length_cons, List.length_nil, Nat.zero_add] at hv'
        subst hv'
        have rP4 := rP3.set 4 (.slice bo' (bv.length + 1) bc')
        have rA4 := rA3.unset (a := ⟨(w.heap.size + 2), 4, none⟩) (by show w.heap.size ≠ w.heap.size + 2; omega) (.slice bo' (bv.length + 1) bc')
        have ro4 := ro3.away hraw (g := (w.heap.size + 2)) (i := 4) (by omega) (by omega) (.slice bo' (bv.length + 1) bc')
        have ke4 := ke3.setCell (p := ⟨(w.heap.size + 2), 4, none⟩) (.inr (by show w.heap.size ≤ w.heap.size + 2; omega)) (.slice bo' (bv.length + 1) bc')
        have own4 := own3.set (a := ⟨(w.heap.size + 2), 4, none⟩) (by show w.heap.size + 2 < w.heap.size + 3; omega) (.slice bo' (bv.length + 1) bc')
        clear hgrow hown' hb2 rA2 rP2 own2 hr2 ke2 p4 rA3 rP3 ro3 ke3 own3 hsv2 hfree
        go_wp2
        go_roundw
        case rel => exact ⟨j + 1, _, _, k2, by omega, by go_num, by show List.length _ = _; have := hvl.out; simp; exact this, HG, rA4, rP4, own4, ro4, ke4, by simp; omega⟩
        case measure => simp [intOf]; omega
      · have hje : (j : Int) = 1 + x4 := by omega
        have b0 := rP.cell (i := 0) rfl
        have b2 := rP.cell (i := 2) rfl
        have b4 := rP.cell (i := 4) rfl
        have a0 := rA.cell (i := 0) rfl
        have a1 := rA.cell (i := 1) rfl
        have a2 := rA.cell (i := 2) rfl
        have a3 := rA.cell (i := 3) rfl
        have a4 := rA.cell (i := 4) rfl
        have f0 := rA.frozen 0
        have f1 := rA.frozen 1
        have f2 := rA.frozen 2
        have f3 := rA.frozen 3
        have f4 := rA.frozen 4
        have hgood : progGood ⟨x1, 1 + x0, x2, x3, bdat bv⟩ = true := by
          have e := hvl.out
          simp only [progGood, blocksGood, Bool.and_eq_true, decide_eq_true_eq, List.all_eq_true, bdat_length]
          refine ⟨⟨⟨⟨⟨by omega, by omega⟩, by omega⟩, by omega⟩, by omega⟩, ?_⟩
          intro x hx
          obtain ⟨y, hy, rfl⟩ := List.mem_map.1 hx
          have := hbg.out y hy
          rw [e, hje]
          exact this
        have hfin := hp x1 (1 + x0) x2 x3 (.slice bo bv.length bc) bv (((((wr.setCell ⟨w.heap.size, 0, none⟩ (.int .i64 x1)).setCell ⟨w.heap.size, 1, none⟩ (.int .i64 (1 + x0))).setCell ⟨w.heap.size, 2, none⟩ (.int .i64 x2)).setCell ⟨w.heap.size, 3, none⟩ (.int .i64 x3)).setCell ⟨w.heap.size, 4, none⟩ (.slice bo bv.length bc)) hgood
          ((((((own.set (by simp) _).set (by simp) _).set (by simp) _).set (by simp) _).set (by simp) _).base (by omega))
          ((((((ke.setCell (.inr (by simp)) _).setCell (.inr (by simp)) _).setCell (.inr (by simp)) _).setCell (.inr (by simp)) _).setCell (.inr (by simp)) _).toBelow (Nat.le_refl _) (fun g hg => by omega))
        have HF : Hid (Post (.returned (.agg #[.int .i64 x1, .int .i64 (1 + x0), .int .i64 x2, .int .i64 x3, .slice bo bv.length bc])) (((((wr.setCell ⟨w.heap.size, 0, none⟩ (.int .i64 x1)).setCell ⟨w.heap.size, 1, none⟩ (.int .i64 (1 + x0))).setCell ⟨w.heap.size, 2, none⟩ (.int .i64 x2)).setCell ⟨w.heap.size, 3, none⟩ (.int .i64 x3)).setCell ⟨w.heap.size, 4, none⟩ (.slice bo bv.length bc))) := hfin
        clear hfin hp hgood own ro ke rA rP
        go_wp2
        exact bodyPost_ret (v := .agg #[.int .i64 x1, .int .i64 (1 + x0), .int .i64 x2, .int .i64 x3, .slice bo bv.length bc]) (by simp [results, Try.results14, go_sem, a0, a1, a2, a3, a4]) rfl HF.out
  · have hs1 : (x3 == 0) = false := by simp [hs0]
    have p3 := rP.cell (i := 3) (u := .int .i64 x3) rfl
    have hms : (15 : Int) ≤ 13 ∨ 1 ≤ x3 := by omega
    clear hs0
    go_wp2_with fail
    refine next_cps (w.heap.size + 1) ao n cap _ 6 _ ro4 (by omega) _ ?_
    intro x4 k4 w4 xa4 xb4 hr hk hz4
    have ro := hr
    have rA := rA.kept hk (by omega)
    have rP := rP.kept hk (by omega)
    have ke := ke.trans hk
    have hz : w.heap.size + 3 ≤ w4.heap.size := by have := rP.lt; omega
    clear hr hk p3 ro4
    go_wp2
    go_loopw [7] (fun i wr => ∃ (j : Nat) (v : Value) (bv : List (BlockD × Value)) (kk : Nat), (j : Int) ≤ 1 + x4 ∧ i = .int .i64 j ∧ Hid (bv.length = j) ∧ Hid (∀ x ∈ bv, blockGood (1 + x0) x3 (1 + x4) x.1 = true) ∧ Row wr w.heap.size 24 [.int .i64 0, .int .i64 0, .int .i64 0, .int .i64 0, .slice none 0 0] ∧ Row wr (w.heap.size + 2) 24 [.int .i64 x1, .int .i64 (1 + x0), .int .i64 x2, .int .i64 x3, v] ∧
        OwnBlocks wr (w.heap.size + 3) v bv ∧ Rolls wr (w.heap.size + 1) ao n cap kk ∧ Keep (fun g => g = w.heap.size + 1) w wr ∧ w.heap.size + 3 ≤ wr.heap.size)
      (fun i _ => (1 + x4).toNat - (intOf i).toNat)
    case atStart => exact ⟨0, .slice none 0 0, [], _, by omega, rfl, rfl, (fun x hx => by cases hx), rA, rP, ownBlocks_nil _ _, ro, ke, hz⟩
    case round =>
      clear rA rP ke ro hz hz4 w4
      obtain ⟨j, v, bv, kk, hj, rfl, hvl, hbg, rA, rP, own, ro, ke, hz⟩ := hrel
      obtain ⟨bo, bc, rfl⟩ := owns_slice own.row
      have p1 := rP.cell (i := 1) rfl
      have p3 := rP.cell (i := 3) rfl
      by_cases hlt : (j : Int) < 1 + x4
      · go_wp2_with fail
        refine block_cps (w.heap.size + 1) ao n cap kk 15 (1 + x0) x3 (1 + x4) _ ro (by omega) (by omega) (by omega) hms (by omega) _ ?_
        intro sv l a b c d k2 w2 hg hsv hr2 hk2
        obtain ⟨so, sc, rfl⟩ := owns_slice hsv
        have rA2 := rA.kept hk2 (by omega)
        have rP2 := rP.kept hk2 (by omega)
        have own2 := own.apartFrom hk2 (fun g hg => by omega)
        have ke2 := ke.trans hk2
        have hz2 := hk2.size
        have hzl : w.heap.size + 2 < w2.heap.size := by omega
        have hzq : w.heap.size + 3 ≤ w2.heap.size := by omega
        have p4 := rP2.cell (i := 4) rfl
        have hfree : ∀ y ∈ bv, ∀ g, y.2.ownBlock = some g → (Value.slice so l.length sc).ownBlock ≠ some g := by
          intro y hy g hg e
          have q1 := ((own.each y hy).lt g hg).2
          have q2 := (hsv.lt g e).1
          omega
        have HG : Hid (∀ x ∈ bv ++ [(⟨l, ⟨a, b, c, d⟩⟩, Value.slice so l.length sc)], blockGood (1 + x0) x3 (1 + x4) x.1 = true) := by
          intro x hx
          rcases List.mem_append.1 hx with hx | hx
          · exact hbg.out x hx
          · simp at hx; subst hx; exact hg
        have hsv2 := owns_base hsv (show w.heap.size + 3 ≤ _ by omega)
        clear rA rP own ke hk2 p1 p3 ro hsv hg hbg
        go_wp2_with (at_builtin; refine wpList_append_own _ rfl _ _ 22 rfl (w.heap.size + 3) 76 i0 (.agg #[.slice none 0 0, .int .i64 0, .int .i64 0, .int .i64 0, .int .i64 0]) 5 56 Try.underlying22 ii iz0 iz1 iz2 rfl (by decide) _ _ _ rfl ((own2.row.alloc _).alloc _) ⟨w2.heap.size + 1, 0, none⟩ 1 1 [.slice so l.length sc, .int .i64 a, .int .i64 b, .int .i64 c, .int .i64 d] rfl rfl ?c115 five_one ?c315 ?c415 ?c515 ?_)
        case c115 => simpa using five_new (w2.alloc _) _ _ _ _ _ _
        case c315 => have := hvl.out; unfold maxLen; omega
        case c415 => have := hvl.out; omega
        case c515 => first | omega | (simp; omega)
        intro v' w3 hown' hgrow _
        have own3 : OwnBlocks w3 (w.heap.size + 3) v' (bv ++ [(⟨l, ⟨a, b, c, d⟩⟩, .slice so l.length sc)]) := ((own2.alloc _).alloc _).snoc ((hsv2.alloc _).alloc _) hfree hgrow hown'
        have hb2 := ((((Below.refl (w.heap.size + 3) w2).alloc hzq _).alloc (by simp; omega) _).grown hgrow (by simp; omega) (fun g hg => (own2.row.lt g hg).1))
        have rA3 := rA2.below hb2 (by omega)
        have rP3 := rP2.below hb2 (by omega)
        have ro3 := hr2.belowB hraw hb2 (by omega) (by omega)
        have ke3 := ke2.below hb2 (by omega)
        have hz3 := hb2.size
        have y4 := rP3.cell (i := 4) rfl
        have yf := rP3.frozen 4
        obtain ⟨bo', bc', hv'⟩ := owns_slice own3.row
        rw [List.length_append] at hv'
        simp only [List.length_cons, List.length_nil, Nat.zero_add] at hv'
        subst hv'
        have rP4 := rP3.set 4 (.slice bo' (bv.length + 1) bc')
        have rA4 := rA3.unset (a := ⟨(w.heap.size + 2), 4, none⟩) (by show w.heap.size ≠ w.heap.size + 2; omega) (.slice bo' (bv.length + 1) bc')
        have ro4 := ro3.away hraw (g := (w.heap.size + 2)) (i := 4) (by omega) (by omega) (.slice bo' (bv.length + 1) bc')
        have ke4 := ke3.setCell (p := ⟨(w.heap.size + 2), 4, none⟩) (.inr (by show w.heap.size ≤ w.heap.size + 2; omega)) (.slice bo' (bv.length + 1) bc')
        have own4 := own3.set (a := ⟨(w.heap.size + 2), 4, none⟩) (by show w.heap.size + 2 < w.heap.size + 3; omega) (.slice bo' (bv.length + 1) bc')
        clear hgrow hown' hb2 rA2 rP2 own2 hr2 ke2 p4 rA3 rP3 ro3 ke3 own3 hsv2 hfree
        go_wp2
        go_roundw
        case rel => exact ⟨j + 1, _, _, k2, by omega, by go_num, by show List.length _ = _; have := hvl.out; simp; exact this, HG, rA4, rP4, own4, ro4, ke4, by simp; omega⟩
        case measure => simp [intOf]; omega
      · have hje : (j : Int) = 1 + x4 := by omega
        have b0 := rP.cell (i := 0) rfl
        have b2 := rP.cell (i := 2) rfl
        have b4 := rP.cell (i := 4) rfl
        have a0 := rA.cell (i := 0) rfl
        have a1 := rA.cell (i := 1) rfl
        have a2 := rA.cell (i := 2) rfl
        have a3 := rA.cell (i := 3) rfl
        have a4 := rA.cell (i := 4) rfl
        have f0 := rA.frozen 0
        have f1 := rA.frozen 1
        have f2 := rA.frozen 2
        have f3 := rA.frozen 3
        have f4 := rA.frozen 4
        have hgood : progGood ⟨x1, 1 + x0, x2, x3, bdat bv⟩ = true := by
          have e := hvl.out
          simp only [progGood, blocksGood, Bool.and_eq_true, decide_eq_true_eq, List.all_eq_true, bdat_length]
          refine ⟨⟨⟨⟨⟨by omega, by omega⟩, by omega⟩, by omega⟩, by omega⟩, ?_⟩
          intro x hx
          obtain ⟨y, hy, rfl⟩ := List.mem_map.1 hx
          have := hbg.out y hy
          rw [e, hje]
          exact this
        have hfin := hp x1 (1 + x0) x2 x3 (.slice bo bv.length bc) bv (((((wr.setCell ⟨w.heap.size, 0, none⟩ (.int .i64 x1)).setCell ⟨w.heap.size, 1, none⟩ (.int .i64 (1 + x0))).setCell ⟨w.heap.size, 2, none⟩ (.int .i64 x2)).setCell ⟨w.heap.size, 3, none⟩ (.int .i64 x3)).setCell ⟨w.heap.size, 4, none⟩ (.slice bo bv.length bc)) hgood
          ((((((own.set (by simp) _).set (by simp) _).set (by simp) _).set (by simp) _).set (by simp) _).base (by omega))
          ((((((ke.setCell (.inr (by simp)) _).setCell (.inr (by simp)) _).setCell (.inr (by simp)) _).setCell (.inr (by simp)) _).setCell (.inr (by simp)) _).toBelow (Nat.le_refl _) (fun g hg => by omega))
        have HF : Hid (Post (.returned (.agg #[.int .i64 x1, .int .i64 (1 + x0), .int .i64 x2, .int .i64 x3, .slice bo bv.length bc])) (((((wr.setCell ⟨w.heap.size, 0, none⟩ (.int .i64 x1)).setCell ⟨w.heap.size, 1, none⟩ (.int .i64 (1 + x0))).setCell ⟨w.heap.size, 2, none⟩ (.int .i64 x2)).setCell ⟨w.heap.size, 3, none⟩ (.int .i64 x3)).setCell ⟨w.heap.size, 4, none⟩ (.slice bo bv.length bc))) := hfin
        clear hfin hp hgood own ro ke rA rP
        go_wp2
        exact bodyPost_ret (v := .agg #[.int .i64 x1, .int .i64 (1 + x0), .int .i64 x2, .int .i64 x3, .slice bo bv.length bc]) (by simp [results, Try.results14, go_sem, a0, a1, a2, a3, a4]) rfl HF.out

end Go.Proofs.Ytdjdjkgoelbbdaa
