/- Package compare: is the hint one for these programs, and does it hold at the start? -/
import Derived.Test.YtblhmeidbjigaabGreatDoorRows
import Derived.WalkKit
import Derived.WalkSpells
import Derived.WalkLawsBesides
import Derived.Laws.BytesArg
import Derived.Deep.QuietTactic
import Derived.BigQuiet
import Derived.Deep.RegionHeld3
import Derived.Lib.ItoaNum
import Derived.Lib.ItoaLen
import Derived.OpenShut
import Derived.Maps.AppendAt
import Derived.Shelf.Strconv.Itoa3
import Derived.Shelf.Lay
import Derived.Ground.NamesProg
import Derived.Lib.SmallJoins
import Derived.Lib.Hide
import Derived.StillTailTactics
import Derived.Test.YtblhmeidbjigaabGreatDoorVCmBToVCmDAll

set_option linter.unusedSimpArgs false
set_option linter.unusedVariables false
namespace Go.Proofs.YtblhmeidbjigaabGreatDoor
open Go.RowKit

set_option maxRecDepth 100000 in
set_option maxHeartbeats 4000000 in
theorem vFitP_cps (a1 a2 a3 a4 b1 b2 b3 b4 : Int) (po qo ho : Option Addr) (pn pc qn qc hn hc : Nat) (src : Int) (so : Option Addr) (sn sc : Nat) (qs : List PairD) (w : World) (hq : RdPairs w (.slice so sn sc) qs) (hadd : IntKind.i64.wrap (b2 + b4) = b2 + b4) (Post : Ending → World → Prop)
    (hp : ∀ z w', (z = true ↔ src < pn ∧ ∀ x ∈ qs, x.reg < a2 ∧ x.place < b2 + b4) → Below w.heap.size w w' → Post (.returned (.bool z)) w') :
    Calls Tryz.prog 100 #[.agg #[.int .i64 a1, .int .i64 a2, .int .i64 a3, .int .i64 a4, .slice po pn pc, .int .i64 b1, .int .i64 b2, .int .i64 b3, .int .i64 b4, .slice qo qn qc, .slice ho hn hc], .agg #[.int .i64 src, .slice so sn sc]] w Post := by
  obtain ⟨so', sc', e0, hql, hqs⟩ := hq
  simp only [Value.slice.injEq] at e0
  obtain ⟨rfl, rfl, rfl⟩ := e0
  have b0 : Below w.heap.size w ((w.alloc (.cells #[.int .i64 a1, .int .i64 a2, .int .i64 a3, .int .i64 a4, .slice po pn pc, .int .i64 b1, .int .i64 b2, .int .i64 b3, .int .i64 b4, .slice qo qn qc, .slice ho hn hc] 120)).alloc (.cells #[.int .i64 src, .slice so qs.length sc] 33)) := ((Below.refl _ _).alloc (Nat.le_refl _) _).alloc (by simp) _
  have r1 : Row ((w.alloc (.cells #[.int .i64 a1, .int .i64 a2, .int .i64 a3, .int .i64 a4, .slice po pn pc, .int .i64 b1, .int .i64 b2, .int .i64 b3, .int .i64 b4, .slice qo qn qc, .slice ho hn hc] 120)).alloc (.cells #[.int .i64 src, .slice so qs.length sc] 33)) w.heap.size 120 [.int .i64 a1, .int .i64 a2, .int .i64 a3, .int .i64 a4, .slice po pn pc, .int .i64 b1, .int .i64 b2, .int .i64 b3, .int .i64 b4, .slice qo qn qc, .slice ho hn hc] := Row.alloc (heap_alloc_new w _) _
  have r2 : Row ((w.alloc (.cells #[.int .i64 a1, .int .i64 a2, .int .i64 a3, .int .i64 a4, .slice po pn pc, .int .i64 b1, .int .i64 b2, .int .i64 b3, .int .i64 b4, .slice qo qn qc, .slice ho hn hc] 120)).alloc (.cells #[.int .i64 src, .slice so qs.length sc] 33)) (w.heap.size + 1) 33 [.int .i64 src, .slice so qs.length sc] := heap_alloc2_new w _ _
  have HP := Lib.hid hp
  clear hp
  by_cases hsrc : src < pn
  · obtain ⟨W, hW⟩ : ∃ W, W = ((w.alloc (.cells #[.int .i64 a1, .int .i64 a2, .int .i64 a3, .int .i64 a4, .slice po pn pc, .int .i64 b1, .int .i64 b2, .int .i64 b3, .int .i64 b4, .slice qo qn qc, .slice ho hn hc] 120)).alloc (.cells #[.int .i64 src, .slice so qs.length sc] 33)) := ⟨_, rfl⟩
    rw [← hW] at b0 r1 r2
    have HWE := Lib.hid hW
    clear hW
    go_enter Tryz.func100, Tryz.ntmps100
    go_wp2
    rw [← HWE.out]
    clear HWE
    go_loopw [5] (fun i wr => ∃ (k : Nat), k ≤ qs.length ∧ i = .int .i64 k ∧ Below W.heap.size W wr ∧ Hid (∀ j, j < k → preg qs j < a2 ∧ pplace qs j < b2 + b4))
      (fun i _ => qs.length - (intOf i).toNat)
    case atStart => exact ⟨0, Nat.zero_le _, rfl, Below.refl _ _, fun j hj => by omega⟩
    case round =>
      obtain ⟨k, hk, rfl, hbel, hall⟩ := hrel
      have hbw : Below w.heap.size w wr := b0.trans (hbel.mono b0.size)
      have x1 := cell_keep hbel (r2.cell (i := 1) rfl)
      by_cases hlt : k < qs.length
      · obtain ⟨b, off, rfl, g0, g1⟩ := hqs k hlt
        have y0 := cell_keep hbw g0
        have y1 := cell_keep hbw g1
        have c1 := cell_keep hbel (r1.cell (i := 1) rfl)
        have c6 := cell_keep hbel (r1.cell (i := 6) rfl)
        have c8 := cell_keep hbel (r1.cell (i := 8) rfl)
        have hki : (0 : Int) ≤ (k : Int) := by omega
        have hkj : (k : Int) < (qs.length : Int) := by omega
        have hbd := Lib.hid (fun n => below_drewN hbel n)
        have hbd2 := Lib.hid (fun n => below_drewN hbw n)
        have HM := Lib.hid (getD_mem' (d := pz) hlt)
        have HR : Hid ((qs.getD k pz).reg = preg qs k ∧ (qs.getD k pz).place = pplace qs k) := ⟨rfl, rfl⟩
        clear g0 g1 hqs hbel hbw r1 r2
        generalize preg qs k = rg at *
        generalize pplace qs k = pg at *
        by_cases h1 : rg < a2
        · have n1 : ¬ (a2 ≤ rg) := by omega
          by_cases h2 : pg < b2 + b4
          · have n2 : ¬ (b2 + b4 ≤ pg) := by omega
            have hall2 : Hid (∀ j, j < k + 1 → preg qs j < a2 ∧ pplace qs j < b2 + b4) := fun j hj => by
              by_cases e : j = k
              · rw [e]
                have q1 : preg qs k = rg := HR.out.1
                have q2 : pplace qs k = pg := HR.out.2
                rw [q1, q2]; exact ⟨h1, h2⟩
              · exact hall.out j (by omega)
            clear hall HR HM
            go_wp2
            go_quiet (fail)
            go_wp2
            go_roundw
            case rel => exact ⟨k + 1, by omega, by go_num, hbd.out _, hall2⟩
            case measure => simp [intOf]; omega
          · have n2 : b2 + b4 ≤ pg := by omega
            have HNO : Hid (¬ (src < pn ∧ ∀ x ∈ qs, x.reg < a2 ∧ x.place < b2 + b4)) := fun hA => h2 (by have := (hA.2 _ HM.out).2; rw [HR.out.2] at this; exact this)
            clear hall HR HM
            go_wp2
            go_quiet (fail)
            go_wp2
            exact HP.out false _ ⟨fun hq => (by cases hq), fun hA => absurd hA HNO.out⟩ (hbd2.out _)
        · have n1 : a2 ≤ rg := by omega
          have HNO : Hid (¬ (src < pn ∧ ∀ x ∈ qs, x.reg < a2 ∧ x.place < b2 + b4)) := fun hA => h1 (by have := (hA.2 _ HM.out).1; rw [HR.out.1] at this; exact this)
          clear hall HR HM
          go_wp2
          go_quiet (fail)
          go_wp2
          exact HP.out false _ ⟨fun hq => (by cases hq), fun hA => absurd hA HNO.out⟩ (hbd2.out _)
      · obtain rfl : k = qs.length := by omega
        have HY : Hid (src < pn ∧ ∀ x ∈ qs, x.reg < a2 ∧ x.place < b2 + b4) := ⟨hsrc, fun x hx => by
          obtain ⟨j, hj, rfl⟩ := List.getElem_of_mem hx
          have := hall.out j hj
          simpa [preg, pplace, List.getD, hj] using this⟩
        have HF := Lib.hid (HP.out true _ ⟨fun _ => HY.out, fun _ => rfl⟩ hbw)
        clear hqs hall hbel hbw
        go_wp2
        exact HF.out
  · have n1 : (pn : Int) ≤ src := by omega
    have HF := Lib.hid (HP.out false _ ⟨fun hq => (by cases hq), fun hA => absurd hA.1 hsrc⟩ b0)
    clear hqs r1 r2 b0 HP hsrc
    go_enter Tryz.func100, Tryz.ntmps100
    go_wp2
    exact HF.out

set_option maxRecDepth 100000 in
set_option maxHeartbeats 4000000 in
theorem vFit_cps (a1 a2 a3 a4 b1 b2 b3 b4 : Int) (po qo ho : Option Addr) (pn pc qn qc hn hc : Nat) (h : List PingD) (w : World) (hh : RdHint w (.slice ho hn hc) h) (hadd : IntKind.i64.wrap (b2 + b4) = b2 + b4) (Post : Ending → World → Prop)
    (hp : ∀ z w', (z = true ↔ h.length = qn ∧ ∀ b, b < h.length → hsrc h b < pn ∧ ∀ x ∈ hpairs h b, x.reg < a2 ∧ x.place < b2 + b4) → Below w.heap.size w w' → Post (.returned (.bool z)) w') :
    Calls Tryz.prog 60 #[.agg #[.int .i64 a1, .int .i64 a2, .int .i64 a3, .int .i64 a4, .slice po pn pc, .int .i64 b1, .int .i64 b2, .int .i64 b3, .int .i64 b4, .slice qo qn qc, .slice ho hn hc]] w Post := by
  obtain ⟨ho', hc', e0, hhl, hhs⟩ := hh
  simp only [Value.slice.injEq] at e0
  obtain ⟨rfl, rfl, rfl⟩ := e0
  have b0 : Below w.heap.size w (w.alloc (.cells #[.int .i64 a1, .int .i64 a2, .int .i64 a3, .int .i64 a4, .slice po pn pc, .int .i64 b1, .int .i64 b2, .int .i64 b3, .int .i64 b4, .slice qo qn qc, .slice ho h.length hc] 120)) := (Below.refl _ _).alloc (Nat.le_refl _) _
  have r1 : Row (w.alloc (.cells #[.int .i64 a1, .int .i64 a2, .int .i64 a3, .int .i64 a4, .slice po pn pc, .int .i64 b1, .int .i64 b2, .int .i64 b3, .int .i64 b4, .slice qo qn qc, .slice ho h.length hc] 120)) w.heap.size 120 [.int .i64 a1, .int .i64 a2, .int .i64 a3, .int .i64 a4, .slice po pn pc, .int .i64 b1, .int .i64 b2, .int .i64 b3, .int .i64 b4, .slice qo qn qc, .slice ho h.length hc] := heap_alloc_new w _
  have HP := Lib.hid hp
  clear hp
  by_cases hlen : h.length = qn
  · have hq : ((h.length : Int) == (qn : Int)) = true := by simp [hlen]
    have HLEN := Lib.hid hlen
    obtain ⟨W, hW⟩ : ∃ W, W = (w.alloc (.cells #[.int .i64 a1, .int .i64 a2, .int .i64 a3, .int .i64 a4, .slice po pn pc, .int .i64 b1, .int .i64 b2, .int .i64 b3, .int .i64 b4, .slice qo qn qc, .slice ho h.length hc] 120)) := ⟨_, rfl⟩
    rw [← hW] at b0 r1
    have HWE := Lib.hid hW
    clear hW hlen
    go_enter Tryz.func60, Tryz.ntmps60
    go_wp2
    rw [← HWE.out]
    clear HWE
    go_loopw [3] (fun i wr => ∃ (k : Nat), k ≤ h.length ∧ i = .int .i64 k ∧ Below W.heap.size W wr ∧ Hid (∀ b, b < k → hsrc h b < pn ∧ ∀ x ∈ hpairs h b, x.reg < a2 ∧ x.place < b2 + b4))
      (fun i _ => h.length - (intOf i).toNat)
    case atStart => exact ⟨0, Nat.zero_le _, rfl, Below.refl _ _, fun j hj => by omega⟩
    case round =>
      obtain ⟨k, hk, rfl, hbel, hall⟩ := hrel
      have hbw : Below w.heap.size w wr := b0.trans (hbel.mono b0.size)
      have x1 := cell_keep hbel (r1.cell (i := 10) rfl)
      by_cases hlt : k < h.length
      · obtain ⟨b, off, sv, rfl, g0, g1, g2⟩ := hhs k hlt
        obtain ⟨so, sc, hsv, _, _⟩ := id g2
        have k0 : Below wr.heap.size wr wr.drew := (Below.refl _ _).drew
        have hbd : Below w.heap.size w wr.drew := hbw.trans (k0.mono hbw.size)
        obtain ⟨sn, hsn⟩ : ∃ sn, sn = (hpairs h k).length := ⟨_, rfl⟩
        rw [← hsn] at hsv
        subst hsv
        have q := fun P' => vFitP_cps a1 a2 a3 a4 b1 b2 b3 b4 po qo (some ⟨b, off, none⟩) pn pc qn qc h.length hc (hsrc h k) so sn sc (hpairs h k) wr.drew (g2.keep hbd) hadd P'
        have c0 := fun V (hV : Below wr.heap.size wr V) => cell_keep hV (cell_keep hbel (r1.cell (i := 0) rfl))
        have c1 := fun V (hV : Below wr.heap.size wr V) => cell_keep hV (cell_keep hbel (r1.cell (i := 1) rfl))
        have c2 := fun V (hV : Below wr.heap.size wr V) => cell_keep hV (cell_keep hbel (r1.cell (i := 2) rfl))
        have c3 := fun V (hV : Below wr.heap.size wr V) => cell_keep hV (cell_keep hbel (r1.cell (i := 3) rfl))
        have c4 := fun V (hV : Below wr.heap.size wr V) => cell_keep hV (cell_keep hbel (r1.cell (i := 4) rfl))
        have c5 := fun V (hV : Below wr.heap.size wr V) => cell_keep hV (cell_keep hbel (r1.cell (i := 5) rfl))
        have c6 := fun V (hV : Below wr.heap.size wr V) => cell_keep hV (cell_keep hbel (r1.cell (i := 6) rfl))
        have c7 := fun V (hV : Below wr.heap.size wr V) => cell_keep hV (cell_keep hbel (r1.cell (i := 7) rfl))
        have c8 := fun V (hV : Below wr.heap.size wr V) => cell_keep hV (cell_keep hbel (r1.cell (i := 8) rfl))
        have c9 := fun V (hV : Below wr.heap.size wr V) => cell_keep hV (cell_keep hbel (r1.cell (i := 9) rfl))
        have c10 := fun V (hV : Below wr.heap.size wr V) => cell_keep hV (cell_keep hbel (r1.cell (i := 10) rfl))
        have y0 : ∀ V, Below wr.heap.size wr V → V.cell? ⟨b, off + k * 2, none⟩ = some (.int .i64 (hsrc h k)) := fun V hV => cell_keep hV (cell_keep hbw g0)
        have y1 : ∀ V, Below wr.heap.size wr V → V.cell? ⟨b, off + k * 2 + 1, none⟩ = some (.slice so sn sc) := fun V hV => cell_keep hV (cell_keep hbw g1)
        have hki : (0 : Int) ≤ (k : Int) := by omega
        have hkj : (k : Int) < (h.length : Int) := by omega
        have HBEL := Lib.hid hbel
        have HBW := Lib.hid hbw
        clear g0 g1 g2 hhs hbel hbw hbd r1 hsn
        generalize hG : hsrc h k = hs at *
        have HG := Lib.hid hG
        clear hG
        go_wp2
        go_region_held3 (fun V => Below wr.heap.size wr V) (first | with_reducible exact k0 | with_reducible exact b3) (first | (go_at_call 100; refine q _ ?_; intro z w2 hz b2; have b3 : Below wr.heap.size wr w2 := k0.trans (b2.mono k0.size)))
        have HZ := Lib.hid hz
        clear q b2 hz
        cases z with
        | true =>
          have hall2 : Hid (∀ b, b < k + 1 → hsrc h b < pn ∧ ∀ x ∈ hpairs h b, x.reg < a2 ∧ x.place < b2 + b4) := fun j hj => by
            by_cases e : j = k
            · rw [e, HG.out]; exact HZ.out.1 rfl
            · exact hall.out j (by omega)
          clear hall
          go_wp2
          go_roundw
          case rel => exact ⟨k + 1, by omega, by go_num, HBEL.out.trans (b3.mono HBEL.out.size), hall2⟩
          case measure => simp [intOf]; omega
        | false =>
          have HF := Lib.hid (HP.out false _ ⟨fun hq => (by cases hq), fun hA => by have := hA.2 k hlt; rw [HG.out] at this; have := HZ.out.2 this; cases this⟩ (HBW.out.trans (b3.mono HBW.out.size)))
          clear hall
          go_wp2
          exact HF.out
      · obtain rfl : k = h.length := by omega
        have HF := Lib.hid (HP.out true _ ⟨fun _ => ⟨HLEN.out, hall.out⟩, fun _ => rfl⟩ hbw)
        clear hhs hall hbel hbw
        go_wp2
        exact HF.out
  · have hq : ((h.length : Int) == (qn : Int)) = false := by simp; omega
    have HF := Lib.hid (HP.out false _ ⟨fun hq => (by cases hq), fun hA => absurd hA.1 hlen⟩ b0)
    clear hhs r1 b0 HP hlen
    go_enter Tryz.func60, Tryz.ntmps60
    go_wp2
    exact HF.out

end Go.Proofs.YtblhmeidbjigaabGreatDoor

/- Package compare: does the hint hold at the start? -/
set_option linter.unusedSimpArgs false
set_option linter.unusedVariables false
namespace Go.Proofs.YtblhmeidbjigaabGreatDoor
open Go.RowKit

set_option maxRecDepth 100000 in
set_option maxHeartbeats 2000000 in
theorem vBegin_cps (a1 a2 a3 a4 b1 b2 b3 b4 : Int) (po qo ho : Option Addr) (pn pc qn qc hn hc : Nat) (rg pl : Int) (w : World) (Post : Ending → World → Prop)
    (hp : ∀ z w', (z = true ↔ pl < b2 ∧ (rg = pl ∨ (a1 ≤ rg ∧ a1 ≤ pl))) → Below w.heap.size w w' → Post (.returned (.bool z)) w') :
    Calls Tryz.prog 101 #[.agg #[.int .i64 a1, .int .i64 a2, .int .i64 a3, .int .i64 a4, .slice po pn pc, .int .i64 b1, .int .i64 b2, .int .i64 b3, .int .i64 b4, .slice qo qn qc, .slice ho hn hc], .agg #[.int .i64 rg, .int .i64 pl]] w Post := by
  have b0 : Below w.heap.size w ((w.alloc (.cells #[.int .i64 a1, .int .i64 a2, .int .i64 a3, .int .i64 a4, .slice po pn pc, .int .i64 b1, .int .i64 b2, .int .i64 b3, .int .i64 b4, .slice qo qn qc, .slice ho hn hc] 120)).alloc (.cells #[.int .i64 rg, .int .i64 pl] 38)) := ((Below.refl _ _).alloc (Nat.le_refl _) _).alloc (by simp) _
  have HP := Lib.hid hp
  have HB := Lib.hid b0
  clear hp b0
  by_cases h1 : pl < b2
  · have n1 : ¬ (b2 ≤ pl) := by omega
    by_cases h2 : rg = pl
    · subst h2
      have HF := Lib.hid (HP.out true _ ⟨fun _ => ⟨h1, .inl rfl⟩, fun _ => rfl⟩ HB.out)
      have hq : (rg == rg) = true := by simp
      clear HP HB
      by_cases h3 : a1 ≤ rg
      · go_enter Tryz.func101, Tryz.ntmps101
        go_wp2
        exact HF.out
      · go_enter Tryz.func101, Tryz.ntmps101
        go_wp2
        exact HF.out
    · have hq : (rg == pl) = false := by simp [h2]
      by_cases h3 : a1 ≤ rg
      · by_cases h4 : a1 ≤ pl
        · have HF := Lib.hid (HP.out true _ ⟨fun _ => ⟨h1, .inr ⟨h3, h4⟩⟩, fun _ => rfl⟩ HB.out)
          clear HP HB h2
          go_enter Tryz.func101, Tryz.ntmps101
          go_wp2
          exact HF.out
        · have HF := Lib.hid (HP.out false _ ⟨fun q => (by cases q), fun hA => absurd hA.2 (by omega)⟩ HB.out)
          clear HP HB h2
          go_enter Tryz.func101, Tryz.ntmps101
          go_wp2
          exact HF.out
      · have HF := Lib.hid (HP.out false _ ⟨fun q => (by cases q), fun hA => absurd hA.2 (by omega)⟩ HB.out)
        clear HP HB h2
        go_enter Tryz.func101, Tryz.ntmps101
        go_wp2
        exact HF.out
  · have n1 : b2 ≤ pl := by omega
    have HF := Lib.hid (HP.out false _ ⟨fun q => (by cases q), fun hA => absurd hA.1 h1⟩ HB.out)
    clear HP HB
    go_enter Tryz.func101, Tryz.ntmps101
    go_wp2
    exact HF.out

set_option maxRecDepth 100000 in
set_option maxHeartbeats 4000000 in
theorem vStart_cps (a1 a2 a3 a4 b1 b2 b3 b4 : Int) (po qo ho : Option Addr) (pn pc qn qc hn hc : Nat) (h : List PingD) (h0 : 0 < h.length) (w : World) (hh : RdHint w (.slice ho hn hc) h) (Post : Ending → World → Prop)
    (hp : ∀ z w', (z = true ↔ hsrc h 0 = 0 ∧ ∀ x ∈ hpairs h 0, x.place < b2 ∧ (x.reg = x.place ∨ (a1 ≤ x.reg ∧ a1 ≤ x.place))) → Below w.heap.size w w' → Post (.returned (.bool z)) w') :
    Calls Tryz.prog 61 #[.agg #[.int .i64 a1, .int .i64 a2, .int .i64 a3, .int .i64 a4, .slice po pn pc, .int .i64 b1, .int .i64 b2, .int .i64 b3, .int .i64 b4, .slice qo qn qc, .slice ho hn hc]] w Post := by
  obtain ⟨ho', hc', e0, hhl, hhs⟩ := hh
  simp only [Value.slice.injEq] at e0
  obtain ⟨rfl, rfl, rfl⟩ := e0
  obtain ⟨hb, hoff, sv, rfl, g0, g1, g2⟩ := hhs 0 h0
  obtain ⟨so, sc, hsv, hql, hqs⟩ := id g2
  obtain ⟨qs, hqe⟩ : ∃ qs, qs = hpairs h 0 := ⟨_, rfl⟩
  rw [← hqe] at hsv hqs hql hp
  subst hsv
  simp only [Nat.zero_mul, Nat.add_zero] at g0 g1
  have WFb : Below w.heap.size w ((w.alloc (.cells #[.int .i64 a1, .int .i64 a2, .int .i64 a3, .int .i64 a4, .slice po pn pc, .int .i64 b1, .int .i64 b2, .int .i64 b3, .int .i64 b4, .slice qo qn qc, .slice (some ⟨hb, hoff, none⟩) h.length hc] 120)).alloc (.cells #[.int .i64 (hsrc h 0), .slice so qs.length sc] 33)) := ((Below.refl _ _).alloc (Nat.le_refl _) _).alloc (by simp) _
  have bA : Below w.heap.size w (w.alloc (.cells #[.int .i64 a1, .int .i64 a2, .int .i64 a3, .int .i64 a4, .slice po pn pc, .int .i64 b1, .int .i64 b2, .int .i64 b3, .int .i64 b4, .slice qo qn qc, .slice (some ⟨hb, hoff, none⟩) h.length hc] 120)) := (Below.refl _ _).alloc (Nat.le_refl _) _
  have y0 := cell_keep bA g0
  have y1 := cell_keep bA g1
  have r1 : Row ((w.alloc (.cells #[.int .i64 a1, .int .i64 a2, .int .i64 a3, .int .i64 a4, .slice po pn pc, .int .i64 b1, .int .i64 b2, .int .i64 b3, .int .i64 b4, .slice qo qn qc, .slice (some ⟨hb, hoff, none⟩) h.length hc] 120)).alloc (.cells #[.int .i64 (hsrc h 0), .slice so qs.length sc] 33)) w.heap.size 120 [.int .i64 a1, .int .i64 a2, .int .i64 a3, .int .i64 a4, .slice po pn pc, .int .i64 b1, .int .i64 b2, .int .i64 b3, .int .i64 b4, .slice qo qn qc, .slice (some ⟨hb, hoff, none⟩) h.length hc] := Row.alloc (heap_alloc_new w _) _
  have r2 : Row ((w.alloc (.cells #[.int .i64 a1, .int .i64 a2, .int .i64 a3, .int .i64 a4, .slice po pn pc, .int .i64 b1, .int .i64 b2, .int .i64 b3, .int .i64 b4, .slice qo qn qc, .slice (some ⟨hb, hoff, none⟩) h.length hc] 120)).alloc (.cells #[.int .i64 (hsrc h 0), .slice so qs.length sc] 33)) (w.heap.size + 1) 33 [.int .i64 (hsrc h 0), .slice so qs.length sc] := heap_alloc2_new w _ _
  have hli : (0 : Int) < (h.length : Int) := by omega
  have HP := Lib.hid hp
  clear hp hhs g0 g1 g2 hqe bA
  by_cases hz : hsrc h 0 = 0
  · have hzq : (hsrc h 0 == 0) = true := by simp [hz]
    have HZ0 := Lib.hid hz
    obtain ⟨W, hW⟩ : ∃ W, W = ((w.alloc (.cells #[.int .i64 a1, .int .i64 a2, .int .i64 a3, .int .i64 a4, .slice po pn pc, .int .i64 b1, .int .i64 b2, .int .i64 b3, .int .i64 b4, .slice qo qn qc, .slice (some ⟨hb, hoff, none⟩) h.length hc] 120)).alloc (.cells #[.int .i64 (hsrc h 0), .slice so qs.length sc] 33)) := ⟨_, rfl⟩
    rw [← hW] at WFb r1 r2
    have HWE := Lib.hid hW
    clear hW hz
    generalize hsrc h 0 = s0 at *
    go_enter Tryz.func61, Tryz.ntmps61
    go_wp2
    rw [← HWE.out]
    clear HWE y0 y1
    go_loopw [4] (fun i wr => ∃ (k : Nat), k ≤ qs.length ∧ i = .int .i64 k ∧ Below W.heap.size W wr ∧ Hid (∀ j, j < k → pplace qs j < b2 ∧ (preg qs j = pplace qs j ∨ (a1 ≤ preg qs j ∧ a1 ≤ pplace qs j))))
      (fun i _ => qs.length - (intOf i).toNat)
    case atStart => exact ⟨0, Nat.zero_le _, rfl, Below.refl _ _, fun j hj => by omega⟩
    case round =>
      obtain ⟨k, hk, rfl, hbel, hall⟩ := hrel
      have hbw : Below w.heap.size w wr := WFb.trans (hbel.mono WFb.size)
      have x1 := cell_keep hbel (r2.cell (i := 1) rfl)
      by_cases hlt : k < qs.length
      · obtain ⟨b, off, rfl, g0, g1⟩ := hqs k hlt
        have k0 : Below wr.heap.size wr wr.drew := (Below.refl _ _).drew
        have q := fun P' => vBegin_cps a1 a2 a3 a4 b1 b2 b3 b4 po qo (some ⟨hb, hoff, none⟩) pn pc qn qc h.length hc (preg qs k) (pplace qs k) wr.drew P'
        have c0 := fun V (hV : Below wr.heap.size wr V) => cell_keep hV (cell_keep hbel (r1.cell (i := 0) rfl))
        have c1 := fun V (hV : Below wr.heap.size wr V) => cell_keep hV (cell_keep hbel (r1.cell (i := 1) rfl))
        have c2 := fun V (hV : Below wr.heap.size wr V) => cell_keep hV (cell_keep hbel (r1.cell (i := 2) rfl))
        have c3 := fun V (hV : Below wr.heap.size wr V) => cell_keep hV (cell_keep hbel (r1.cell (i := 3) rfl))
        have c4 := fun V (hV : Below wr.heap.size wr V) => cell_keep hV (cell_keep hbel (r1.cell (i := 4) rfl))
        have c5 := fun V (hV : Below wr.heap.size wr V) => cell_keep hV (cell_keep hbel (r1.cell (i := 5) rfl))
        have c6 := fun V (hV : Below wr.heap.size wr V) => cell_keep hV (cell_keep hbel (r1.cell (i := 6) rfl))
        have c7 := fun V (hV : Below wr.heap.size wr V) => cell_keep hV (cell_keep hbel (r1.cell (i := 7) rfl))
        have c8 := fun V (hV : Below wr.heap.size wr V) => cell_keep hV (cell_keep hbel (r1.cell (i := 8) rfl))
        have c9 := fun V (hV : Below wr.heap.size wr V) => cell_keep hV (cell_keep hbel (r1.cell (i := 9) rfl))
        have c10 := fun V (hV : Below wr.heap.size wr V) => cell_keep hV (cell_keep hbel (r1.cell (i := 10) rfl))
        have z1 := fun V (hV : Below wr.heap.size wr V) => cell_keep hV (cell_keep hbel (r2.cell (i := 1) rfl))
        have y0 : ∀ V, Below wr.heap.size wr V → V.cell? ⟨b, off + k * 2, none⟩ = some (.int .i64 (preg qs k)) := fun V hV => cell_keep hV (cell_keep hbw g0)
        have y1 : ∀ V, Below wr.heap.size wr V → V.cell? ⟨b, off + k * 2 + 1, none⟩ = some (.int .i64 (pplace qs k)) := fun V hV => cell_keep hV (cell_keep hbw g1)
        have hki : (0 : Int) ≤ (k : Int) := by omega
        have hkj : (k : Int) < (qs.length : Int) := by omega
        have HBEL := Lib.hid hbel
        have HBW := Lib.hid hbw
        have HM := Lib.hid (getD_mem' (d := pz) hlt)
        have HR : Hid ((qs.getD k pz).reg = preg qs k ∧ (qs.getD k pz).place = pplace qs k) := ⟨rfl, rfl⟩
        clear g0 g1 hqs hbel hbw r1 r2
        generalize preg qs k = rg at *
        generalize pplace qs k = pg at *
        go_wp2
        go_region_held3 (fun V => Below wr.heap.size wr V) (first | with_reducible exact k0 | with_reducible exact b3) (first | (go_at_call 101; refine q _ ?_; intro z w2 hz b2; have b3 : Below wr.heap.size wr w2 := k0.trans (b2.mono k0.size)))
        have HZ := Lib.hid hz
        clear q b2 hz
        cases z with
        | true =>
          have hall2 : Hid (∀ j, j < k + 1 → pplace qs j < b2 ∧ (preg qs j = pplace qs j ∨ (a1 ≤ preg qs j ∧ a1 ≤ pplace qs j))) := fun j hj => by
            by_cases e : j = k
            · rw [e]
              have q1 : preg qs k = rg := HR.out.1
              have q2 : pplace qs k = pg := HR.out.2
              rw [q1, q2]; exact HZ.out.1 rfl
            · exact hall.out j (by omega)
          clear hall HR HM
          go_wp2
          go_roundw
          case rel => exact ⟨k + 1, by omega, by go_num, HBEL.out.trans (b3.mono HBEL.out.size), hall2⟩
          case measure => simp [intOf]; omega
        | false =>
          have HF := Lib.hid (HP.out false _ ⟨fun hq => (by cases hq), fun hA => by
            have := hA.2 _ HM.out
            rw [HR.out.1, HR.out.2] at this
            have := HZ.out.2 this; cases this⟩ (HBW.out.trans (b3.mono HBW.out.size)))
          clear hall HR HM
          go_wp2
          exact HF.out
      · obtain rfl : k = qs.length := by omega
        have HY : Hid (∀ x ∈ qs, x.place < b2 ∧ (x.reg = x.place ∨ (a1 ≤ x.reg ∧ a1 ≤ x.place))) := fun x hx => by
          obtain ⟨j, hj, rfl⟩ := List.getElem_of_mem hx
          have := hall.out j hj
          simpa [preg, pplace, List.getD, hj] using this
        have HF := Lib.hid (HP.out true _ ⟨fun _ => ⟨HZ0.out, HY.out⟩, fun _ => rfl⟩ hbw)
        clear hqs hall hbel hbw
        go_wp2
        exact HF.out
  · have hzq : (hsrc h 0 == 0) = false := by simp [hz]
    have HF := Lib.hid (HP.out false _ ⟨fun hq => (by cases hq), fun hA => absurd hA.1 hz⟩ WFb)
    clear hqs r1 r2 HP hz WFb
    generalize hsrc h 0 = s0 at *
    go_enter Tryz.func61, Tryz.ntmps61
    go_wp2
    exact HF.out

end Go.Proofs.YtblhmeidbjigaabGreatDoor

/- P12 (4) as the code goes about it; pure. -/
set_option linter.unusedSimpArgs false
set_option linter.unusedVariables false
noncomputable section
namespace Go.Proofs.YtblhmeidbjigaabGreatDoor
open Go.RowKit Classical

/-- A mark's text. -/
def showM : MD → List UInt8
  | .cell u => 64 :: 32 :: showT u
  | .div u v => 47 :: 32 :: (showT u ++ 32 :: showT v)

def MD.fine : MD → Prop
  | .cell u => u.fine
  | .div u v => u.fine ∧ v.fine

theorem stops_sp (x : List UInt8) : Stops (32 :: x) := fun a b e => by
  first
  | (cases e; decide)
  | (cases e; simp)
  | skip

theorem showM_inj {m n : MD} (hm : m.fine) (hn : n.fine) (h : showM m = showM n) : m = n := by
  cases m with
  | cell u =>
    cases n with
    | cell v => simp only [showM, List.cons.injEq, true_and] at h; rw [show_inj hm.ok hn.ok h]
    | div v w => simp [showM] at h
  | div u v =>
    cases n with
    | cell w => simp [showM] at h
    | div u' v' =>
      simp only [showM, List.cons.injEq, true_and] at h
      obtain ⟨rfl, e⟩ := show_cut u u' (32 :: showT v) (32 :: showT v') hm.1.ok hn.1.ok (stops_sp _) (stops_sp _) h
      simp only [List.cons.injEq, true_and] at e
      rw [show_inj hm.2.ok hn.2.ok e]

theorem div_text (u v : TD) (data : Int) : divText u v = if idle data (.div u v) = true then [] else showM (.div u v) := by
  unfold divText
  simp only [idle, showM]
  rcases Option.eq_none_or_eq_some u.isNum with hb | ⟨x, hb⟩
  · simp [hb]
  · rcases Option.eq_none_or_eq_some v.isNum with hc | ⟨y, hc⟩
    · simp [hb, hc]
    · by_cases hy : y = 0 <;> simp [hb, hc, hy]

theorem cell_text (u : TD) (data : Int) : cellText data u = if idle data (.cell u) = true then [] else showM (.cell u) := by
  unfold cellText
  simp only [idle, showM]
  rcases Option.eq_none_or_eq_some u.isNum with hb | ⟨x, hb⟩
  · simp [hb]
  · by_cases hx : 0 ≤ x ∧ x < data
    · simp [hb, hx]
    · have : ¬ (0 ≤ x ∧ x < data) := hx
      simp only [hb]
      rw [if_neg hx, if_neg (by simpa using hx)]

theorem opMark_text (data : Int) (was : Int → TD) (o : OpD) : opMarkT data was o = match opMark was o with | none => [] | some m => if idle data m = true then [] else showM m := by
  unfold opMarkT opMark
  by_cases h1 : o.kind = 11
  · rw [if_pos h1, if_pos h1, div_text _ _ data]
  · rw [if_neg h1, if_neg h1]
    by_cases h2 : o.kind = 12
    · rw [if_pos h2, if_pos h2, cell_text]
    · rw [if_neg h2, if_neg h2]
      by_cases h3 : o.kind = 13
      · rw [if_pos h3, if_pos h3, cell_text]
      · rw [if_neg h3, if_neg h3]

theorem showM_ne (m : MD) : showM m ≠ [] := by cases m <;> simp [showM]

theorem map_mem_fine {l : List MD} {m : MD} (hl : ∀ x ∈ l, x.fine) (hm : m.fine) : showM m ∈ l.map showM ↔ m ∈ l := by
  constructor
  · intro h
    obtain ⟨x, hx, e⟩ := List.mem_map.1 h
    rw [← showM_inj (hl x hx) hm e]; exact hx
  · exact fun h => List.mem_map_of_mem h

theorem marks_show {regs slots data : Int} {names : List Int} {ops : List OpD} (hf : ∀ k, k ≤ ops.length → ∀ i : Int, 0 ≤ i → i ≤ regs + slots → (behindT regs slots names ops k i).fine) (hg : opsGood regs slots ops = true) (hr : 0 ≤ regs) (hs : 0 ≤ slots) :
    ∀ k, k ≤ ops.length → marksT regs slots data names ops k = (marksD regs slots data names ops k).map showM ∧ ∀ m ∈ marksD regs slots data names ops k, m.fine := by
  intro k
  induction k with
  | zero => intro _; exact ⟨rfl, fun m hm => by simp [marksD] at hm⟩
  | succ k ih =>
    intro hk
    obtain ⟨e, hfine⟩ := ih (by omega)
    have hraw : rawMark regs slots names ops k = opMark (behindT regs slots names ops k) (ops.getD k oz) := rfl
    have hgo : opGood regs slots (ops.getD k oz) = true := good_op hg (by omega)
    have hmf : ∀ m, opMark (behindT regs slots names ops k) (ops.getD k oz) = some m → m.fine := by
      intro m hm
      unfold opMark at hm
      unfold opGood at hgo
      by_cases h1 : (ops.getD k oz).kind = 11
      · rw [if_neg (by omega), if_pos (by omega)] at hgo
        simp only [Bool.and_eq_true, below, decide_eq_true_eq] at hgo
        rw [if_pos h1] at hm
        cases hm
        exact ⟨hf k (by omega) _ (by omega) (by omega), hf k (by omega) _ (by omega) (by omega)⟩
      · rw [if_neg h1] at hm
        by_cases h2 : (ops.getD k oz).kind = 12
        · rw [if_neg (by omega), if_neg (by omega), if_pos (by omega)] at hgo
          simp only [Bool.and_eq_true, below, decide_eq_true_eq] at hgo
          rw [if_pos h2] at hm
          cases hm
          exact hf k (by omega) _ (by omega) (by omega)
        · rw [if_neg h2] at hm
          by_cases h3 : (ops.getD k oz).kind = 13
          · rw [if_neg (by omega), if_neg (by omega), if_pos (by omega)] at hgo
            simp only [Bool.and_eq_true, below, decide_eq_true_eq] at hgo
            rw [if_pos h3] at hm
            cases hm
            exact hf k (by omega) _ (by omega) (by omega)
          · rw [if_neg h3] at hm; cases hm
    rw [marks_step, opMark_text, e]
    have eD : marksD regs slots data names ops (k + 1) = match opMark (behindT regs slots names ops k) (ops.getD k oz) with
      | some m => if idle data m = true ∨ m ∈ marksD regs slots data names ops k then marksD regs slots data names ops k else marksD regs slots data names ops k ++ [m]
      | none => marksD regs slots data names ops k := rfl
    rw [eD]
    cases hm : opMark (behindT regs slots names ops k) (ops.getD k oz) with
    | none => exact ⟨by simp only; rw [laid_nil], hfine⟩
    | some m =>
      simp only
      by_cases hi : idle data m = true
      · rw [if_pos hi, if_pos (.inl hi), laid_nil]; exact ⟨rfl, hfine⟩
      · rw [if_neg hi]
        by_cases hmem : m ∈ marksD regs slots data names ops k
        · rw [if_pos (.inr hmem), laid_in ((map_mem_fine hfine (hmf m hm)).2 hmem)]; exact ⟨rfl, hfine⟩
        · rw [if_neg (by simp [hi, hmem]), laid_new (showM_ne m) (fun q => hmem ((map_mem_fine hfine (hmf m hm)).1 q))]
          refine ⟨by simp, fun x hx => ?_⟩
          rcases List.mem_append.1 hx with q | q
          · exact hfine x q
          · simp at q; rw [q]; exact hmf m hm

theorem map_show_inj : ∀ {l n : List MD}, (∀ m ∈ l, m.fine) → (∀ m ∈ n, m.fine) → l.map showM = n.map showM → l = n
  | [], [], _, _, _ => rfl
  | [], y :: n, _, _, h => by simp at h
  | x :: l, [], _, _, h => by simp at h
  | x :: l, y :: n, hl, hn, h => by
    simp only [List.map_cons, List.cons.injEq] at h
    rw [showM_inj (hl x (by simp)) (hn y (by simp)) h.1, map_show_inj (fun m hm => hl m (by simp [hm])) (fun m hm => hn m (by simp [hm])) h.2]

section
variable (p q : ProgD) (h : List PingD) (b : Nat)

def exL : ExD := exitD (srcT p h b) (bfin p.blocks (hsrc h b).toNat)
def exR : ExD := exitD (tgtT q h b) (bfin q.blocks b)

/-- What the code tells of a block. -/
def codeD : Int :=
  if bigT p.regs 0 (plainNames p.regs 0) (srcOps p h b) = true ∨ bigT q.regs q.slots (namesOf (hpairs h b) (q.regs + q.slots).toNat) (bops q.blocks b) = true then 5
  else if marksT p.regs 0 p.data (plainNames p.regs 0) (srcOps p h b) (srcOps p h b).length ≠ marksT q.regs q.slots q.data (namesOf (hpairs h b) (q.regs + q.slots).toNat) (bops q.blocks b) (bops q.blocks b).length then 10
  else if srcT p h b p.regs ≠ tgtT q h b (q.regs + q.slots) then 11
  else if (exL p h b).kind ≠ (exR q h b).kind ∨ onText (exL p h b).on ≠ onText (exR q h b).on then 12
  else if ¬ (∀ i, i < (exL p h b).next.length → i < (exR q h b).next.length → hsrc h ((exR q h b).next.getD i 0).toNat = (exL p h b).next.getD i 0) then 13
  else if ¬ (∀ d ∈ (exR q h b).next, ∀ x ∈ hpairs h d.toNat, srcT p h b x.reg = tgtT q h b x.place) then 14
  else 0
end

theorem str_inj {x y : List UInt8} (h : str x = str y) : x = y := by
  have := congrArg ByteArray.toList h
  simpa [str] using this

/-- How an end counts: three shapes. -/
theorem exit_shape (was : Int → TD) (e : EndD) (hk : e.kind = 1 ∨ e.kind = 2 ∨ e.kind = 3) :
    (∃ x, exitD was e = ⟨1, none, [x]⟩ ∧ (effT e (was e.r)).kind = 1 ∧ (effT e (was e.r)).x = x) ∨
    (exitD was e = ⟨2, some (was e.r), [e.x, e.y]⟩ ∧ effT e (was e.r) = e ∧ e.kind = 2) ∨
    (exitD was e = ⟨3, some (was e.r), []⟩ ∧ effT e (was e.r) = e ∧ e.kind = 3) := by
  rcases hk with hk | hk | hk
  · refine .inl ⟨e.x, ?_, ?_, ?_⟩
    · unfold exitD; rw [if_neg (by omega), if_pos hk]
    · unfold effT; rw [if_neg (by omega)]; exact hk
    · unfold effT; rw [if_neg (by omega)]
  · cases hn : (was e.r).isNum with
    | none =>
      refine .inr (.inl ⟨?_, ?_, hk⟩)
      · unfold exitD; rw [if_neg (by omega), if_neg (by omega), hn]
      · unfold effT; rw [if_pos hk, hn]
    | some n =>
      by_cases h0 : n = 0
      · refine .inl ⟨e.y, ?_, ?_, ?_⟩
        · unfold exitD; rw [if_neg (by omega), if_neg (by omega), hn]; simp [h0]
        · unfold effT; rw [if_pos hk, hn]
        · unfold effT; rw [if_pos hk, hn]; simp [h0]
      · refine .inl ⟨e.x, ?_, ?_, ?_⟩
        · unfold exitD; rw [if_neg (by omega), if_neg (by omega), hn]; simp [h0]
        · unfold effT; rw [if_pos hk, hn]
        · unfold effT; rw [if_pos hk, hn]; simp [h0]
  · refine .inr (.inr ⟨?_, ?_, hk⟩)
    · unfold exitD; rw [if_pos hk]
    · unfold effT; rw [if_neg (by omega)]

theorem code_wrong (p q : ProgD) (h : List PingD) (b : Nat)
    (hm : marksT p.regs 0 p.data (plainNames p.regs 0) (srcOps p h b) (srcOps p h b).length = marksT q.regs q.slots q.data (namesOf (hpairs h b) (q.regs + q.slots).toNat) (bops q.blocks b) (bops q.blocks b).length ↔ marksD p.regs 0 p.data (plainNames p.regs 0) (srcOps p h b) (srcOps p h b).length = marksD q.regs q.slots q.data (namesOf (hpairs h b) (q.regs + q.slots).toNat) (bops q.blocks b) (bops q.blocks b).length)
    (hkl : (bfin p.blocks (hsrc h b).toNat).kind = 1 ∨ (bfin p.blocks (hsrc h b).toNat).kind = 2 ∨ (bfin p.blocks (hsrc h b).toNat).kind = 3) (hkr : (bfin q.blocks b).kind = 1 ∨ (bfin q.blocks b).kind = 2 ∨ (bfin q.blocks b).kind = 3)
    (hfl : (srcT p h b (bfin p.blocks (hsrc h b).toNat).r).fine) (hfr : (tgtT q h b (bfin q.blocks b).r).fine) : codeD p q h b = wrongD p q h b := by
  unfold codeD wrongD
  by_cases c1 : bigT p.regs 0 (plainNames p.regs 0) (srcOps p h b) = true ∨ bigT q.regs q.slots (namesOf (hpairs h b) (q.regs + q.slots).toNat) (bops q.blocks b) = true
  · rw [if_pos c1, if_pos c1]
  rw [if_neg c1, if_neg c1]
  by_cases c2 : ¬ marksD p.regs 0 p.data (plainNames p.regs 0) (srcOps p h b) (srcOps p h b).length = marksD q.regs q.slots q.data (namesOf (hpairs h b) (q.regs + q.slots).toNat) (bops q.blocks b) (bops q.blocks b).length
  · rw [if_pos (fun e => c2 (hm.1 e)), if_pos c2]
  have c2 := Classical.not_not.1 c2
  have k1 : ¬ (marksT p.regs 0 p.data (plainNames p.regs 0) (srcOps p h b) (srcOps p h b).length ≠ marksT q.regs q.slots q.data (namesOf (hpairs h b) (q.regs + q.slots).toNat) (bops q.blocks b) (bops q.blocks b).length) := fun e => e (hm.2 c2)
  have k2 : ¬ (marksD p.regs 0 p.data (plainNames p.regs 0) (srcOps p h b) (srcOps p h b).length ≠ marksD q.regs q.slots q.data (namesOf (hpairs h b) (q.regs + q.slots).toNat) (bops q.blocks b) (bops q.blocks b).length) := fun e => e c2
  rw [if_neg k1, if_neg k2]
  by_cases c3 : ¬ srcT p h b p.regs = tgtT q h b (q.regs + q.slots)
  · rw [if_pos c3, if_pos c3]
  have c3 := Classical.not_not.1 c3
  have k3 : ¬ (srcT p h b p.regs ≠ tgtT q h b (q.regs + q.slots)) := fun e => e c3
  rw [if_neg k3, if_neg k3]
  clear c1 c2 c3 hm k1 k2 k3
  unfold pairsOkD
  unfold srcEnd tgtEnd
  rcases exit_shape (srcT p h b) (bfin p.blocks (hsrc h b).toNat) hkl with ⟨x, e1, e2, e3⟩ | ⟨e1, e2, e3⟩ | ⟨e1, e2, e3⟩ <;>
  rcases exit_shape (tgtT q h b) (bfin q.blocks b) hkr with ⟨x', f1, f2, f3⟩ | ⟨f1, f2, f3⟩ | ⟨f1, f2, f3⟩
  · have g1 : exL p h b = ⟨1, none, [x]⟩ := e1
    have g2 : exR q h b = ⟨1, none, [x']⟩ := f1
    rw [g1, g2, e2, e3, f2, f3]
    simp only [onText, ne_eq, not_true_eq_false, or_self, if_false]
    by_cases d1 : hsrc h x'.toNat = x
    · by_cases d2 : ∀ y ∈ hpairs h x'.toNat, srcT p h b y.reg = tgtT q h b y.place
      · simp [d1, d2]
      · simp [d1, d2]
    · simp [d1]
  · have g1 : exL p h b = ⟨1, none, [x]⟩ := e1
    have g2 : exR q h b = _ := f1
    rw [g1, g2, e2, f2, f3]; simp
  · have g1 : exL p h b = ⟨1, none, [x]⟩ := e1
    have g2 : exR q h b = _ := f1
    rw [g1, g2, e2, f2, f3]; simp
  · have g1 : exL p h b = _ := e1
    have g2 : exR q h b = _ := f1
    rw [g1, g2, e2, e3, f2]; simp
  · have g1 : exL p h b = _ := e1
    have g2 : exR q h b = _ := f1
    rw [g1, g2, e2, e3, f2, f3]
    simp only [onText]
    by_cases d0 : srcT p h b (bfin p.blocks (hsrc h b).toNat).r = tgtT q h b (bfin q.blocks b).r
    · rw [d0]
      by_cases d1 : hsrc h (bfin q.blocks b).x.toNat = (bfin p.blocks (hsrc h b).toNat).x
      · by_cases d2 : hsrc h (bfin q.blocks b).y.toNat = (bfin p.blocks (hsrc h b).toNat).y
        · have hT : (∀ i, i < ([(bfin p.blocks (hsrc h b).toNat).x, (bfin p.blocks (hsrc h b).toNat).y] : List Int).length → i < ([(bfin q.blocks b).x, (bfin q.blocks b).y] : List Int).length → hsrc h (([(bfin q.blocks b).x, (bfin q.blocks b).y] : List Int).getD i 0).toNat = ([(bfin p.blocks (hsrc h b).toNat).x, (bfin p.blocks (hsrc h b).toNat).y] : List Int).getD i 0) := by
            intro i hi _
            have : i = 0 ∨ i = 1 := by simp at hi; omega
            rcases this with rfl | rfl
            · simpa using d1
            · simpa using d2
          rw [if_neg (by simp), if_neg (fun n => n hT)]
          simp only [ne_eq, not_true_eq_false, and_false, if_false, d1, d2, true_and, true_or]
          by_cases d3 : ∀ y ∈ hpairs h (bfin q.blocks b).x.toNat, srcT p h b y.reg = tgtT q h b y.place
          · by_cases d4 : ∀ y ∈ hpairs h (bfin q.blocks b).y.toNat, srcT p h b y.reg = tgtT q h b y.place
            · have hK : ∀ d ∈ ([(bfin q.blocks b).x, (bfin q.blocks b).y] : List Int), ∀ x ∈ hpairs h d.toNat, srcT p h b x.reg = tgtT q h b x.place := by
                intro d hd
                simp at hd
                rcases hd with rfl | rfl
                · exact d3
                · exact d4
              rw [if_neg (fun n => n hK), if_neg (by omega), if_neg (fun n => n d3), if_neg (fun n => n d4)]
            · rw [if_pos (fun hK => d4 (hK _ (by simp))), if_neg (by omega), if_neg (fun n => n d3), if_pos d4]
          · rw [if_pos (fun hK => d3 (hK _ (by simp))), if_neg (by omega), if_pos d3]
        · rw [if_neg (by simp), if_pos (fun hT => d2 (by simpa using hT 1 (by simp) (by simp)))]
          simp [d1, d2]
      · rw [if_neg (by simp), if_pos (fun hT => d1 (by simpa using hT 0 (by simp) (by simp)))]
        simp [d1]
    · have hne : str (showT (srcT p h b (bfin p.blocks (hsrc h b).toNat).r)) ≠ str (showT (tgtT q h b (bfin q.blocks b).r)) := fun e => d0 (show_inj hfl.ok hfr.ok (str_inj e))
      rw [if_pos (.inr hne)]
      simp [d0]
  · have g1 : exL p h b = _ := e1
    have g2 : exR q h b = _ := f1
    rw [g1, g2, e2, e3, f2, f3]; simp
  · have g1 : exL p h b = _ := e1
    have g2 : exR q h b = _ := f1
    rw [g1, g2, e2, e3, f2]; simp
  · have g1 : exL p h b = _ := e1
    have g2 : exR q h b = _ := f1
    rw [g1, g2, e2, e3, f2, f3]; simp
  · have g1 : exL p h b = _ := e1
    have g2 : exR q h b = _ := f1
    rw [g1, g2, e2, e3, f2, f3]
    simp only [onText]
    by_cases d0 : srcT p h b (bfin p.blocks (hsrc h b).toNat).r = tgtT q h b (bfin q.blocks b).r
    · rw [d0]; simp
    · have hne : str (showT (srcT p h b (bfin p.blocks (hsrc h b).toNat).r)) ≠ str (showT (tgtT q h b (bfin q.blocks b).r)) := fun e => d0 (show_inj hfl.ok hfr.ok (str_inj e))
      rw [if_pos (.inr hne)]
      simp [d0]

end Go.Proofs.YtblhmeidbjigaabGreatDoor
