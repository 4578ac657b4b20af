/- The reference's views: Behind. -/
import Derived.Test.YtblhmeidbjigaabGreatDoorRows
import Derived.WalkKit
import Derived.WalkSpells
import Derived.WalkLawsBesides
import Derived.Laws.BytesArg
import Derived.Deep.QuietTactic
import Derived.BigQuiet
import Derived.Deep.RegionHeld3
import Derived.Lib.ItoaNum
import Derived.Lib.ItoaLen
import Derived.OpenShut
import Derived.Maps.AppendAt
import Derived.Shelf.Strconv.Itoa3
import Derived.Shelf.Lay
import Derived.Ground.NamesProg
import Derived.Lib.SmallJoins
import Derived.Lib.Hide
import Derived.StillTailTactics
import Derived.Test.YtblhmeidbjigaabGreatDoorRTrFToRVwAAll

set_option linter.unusedSimpArgs false
set_option linter.unusedVariables false
namespace Go.Proofs.YtblhmeidbjigaabGreatDoor
open Go.RowKit

/-! ### What a place holds behind one operation more -/

section
variable {regs slots : Int} {names : List Int} {ops : List OpD} {k : Nat} {place : Int} {o : OpD}

theorem behind_other (ho : ops.getD k oz = o) (h : writesT regs slots o ≠ place) : behindT regs slots names ops (k + 1) place = behindT regs slots names ops k place := by
  subst ho; simp only [behindT]; rw [if_pos h]
theorem behind_const (ho : ops.getD k oz = o) (h : writesT regs slots o = place) (hk : o.kind = 1) : behindT regs slots names ops (k + 1) place = tnum (256 * o.b + o.c - 32768) := by
  subst ho; simp only [behindT]; rw [if_neg (fun q => q h), if_pos hk]
theorem behind_move (ho : ops.getD k oz = o) (h : writesT regs slots o = place) (hk : o.kind = 2 ∨ o.kind = 14) : behindT regs slots names ops (k + 1) place = behindT regs slots names ops k o.b := by
  subst ho; simp only [behindT]; rw [if_neg (fun q => q h), if_neg (by omega), if_pos hk]
theorem behind_get (ho : ops.getD k oz = o) (h : writesT regs slots o = place) (hk : o.kind = 15) : behindT regs slots names ops (k + 1) place = behindT regs slots names ops k (regs + o.b) := by
  subst ho; simp only [behindT]; rw [if_neg (fun q => q h), if_neg (by omega), if_neg (by omega), if_pos hk]
theorem behind_load (ho : ops.getD k oz = o) (h : writesT regs slots o = place) (hk : o.kind = 12) : behindT regs slots names ops (k + 1) place = readT (behindT regs slots names ops k (regs + slots)) (behindT regs slots names ops k o.b) := by
  subst ho; simp only [behindT]; rw [if_neg (fun q => q h), if_neg (by omega), if_neg (by omega), if_neg (by omega), if_pos hk]
theorem behind_store (ho : ops.getD k oz = o) (h : writesT regs slots o = place) (hk : o.kind = 13) : behindT regs slots names ops (k + 1) place = writtenT (behindT regs slots names ops k (regs + slots)) (behindT regs slots names ops k o.a) (behindT regs slots names ops k o.b) := by
  subst ho; simp only [behindT]; rw [if_neg (fun q => q h), if_neg (by omega), if_neg (by omega), if_neg (by omega), if_neg (by omega), if_pos hk]
theorem behind_calc (ho : ops.getD k oz = o) (h : writesT regs slots o = place) (hk : 3 ≤ o.kind ∧ o.kind ≤ 11) : behindT regs slots names ops (k + 1) place = madeT o.kind (behindT regs slots names ops k o.b) (behindT regs slots names ops k o.c) := by
  subst ho; simp only [behindT]; rw [if_neg (fun q => q h), if_neg (by omega), if_neg (by omega), if_neg (by omega), if_neg (by omega), if_neg (by omega)]

/-- What a well made operation's fields are. -/
theorem op_cases (h : opGood regs slots o = true) :
    (o.kind = 1 ∧ (0 ≤ o.a ∧ o.a < regs) ∧ (0 ≤ o.b ∧ o.b < 256) ∧ (0 ≤ o.c ∧ o.c < 256)) ∨
    ((3 ≤ o.kind ∧ o.kind ≤ 11) ∧ (0 ≤ o.a ∧ o.a < regs) ∧ (0 ≤ o.b ∧ o.b < regs) ∧ (0 ≤ o.c ∧ o.c < regs)) ∨
    ((o.kind = 2 ∨ o.kind = 12 ∨ o.kind = 13) ∧ (0 ≤ o.a ∧ o.a < regs) ∧ (0 ≤ o.b ∧ o.b < regs)) ∨
    (o.kind = 14 ∧ (0 ≤ o.a ∧ o.a < slots) ∧ (0 ≤ o.b ∧ o.b < regs)) ∨
    (o.kind = 15 ∧ (0 ≤ o.a ∧ o.a < regs) ∧ (0 ≤ o.b ∧ o.b < slots)) := by
  unfold opGood at h
  by_cases h1 : o.kind = 1
  · rw [if_pos h1] at h; simp [below] at h; exact .inl ⟨h1, h.1.1, h.1.2, h.2⟩
  rw [if_neg h1] at h
  by_cases h2 : 3 ≤ o.kind ∧ o.kind ≤ 11
  · rw [if_pos h2] at h; simp [below] at h; exact .inr (.inl ⟨h2, h.1.1, h.1.2, h.2⟩)
  rw [if_neg h2] at h
  by_cases h3 : o.kind = 2 ∨ o.kind = 12 ∨ o.kind = 13
  · rw [if_pos h3] at h; simp [below] at h; exact .inr (.inr (.inl ⟨h3, h.1.1, h.1.2⟩))
  rw [if_neg h3] at h
  by_cases h4 : o.kind = 14
  · rw [if_pos h4] at h; simp [below] at h; exact .inr (.inr (.inr (.inl ⟨h4, h.1.1, h.1.2⟩)))
  rw [if_neg h4] at h
  by_cases h5 : o.kind = 15
  · rw [if_pos h5] at h; simp [below] at h; exact .inr (.inr (.inr (.inr ⟨h5, h.1.1, h.1.2⟩)))
  rw [if_neg h5] at h
  cases h
end

theorem good_shape {p : ProgD} (hg : progGood p = true) : (1 ≤ p.regs ∧ p.regs ≤ 8) ∧ (0 ≤ p.args ∧ p.args ≤ p.regs) ∧ (0 ≤ p.data ∧ p.data ≤ 8) ∧ (0 ≤ p.slots ∧ p.slots ≤ 8) := by
  simp [progGood] at hg; omega

theorem good_block {p : ProgD} (hg : progGood p = true) {b : Nat} (hb : b < p.blocks.length) : (bops p.blocks b).length ≤ 12 ∧ opsGood p.regs p.slots (bops p.blocks b) = true := by
  have := progGood_block hg (p.blocks.getD b bz) (getD_mem' hb)
  simp [blockGood] at this
  exact ⟨this.1.1, this.1.2⟩

theorem good_op {regs slots : Int} {l : List OpD} (h : opsGood regs slots l = true) {k : Nat} (hk : k < l.length) : opGood regs slots (l.getD k oz) = true := by
  unfold opsGood at h
  exact List.all_eq_true.1 h _ (getD_mem' hk)

theorem most_12 {k : Nat} (h : k ≤ 12) : most k ≤ 800000 := Nat.le_trans (most_mono h) (by decide)

/-- What Behind answers. -/
def BehindC (p : ProgD) (pv nv : Value) (b : Nat) (names : List Int) (k : Nat) : Prop := ∀ (place : Nat) (w : World) (Post : Ending → World → Prop), RdView w p pv nv names → (place : Int) ≤ p.regs + p.slots →
  (∀ g' w', TreeAt w' (behindT p.regs p.slots names (bops p.blocks b) k place) g' → Below w.heap.size w w' → Post (.returned (.pointer (some ⟨g', 0, none⟩))) w') →
  Calls Tryz.prog 150 #[viewV p pv b nv, .int .i64 k, .int .i64 place] w Post

/-- Behind's own view and operation, boxed. -/
structure VAt (w0 w : World) (G O : Nat) (p : ProgD) (pv nv : Value) (b : Nat) (names : List Int) (o : OpD) : Prop where
  view : Row w G 164 (viewC p pv b nv)
  op : Row w O 36 [.int .i64 o.kind, .int .i64 o.a, .int .i64 o.b, .int .i64 o.c]
  rd : RdView w p pv nv names
  keep : Below w0.heap.size w0 w

theorem VAt.next {w0 w w' : World} {G O : Nat} {p : ProgD} {pv nv : Value} {b : Nat} {names : List Int} {o : OpD} (h : VAt w0 w G O p pv nv b names o) (hb : Below w.heap.size w w') : VAt w0 w' G O p pv nv b names o :=
  ⟨h.view.keep hb, h.op.keep hb, h.rd.keep hb, h.keep.trans (hb.mono h.keep.size)⟩

set_option maxRecDepth 100000 in
set_option maxHeartbeats 2000000 in
theorem rBehind_zero (p : ProgD) (pv nv : Value) (b : Nat) (names : List Int) (hr : p.regs + p.slots ≤ 100) : BehindC p pv nv b names 0 := by
  intro place w Post hv hpl hp
  simp only [behindT] at hp
  have b0 : Below w.heap.size w (w.alloc (.cells #[.int .i64 p.args, .int .i64 p.regs, .int .i64 p.data, .int .i64 p.slots, pv, .int .i64 b, nv] 164)) := (Below.refl _ _).alloc (Nat.le_refl _) _
  have q := fun P => rFirst_cps p pv nv b names place _ (hv.keep b0) (by omega) P
  unfold viewV at q ⊢
  clear hv
  go_enter Tryz.func150, Tryz.ntmps150
  go_wp2_with fail
  refine q _ ?_
  intro g2 w2 t2 b2
  have HF : Hid (Post (.returned (.pointer (some ⟨g2, 0, none⟩))) w2) := hp g2 w2 t2 (b0.trans (b2.mono b0.size))
  clear hp t2 b2 q b0
  go_wp2
  exact HF.out

end Go.Proofs.YtblhmeidbjigaabGreatDoor

/- The reference's views: Behind, one operation more. -/
set_option linter.unusedSimpArgs false
set_option linter.unusedVariables false
namespace Go.Proofs.YtblhmeidbjigaabGreatDoor
open Go.RowKit

set_option maxRecDepth 100000 in
set_option maxHeartbeats 8000000 in
theorem rBehind_succ (p : ProgD) (pv nv : Value) (b : Nat) (names : List Int) (hg : progGood p = true) (hb : b < p.blocks.length) (hnm : ∀ x ∈ names, x ≤ 1000) (k : Nat) (hk : k < (bops p.blocks b).length) (IH : BehindC p pv nv b names k) : BehindC p pv nv b names (k + 1) := by
  intro place w Post hv hpl hp
  obtain ⟨hr, hargs, hdata, hs⟩ := good_shape hg
  obtain ⟨h12, hops⟩ := good_block hg hb
  have hfine := behindT_fine (names := names) (show 0 ≤ p.regs ∧ p.regs ≤ 100 by omega) (show 0 ≤ p.slots ∧ p.slots ≤ 100 by omega) hnm hops k (by omega)
  have hsize : ∀ q : Int, (behindT p.regs p.slots names (bops p.blocks b) k q).size ≤ 4000000000000 := fun q => by
    have h1 := behindT_size p.regs p.slots names (bops p.blocks b) k q
    have h2 := most_12 (show k ≤ 12 by omega)
    omega
  obtain ⟨o, ho⟩ : ∃ o, (bops p.blocks b).getD k oz = o := ⟨_, rfl⟩
  have hog := op_cases (show opGood p.regs p.slots o = true by rw [← ho]; exact good_op hops hk)
  have hb0 : Below w.heap.size w (w.alloc (.cells #[.int .i64 p.args, .int .i64 p.regs, .int .i64 p.data, .int .i64 p.slots, pv, .int .i64 b, nv] 164)) := (Below.refl _ _).alloc (Nat.le_refl _) _
  have hb1 : Below w.heap.size w ((w.alloc (.cells #[.int .i64 p.args, .int .i64 p.regs, .int .i64 p.data, .int .i64 p.slots, pv, .int .i64 b, nv] 164)).alloc (.cells #[.int .i64 o.kind, .int .i64 o.a, .int .i64 o.b, .int .i64 o.c] 36)) := hb0.alloc hb0.size _
  have es : (w.alloc (.cells #[.int .i64 p.args, .int .i64 p.regs, .int .i64 p.data, .int .i64 p.slots, pv, .int .i64 b, nv] 164)).heap.size = w.heap.size + 1 := by simp
  have V : VAt w ((w.alloc (.cells #[.int .i64 p.args, .int .i64 p.regs, .int .i64 p.data, .int .i64 p.slots, pv, .int .i64 b, nv] 164)).alloc (.cells #[.int .i64 o.kind, .int .i64 o.a, .int .i64 o.b, .int .i64 o.c] 36)) w.heap.size (w.heap.size + 1) p pv nv b names o :=
    ⟨Row.alloc (heap_alloc_new w _) _, by have := heap_alloc_new (w.alloc (.cells #[.int .i64 p.args, .int .i64 p.regs, .int .i64 p.data, .int .i64 p.slots, pv, .int .i64 b, nv] 164)) (.cells #[.int .i64 o.kind, .int .i64 o.a, .int .i64 o.b, .int .i64 o.c] 36); rw [es] at this; exact this, hv.keep hb1, hb1⟩
  obtain ⟨ao, cap, rfl, hll, hc⟩ := hv.blocks
  obtain ⟨bb, off, sv, rfl, c0, _, _, _, _, hrd⟩ := hc b hb
  obtain ⟨so, sc, rfl, hol, hoc⟩ := hrd
  obtain ⟨b2, off2, rfl, e0, e1, e2, e3⟩ := hoc k hk
  have x0 := cell_keep hb0 c0
  have y0 := cell_keep hb0 e0
  have y1 := cell_keep hb0 e1
  have y2 := cell_keep hb0 e2
  have y3 := cell_keep hb0 e3
  have ho0 : okind (bops p.blocks b) k = o.kind := by unfold okind; rw [ho]
  have ho1 : oa (bops p.blocks b) k = o.a := by unfold oa; rw [ho]
  have ho2 : ob (bops p.blocks b) k = o.b := by unfold ob; rw [ho]
  have ho3 : oc (bops p.blocks b) k = o.c := by unfold oc; rw [ho]
  rw [ho0] at y0
  rw [ho1] at y1
  rw [ho2] at y2
  rw [ho3] at y3
  clear es e0 e1 e2 e3 c0 hc hoc ho0 ho1 ho2 ho3 hb0 hb1 hv
  have hbi : (0 : Int) ≤ (b : Int) := by omega
  have hbj : (b : Int) < (p.blocks.length : Int) := by omega
  have hki : (0 : Int) ≤ (k : Int) := by omega
  have hkj : (k : Int) < ((bops p.blocks b).length : Int) := by omega
  have hk0 : ¬ ((k : Int) + 1 = 0) := by omega
  have qw := fun W => rWrites_any p (.slice (some ⟨bb, off, none⟩) p.blocks.length cap) o.kind o.a o.b o.c W ⟨by omega, hr.2⟩ hs (by omega)
  have hp' : ∀ t, behindT p.regs p.slots names (bops p.blocks b) (k + 1) place = t → ∀ g' w', TreeAt w' t g' → Below w.heap.size w w' → Post (.returned (.pointer (some ⟨g', 0, none⟩))) w' := fun t e => by subst e; exact hp
  have HP := Lib.hid hp'
  have HV := Lib.hid V
  have HFine := Lib.hid hfine
  have IH' : ∀ (q : Int) (w : World) (Post : Ending → World → Prop), RdView w p (.slice (some ⟨bb, off, none⟩) p.blocks.length cap) nv names → 0 ≤ q → q ≤ p.regs + p.slots →
      (∀ g' w', TreeAt w' (behindT p.regs p.slots names (bops p.blocks b) k q) g' → Below w.heap.size w w' → Post (.returned (.pointer (some ⟨g', 0, none⟩))) w') →
      Calls Tryz.prog 150 #[viewV p (.slice (some ⟨bb, off, none⟩) p.blocks.length cap) b nv, .int .i64 k, .int .i64 q] w Post := by
    intro q w Post h1 h2 h3 h4
    obtain ⟨n, rfl⟩ := Int.eq_ofNat_of_zero_le h2
    exact IH n w Post h1 h3 h4
  have hkk : o.kind = 1 ∨ (3 ≤ o.kind ∧ o.kind ≤ 11) ∨ o.kind = 2 ∨ o.kind = 12 ∨ o.kind = 13 ∨ o.kind = 14 ∨ o.kind = 15 := by omega
  unfold viewV at IH' ⊢
  clear V hp hp' hfine IH hol hll
  go_enter Tryz.func150, Tryz.ntmps150
  go_wp2_with fail
  refine (qw _).mono ?_
  rintro e w3 ⟨rfl, b3⟩
  have V3 := HV.out.next b3
  have ew : writesT p.regs p.slots ⟨o.kind, o.a, o.b, o.c⟩ = writesT p.regs p.slots o := rfl
  rw [ew]
  clear HV qw x0 y0 y1 y2 y3 ew b3
  have v0 := V3.view.cell (i := 0) rfl
  have v1 := V3.view.cell (i := 1) rfl
  have v2 := V3.view.cell (i := 2) rfl
  have v3 := V3.view.cell (i := 3) rfl
  have v4 := V3.view.cell (i := 4) rfl
  have v5 := V3.view.cell (i := 5) rfl
  have v6 := V3.view.cell (i := 6) rfl
  have o0 := V3.op.cell (i := 0) rfl
  have o1 := V3.op.cell (i := 1) rfl
  have o2 := V3.op.cell (i := 2) rfl
  have o3 := V3.op.cell (i := 3) rfl
  by_cases hw : writesT p.regs p.slots o ≠ place
  · have HX := Lib.hid (HP.out _ (behind_other ho hw))
    have hw2 : (writesT p.regs p.slots o == (place : Int)) = false := by simp [hw]
    clear HP
    generalize writesT p.regs p.slots o = wo at *
    go_wp2_with fail
    refine IH' place w3 _ V3.rd (by omega) hpl ?_
    intro g4 w4 t4 b4
    have HF : Hid (Post (.returned (.pointer (some ⟨g4, 0, none⟩))) w4) := HX.out g4 w4 t4 (V3.keep.trans (b4.mono V3.keep.size))
    clear HX t4 b4 v0 v1 v2 v3 v4 v5 v6 o0 o1 o2 o3
    go_wp2
    exact HF.out
  have hw : writesT p.regs p.slots o = place := Classical.not_not.1 hw
  have hw2 : (writesT p.regs p.slots o == (place : Int)) = true := by simp [hw]
  have HW : Hid (writesT p.regs p.slots o = place) := hw
  clear hw
  rcases hkk with hkk | hkk | hkk | hkk | hkk | hkk | hkk
  · -- Const
    have HX := Lib.hid (HP.out _ (behind_const ho HW.out hkk))
    generalize writesT p.regs p.slots o = wo at *
    clear HP HW
    rw [hkk] at o0
    have hob : (0 ≤ o.b ∧ o.b < 256) ∧ (0 ≤ o.c ∧ o.c < 256) := by omega
    go_wp2_with fail
    refine rNum_cps _ _ _ ?_
    intro g4 w4 t4 b4
    have HF : Hid (Post (.returned (.pointer (some ⟨g4, 0, none⟩))) w4) := HX.out g4 w4 t4 (V3.keep.trans (b4.mono V3.keep.size))
    clear HX t4 b4 v0 v1 v2 v3 v4 v5 v6 o0 o1 o2 o3
    go_wp2
    exact HF.out
  · -- Add to Div
    have HX := Lib.hid (HP.out _ (behind_calc ho HW.out hkk))
    generalize writesT p.regs p.slots o = wo at *
    clear HP HW
    have hob : (0 ≤ o.b ∧ o.b < p.regs) ∧ (0 ≤ o.c ∧ o.c < p.regs) := by omega
    have n1 : (o.kind == 1) = false := by simp; omega
    have n2 : (o.kind == 2) = false := by simp; omega
    have n14 : (o.kind == 14) = false := by simp; omega
    have n15 : (o.kind == 15) = false := by simp; omega
    have n12 : (o.kind == 12) = false := by simp; omega
    have n13 : (o.kind == 13) = false := by simp; omega
    go_wp2_with fail
    refine IH' (o.b) w3 _ V3.rd (by omega) (by omega) ?_
    intro g4 w4 t4 b4
    have V4 := V3.next b4
    clear v0 v1 v2 v3 v4 v5 v6 o0 o1 o2 o3
    have v0 := V4.view.cell (i := 0) rfl
    have v1 := V4.view.cell (i := 1) rfl
    have v2 := V4.view.cell (i := 2) rfl
    have v3 := V4.view.cell (i := 3) rfl
    have v4 := V4.view.cell (i := 4) rfl
    have v5 := V4.view.cell (i := 5) rfl
    have v6 := V4.view.cell (i := 6) rfl
    have o0 := V4.op.cell (i := 0) rfl
    have o1 := V4.op.cell (i := 1) rfl
    have o2 := V4.op.cell (i := 2) rfl
    have o3 := V4.op.cell (i := 3) rfl
    go_wp2_with fail
    refine IH' (o.c) w4 _ V4.rd (by omega) (by omega) ?_
    intro g5 w5 t5 b5
    have V5 := V4.next b5
    clear v0 v1 v2 v3 v4 v5 v6 o0 o1 o2 o3
    have v0 := V5.view.cell (i := 0) rfl
    have v1 := V5.view.cell (i := 1) rfl
    have v2 := V5.view.cell (i := 2) rfl
    have v3 := V5.view.cell (i := 3) rfl
    have v4 := V5.view.cell (i := 4) rfl
    have v5 := V5.view.cell (i := 5) rfl
    have v6 := V5.view.cell (i := 6) rfl
    have o0 := V5.op.cell (i := 0) rfl
    have o1 := V5.op.cell (i := 1) rfl
    have o2 := V5.op.cell (i := 2) rfl
    have o3 := V5.op.cell (i := 3) rfl
    go_wp2_with fail
    refine rMade_cps o.kind hkk _ _ g4 g5 w5 (t4.keep b5) t5 V5.rd.tab (HFine.out _ (by omega) (by omega)) (HFine.out _ (by omega) (by omega)) (hsize _) (hsize _) _ ?_
    intro g6 w6 t6 b6
    have HF : Hid (Post (.returned (.pointer (some ⟨g6, 0, none⟩))) w6) := HX.out g6 w6 t6 (V5.keep.trans (b6.mono V5.keep.size))
    clear HX t6 b6 v0 v1 v2 v3 v4 v5 v6 o0 o1 o2 o3
    go_wp2
    exact HF.out
  · -- Move
    have HX := Lib.hid (HP.out _ (behind_move ho HW.out (.inl hkk)))
    generalize writesT p.regs p.slots o = wo at *
    clear HP HW
    rw [hkk] at o0
    have hob : 0 ≤ o.b ∧ o.b < p.regs := by omega
    go_wp2_with fail
    refine IH' o.b w3 _ V3.rd (by omega) (by omega) ?_
    intro g4 w4 t4 b4
    have HF : Hid (Post (.returned (.pointer (some ⟨g4, 0, none⟩))) w4) := HX.out g4 w4 t4 (V3.keep.trans (b4.mono V3.keep.size))
    clear HX t4 b4 v0 v1 v2 v3 v4 v5 v6 o0 o1 o2 o3
    go_wp2
    exact HF.out
  · -- Load
    have HX := Lib.hid (HP.out _ (behind_load ho HW.out hkk))
    generalize writesT p.regs p.slots o = wo at *
    clear HP HW
    rw [hkk] at o0
    have hob : 0 ≤ o.b ∧ o.b < p.regs := by omega
    go_wp2_with fail
    refine IH' (p.regs + p.slots) w3 _ V3.rd (by omega) (by omega) ?_
    intro g4 w4 t4 b4
    have V4 := V3.next b4
    clear v0 v1 v2 v3 v4 v5 v6 o0 o1 o2 o3
    have v0 := V4.view.cell (i := 0) rfl
    have v1 := V4.view.cell (i := 1) rfl
    have v2 := V4.view.cell (i := 2) rfl
    have v3 := V4.view.cell (i := 3) rfl
    have v4 := V4.view.cell (i := 4) rfl
    have v5 := V4.view.cell (i := 5) rfl
    have v6 := V4.view.cell (i := 6) rfl
    have o0 := V4.op.cell (i := 0) rfl
    have o1 := V4.op.cell (i := 1) rfl
    have o2 := V4.op.cell (i := 2) rfl
    have o3 := V4.op.cell (i := 3) rfl
    rw [hkk] at o0
    go_wp2_with fail
    refine IH' (o.b) w4 _ V4.rd (by omega) (by omega) ?_
    intro g5 w5 t5 b5
    have V5 := V4.next b5
    clear v0 v1 v2 v3 v4 v5 v6 o0 o1 o2 o3
    have v0 := V5.view.cell (i := 0) rfl
    have v1 := V5.view.cell (i := 1) rfl
    have v2 := V5.view.cell (i := 2) rfl
    have v3 := V5.view.cell (i := 3) rfl
    have v4 := V5.view.cell (i := 4) rfl
    have v5 := V5.view.cell (i := 5) rfl
    have v6 := V5.view.cell (i := 6) rfl
    have o0 := V5.op.cell (i := 0) rfl
    have o1 := V5.op.cell (i := 1) rfl
    have o2 := V5.op.cell (i := 2) rfl
    have o3 := V5.op.cell (i := 3) rfl
    rw [hkk] at o0
    go_wp2_with fail
    refine rRead_cps _ _ g4 g5 w5 _ (t4.keep b5) t5 (HFine.out _ (by omega) (by omega)) (HFine.out _ (by omega) (by omega)) ?_
    intro g6 w6 t6 b6
    have HF : Hid (Post (.returned (.pointer (some ⟨g6, 0, none⟩))) w6) := HX.out g6 w6 t6 (V5.keep.trans (b6.mono V5.keep.size))
    clear HX t6 b6 v0 v1 v2 v3 v4 v5 v6 o0 o1 o2 o3
    go_wp2
    exact HF.out
  · -- Store
    have HX := Lib.hid (HP.out _ (behind_store ho HW.out hkk))
    generalize writesT p.regs p.slots o = wo at *
    clear HP HW
    rw [hkk] at o0
    have hob : (0 ≤ o.a ∧ o.a < p.regs) ∧ (0 ≤ o.b ∧ o.b < p.regs) := by omega
    go_wp2_with fail
    refine IH' (p.regs + p.slots) w3 _ V3.rd (by omega) (by omega) ?_
    intro g4 w4 t4 b4
    have V4 := V3.next b4
    clear v0 v1 v2 v3 v4 v5 v6 o0 o1 o2 o3
    have v0 := V4.view.cell (i := 0) rfl
    have v1 := V4.view.cell (i := 1) rfl
    have v2 := V4.view.cell (i := 2) rfl
    have v3 := V4.view.cell (i := 3) rfl
    have v4 := V4.view.cell (i := 4) rfl
    have v5 := V4.view.cell (i := 5) rfl
    have v6 := V4.view.cell (i := 6) rfl
    have o0 := V4.op.cell (i := 0) rfl
    have o1 := V4.op.cell (i := 1) rfl
    have o2 := V4.op.cell (i := 2) rfl
    have o3 := V4.op.cell (i := 3) rfl
    rw [hkk] at o0
    go_wp2_with fail
    refine IH' (o.a) w4 _ V4.rd (by omega) (by omega) ?_
    intro g5 w5 t5 b5
    have V5 := V4.next b5
    clear v0 v1 v2 v3 v4 v5 v6 o0 o1 o2 o3
    have v0 := V5.view.cell (i := 0) rfl
    have v1 := V5.view.cell (i := 1) rfl
    have v2 := V5.view.cell (i := 2) rfl
    have v3 := V5.view.cell (i := 3) rfl
    have v4 := V5.view.cell (i := 4) rfl
    have v5 := V5.view.cell (i := 5) rfl
    have v6 := V5.view.cell (i := 6) rfl
    have o0 := V5.op.cell (i := 0) rfl
    have o1 := V5.op.cell (i := 1) rfl
    have o2 := V5.op.cell (i := 2) rfl
    have o3 := V5.op.cell (i := 3) rfl
    rw [hkk] at o0
    go_wp2_with fail
    refine IH' (o.b) w5 _ V5.rd (by omega) (by omega) ?_
    intro g6 w6 t6 b6
    have V6 := V5.next b6
    clear v0 v1 v2 v3 v4 v5 v6 o0 o1 o2 o3
    have v0 := V6.view.cell (i := 0) rfl
    have v1 := V6.view.cell (i := 1) rfl
    have v2 := V6.view.cell (i := 2) rfl
    have v3 := V6.view.cell (i := 3) rfl
    have v4 := V6.view.cell (i := 4) rfl
    have v5 := V6.view.cell (i := 5) rfl
    have v6 := V6.view.cell (i := 6) rfl
    have o0 := V6.op.cell (i := 0) rfl
    have o1 := V6.op.cell (i := 1) rfl
    have o2 := V6.op.cell (i := 2) rfl
    have o3 := V6.op.cell (i := 3) rfl
    rw [hkk] at o0
    go_wp2_with fail
    refine rWritten_cps _ _ _ g4 g5 g6 w6 ((t4.keep b5).keep b6) (t5.keep b6) t6 (HFine.out _ (by omega) (by omega)) (HFine.out _ (by omega) (by omega)) (HFine.out _ (by omega) (by omega)) _ ?_
    intro g7 w7 t7 b7
    have HF : Hid (Post (.returned (.pointer (some ⟨g7, 0, none⟩))) w7) := HX.out g7 w7 t7 (V6.keep.trans (b7.mono V6.keep.size))
    clear HX t7 b7 v0 v1 v2 v3 v4 v5 v6 o0 o1 o2 o3
    go_wp2
    exact HF.out
  · -- Put
    have HX := Lib.hid (HP.out _ (behind_move ho HW.out (.inr hkk)))
    generalize writesT p.regs p.slots o = wo at *
    clear HP HW
    rw [hkk] at o0
    have hob : 0 ≤ o.b ∧ o.b < p.regs := by omega
    go_wp2_with fail
    refine IH' o.b w3 _ V3.rd (by omega) (by omega) ?_
    intro g4 w4 t4 b4
    have HF : Hid (Post (.returned (.pointer (some ⟨g4, 0, none⟩))) w4) := HX.out g4 w4 t4 (V3.keep.trans (b4.mono V3.keep.size))
    clear HX t4 b4 v0 v1 v2 v3 v4 v5 v6 o0 o1 o2 o3
    go_wp2
    exact HF.out
  · -- Get
    have HX := Lib.hid (HP.out _ (behind_get ho HW.out hkk))
    generalize writesT p.regs p.slots o = wo at *
    clear HP HW
    rw [hkk] at o0
    have hob : 0 ≤ o.b ∧ o.b < p.slots := by omega
    go_wp2_with fail
    refine IH' (p.regs + o.b) w3 _ V3.rd (by omega) (by omega) ?_
    intro g4 w4 t4 b4
    have HF : Hid (Post (.returned (.pointer (some ⟨g4, 0, none⟩))) w4) := HX.out g4 w4 t4 (V3.keep.trans (b4.mono V3.keep.size))
    clear HX t4 b4 v0 v1 v2 v3 v4 v5 v6 o0 o1 o2 o3
    go_wp2
    exact HF.out

end Go.Proofs.YtblhmeidbjigaabGreatDoor

/- The reference's views: Plain. -/
set_option linter.unusedSimpArgs false
set_option linter.unusedVariables false
namespace Go.Proofs.YtblhmeidbjigaabGreatDoor
open Go.RowKit

/-- What lies in memory of one's own is read. -/
theorem vw_rd {w : World} {B : Nat} {v : Value} {l : List Int} (h : w.ownsRow B 3 1 v l.length (ints l)) : RdWords w v l := by
  obtain ⟨ao, cap, rfl⟩ := owns_slice h
  refine ⟨ao, cap, rfl, owns_le h, fun i hi => ?_⟩
  obtain ⟨b, rfl, _, hb, hc⟩ := owns_cell h rfl (i := i) (by rw [ints_length]; exact hi)
  refine ⟨b, 0, rfl, ?_⟩
  rw [Nat.zero_add, hc]
  simp [ints, List.getD, hi]

theorem vw_new (w : World) (x : Value) (t : TypeId) : ∀ j u, [x][j]? = some u → (w.alloc (.cells #[x] t)).cell? ((⟨w.heap.size, 0, none⟩ : Addr).add j) = some u := by
  intro j u hj
  match j, hj with
  | 0, hj => simp at hj; subst hj; simp [Addr.add]

theorem vw_one (x : Int) : ∀ u ∈ [Value.int .i64 x], u.oneCell' = true := by
  intro u hu; simp at hu; subst hu; rfl

/-- The first k names of a plain block. -/
def pnTo (regs : Int) (k : Nat) : List Int := (List.range k).map fun (i : Nat) => if (i : Int) < regs then (i : Int) else -1

theorem pnTo_length (regs : Int) (k : Nat) : (pnTo regs k).length = k := by simp [pnTo]

theorem pnTo_snoc (regs : Int) (k : Nat) : ints (pnTo regs (k + 1)) = ints (pnTo regs k) ++ [.int .i64 (if (k : Int) < regs then (k : Int) else -1)] := by
  rw [← ints_snoc]
  simp [pnTo, List.range_succ]

/-- Seven cells of a block are set. -/
def set7 (w : World) (g : Nat) (a b c d e f h : Value) : World :=
  ((((((w.setCell ⟨g, 0, none⟩ a).setCell ⟨g, 1, none⟩ b).setCell ⟨g, 2, none⟩ c).setCell ⟨g, 3, none⟩ d).setCell ⟨g, 4, none⟩ e).setCell ⟨g, 5, none⟩ f).setCell ⟨g, 6, none⟩ h

theorem below_set {w0 w : World} (h : Below w0.heap.size w0 w) {g i : Nat} (hg : w0.heap.size ≤ g) (u : Value) : Below w0.heap.size w0 (w.setCell ⟨g, i, none⟩ u) :=
  ⟨h.os, h.tape, h.output, by simpa using h.size, fun k hk => (Below.heap_setCell _ _ _ _ (by show k ≠ g; omega)).trans (h.block k hk)⟩

theorem set7_below {w0 w : World} (h : Below w0.heap.size w0 w) {g : Nat} (hg : w0.heap.size ≤ g) (a b c d e f u : Value) : Below w0.heap.size w0 (set7 w g a b c d e f u) :=
  below_set (below_set (below_set (below_set (below_set (below_set (below_set h hg _) hg _) hg _) hg _) hg _) hg _) hg _

theorem set7_owns {w : World} {base : Nat} {e : TypeId} {sz : Nat} {v : Value} {n : Nat} {xs : List Value} (h : w.ownsRow base e sz v n xs) {g : Nat} (hg : g < base) (a b c d q f u : Value) : (set7 w g a b c d q f u).ownsRow base e sz v n xs :=
  ownsRow_setCell_below (ownsRow_setCell_below (ownsRow_setCell_below (ownsRow_setCell_below (ownsRow_setCell_below (ownsRow_setCell_below (ownsRow_setCell_below h hg _) hg _) hg _) hg _) hg _) hg _) hg _

def zView : List Value := [.int .i64 0, .int .i64 0, .int .i64 0, .int .i64 0, .slice none 0 0, .int .i64 0, .slice none 0 0]

set_option maxRecDepth 100000 in
set_option maxHeartbeats 4000000 in
theorem rPlain_cps (p : ProgD) (po : Option Addr) (pn pc b : Nat) (w : World) (h1 : 0 ≤ p.regs ∧ p.regs ≤ 8) (h2 : 0 ≤ p.slots ∧ p.slots ≤ 8) (Post : Ending → World → Prop)
    (hp : ∀ nv w', w'.ownsRow w.heap.size 3 1 nv (plainNames p.regs p.slots).length (ints (plainNames p.regs p.slots)) → Below w.heap.size w w' → Post (.returned (viewV p (.slice po pn pc) b nv)) w') :
    Calls Tryz.prog 115 #[progV p (.slice po pn pc), .int .i64 b] w Post := by
  obtain ⟨i0, ii, iz0, iz1, iz2⟩ := info_parts Tryz.infoInt
  have hpn : plainNames p.regs p.slots = pnTo p.regs (p.regs + p.slots).toNat := rfl
  rw [hpn, pnTo_length] at hp
  unfold viewV at hp
  unfold progV
  obtain ⟨n, hn⟩ : ∃ n : Nat, (p.regs + p.slots).toNat = n := ⟨_, rfl⟩
  have hn2 : p.regs + p.slots = n := by omega
  rw [hn] at hp
  have HP := Lib.hid hp
  clear hp hpn hn
  generalize p.args = pa at *
  generalize p.regs = pr at *
  generalize p.data = pd at *
  generalize p.slots = ps at *
  have r0 : Row (((w.alloc (.cells #[.int .i64 pa, .int .i64 pr, .int .i64 pd, .int .i64 ps, .slice po pn pc] 25)).alloc (.cells #[.int .i64 0, .int .i64 0, .int .i64 0, .int .i64 0, .slice none 0 0, .int .i64 0, .slice none 0 0] 164)).alloc (.cells #[.int .i64 pa, .int .i64 pr, .int .i64 pd, .int .i64 ps, .slice po pn pc, .int .i64 b, .slice none 0 0] 164)) w.heap.size 25 [.int .i64 pa, .int .i64 pr, .int .i64 pd, .int .i64 ps, .slice po pn pc] :=
    Row.alloc (Row.alloc (heap_alloc_new w _) _) _
  have r1 : Row (((w.alloc (.cells #[.int .i64 pa, .int .i64 pr, .int .i64 pd, .int .i64 ps, .slice po pn pc] 25)).alloc (.cells #[.int .i64 0, .int .i64 0, .int .i64 0, .int .i64 0, .slice none 0 0, .int .i64 0, .slice none 0 0] 164)).alloc (.cells #[.int .i64 pa, .int .i64 pr, .int .i64 pd, .int .i64 ps, .slice po pn pc, .int .i64 b, .slice none 0 0] 164)) (w.heap.size + 1) 164 zView :=
    Row.alloc (heap_alloc2_new w _ _) _
  have r2 : Row (((w.alloc (.cells #[.int .i64 pa, .int .i64 pr, .int .i64 pd, .int .i64 ps, .slice po pn pc] 25)).alloc (.cells #[.int .i64 0, .int .i64 0, .int .i64 0, .int .i64 0, .slice none 0 0, .int .i64 0, .slice none 0 0] 164)).alloc (.cells #[.int .i64 pa, .int .i64 pr, .int .i64 pd, .int .i64 ps, .slice po pn pc, .int .i64 b, .slice none 0 0] 164)) (w.heap.size + 2) 164 [.int .i64 pa, .int .i64 pr, .int .i64 pd, .int .i64 ps, .slice po pn pc, .int .i64 b, .slice none 0 0] := by
    have := heap_alloc_new ((w.alloc (.cells #[.int .i64 pa, .int .i64 pr, .int .i64 pd, .int .i64 ps, .slice po pn pc] 25)).alloc (.cells #[.int .i64 0, .int .i64 0, .int .i64 0, .int .i64 0, .slice none 0 0, .int .i64 0, .slice none 0 0] 164)) (.cells #[.int .i64 pa, .int .i64 pr, .int .i64 pd, .int .i64 ps, .slice po pn pc, .int .i64 b, .slice none 0 0] 164)
    simp only [World.size_alloc] at this
    exact this
  have b0 : Below w.heap.size w (((w.alloc (.cells #[.int .i64 pa, .int .i64 pr, .int .i64 pd, .int .i64 ps, .slice po pn pc] 25)).alloc (.cells #[.int .i64 0, .int .i64 0, .int .i64 0, .int .i64 0, .slice none 0 0, .int .i64 0, .slice none 0 0] 164)).alloc (.cells #[.int .i64 pa, .int .i64 pr, .int .i64 pd, .int .i64 ps, .slice po pn pc, .int .i64 b, .slice none 0 0] 164)) :=
    (((Below.refl _ _).alloc (Nat.le_refl _) _).alloc (by simp) _).alloc (by simp; omega) _
  have z0 : w.heap.size + 3 ≤ (((w.alloc (.cells #[.int .i64 pa, .int .i64 pr, .int .i64 pd, .int .i64 ps, .slice po pn pc] 25)).alloc (.cells #[.int .i64 0, .int .i64 0, .int .i64 0, .int .i64 0, .slice none 0 0, .int .i64 0, .slice none 0 0] 164)).alloc (.cells #[.int .i64 pa, .int .i64 pr, .int .i64 pd, .int .i64 ps, .slice po pn pc, .int .i64 b, .slice none 0 0] 164)).heap.size := by simp
  go_enter Tryz.func115, Tryz.ntmps115
  go_wp2
  go_loopw [6] (fun i wr => ∃ (k : Nat) (sv : Value), k ≤ n ∧ i = .int .i64 k ∧ Row wr w.heap.size 25 [.int .i64 pa, .int .i64 pr, .int .i64 pd, .int .i64 ps, .slice po pn pc] ∧ Row wr (w.heap.size + 1) 164 zView ∧ Row wr (w.heap.size + 2) 164 [.int .i64 pa, .int .i64 pr, .int .i64 pd, .int .i64 ps, .slice po pn pc, .int .i64 b, sv] ∧
      wr.ownsRow (w.heap.size + 3) 3 1 sv k (ints (pnTo pr k)) ∧ Below w.heap.size w wr ∧ w.heap.size + 3 ≤ wr.heap.size)
    (fun i _ => n - (intOf i).toNat)
  case atStart => exact ⟨0, .slice none 0 0, Nat.zero_le _, rfl, r0, r1, r2, World.ownsRow_nil _ _ _ _, b0, z0⟩
  case round =>
    clear r0 r1 r2 b0 z0
    obtain ⟨k, sv, hk, rfl, r0, r1, r2, hown, hbel, hz⟩ := hrel
    obtain ⟨lo, lc, rfl⟩ := owns_slice hown
    have p1 := r0.cell (i := 1) rfl
    have p3 := r0.cell (i := 3) rfl
    have v6 := r2.cell (i := 6) rfl
    by_cases hlt : k < n
    · have HT : Hid (ints (pnTo pr (k + 1)) = ints (pnTo pr k) ++ [.int .i64 (if (k : Int) < pr then (k : Int) else -1)]) := pnTo_snoc pr k
      have key : ∀ (x : Int) (v' : Value) (w3 : World), x = (if (k : Int) < pr then (k : Int) else -1) → w3.ownsRow (w.heap.size + 3) 3 1 v' (k + 1) (ints (pnTo pr k) ++ [.int .i64 x]) → (wr.alloc (.cells #[.int .i64 x] 3)).grownBy w3 (Value.slice lo k lc).ownBlock →
          ∃ lo' lc', v' = .slice lo' (k + 1) lc' ∧ w3.cell? ⟨w.heap.size + 2, 6, none⟩ = some (.slice lo k lc) ∧ w3.frozen? ⟨w.heap.size + 2, 6, none⟩ = false ∧
          Row (w3.setCell ⟨w.heap.size + 2, 6, none⟩ v') w.heap.size 25 [.int .i64 pa, .int .i64 pr, .int .i64 pd, .int .i64 ps, .slice po pn pc] ∧ Row (w3.setCell ⟨w.heap.size + 2, 6, none⟩ v') (w.heap.size + 1) 164 zView ∧ Row (w3.setCell ⟨w.heap.size + 2, 6, none⟩ v') (w.heap.size + 2) 164 [.int .i64 pa, .int .i64 pr, .int .i64 pd, .int .i64 ps, .slice po pn pc, .int .i64 b, v'] ∧
          (w3.setCell ⟨w.heap.size + 2, 6, none⟩ v').ownsRow (w.heap.size + 3) 3 1 v' (k + 1) (ints (pnTo pr (k + 1))) ∧ Below w.heap.size w (w3.setCell ⟨w.heap.size + 2, 6, none⟩ v') ∧ w.heap.size + 3 ≤ (w3.setCell ⟨w.heap.size + 2, 6, none⟩ v').heap.size := by
        intro x v' w3 hx hown' hgrow
        rw [hx, ← HT.out] at hown'
        have hb2 := ((Below.refl (w.heap.size + 3) wr).alloc hz (.cells #[.int .i64 x] 3)).grown hgrow (by simp; omega) (fun g hg => (hown.lt g hg).1)
        have q0 := r0.below hb2 (by omega)
        have q1 := r1.below hb2 (by omega)
        have q2 := r2.below hb2 (by omega)
        obtain ⟨lo', lc', rfl⟩ := owns_slice hown'
        refine ⟨lo', lc', rfl, q2.cell (i := 6) rfl, q2.frozen 6, q0.unset (by show w.heap.size ≠ w.heap.size + 2; omega) _, q1.unset (by show w.heap.size + 1 ≠ w.heap.size + 2; omega) _, q2.set 6 _, ownsRow_setCell_below hown' (by show w.heap.size + 2 < w.heap.size + 3; omega) _, below_set (hbel.trans (hb2.mono (by omega))) (by omega) _, ?_⟩
        have := hb2.size
        simp; omega
      have HK := Lib.hid key
      clear key HT
      by_cases hin : (k : Int) < pr
      · go_wp2_with (at_builtin; refine wpList_append_own _ rfl _ _ 22 rfl (w.heap.size + 3) 3 i0 (.int .i64 0) 1 8 Tryz.underlying22 ii iz0 iz1 iz2 rfl (by decide) _ _ _ rfl (hown.alloc _) ⟨wr.heap.size, 0, none⟩ 1 1 [.int .i64 k] rfl rfl ?c1 (vw_one _) ?c3 ?c4 ?c5 ?_)
        case c1 => exact vw_new wr _ _
        case c3 => unfold maxLen; omega
        case c4 => omega
        case c5 => simp; omega
        intro v' w3 hown' hgrow _
        obtain ⟨lo', lc', rfl, y6, f6, q0, q1, q2, q3, q4, q5⟩ := HK.out k v' w3 (by rw [if_pos (by omega)]) hown' hgrow
        clear HK hown hown' hgrow r0 r1 r2 p1 p3 v6
        go_wp2
        go_roundw
        case rel => exact ⟨k + 1, _, by omega, by go_num, q0, q1, q2, q3, q4, q5⟩
        case measure => simp [intOf]; omega
      · go_wp2_with (at_builtin; refine wpList_append_own _ rfl _ _ 22 rfl (w.heap.size + 3) 3 i0 (.int .i64 0) 1 8 Tryz.underlying22 ii iz0 iz1 iz2 rfl (by decide) _ _ _ rfl (hown.alloc _) ⟨wr.heap.size, 0, none⟩ 1 1 [.int .i64 (-1)] rfl rfl ?d1 (vw_one _) ?d3 ?d4 ?d5 ?_)
        try (case d1 => exact vw_new wr _ _)
        case d3 => unfold maxLen; omega
        case d4 => omega
        case d5 => first | omega | (simp; omega)
        intro v' w3 hown' hgrow _
        obtain ⟨lo', lc', rfl, y6, f6, q0, q1, q2, q3, q4, q5⟩ := HK.out (-1) v' w3 (by rw [if_neg (by omega)]) hown' hgrow
        clear HK hown hown' hgrow r0 r1 r2 p1 p3 v6
        go_wp2
        go_roundw
        case rel => exact ⟨k + 1, _, by omega, by go_num, q0, q1, q2, q3, q4, q5⟩
        case measure => simp [intOf]; omega
    · obtain rfl : k = n := by omega
      have HF : Hid (Post (.returned (.agg #[.int .i64 pa, .int .i64 pr, .int .i64 pd, .int .i64 ps, .slice po pn pc, .int .i64 b, .slice lo k lc])) (set7 wr (w.heap.size + 1) (.int .i64 pa) (.int .i64 pr) (.int .i64 pd) (.int .i64 ps) (.slice po pn pc) (.int .i64 b) (.slice lo k lc))) :=
        HP.out _ _ (owns_base (set7_owns hown (by omega) _ _ _ _ _ _ _) (by omega)) (set7_below hbel (by omega) _ _ _ _ _ _ _)
      have v0 := r2.cell (i := 0) rfl
      have v1 := r2.cell (i := 1) rfl
      have v2 := r2.cell (i := 2) rfl
      have v3 := r2.cell (i := 3) rfl
      have v4 := r2.cell (i := 4) rfl
      have v5 := r2.cell (i := 5) rfl
      have a0 := r1.cell (i := 0) rfl
      have a1 := r1.cell (i := 1) rfl
      have a2 := r1.cell (i := 2) rfl
      have a3 := r1.cell (i := 3) rfl
      have a4 := r1.cell (i := 4) rfl
      have a5 := r1.cell (i := 5) rfl
      have a6 := r1.cell (i := 6) rfl
      have f0 := r1.frozen 0
      have f1 := r1.frozen 1
      have f2 := r1.frozen 2
      have f3 := r1.frozen 3
      have f4 := r1.frozen 4
      have f5 := r1.frozen 5
      have f6 := r1.frozen 6
      clear HP r0 r1 r2 hown hbel
      go_wp2
      exact bodyPost_ret (v := .agg #[.int .i64 pa, .int .i64 pr, .int .i64 pd, .int .i64 ps, .slice po pn pc, .int .i64 b, .slice lo k lc]) (by simp [results, Tryz.results115, go_sem, a0, a1, a2, a3, a4, a5, a6]) rfl HF.out

end Go.Proofs.YtblhmeidbjigaabGreatDoor

/- The reference's views: Final, Big. -/
set_option linter.unusedSimpArgs false
set_option linter.unusedVariables false
namespace Go.Proofs.YtblhmeidbjigaabGreatDoor
open Go.RowKit

theorem plain_le (regs slots : Int) (h : regs ≤ 1000) : ∀ x ∈ plainNames regs slots, x ≤ 1000 := by
  intro x hx
  simp only [plainNames, List.mem_map, List.mem_range] at hx
  obtain ⟨i, hi, rfl⟩ := hx
  split <;> omega

theorem rBehind_all (p : ProgD) (pv nv : Value) (b : Nat) (names : List Int) (hg : progGood p = true) (hb : b < p.blocks.length) (hnm : ∀ x ∈ names, x ≤ 1000) : ∀ k, k ≤ (bops p.blocks b).length → BehindC p pv nv b names k := by
  intro k
  induction k with
  | zero => intro _; exact rBehind_zero p pv nv b names (by obtain ⟨h1, _, _, h2⟩ := good_shape hg; omega)
  | succ k ih => intro hk; exact rBehind_succ p pv nv b names hg hb hnm k hk (ih (by omega))

theorem rBehind_int (p : ProgD) (pv nv : Value) (b : Nat) (names : List Int) (hg : progGood p = true) (hb : b < p.blocks.length) (hnm : ∀ x ∈ names, x ≤ 1000) (k : Nat) (hk : k ≤ (bops p.blocks b).length)
    (place : Int) (w : World) (Post : Ending → World → Prop) (hv : RdView w p pv nv names) (h0 : 0 ≤ place) (h1 : place ≤ p.regs + p.slots)
    (hp : ∀ g' w', TreeAt w' (behindT p.regs p.slots names (bops p.blocks b) k place) g' → Below w.heap.size w w' → Post (.returned (.pointer (some ⟨g', 0, none⟩))) w') :
    Calls Tryz.prog 150 #[viewV p pv b nv, .int .i64 k, .int .i64 place] w Post := by
  obtain ⟨n, rfl⟩ := Int.eq_ofNat_of_zero_le h0
  exact rBehind_all p pv nv b names hg hb hnm k hk n w Post hv h1 hp

set_option maxRecDepth 100000 in
set_option maxHeartbeats 2000000 in
theorem rFinal_cps (p : ProgD) (pv nv : Value) (b : Nat) (names : List Int) (hg : progGood p = true) (hb : b < p.blocks.length) (hnm : ∀ x ∈ names, x ≤ 1000) (place : Int) (w : World) (Post : Ending → World → Prop) (hv : RdView w p pv nv names) (h0 : 0 ≤ place) (h1 : place ≤ p.regs + p.slots)
    (hp : ∀ g' w', TreeAt w' (behindT p.regs p.slots names (bops p.blocks b) (bops p.blocks b).length place) g' → Below w.heap.size w w' → Post (.returned (.pointer (some ⟨g', 0, none⟩))) w') :
    Calls Tryz.prog 117 #[viewV p pv b nv, .int .i64 place] w Post := by
  have hb0 : Below w.heap.size w (w.alloc (.cells #[.int .i64 p.args, .int .i64 p.regs, .int .i64 p.data, .int .i64 p.slots, pv, .int .i64 b, nv] 164)).drew := ((Below.refl _ _).alloc (Nat.le_refl _) _).drew
  have r : Row (w.alloc (.cells #[.int .i64 p.args, .int .i64 p.regs, .int .i64 p.data, .int .i64 p.slots, pv, .int .i64 b, nv] 164)).drew w.heap.size 164 (viewC p pv b nv) := heap_alloc_new w _
  have q := fun P => rBehind_int p pv nv b names hg hb hnm _ (Nat.le_refl _) place _ P (hv.keep hb0) h0 h1
  have h12 := (good_block hg hb).1
  have v0 := r.cell (i := 0) rfl
  have v1 := r.cell (i := 1) rfl
  have v2 := r.cell (i := 2) rfl
  have v3 := r.cell (i := 3) rfl
  have v4 := r.cell (i := 4) rfl
  have v5 := r.cell (i := 5) rfl
  have v6 := r.cell (i := 6) rfl
  obtain ⟨ao, cap, rfl, hll, hc⟩ := hv.blocks
  obtain ⟨bb, off, sv, rfl, c0, _, _, _, _, hrd⟩ := hc b hb
  obtain ⟨so, sc, rfl, hol, hoc⟩ := hrd
  have x0 := cell_keep hb0 c0
  have hbi : (0 : Int) ≤ (b : Int) := by omega
  have hbj : (b : Int) < (p.blocks.length : Int) := by omega
  unfold viewV at q ⊢
  clear r c0 hc hoc hv hll hol
  go_enter Tryz.func117, Tryz.ntmps117
  go_wp2
  refine wp_reads 11 (by kernel_rfl) (by kernel_rfl) ?_
  simp only [List.take_succ_cons, List.take_zero, List.drop_succ_cons, List.drop_zero]
  repeat still_step
  refine wpStill_nil ?_
  go_wp2_with fail
  refine q _ ?_
  intro g2 w2 t2 b2
  have HF : Hid (Post (.returned (.pointer (some ⟨g2, 0, none⟩))) w2) := hp g2 w2 t2 (hb0.trans (b2.mono hb0.size))
  clear hp t2 b2 q v0 v1 v2 v3 v4 v5 v6 x0
  go_wp2
  exact HF.out

/-- An operation that gives a term that is too big. -/
def bigAt (regs slots : Int) (names : List Int) (ops : List OpD) (k : Nat) : Prop :=
  3 ≤ okind ops k ∧ okind ops k ≤ 13 ∧ 4095 < (behindT regs slots names ops (k + 1) (writesT regs slots (ops.getD k oz))).size

theorem bigT_true {regs slots : Int} {names : List Int} {ops : List OpD} {k : Nat} (hk : k < ops.length) (h : bigAt regs slots names ops k) : bigT regs slots names ops = true := by
  unfold bigT
  rw [List.any_eq_true]
  exact ⟨k, by simpa using hk, by simp only [decide_eq_true_eq]; exact h⟩

theorem bigT_false {regs slots : Int} {names : List Int} {ops : List OpD} (h : ∀ k, k < ops.length → ¬ bigAt regs slots names ops k) : bigT regs slots names ops = false := by
  unfold bigT
  rw [List.any_eq_false]
  intro k hk
  simp only [decide_eq_true_eq]
  exact h k (by simpa using hk)

set_option maxRecDepth 100000 in
set_option maxHeartbeats 4000000 in
theorem rBig_any (p : ProgD) (pv nv : Value) (b : Nat) (names : List Int) (hg : progGood p = true) (hb : b < p.blocks.length) (hnm : ∀ x ∈ names, x ≤ 1000) (w : World) (hv : RdView w p pv nv names) :
    Calls Tryz.prog 116 #[viewV p pv b nv] w fun e w' => e = .returned (.bool (bigT p.regs p.slots names (bops p.blocks b))) ∧ Below w.heap.size w w' := by
  obtain ⟨hr, hargs, hdata, hs⟩ := good_shape hg
  obtain ⟨h12, hops⟩ := good_block hg hb
  have hb0 : Below w.heap.size w (w.alloc (.cells #[.int .i64 p.args, .int .i64 p.regs, .int .i64 p.data, .int .i64 p.slots, pv, .int .i64 b, nv] 164)) := (Below.refl _ _).alloc (Nat.le_refl _) _
  have r : Row (w.alloc (.cells #[.int .i64 p.args, .int .i64 p.regs, .int .i64 p.data, .int .i64 p.slots, pv, .int .i64 b, nv] 164)) w.heap.size 164 (viewC p pv b nv) := heap_alloc_new w _
  have qb := fun k hk => rBehind_int p pv nv b names hg hb hnm k hk
  obtain ⟨ao, cap, rfl, hll, hc⟩ := id hv.blocks
  obtain ⟨bb, off, sv, rfl, c0, _, _, _, _, hrd⟩ := hc b hb
  obtain ⟨so, sc, rfl, hol, hoc⟩ := hrd
  have x0 := cell_keep hb0 c0
  have v4 := r.cell (i := 4) rfl
  have v5 := r.cell (i := 5) rfl
  have hbi : (0 : Int) ≤ (b : Int) := by omega
  have hbj : (b : Int) < (p.blocks.length : Int) := by omega
  have HV := Lib.hid hv
  have HR := Lib.hid r
  have HB := Lib.hid hb0
  unfold viewV at qb ⊢
  clear r hv c0 hc hb0
  go_enter Tryz.func116, Tryz.ntmps116
  go_wp2
  go_loopw [4] (fun i wr => ∃ (k : Nat), k ≤ (bops p.blocks b).length ∧ i = .int .i64 k ∧ Hid (∀ j, j < k → ¬ bigAt p.regs p.slots names (bops p.blocks b) j) ∧ Row wr w.heap.size 164 (viewC p (.slice (some ⟨bb, off, none⟩) p.blocks.length cap) b nv) ∧ Below w.heap.size w wr)
    (fun i _ => (bops p.blocks b).length - (intOf i).toNat)
  case atStart => exact ⟨0, Nat.zero_le _, rfl, fun j hj => by omega, HR.out, HB.out⟩
  case round =>
    clear HR HB x0 v4 v5
    obtain ⟨k, hk, rfl, hno, r, hbel⟩ := hrel
    by_cases hlt : k < (bops p.blocks b).length
    · obtain ⟨b2, off2, rfl, e0, e1, e2, e3⟩ := hoc k hlt
      obtain ⟨o, ho⟩ : ∃ o, (bops p.blocks b).getD k oz = o := ⟨_, rfl⟩
      have hog := op_cases (show opGood p.regs p.slots o = true by rw [← ho]; exact good_op hops hlt)
      have ho0 : okind (bops p.blocks b) k = o.kind := by unfold okind; rw [ho]
      have ho1 : oa (bops p.blocks b) k = o.a := by unfold oa; rw [ho]
      have ho2 : ob (bops p.blocks b) k = o.b := by unfold ob; rw [ho]
      have ho3 : oc (bops p.blocks b) k = o.c := by unfold oc; rw [ho]
      have hbd : Below w.heap.size w wr.drew := hbel.drew
      have y0 := cell_keep hbel e0
      have z0 := cell_keep hbd e0
      have z1 := cell_keep hbd e1
      have z2 := cell_keep hbd e2
      have z3 := cell_keep hbd e3
      rw [ho0] at y0 z0
      rw [ho1] at z1
      rw [ho2] at z2
      rw [ho3] at z3
      have HB1 : Hid (bigAt p.regs p.slots names (bops p.blocks b) k ↔ (3 ≤ o.kind ∧ o.kind ≤ 13 ∧ 4095 < (behindT p.regs p.slots names (bops p.blocks b) (k + 1) (writesT p.regs p.slots o)).size)) := by
        show _ ↔ _
        unfold bigAt; rw [ho0, ho]
      have hki : (0 : Int) ≤ (k : Int) := by omega
      have hkj : (k : Int) < ((bops p.blocks b).length : Int) := by omega
      clear e0 e1 e2 e3 ho0 ho1 ho2 ho3
      by_cases h3 : 3 ≤ o.kind ∧ o.kind ≤ 13
      · obtain ⟨h3a, h3b⟩ := h3
        have rd : Row wr.drew w.heap.size 164 (viewC p (.slice (some ⟨bb, off, none⟩) p.blocks.length cap) b nv) := r
        have v0 := rd.cell (i := 0) rfl
        have v1 := rd.cell (i := 1) rfl
        have v2 := rd.cell (i := 2) rfl
        have v3 := rd.cell (i := 3) rfl
        have v4 := rd.cell (i := 4) rfl
        have qw := rWrites_any p (.slice (some ⟨bb, off, none⟩) p.blocks.length cap) o.kind o.a o.b o.c wr.drew ⟨by omega, hr.2⟩ hs (by omega)
        have hwr : 0 ≤ writesT p.regs p.slots o ∧ writesT p.regs p.slots o ≤ p.regs + p.slots := by unfold writesT; split <;> (try split) <;> omega
        have ew : writesT p.regs p.slots ⟨o.kind, o.a, o.b, o.c⟩ = writesT p.regs p.slots o := rfl
        rw [ew] at qw
        have hfine := behindT_fine (names := names) (show 0 ≤ p.regs ∧ p.regs ≤ 100 by omega) (show 0 ≤ p.slots ∧ p.slots ≤ 100 by omega) hnm hops (k + 1) (by omega) _ hwr.1 hwr.2
        have hsz : (behindT p.regs p.slots names (bops p.blocks b) (k + 1) (writesT p.regs p.slots o)).size ≤ 800000 := Nat.le_trans (behindT_size p.regs p.slots names (bops p.blocks b) (k + 1) _) (most_12 (by omega))
        have HFi := Lib.hid hfine
        have R0 := Lib.hid rd
        clear ew hfine r rd
        unfold progV at qw
        go_wp2
        refine wp_reads 6 (by kernel_rfl) (by kernel_rfl) ?_
        simp only [List.take_succ_cons, List.take_zero, List.drop_succ_cons, List.drop_zero]
        repeat still_step
        refine wpStill_nil ?_
        go_wp2_with fail
        refine qw.mono ?_
        rintro e w3 ⟨rfl, b3⟩
        have b03 : Below w.heap.size w w3 := hbd.trans (b3.mono hbd.size)
        have r3 := R0.out.keep b3
        have q3 := fun P => qb (k + 1) hlt (writesT p.regs p.slots o) w3 P (HV.out.keep b03) hwr.1 hwr.2
        have u0 := r3.cell (i := 0) rfl
        have u1 := r3.cell (i := 1) rfl
        have u2 := r3.cell (i := 2) rfl
        have u3 := r3.cell (i := 3) rfl
        have u4 := r3.cell (i := 4) rfl
        have u5 := r3.cell (i := 5) rfl
        have u6 := r3.cell (i := 6) rfl
        clear y0 z0 z1 z2 z3 v0 v1 v2 v3 v4 qw b3 R0
        go_wp2_with fail
        refine q3 _ ?_
        intro g4 w4 t4 b4
        have b04 : Below w.heap.size w w4 := b03.trans (b4.mono b03.size)
        have r4 := r3.keep b4
        have q4 := rSize_any _ g4 w4 t4 HFi.out (by omega)
        generalize (behindT p.regs p.slots names (bops p.blocks b) (k + 1) (writesT p.regs p.slots o)).size = S at *
        clear q3 u0 u1 u2 u3 u4 u5 u6 t4 b4 r3 HFi b03
        go_wp2_with fail
        refine q4.mono ?_
        rintro e w5 ⟨rfl, rfl⟩
        by_cases hbig : 4095 < S
        · have hT := Lib.hid (bigT_true hlt (HB1.out.2 ⟨h3a, h3b, hbig⟩))
          have hS : (4095 : Int) < (S : Int) := by omega
          clear HB1 hno q4 r4
          go_wp2
          (try simp only [Exit.inBlock, Exit.then])
          refine bodyPost_ret (v := .bool true) ?_ rfl ?_
          · simp [results, Tryz.results116, go_sem]
          · exact ⟨by rw [hT.out], b04⟩
        · have hS : ¬ ((4095 : Int) < (S : Int)) := by omega
          have hno2 : Hid (∀ j, j < k + 1 → ¬ bigAt p.regs p.slots names (bops p.blocks b) j) := fun j hj => by
            by_cases e : j = k
            · subst e; intro q; exact hbig (HB1.out.1 q).2.2
            · exact hno.out j (by omega)
          clear HB1 hno q4
          go_wp2
          go_roundw
          case rel => exact ⟨k + 1, by omega, by go_num, hno2, r4, b04⟩
          case measure => simp [intOf]; omega
      · have hno2 : Hid (∀ j, j < k + 1 → ¬ bigAt p.regs p.slots names (bops p.blocks b) j) := fun j hj => by
          by_cases e : j = k
          · subst e; intro q; have := HB1.out.1 q; exact h3 ⟨this.1, this.2.1⟩
          · exact hno.out j (by omega)
        clear HB1 hno z0 z1 z2 z3
        by_cases h3a : 3 ≤ o.kind
        · have h3b : ¬ (o.kind ≤ 13) := fun q => h3 ⟨h3a, q⟩
          go_wp2
          go_roundw
          case rel => exact ⟨k + 1, by omega, by go_num, hno2, r, hbel⟩
          case measure => simp [intOf]; omega
        · go_wp2
          go_roundw
          case rel => exact ⟨k + 1, by omega, by go_num, hno2, r, hbel⟩
          case measure => simp [intOf]; omega
    · obtain rfl : k = (bops p.blocks b).length := by omega
      have hF := Lib.hid (bigT_false (fun j hj => hno.out j hj))
      clear hno r
      go_wp2
      go_ret
      exact ⟨by rw [hF.out]; rfl, hbel⟩

end Go.Proofs.YtblhmeidbjigaabGreatDoor
