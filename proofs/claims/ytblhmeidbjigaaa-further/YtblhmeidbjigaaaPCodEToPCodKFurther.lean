/- Well made ends, in the codec. -/
import Derived.Test.YtblhmeidbjigaaaRows
import Derived.WalkKit
import Derived.WalkSpells
import Derived.WalkLawsBesides
import Derived.Laws.BytesArg
import Derived.Deep.QuietTactic
import Derived.BigQuiet
import Derived.Deep.RegionHeld3
import Derived.Test.YtblhmeidbjigaaaCodAToPCodHFurther

set_option linter.unusedSimpArgs false
set_option linter.unusedVariables false
namespace Go.Proofs.Ytblhmeidbjigaaa
open Go.RowKit

theorem int_beqz (c : Int) : (c == 0) = decide (c = 0) := by by_cases h : c = 0 <;> simp [h]

set_option maxRecDepth 100000 in
set_option maxHeartbeats 2000000 in
theorem wmEnd1 (args regs data slots : Int) (bo : Option Addr) (bn bc : Nat) (r x y : Int) (w : World) :
    Calls Try.prog 97 #[.agg #[.int .i64 args, .int .i64 regs, .int .i64 data, .int .i64 slots, .slice bo bn bc], .agg #[.int .i64 1, .int .i64 r, .int .i64 x, .int .i64 y]] w fun e w' => e = .returned (.bool (endGood regs bn ⟨1, r, x, y⟩)) ∧ Below w.heap.size w w' := by
  by_cases h0 : r = 0
  case neg =>
    have h1 : (r == 0) = false := by simp [h0]
    go_enter Try.func97, Try.ntmps97
    go_wp2_with (go_at_call 87; refine (isBelow_any _ _ _).mono ?_; rintro e w' ⟨rfl, rfl⟩)
    go_ret
    exact ⟨by simp [endGood, int_beqz, h0, h1], ((Below.refl _ _).alloc (Nat.le_refl _) _).alloc (by simp) _⟩
  subst h0
  cases h2 : below x bn
  · go_enter Try.func97, Try.ntmps97
    go_wp2_with (go_at_call 87; refine (isBelow_any _ _ _).mono ?_; rintro e w' ⟨rfl, rfl⟩)
    go_ret
    exact ⟨by simp [endGood, int_beqz, h2], ((Below.refl _ _).alloc (Nat.le_refl _) _).alloc (by simp) _⟩
  · go_enter Try.func97, Try.ntmps97
    go_wp2_with (go_at_call 87; refine (isBelow_any _ _ _).mono ?_; rintro e w' ⟨rfl, rfl⟩)
    go_ret
    exact ⟨by simp [endGood, int_beqz, h2], ((Below.refl _ _).alloc (Nat.le_refl _) _).alloc (by simp) _⟩

set_option maxRecDepth 100000 in
set_option maxHeartbeats 2000000 in
theorem wmEnd2 (args regs data slots : Int) (bo : Option Addr) (bn bc : Nat) (r x y : Int) (w : World) :
    Calls Try.prog 97 #[.agg #[.int .i64 args, .int .i64 regs, .int .i64 data, .int .i64 slots, .slice bo bn bc], .agg #[.int .i64 2, .int .i64 r, .int .i64 x, .int .i64 y]] w fun e w' => e = .returned (.bool (endGood regs bn ⟨2, r, x, y⟩)) ∧ Below w.heap.size w w' := by
  cases h1 : below r regs
  · go_enter Try.func97, Try.ntmps97
    go_wp2_with (go_at_call 87; refine (isBelow_any _ _ _).mono ?_; rintro e w' ⟨rfl, rfl⟩)
    go_ret
    exact ⟨by simp [endGood, int_beqz, h1], ((Below.refl _ _).alloc (Nat.le_refl _) _).alloc (by simp) _⟩
  cases h2 : below x bn
  · go_enter Try.func97, Try.ntmps97
    go_wp2_with (go_at_call 87; refine (isBelow_any _ _ _).mono ?_; rintro e w' ⟨rfl, rfl⟩)
    go_ret
    exact ⟨by simp [endGood, int_beqz, h1, h2], ((Below.refl _ _).alloc (Nat.le_refl _) _).alloc (by simp) _⟩
  · go_enter Try.func97, Try.ntmps97
    go_wp2_with (go_at_call 87; refine (isBelow_any _ _ _).mono ?_; rintro e w' ⟨rfl, rfl⟩)
    go_ret
    exact ⟨by simp [endGood, int_beqz, h1, h2], ((Below.refl _ _).alloc (Nat.le_refl _) _).alloc (by simp) _⟩

set_option maxRecDepth 100000 in
set_option maxHeartbeats 2000000 in
theorem wmEnd3 (args regs data slots : Int) (bo : Option Addr) (bn bc : Nat) (r x y : Int) (w : World) :
    Calls Try.prog 97 #[.agg #[.int .i64 args, .int .i64 regs, .int .i64 data, .int .i64 slots, .slice bo bn bc], .agg #[.int .i64 3, .int .i64 r, .int .i64 x, .int .i64 y]] w fun e w' => e = .returned (.bool (endGood regs bn ⟨3, r, x, y⟩)) ∧ Below w.heap.size w w' := by
  cases h1 : below r regs
  · go_enter Try.func97, Try.ntmps97
    go_wp2_with (go_at_call 87; refine (isBelow_any _ _ _).mono ?_; rintro e w' ⟨rfl, rfl⟩)
    go_ret
    exact ⟨by simp [endGood, int_beqz, h1], ((Below.refl _ _).alloc (Nat.le_refl _) _).alloc (by simp) _⟩
  by_cases h0 : x = 0
  case neg =>
    have h2 : (x == 0) = false := by simp [h0]
    go_enter Try.func97, Try.ntmps97
    go_wp2_with (go_at_call 87; refine (isBelow_any _ _ _).mono ?_; rintro e w' ⟨rfl, rfl⟩)
    go_ret
    exact ⟨by simp [endGood, int_beqz, h1, h0, h2], ((Below.refl _ _).alloc (Nat.le_refl _) _).alloc (by simp) _⟩
  subst h0
  · go_enter Try.func97, Try.ntmps97
    go_wp2_with (go_at_call 87; refine (isBelow_any _ _ _).mono ?_; rintro e w' ⟨rfl, rfl⟩)
    go_ret
    exact ⟨by simp [endGood, int_beqz, h1], ((Below.refl _ _).alloc (Nat.le_refl _) _).alloc (by simp) _⟩

set_option maxRecDepth 100000 in
set_option maxHeartbeats 2000000 in
theorem wmEndNo (args regs data slots : Int) (bo : Option Addr) (bn bc : Nat) (k r x y : Int) (w : World) (hk : ¬ (1 ≤ k ∧ k ≤ 3)) :
    Calls Try.prog 97 #[.agg #[.int .i64 args, .int .i64 regs, .int .i64 data, .int .i64 slots, .slice bo bn bc], .agg #[.int .i64 k, .int .i64 r, .int .i64 x, .int .i64 y]] w fun e w' => e = .returned (.bool (endGood regs bn ⟨k, r, x, y⟩)) ∧ Below w.heap.size w w' := by
  have hg : endGood regs bn ⟨k, r, x, y⟩ = false := by
    unfold endGood
    rw [if_neg (by simp only []; omega), if_neg (by simp only []; omega), if_neg (by simp only []; omega)]
  have n1 : (k == 1) = false := by rw [beq_eq_false_iff_ne]; omega
  have n2 : (k == 2) = false := by rw [beq_eq_false_iff_ne]; omega
  have n3 : (k == 3) = false := by rw [beq_eq_false_iff_ne]; omega
  go_enter Try.func97, Try.ntmps97
  go_wp2
  go_ret
  exact ⟨by simp [hg], ((Below.refl _ _).alloc (Nat.le_refl _) _).alloc (by simp) _⟩

theorem wmEnd_any (args regs data slots : Int) (bo : Option Addr) (bn bc : Nat) (k r x y : Int) (w : World) :
    Calls Try.prog 97 #[.agg #[.int .i64 args, .int .i64 regs, .int .i64 data, .int .i64 slots, .slice bo bn bc], .agg #[.int .i64 k, .int .i64 r, .int .i64 x, .int .i64 y]] w fun e w' => e = .returned (.bool (endGood regs bn ⟨k, r, x, y⟩)) ∧ Below w.heap.size w w' := by
  by_cases hk : 1 ≤ k ∧ k ≤ 3
  · have : k = 1 ∨ k = 2 ∨ k = 3 := by omega
    rcases this with rfl | rfl | rfl
    · exact wmEnd1 args regs data slots bo bn bc r x y w
    · exact wmEnd2 args regs data slots bo bn bc r x y w
    · exact wmEnd3 args regs data slots bo bn bc r x y w
  · exact wmEndNo args regs data slots bo bn bc k r x y w hk

end Go.Proofs.Ytblhmeidbjigaaa

/- Well made blocks and programs, in the codec. -/
set_option linter.unusedSimpArgs false
set_option linter.unusedVariables false
namespace Go.Proofs.Ytblhmeidbjigaaa
open Go.RowKit

set_option maxRecDepth 100000 in
set_option maxHeartbeats 2000000 in
theorem wmBlock_any (args regs data slots : Int) (bo : Option Addr) (bn bc : Nat) (sv : Value) (l : List OpD) (k r x y : Int) (w : World) (hr : RdOps w sv l) :
    Calls Try.prog 88 #[.agg #[.int .i64 args, .int .i64 regs, .int .i64 data, .int .i64 slots, .slice bo bn bc], .agg #[sv, .int .i64 k, .int .i64 r, .int .i64 x, .int .i64 y]] w fun e w' => e = .returned (.bool (blockGood regs slots bn ⟨l, ⟨k, r, x, y⟩⟩)) ∧ Below w.heap.size w w' := by
  obtain ⟨ao, cap, rfl, hl, hc⟩ := hr
  obtain ⟨G, hG⟩ : ∃ G, blockGood regs slots bn ⟨l, ⟨k, r, x, y⟩⟩ = G := ⟨_, rfl⟩
  rw [hG]
  by_cases h1 : (12 : Int) < l.length
  · have hGf : G = false := by rw [← hG]; simp only [blockGood]; rw [show decide (l.length ≤ 12) = false by simp; omega]; rfl
    subst hGf
    clear hG
    go_enter Try.func88, Try.ntmps88
    go_wp2
    go_ret
    exact ⟨rfl, ((Below.refl _ _).alloc (Nat.le_refl _) _).alloc (by simp) _⟩
  have HG : Hid (G = (ogFrom regs slots l 0 && endGood regs bn ⟨k, r, x, y⟩)) := by show G = _; rw [← hG]; simp [blockGood, ogFrom, show l.length ≤ 12 by omega]
  clear hG
  go_enter Try.func88, Try.ntmps88
  go_wp2
  go_loopw [5] (fun i wr => ∃ (j : Nat), j ≤ l.length ∧ i = .int .i64 j ∧ Hid (G = (ogFrom regs slots l j && endGood regs bn ⟨k, r, x, y⟩)) ∧ Below (w.heap.size + 2) ((w.alloc (.cells #[.int .i64 args, .int .i64 regs, .int .i64 data, .int .i64 slots, .slice bo bn bc] 24)).alloc (.cells #[.slice ao l.length cap, .int .i64 k, .int .i64 r, .int .i64 x, .int .i64 y] 90)) wr)
    (fun i _ => l.length - (intOf i).toNat)
  case atStart => exact ⟨0, Nat.zero_le _, rfl, HG, Below.refl _ _⟩
  case round =>
    obtain ⟨j, hj, rfl, hg, hbel⟩ := hrel
    clear HG
    have hb0 : Below w.heap.size w wr := (((Below.refl w.heap.size w).alloc (Nat.le_refl _) _).alloc (by simp) _).trans (hbel.mono (by omega))
    have p0 : wr.cell? ⟨w.heap.size, 0, none⟩ = some (.int .i64 args) := (hbel.cell (by simp)).trans (by simp)
    have p1 : wr.cell? ⟨w.heap.size, 1, none⟩ = some (.int .i64 regs) := (hbel.cell (by simp)).trans (by simp)
    have p2 : wr.cell? ⟨w.heap.size, 2, none⟩ = some (.int .i64 data) := (hbel.cell (by simp)).trans (by simp)
    have p3 : wr.cell? ⟨w.heap.size, 3, none⟩ = some (.int .i64 slots) := (hbel.cell (by simp)).trans (by simp)
    have p4 : wr.cell? ⟨w.heap.size, 4, none⟩ = some (.slice bo bn bc) := (hbel.cell (by simp)).trans (by simp)
    have q0 : wr.cell? ⟨w.heap.size + 1, 0, none⟩ = some (.slice ao l.length cap) := (hbel.cell (by simp)).trans (by simp)
    have q1 : wr.cell? ⟨w.heap.size + 1, 1, none⟩ = some (.int .i64 k) := (hbel.cell (by simp)).trans (by simp)
    have q2 : wr.cell? ⟨w.heap.size + 1, 2, none⟩ = some (.int .i64 r) := (hbel.cell (by simp)).trans (by simp)
    have q3 : wr.cell? ⟨w.heap.size + 1, 3, none⟩ = some (.int .i64 x) := (hbel.cell (by simp)).trans (by simp)
    have q4 : wr.cell? ⟨w.heap.size + 1, 4, none⟩ = some (.int .i64 y) := (hbel.cell (by simp)).trans (by simp)
    have hz := hbel.size
    simp at hz
    by_cases hlt : j < l.length
    · obtain ⟨b, off, rfl, c1, c2, c3, c4⟩ := hc j hlt
      have e1 := cell_keep hb0 c1
      have e2 := cell_keep hb0 c2
      have e3 := cell_keep hb0 c3
      have e4 := cell_keep hb0 c4
      have u0 := fun z : Past wr.heap.size wr => z.cell p0
      have u1 := fun z : Past wr.heap.size wr => z.cell p1
      have u2 := fun z : Past wr.heap.size wr => z.cell p2
      have u3 := fun z : Past wr.heap.size wr => z.cell p3
      have u4 := fun z : Past wr.heap.size wr => z.cell p4
      have v0 := fun z : Past wr.heap.size wr => z.cell q0
      have f1 := fun z : Past wr.heap.size wr => z.cell e1
      have f2 := fun z : Past wr.heap.size wr => z.cell e2
      have f3 := fun z : Past wr.heap.size wr => z.cell e3
      have f4 := fun z : Past wr.heap.size wr => z.cell e4
      have np := Past.any wr.heap.size wr
      have HS : Hid (ogFrom regs slots l j = (opGood regs slots ⟨okind l j, oa l j, ob l j, oc l j⟩ && ogFrom regs slots l (j + 1))) := ogFrom_step hlt
      go_wp2
      refine wp_region_past wr.heap.size (by kernel_rfl) (by kernel_rfl) ?_
      repeat (go_big_quiet_step (exact Calls.past_of (Nat.le_refl _) (wmOp_any _ _ _ _ _ _ _ _ _ _ _ _)))
      refine wpQuiet_nil ?_
      rintro _ ⟨z, rfl⟩
      have hb1 := hbel.trans (z.ok.mono (by omega))
      have hb01 := hb0.trans (z.ok.mono (by omega))
      clear u0 u1 u2 u3 u4 v0 f1 f2 f3 f4 np p0 p1 p2 p3 p4 q0 q1 q2 q3 q4 e1 e2 e3 e4
      cases h3 : opGood regs slots ⟨okind l j, oa l j, ob l j, oc l j⟩
      · have hGf : G = false := by rw [hg.out, HS.out, h3]; rfl
        subst hGf
        clear hg HS
        go_wp2
        go_ret
        exact ⟨rfl, hb01⟩
      · have hG' : Hid (G = (ogFrom regs slots l (j + 1) && endGood regs bn ⟨k, r, x, y⟩)) := by show G = _; rw [hg.out, HS.out, h3]; rfl
        clear hg HS
        go_wp2
        go_roundw
        case rel => exact ⟨j + 1, by omega, by go_num, hG', hb1⟩
        case measure => simp [intOf]; omega
    · have hGt : G = endGood regs bn ⟨k, r, x, y⟩ := by rw [hg.out, ogFrom_end (by omega)]; rfl
      have HGT : Hid (G = endGood regs bn ⟨k, r, x, y⟩) := hGt
      clear hg hGt
      go_wp2_with fail
      refine (wmEnd_any _ _ _ _ _ _ _ _ _ _ _ _).mono ?_
      rintro e w1 ⟨rfl, hb1⟩
      have hb01 := hb0.trans (hb1.mono (by omega))
      go_wp2
      go_ret
      exact ⟨by rw [HGT.out]; rfl, hb01⟩

set_option maxRecDepth 100000 in
set_option maxHeartbeats 4000000 in
theorem wmProg_any (args regs data slots : Int) (v : Value) (l : List BlockD) (w : World) (hr : RdBlocks w v l) :
    Calls Try.prog 72 #[.agg #[.int .i64 args, .int .i64 regs, .int .i64 data, .int .i64 slots, v]] w fun e w' => e = .returned (.bool (progGood ⟨args, regs, data, slots, l⟩)) ∧ Below w.heap.size w w' := by
  obtain ⟨ao, cap, rfl, hl, hc⟩ := hr
  obtain ⟨G, hG⟩ : ∃ G, progGood ⟨args, regs, data, slots, l⟩ = G := ⟨_, rfl⟩
  rw [hG]
  have hno : ¬ (1 ≤ regs ∧ regs ≤ 8 ∧ 0 ≤ args ∧ args ≤ regs ∧ 0 ≤ data ∧ data ≤ 8 ∧ 0 ≤ slots ∧ slots ≤ 8 ∧ 1 ≤ l.length ∧ l.length ≤ 6) → G = false := by
    intro h
    rw [← hG]
    apply Bool.eq_false_iff.2
    intro hh
    simp [progGood] at hh
    exact h (by omega)
  have bfr : Below w.heap.size w (w.alloc (.cells #[.int .i64 args, .int .i64 regs, .int .i64 data, .int .i64 slots, .slice ao l.length cap] 24)) := (Below.refl _ _).alloc (Nat.le_refl _) _
  have HB : Hid (Below w.heap.size w (w.alloc (.cells #[.int .i64 args, .int .i64 regs, .int .i64 data, .int .i64 slots, .slice ao l.length cap] 24))) := bfr
  clear bfr
  by_cases t0 : regs < 1
  · have hGf : G = false := hno (by omega)
    subst hGf
    clear hG hno
    go_enter Try.func72, Try.ntmps72
    go_wp2
    go_ret
    exact ⟨rfl, HB.out⟩
  by_cases t1 : 8 < regs
  · have hGf : G = false := hno (by omega)
    subst hGf
    clear hG hno
    go_enter Try.func72, Try.ntmps72
    go_wp2
    go_ret
    exact ⟨rfl, HB.out⟩
  by_cases t2 : args < 0
  · have hGf : G = false := hno (by omega)
    subst hGf
    clear hG hno
    go_enter Try.func72, Try.ntmps72
    go_wp2
    go_ret
    exact ⟨rfl, HB.out⟩
  by_cases t3 : regs < args
  · have hGf : G = false := hno (by omega)
    subst hGf
    clear hG hno
    go_enter Try.func72, Try.ntmps72
    go_wp2
    go_ret
    exact ⟨rfl, HB.out⟩
  by_cases t4 : data < 0
  · have hGf : G = false := hno (by omega)
    subst hGf
    clear hG hno
    go_enter Try.func72, Try.ntmps72
    go_wp2
    go_ret
    exact ⟨rfl, HB.out⟩
  by_cases t5 : 8 < data
  · have hGf : G = false := hno (by omega)
    subst hGf
    clear hG hno
    go_enter Try.func72, Try.ntmps72
    go_wp2
    go_ret
    exact ⟨rfl, HB.out⟩
  by_cases t6 : slots < 0
  · have hGf : G = false := hno (by omega)
    subst hGf
    clear hG hno
    go_enter Try.func72, Try.ntmps72
    go_wp2
    go_ret
    exact ⟨rfl, HB.out⟩
  by_cases t7 : 8 < slots
  · have hGf : G = false := hno (by omega)
    subst hGf
    clear hG hno
    go_enter Try.func72, Try.ntmps72
    go_wp2
    go_ret
    exact ⟨rfl, HB.out⟩
  by_cases t8 : (l.length : Int) < 1
  · have hGf : G = false := hno (by omega)
    subst hGf
    clear hG hno
    go_enter Try.func72, Try.ntmps72
    go_wp2
    go_ret
    exact ⟨rfl, HB.out⟩
  by_cases t9 : (6 : Int) < l.length
  · have hGf : G = false := hno (by omega)
    subst hGf
    clear hG hno
    go_enter Try.func72, Try.ntmps72
    go_wp2
    go_ret
    exact ⟨rfl, HB.out⟩
  have HG : Hid (G = bgFrom regs slots l.length l 0) := by
    show G = _
    rw [← hG]
    simp only [progGood, bgFrom, List.drop_zero]
    rw [show decide (1 ≤ regs ∧ regs ≤ 8) = true by simp; omega, show decide (0 ≤ args ∧ args ≤ regs) = true by simp; omega, show decide (0 ≤ data ∧ data ≤ 8) = true by simp; omega, show decide (0 ≤ slots ∧ slots ≤ 8) = true by simp; omega, show decide (1 ≤ l.length ∧ l.length ≤ 6) = true by simp; omega]
    rfl
  clear hG hno HB
  go_enter Try.func72, Try.ntmps72
  go_wp2
  go_loopw [3] (fun i wr => ∃ (k : Nat), k ≤ l.length ∧ i = .int .i64 k ∧ Hid (G = bgFrom regs slots l.length l k) ∧ Below (w.heap.size + 1) (w.alloc (.cells #[.int .i64 args, .int .i64 regs, .int .i64 data, .int .i64 slots, .slice ao l.length cap] 24)) wr)
    (fun i _ => l.length - (intOf i).toNat)
  case atStart => exact ⟨0, Nat.zero_le _, rfl, HG, Below.refl _ _⟩
  case round =>
    obtain ⟨k, hk, rfl, hg, hbel⟩ := hrel
    clear HG
    have hb0 := Below.under hbel
    have p0 : wr.cell? ⟨w.heap.size, 0, none⟩ = some (.int .i64 args) := (hbel.cell (by simp)).trans (by simp)
    have p1 : wr.cell? ⟨w.heap.size, 1, none⟩ = some (.int .i64 regs) := (hbel.cell (by simp)).trans (by simp)
    have p2 : wr.cell? ⟨w.heap.size, 2, none⟩ = some (.int .i64 data) := (hbel.cell (by simp)).trans (by simp)
    have p3 : wr.cell? ⟨w.heap.size, 3, none⟩ = some (.int .i64 slots) := (hbel.cell (by simp)).trans (by simp)
    have p4 : wr.cell? ⟨w.heap.size, 4, none⟩ = some (.slice ao l.length cap) := (hbel.cell (by simp)).trans (by simp)
    have hz := hbel.size
    simp at hz
    by_cases hlt : k < l.length
    · obtain ⟨b, off, sv, rfl, c1, c2, c3, c4, c5, c6⟩ := hc k hlt
      have e1 := cell_keep hb0 c1
      have e2 := cell_keep hb0 c2
      have e3 := cell_keep hb0 c3
      have e4 := cell_keep hb0 c4
      have e5 := cell_keep hb0 c5
      have e6 := c6.keep hb0
      obtain ⟨so, sc, es, _, _⟩ := id e6
      subst es
      have u0 := fun z : Past wr.heap.size wr => z.cell p0
      have u1 := fun z : Past wr.heap.size wr => z.cell p1
      have u2 := fun z : Past wr.heap.size wr => z.cell p2
      have u3 := fun z : Past wr.heap.size wr => z.cell p3
      have u4 := fun z : Past wr.heap.size wr => z.cell p4
      have f1 := fun z : Past wr.heap.size wr => z.cell e1
      have f2 := fun z : Past wr.heap.size wr => z.cell e2
      have f3 := fun z : Past wr.heap.size wr => z.cell e3
      have f4 := fun z : Past wr.heap.size wr => z.cell e4
      have f5 := fun z : Past wr.heap.size wr => z.cell e5
      have np := Past.any wr.heap.size wr
      have HS : Hid (bgFrom regs slots l.length l k = (blockGood regs slots l.length ⟨bops l k, ⟨bek l k, ber l k, bex l k, bey l k⟩⟩ && bgFrom regs slots l.length l (k + 1))) := bgFrom_step hlt
      go_wp2
      refine wp_region_past wr.heap.size (by kernel_rfl) (by kernel_rfl) ?_
      repeat (go_big_quiet_step (exact Calls.past_of (Nat.le_refl _) (wmBlock_any _ _ _ _ _ _ _ _ _ _ _ _ _ _ (e6.keep (Past.ok _)))))
      refine wpQuiet_nil ?_
      rintro _ ⟨z, rfl⟩
      have hb1 := hbel.trans (z.ok.mono (by omega))
      have hb01 := hb0.trans (z.ok.mono (by omega))
      clear u0 u1 u2 u3 u4 f1 f2 f3 f4 f5 np p0 p1 p2 p3 p4 e1 e2 e3 e4 e5
      cases h3 : blockGood regs slots l.length ⟨bops l k, ⟨bek l k, ber l k, bex l k, bey l k⟩⟩
      · have hGf : G = false := by rw [hg.out, HS.out, h3]; rfl
        subst hGf
        clear hg HS
        go_wp2
        go_ret
        exact ⟨rfl, hb01⟩
      · have hG' : Hid (G = bgFrom regs slots l.length l (k + 1)) := by show G = _; rw [hg.out, HS.out, h3]; rfl
        clear hg HS
        go_wp2
        go_roundw
        case rel => exact ⟨k + 1, by omega, by go_num, hG', hb1⟩
        case measure => simp [intOf]; omega
    · have hGt : G = true := by rw [hg.out, bgFrom_end (by omega)]
      subst hGt
      clear hg
      go_wp2
      go_ret
      exact ⟨rfl, hb0⟩

end Go.Proofs.Ytblhmeidbjigaaa

/- The text of a program in the codec. -/
set_option linter.unusedSimpArgs false
set_option linter.unusedVariables false
namespace Go.Proofs.Ytblhmeidbjigaaa
open Go.RowKit

set_option maxRecDepth 100000 in
set_option maxHeartbeats 2000000 in
theorem cBlockText_any (sv : Value) (l : List OpD) (k r x y : Int) (w : World) (hr : RdOps w sv l) (hn : l.length ≤ 12) :
    Calls Try.prog 75 #[.agg #[sv, .int .i64 k, .int .i64 r, .int .i64 x, .int .i64 y]] w fun e w' => e = .returned (.string (str (blockText ⟨l, ⟨k, r, x, y⟩⟩))) ∧ Below w.heap.size w w' := by
  obtain ⟨ao, cap, rfl, hl, hc⟩ := hr
  obtain ⟨G, hG⟩ : ∃ G, str (blockText ⟨l, ⟨k, r, x, y⟩⟩) = G := ⟨_, rfl⟩
  rw [hG]
  have HG : Hid (str (blockText ⟨l, ⟨k, r, x, y⟩⟩) = G) := hG
  clear hG
  go_enter Try.func75, Try.ntmps75
  go_wp2_with fail
  refine (oneByte_any _ _).mono ?_
  rintro e w1 ⟨rfl, hb1⟩
  have h0 : (⟨#[byt l.length]⟩ : ByteArray) = blockTo l 0 := rfl
  rw [h0]
  have hb1' : Below (w.heap.size + 1) (w.alloc (.cells #[.slice ao l.length cap, .int .i64 k, .int .i64 r, .int .i64 x, .int .i64 y] 90)) w1 := by simpa using hb1
  clear hb1 h0
  go_wp2
  go_loopw [3, 4] (fun s i wr => ∃ (j : Nat), j ≤ l.length ∧ i = .int .i64 j ∧ s = .string (blockTo l j) ∧ Below (w.heap.size + 1) (w.alloc (.cells #[.slice ao l.length cap, .int .i64 k, .int .i64 r, .int .i64 x, .int .i64 y] 90)) wr)
    (fun _ i _ => l.length - (intOf i).toNat)
  case atStart => exact ⟨0, Nat.zero_le _, rfl, rfl, hb1'⟩
  case round =>
    obtain ⟨j, hj, rfl, rfl, hbel⟩ := hrel
    clear hb1' w1
    have hb0 := Below.under hbel
    have q0 : wr.cell? ⟨w.heap.size, 0, none⟩ = some (.slice ao l.length cap) := (hbel.cell (by simp)).trans (by simp)
    have q1 : wr.cell? ⟨w.heap.size, 1, none⟩ = some (.int .i64 k) := (hbel.cell (by simp)).trans (by simp)
    have q2 : wr.cell? ⟨w.heap.size, 2, none⟩ = some (.int .i64 r) := (hbel.cell (by simp)).trans (by simp)
    have q3 : wr.cell? ⟨w.heap.size, 3, none⟩ = some (.int .i64 x) := (hbel.cell (by simp)).trans (by simp)
    have q4 : wr.cell? ⟨w.heap.size, 4, none⟩ = some (.int .i64 y) := (hbel.cell (by simp)).trans (by simp)
    have hz := hbel.size
    simp at hz
    have hsz : (blockTo l j).size ≤ 100 := by rw [blockTo_size _ _ hj]; omega
    by_cases hlt : j < l.length
    · obtain ⟨b, off, rfl, c1, c2, c3, c4⟩ := hc j hlt
      have e1 := cell_keep hb0 c1
      have e2 := cell_keep hb0 c2
      have e3 := cell_keep hb0 c3
      have e4 := cell_keep hb0 c4
      have HS : Hid (blockTo l (j + 1) = blockTo l j ++ ⟨#[byt (okind l j), byt (oa l j), byt (ob l j), byt (oc l j)]⟩) := blockTo_step hlt
      go_wp2_with fail
      refine (fourBytes_any _ _ _ _ _).mono ?_
      rintro e w2 ⟨rfl, hb2⟩
      have hb3 := (hbel.alloc (by omega) (.cells #[.int .i64 (okind l j), .int .i64 (oa l j), .int .i64 (ob l j), .int .i64 (oc l j)] 101)).trans (hb2.mono (by simp; omega))
      clear hb2 q0 q1 q2 q3 q4 e1 e2 e3 e4
      go_wp2
      go_roundw
      case rel => exact ⟨j + 1, by omega, by go_num, by rw [HS.out], hb3⟩
      case measure => simp [intOf]; omega
    · have HE : Hid (blockTo l j ++ ⟨#[byt k, byt r, byt x, byt y]⟩ = G) := (blockTo_end ⟨k, r, x, y⟩ (by omega)).trans HG.out
      go_wp2_with fail
      refine (fourBytes_any _ _ _ _ _).mono ?_
      rintro e w2 ⟨rfl, hb2⟩
      have hb3 := hb0.trans (hb2.mono (by omega))
      have he := HE.out
      clear q0 q1 q2 q3 q4
      go_wp2
      go_ret
      exact ⟨by simp [he], hb3⟩

set_option maxRecDepth 100000 in
set_option maxHeartbeats 2000000 in
theorem cEncode_any (args regs data slots : Int) (v : Value) (l : List BlockD) (w : World) (hr : RdBlocks w v l) :
    Calls Try.prog 49 #[.agg #[.int .i64 args, .int .i64 regs, .int .i64 data, .int .i64 slots, v]] w fun e w' => e = .returned (.tuple (if progGood ⟨args, regs, data, slots, l⟩ then #[.string (str (progText ⟨args, regs, data, slots, l⟩)), .int .i64 0] else #[.string ⟨#[]⟩, .int .i64 1])) ∧ Below w.heap.size w w' := by
  have hr0 := hr
  obtain ⟨ao, cap, rfl, hl, hc⟩ := hr
  have hw := wmProg_any args regs data slots _ l _ (hr0.keep ((Below.refl w.heap.size w).alloc (Nat.le_refl _) (.cells #[.int .i64 args, .int .i64 regs, .int .i64 data, .int .i64 slots, .slice ao l.length cap] 24)))
  cases hg : progGood ⟨args, regs, data, slots, l⟩
  · go_enter Try.func49, Try.ntmps49
    go_wp2_with fail
    refine hw.mono ?_
    clear hw
    rintro e w1 ⟨rfl, hb1⟩
    rw [hg]
    go_wp2
    go_ret2
    exact ⟨by simp [hg], ((Below.refl _ _).alloc (Nat.le_refl _) _).trans (hb1.mono (by simp))⟩
  · obtain ⟨p, hp⟩ : ∃ p : ProgD, p = ⟨args, regs, data, slots, l⟩ := ⟨_, rfl⟩
    have hgp : progGood p = true := by rw [hp]; exact hg
    obtain ⟨G, hG⟩ : ∃ G, str (progText ⟨args, regs, data, slots, l⟩) = G := ⟨_, rfl⟩
    rw [hG]
    rw [← hp] at hG
    have hpl : p.blocks = l := by rw [hp]
    have HG : Hid (str (progText p) = G) := hG
    have HPL : Hid (p.blocks = l) := hpl
    have h0 : (⟨#[84, 87]⟩ : ByteArray) ++ ⟨#[byt args, byt regs, byt data, byt slots]⟩ ++ ⟨#[byt l.length]⟩ = progTo p 0 := by
      show str [84, 87] ++ str [_, _, _, _] ++ str [_] = _
      rw [str_append, str_append, hp]; rfl
    have hlen : l.length ≤ 6 := by have := (progGood_len hgp).2; rw [hpl] at this; exact this
    have HO : Hid (∀ k, k < l.length → (bops l k).length ≤ 12) := by intro k hk; have := progGood_ops hgp (k := k) (by rw [hpl]; exact hk); rw [hpl] at this; exact this
    have HSZ : Hid (∀ k, (progTo p k).size ≤ 330) := fun k => progTo_size hgp k
    have HST : Hid (∀ k, k < l.length → progTo p (k + 1) = progTo p k ++ str (blockText ⟨bops l k, ⟨bek l k, ber l k, bex l k, bey l k⟩⟩)) := by
      intro k hk
      have := progTo_step (p := p) (k := k) (by rw [hpl]; exact hk)
      rw [hpl] at this
      exact this
    have HEN : Hid (progTo p l.length = G) := by
      show _ = _
      rw [← hG]
      exact progTo_end (by rw [hpl]; exact Nat.le_refl _)
    clear hG hgp hpl hp
    go_enter Try.func49, Try.ntmps49
    go_wp2_with fail
    refine hw.mono ?_
    clear hw
    rintro e w1 ⟨rfl, hb1⟩
    rw [hg]
    have hb1' : Below (w.heap.size + 1) (w.alloc (.cells #[.int .i64 args, .int .i64 regs, .int .i64 data, .int .i64 slots, .slice ao l.length cap] 24)) w1 := by simpa using hb1
    clear hb1
    have p0 : w1.cell? ⟨w.heap.size, 0, none⟩ = some (.int .i64 args) := (hb1'.cell (by simp)).trans (by simp)
    have p1 : w1.cell? ⟨w.heap.size, 1, none⟩ = some (.int .i64 regs) := (hb1'.cell (by simp)).trans (by simp)
    have p2 : w1.cell? ⟨w.heap.size, 2, none⟩ = some (.int .i64 data) := (hb1'.cell (by simp)).trans (by simp)
    have p3 : w1.cell? ⟨w.heap.size, 3, none⟩ = some (.int .i64 slots) := (hb1'.cell (by simp)).trans (by simp)
    have p4 : w1.cell? ⟨w.heap.size, 4, none⟩ = some (.slice ao l.length cap) := (hb1'.cell (by simp)).trans (by simp)
    have hz1 := hb1'.size
    simp at hz1
    go_wp2_with fail
    refine (fourBytes_any _ _ _ _ _).mono ?_
    rintro e w2 ⟨rfl, hb2⟩
    have hb2' := hb1'.trans (hb2.mono (by omega))
    have r4 := cell_keep hb2 p4
    have hz2 := hb2.size
    clear p0 p1 p2 p3 p4
    go_wp2_with fail
    refine (oneByte_any _ _).mono ?_
    rintro e w3 ⟨rfl, hb3⟩
    have hb3' := hb2'.trans (hb3.mono (by omega))
    clear r4 hb2 hb3 hb1' hb2'
    go_wp2
    go_loopw [4, 5] (fun s i wr => ∃ (k : Nat), k ≤ l.length ∧ i = .int .i64 k ∧ s = .string (progTo p k) ∧ Below (w.heap.size + 1) (w.alloc (.cells #[.int .i64 args, .int .i64 regs, .int .i64 data, .int .i64 slots, .slice ao l.length cap] 24)) wr)
      (fun _ i _ => l.length - (intOf i).toNat)
    case atStart => exact ⟨0, Nat.zero_le _, rfl, by rw [← h0], hb3'⟩
    case round =>
      clear h0 hb3' hz1 hz2 w1 w2 w3
      obtain ⟨k, hk, rfl, rfl, hbel⟩ := hrel
      have hb0 := Below.under hbel
      have p4 : wr.cell? ⟨w.heap.size, 4, none⟩ = some (.slice ao l.length cap) := (hbel.cell (by simp)).trans (by simp)
      have hz := hbel.size
      simp at hz
      have hsz := HSZ.out k
      by_cases hlt : k < l.length
      · obtain ⟨b, off, sv, rfl, c1, c2, c3, c4, c5, c6⟩ := hc k hlt
        have e1 := cell_keep hb0 c1
        have e2 := cell_keep hb0 c2
        have e3 := cell_keep hb0 c3
        have e4 := cell_keep hb0 c4
        have e5 := cell_keep hb0 c5
        have e6 := c6.keep hb0
        have hol := HO.out k hlt
        have HS : Hid (progTo p (k + 1) = progTo p k ++ str (blockText ⟨bops l k, ⟨bek l k, ber l k, bex l k, bey l k⟩⟩)) := HST.out k hlt
        have hsz2 : (str (blockText ⟨bops l k, ⟨bek l k, ber l k, bex l k, bey l k⟩⟩)).size ≤ 100 := by rw [str_size, blockText_length]; simp only []; omega
        obtain ⟨so, sc, es, _, _⟩ := id e6
        subst es
        go_wp2_with fail
        refine (cBlockText_any _ _ _ _ _ _ _ e6 hol).mono ?_
        rintro e w1 ⟨rfl, hb1⟩
        have hb4 := hbel.trans (hb1.mono (by omega))
        clear e1 e2 e3 e4 e5 e6 p4
        go_wp2
        go_roundw
        case rel => exact ⟨k + 1, by omega, by go_num, by rw [HS.out], hb4⟩
        case measure => simp [intOf]; omega
      · obtain rfl : k = l.length := by omega
        have he := HEN.out
        go_wp2
        go_ret2
        exact ⟨by simp [he], hb0⟩

end Go.Proofs.Ytblhmeidbjigaaa

/- Programs that lie in memory of their own, each list for itself. -/
set_option linter.unusedSimpArgs false
set_option linter.unusedVariables false
namespace Go.Proofs.Ytblhmeidbjigaaa
open Go.RowKit

def opCells (l : List OpD) : List Value := l.flatMap fun o => [.int .i64 o.kind, .int .i64 o.a, .int .i64 o.b, .int .i64 o.c]

theorem opCells_snoc (l : List OpD) (k a b c : Int) : opCells (l ++ [⟨k, a, b, c⟩]) = opCells l ++ [.int .i64 k, .int .i64 a, .int .i64 b, .int .i64 c] := by simp [opCells]

theorem opCells_length (l : List OpD) : (opCells l).length = l.length * 4 := by
  induction l with
  | nil => rfl
  | cons p r ih => simp only [opCells, List.flatMap_cons, List.length_append, List.length_cons, List.length_nil] at *; omega

theorem opCells_get (l : List OpD) (i : Nat) (hi : i < l.length) : (opCells l)[i * 4]? = some (.int .i64 (okind l i)) ∧ (opCells l)[i * 4 + 1]? = some (.int .i64 (oa l i)) ∧ (opCells l)[i * 4 + 2]? = some (.int .i64 (ob l i)) ∧ (opCells l)[i * 4 + 3]? = some (.int .i64 (oc l i)) := by
  induction l generalizing i with
  | nil => simp at hi
  | cons p r ih =>
    cases i with
    | zero => exact ⟨rfl, rfl, rfl, rfl⟩
    | succ i =>
      have h := ih i (by simpa using hi)
      have e1 : (i + 1) * 4 = i * 4 + 1 + 1 + 1 + 1 := by omega
      rw [e1]
      exact h

def blkCells (bv : List (BlockD × Value)) : List Value := bv.flatMap fun x => [x.2, .int .i64 x.1.fin.kind, .int .i64 x.1.fin.r, .int .i64 x.1.fin.x, .int .i64 x.1.fin.y]

theorem blkCells_snoc (bv : List (BlockD × Value)) (l : List OpD) (k r x y : Int) (sv : Value) : blkCells (bv ++ [(⟨l, ⟨k, r, x, y⟩⟩, sv)]) = blkCells bv ++ [sv, .int .i64 k, .int .i64 r, .int .i64 x, .int .i64 y] := by simp [blkCells]

theorem blkCells_length (bv : List (BlockD × Value)) : (blkCells bv).length = bv.length * 5 := by
  induction bv with
  | nil => rfl
  | cons p r ih => simp only [blkCells, List.flatMap_cons, List.length_append, List.length_cons, List.length_nil] at *; omega

theorem blkCells_get (bv : List (BlockD × Value)) (i : Nat) (hi : i < bv.length) : (blkCells bv)[i * 5]? = some bv[i].2 ∧ (blkCells bv)[i * 5 + 1]? = some (.int .i64 bv[i].1.fin.kind) ∧ (blkCells bv)[i * 5 + 2]? = some (.int .i64 bv[i].1.fin.r) ∧ (blkCells bv)[i * 5 + 3]? = some (.int .i64 bv[i].1.fin.x) ∧ (blkCells bv)[i * 5 + 4]? = some (.int .i64 bv[i].1.fin.y) := by
  induction bv generalizing i with
  | nil => simp at hi
  | cons p r ih =>
    cases i with
    | zero => exact ⟨rfl, rfl, rfl, rfl, rfl⟩
    | succ i =>
      have h := ih i (by simpa using hi)
      have e1 : (i + 1) * 5 = i * 5 + 1 + 1 + 1 + 1 + 1 := by omega
      rw [e1]
      exact h

/-- The blocks bv lie at v, in memory from block base on, each list in a block of its own. -/
structure OwnBlocks (w : World) (base : Nat) (v : Value) (bv : List (BlockD × Value)) : Prop where
  row : w.ownsRow base 90 5 v bv.length (blkCells bv)
  each : ∀ x ∈ bv, w.ownsRow base 101 4 x.2 x.1.ops.length (opCells x.1.ops)
  apart : bv.Pairwise fun x y => ∀ g, x.2.ownBlock = some g → y.2.ownBlock ≠ some g

def bdat (bv : List (BlockD × Value)) : List BlockD := bv.map (·.1)

theorem bdat_length (bv : List (BlockD × Value)) : (bdat bv).length = bv.length := by simp [bdat]

theorem bdat_get (bv : List (BlockD × Value)) {i : Nat} (hi : i < bv.length) : bops (bdat bv) i = bv[i].1.ops ∧ bfin (bdat bv) i = bv[i].1.fin := by
  constructor <;> simp [bops, bfin, bdat, hi]

theorem ownBlocks_nil (w : World) (base : Nat) : OwnBlocks w base (.slice none 0 0) [] :=
  ⟨World.ownsRow_nil _ _ _ _, fun x hx => by simp at hx, List.Pairwise.nil⟩

theorem OwnBlocks.below {w w' : World} {base : Nat} {v : Value} {bv : List (BlockD × Value)} (h : OwnBlocks w base v bv) {B : Nat} (hb : Below B w w') (hB : w.heap.size ≤ B) : OwnBlocks w' base v bv :=
  ⟨owns_below h.row hb hB, fun x hx => owns_below (h.each x hx) hb hB, h.apart⟩

theorem OwnBlocks.alloc {w : World} {base : Nat} {v : Value} {bv : List (BlockD × Value)} (h : OwnBlocks w base v bv) (o : Obj) : OwnBlocks (w.alloc o) base v bv :=
  ⟨h.row.alloc o, fun x hx => (h.each x hx).alloc o, h.apart⟩

theorem OwnBlocks.set {w : World} {base : Nat} {v : Value} {bv : List (BlockD × Value)} (h : OwnBlocks w base v bv) {a : Addr} (ha : a.block < base) (u : Value) : OwnBlocks (w.setCell a u) base v bv :=
  ⟨ownsRow_setCell_below h.row ha u, fun x hx => ownsRow_setCell_below (h.each x hx) ha u, h.apart⟩

theorem OwnBlocks.base {w : World} {base base' : Nat} {v : Value} {bv : List (BlockD × Value)} (h : OwnBlocks w base v bv) (hb : base' ≤ base) : OwnBlocks w base' v bv :=
  ⟨owns_base h.row hb, fun x hx => owns_base (h.each x hx) hb, h.apart⟩

theorem OwnBlocks.snoc {w w' : World} {base : Nat} {v v' : Value} {bv : List (BlockD × Value)} (h : OwnBlocks w base v bv) {l : List OpD} {k r x y : Int} {sv : Value}
    (hx : w.ownsRow base 101 4 sv l.length (opCells l)) (hfree : ∀ y ∈ bv, ∀ g, y.2.ownBlock = some g → sv.ownBlock ≠ some g)
    (hg : w.grownBy w' v.ownBlock) (hown : w'.ownsRow base 90 5 v' (bv.length + 1) (blkCells bv ++ [sv, .int .i64 k, .int .i64 r, .int .i64 x, .int .i64 y])) : OwnBlocks w' base v' (bv ++ [(⟨l, ⟨k, r, x, y⟩⟩, sv)]) := by
  have keep : ∀ (u : Value) (ps : List OpD), w.ownsRow base 101 4 u ps.length (opCells ps) → w'.ownsRow base 101 4 u ps.length (opCells ps) := by
    intro u ps hu
    refine hu.kept hg ?_
    cases hb : u.ownBlock with
    | none => exact .inl rfl
    | some g => exact .inr (fun e => owns_apart hu h.row (by decide) g hb e.symm)
  refine ⟨by rw [blkCells_snoc]; simpa using hown, ?_, ?_⟩
  · intro y hy
    rcases List.mem_append.1 hy with hy | hy
    · exact keep _ _ (h.each y hy)
    · simp at hy; subst hy; exact keep _ _ hx
  · rw [List.pairwise_append]
    refine ⟨h.apart, by simp, ?_⟩
    intro a ha b hb
    simp at hb
    subst hb
    exact hfree a ha

theorem owns_ops_at {w : World} {base : Nat} {so : Option Addr} {n sc : Nat} {l : List OpD} (h : w.ownsRow base 101 4 (.slice so n sc) l.length (opCells l)) {j : Nat} (hj : j < l.length) :
    ∃ b, so = some ⟨b, 0, none⟩ ∧ base ≤ b ∧ w.cell? ⟨b, j * 4, none⟩ = some (.int .i64 (okind l j)) ∧ w.cell? ⟨b, j * 4 + 1, none⟩ = some (.int .i64 (oa l j)) ∧ w.cell? ⟨b, j * 4 + 2, none⟩ = some (.int .i64 (ob l j)) ∧ w.cell? ⟨b, j * 4 + 3, none⟩ = some (.int .i64 (oc l j)) ∧ ∀ o, w.frozen? ⟨b, o, none⟩ = false := by
  obtain ⟨ao', cap', hv'⟩ := owns_slice h
  simp only [Value.slice.injEq] at hv'
  obtain ⟨rfl, rfl, rfl⟩ := hv'
  have hl := opCells_length l
  obtain ⟨b, hao, hbs, hb, hc⟩ := owns_cell h rfl (i := j * 4) (by omega)
  obtain ⟨g1, g2, g3, g4⟩ := opCells_get l j hj
  have key : ∀ i u, (opCells l)[i]? = some u → w.cell? ⟨b, i, none⟩ = some u := by
    intro i u hu
    have := h.cells (g := b) hb i u hu
    rwa [Addr.add_lit, Nat.zero_add] at this
  exact ⟨b, hao, hbs, key _ _ g1, key _ _ g2, key _ _ g3, key _ _ g4, fun o => owns_frozen h hb o⟩

theorem ownBlocks_at {w : World} {base : Nat} {ao : Option Addr} {n cap : Nat} {bv : List (BlockD × Value)} (h : OwnBlocks w base (.slice ao n cap) bv) {i : Nat} (hi : i < bv.length) :
    ∃ b, ao = some ⟨b, 0, none⟩ ∧ base ≤ b ∧ w.cell? ⟨b, i * 5, none⟩ = some bv[i].2 ∧ w.cell? ⟨b, i * 5 + 1, none⟩ = some (.int .i64 bv[i].1.fin.kind) ∧ w.cell? ⟨b, i * 5 + 2, none⟩ = some (.int .i64 bv[i].1.fin.r) ∧ w.cell? ⟨b, i * 5 + 3, none⟩ = some (.int .i64 bv[i].1.fin.x) ∧ w.cell? ⟨b, i * 5 + 4, none⟩ = some (.int .i64 bv[i].1.fin.y) ∧ ∀ o, w.frozen? ⟨b, o, none⟩ = false := by
  obtain ⟨ao', cap', hv'⟩ := owns_slice h.row
  simp only [Value.slice.injEq] at hv'
  obtain ⟨rfl, rfl, rfl⟩ := hv'
  have hl := blkCells_length bv
  obtain ⟨b, hao, hbs, hb, hc⟩ := owns_cell h.row rfl (i := i * 5) (by omega)
  obtain ⟨g1, g2, g3, g4, g5⟩ := blkCells_get bv i hi
  have key : ∀ i u, (blkCells bv)[i]? = some u → w.cell? ⟨b, i, none⟩ = some u := by
    intro i u hu
    have := h.row.cells (g := b) hb i u hu
    rwa [Addr.add_lit, Nat.zero_add] at this
  exact ⟨b, hao, hbs, key _ _ g1, key _ _ g2, key _ _ g3, key _ _ g4, key _ _ g5, fun o => owns_frozen h.row hb o⟩

theorem owns_rdOps {w : World} {base : Nat} {v : Value} {l : List OpD} (h : w.ownsRow base 101 4 v l.length (opCells l)) : RdOps w v l := by
  obtain ⟨ao, cap, rfl⟩ := owns_slice h
  refine ⟨ao, cap, rfl, owns_le h, fun i hi => ?_⟩
  obtain ⟨b, e, _, c1, c2, c3, c4, _⟩ := owns_ops_at h hi
  exact ⟨b, 0, e, by rw [Nat.zero_add]; exact c1, by rw [Nat.zero_add]; exact c2, by rw [Nat.zero_add]; exact c3, by rw [Nat.zero_add]; exact c4⟩

theorem OwnBlocks.rd {w : World} {base : Nat} {v : Value} {bv : List (BlockD × Value)} (h : OwnBlocks w base v bv) : RdBlocks w v (bdat bv) := by
  obtain ⟨ao, cap, rfl⟩ := owns_slice h.row
  refine ⟨ao, cap, by rw [bdat_length], by rw [bdat_length]; exact owns_le h.row, fun i hi => ?_⟩
  rw [bdat_length] at hi
  obtain ⟨e1, e2⟩ := bdat_get bv hi
  obtain ⟨b, e, _, c0, c1, c2, c3, c4, _⟩ := ownBlocks_at h hi
  refine ⟨b, 0, bv[i].2, e, by rw [Nat.zero_add]; exact c0, ?_, ?_, ?_, ?_, ?_⟩
  · rw [Nat.zero_add]; unfold bek; rw [e2]; exact c1
  · rw [Nat.zero_add]; unfold ber; rw [e2]; exact c2
  · rw [Nat.zero_add]; unfold bex; rw [e2]; exact c3
  · rw [Nat.zero_add]; unfold bey; rw [e2]; exact c4
  · rw [e1]; exact owns_rdOps (h.each _ (by simp))

end Go.Proofs.Ytblhmeidbjigaaa

/- Reading a block in the codec. -/
set_option linter.unusedSimpArgs false
set_option linter.unusedVariables false
namespace Go.Proofs.Ytblhmeidbjigaaa
open Go.RowKit

theorem Try.infoOp : (Try.prog.info? 101).map (fun i => (i.zero, i.size, i.bytes)) = some (some (.agg #[.int .i64 0, .int .i64 0, .int .i64 0, .int .i64 0]), 4, 32) := by kernel_rfl
theorem Try.infoBlk : (Try.prog.info? 90).map (fun i => (i.zero, i.size, i.bytes)) = some (some (.agg #[.slice none 0 0, .int .i64 0, .int .i64 0, .int .i64 0, .int .i64 0]), 5, 56) := by kernel_rfl

def opsAt (d : Int) (s : ByteArray) (next : Int) : Nat → List OpD
  | 0 => []
  | k + 1 => opsAt d s next k ++ [⟨byteOr d s (next + 4 * k), byteOr d s (next + 4 * k + 1), byteOr d s (next + 4 * k + 2), byteOr d s (next + 4 * k + 3)⟩]

theorem opsAt_length (d : Int) (s : ByteArray) (next : Int) (k : Nat) : (opsAt d s next k).length = k := by
  induction k with
  | zero => rfl
  | succ k ih => simp [opsAt, ih]

def finAt (d : Int) (s : ByteArray) (next : Int) : EndD := ⟨byteOr d s next, byteOr d s (next + 1), byteOr d s (next + 2), byteOr d s (next + 3)⟩

theorem four_new (w : World) (a b c d : Value) (t : TypeId) : ∀ j u, [a, b, c, d][j]? = some u → (w.alloc (.cells #[a, b, c, d] t)).cell? ((⟨w.heap.size, 0, none⟩ : Addr).add j) = some u := by
  intro j u hj
  match j, hj with
  | 0, hj => simp at hj; subst hj; simp [Addr.add]
  | 1, hj => simp at hj; subst hj; simp [Addr.add]
  | 2, hj => simp at hj; subst hj; simp [Addr.add]
  | 3, hj => simp at hj; subst hj; simp [Addr.add]

theorem five_new (w : World) (a b c d e : Value) (t : TypeId) : ∀ j u, [a, b, c, d, e][j]? = some u → (w.alloc (.cells #[a, b, c, d, e] t)).cell? ((⟨w.heap.size, 0, none⟩ : Addr).add j) = some u := by
  intro j u hj
  match j, hj with
  | 0, hj => simp at hj; subst hj; simp [Addr.add]
  | 1, hj => simp at hj; subst hj; simp [Addr.add]
  | 2, hj => simp at hj; subst hj; simp [Addr.add]
  | 3, hj => simp at hj; subst hj; simp [Addr.add]
  | 4, hj => simp at hj; subst hj; simp [Addr.add]

theorem four_one {a b c d : Int} : ∀ u ∈ [Value.int .i64 a, .int .i64 b, .int .i64 c, .int .i64 d], u.oneCell' = true := by
  intro u hu
  simp at hu
  rcases hu with rfl | rfl | rfl | rfl <;> rfl

theorem five_one {so : Option Addr} {n sc : Nat} {a b c d : Int} : ∀ u ∈ [Value.slice so n sc, .int .i64 a, .int .i64 b, .int .i64 c, .int .i64 d], u.oneCell' = true := by
  intro u hu
  simp at hu
  rcases hu with rfl | rfl | rfl | rfl | rfl <;> rfl

set_option maxRecDepth 100000 in
set_option maxHeartbeats 2000000 in
theorem blockAt_cps (s : ByteArray) (at_ : Int) (w : World) (hs : s.size ≤ maxLen) (ha : 0 ≤ at_) (ha2 : at_ ≤ 1000000) (Post : Ending → World → Prop)
    (hyes : ∀ sv w', w'.ownsRow w.heap.size 101 4 sv (byteOr (-1) s at_).toNat (opCells (opsAt (-1) s (at_ + 1) (byteOr (-1) s at_).toNat)) → Below w.heap.size w w' →
      Post (.returned (.agg #[sv, .int .i64 (byteOr (-1) s (at_ + 1 + 4 * (byteOr (-1) s at_).toNat)), .int .i64 (byteOr (-1) s (at_ + 1 + 4 * (byteOr (-1) s at_).toNat + 1)), .int .i64 (byteOr (-1) s (at_ + 1 + 4 * (byteOr (-1) s at_).toNat + 2)), .int .i64 (byteOr (-1) s (at_ + 1 + 4 * (byteOr (-1) s at_).toNat + 3))])) w') :
    Calls Try.prog 70 #[.string s, .int .i64 at_] w Post := by
  obtain ⟨i0, ii, iz0, iz1, iz2⟩ := info_parts Try.infoOp
  have hcb := byteOr_bd (-1) s at_ (by omega)
  generalize hcn : byteOr (-1) s at_ = c at *
  go_enter Try.func70, Try.ntmps70
  go_wp2_with (go_at_call 69; refine (byteAt_any _ _ _ hs).mono ?_; rintro e w' ⟨rfl, rfl⟩)
  clear hcn
  go_loopw [7, 8] (fun nx i wr => ∃ (k : Nat) (sv : Value), k ≤ c.toNat ∧ i = .int .i64 k ∧ nx = .int .i64 (at_ + 1 + 4 * k) ∧ wr.cell? ⟨w.heap.size + 1, 0, none⟩ = some sv ∧
      wr.cell? ⟨w.heap.size + 1, 1, none⟩ = some (.int .i64 0) ∧ wr.cell? ⟨w.heap.size + 1, 2, none⟩ = some (.int .i64 0) ∧ wr.cell? ⟨w.heap.size + 1, 3, none⟩ = some (.int .i64 0) ∧ wr.cell? ⟨w.heap.size + 1, 4, none⟩ = some (.int .i64 0) ∧ (∀ o, wr.frozen? ⟨w.heap.size + 1, o, none⟩ = false) ∧
      wr.ownsRow (w.heap.size + 2) 101 4 sv k (opCells (opsAt (-1) s (at_ + 1) k)) ∧ Below (w.heap.size + 1) (w.alloc (.cells #[.slice none 0 0, .int .i64 0, .int .i64 0, .int .i64 0, .int .i64 0] 90)) wr ∧ w.heap.size + 2 ≤ wr.heap.size)
    (fun _ i _ => c.toNat - (intOf i).toNat)
  case atStart =>
    refine ⟨0, .slice none 0 0, Nat.zero_le _, rfl, by simp, by simp, by simp, by simp, by simp, by simp, by simp, World.ownsRow_nil _ _ _ _, ?_, by simp⟩
    exact (Below.refl _ _).alloc (by simp) _
  case round =>
    obtain ⟨k, sv, hk, rfl, rfl, hx0, hx1, hx2, hx3, hx4, hxf, hown, hbel, hz⟩ := hrel
    obtain ⟨ao, cp, rfl⟩ := owns_slice hown
    have hzl : w.heap.size + 1 < wr.heap.size := by omega
    have hzm : w.heap.size < wr.heap.size := by omega
    have f0 := hxf 0
    have f1 := hxf 1
    have f2 := hxf 2
    have f3 := hxf 3
    have f4 := hxf 4
    by_cases hlt : (k : Int) < c
    · have HS : Hid (opsAt (-1) s (at_ + 1) (k + 1) = opsAt (-1) s (at_ + 1) k ++ [⟨byteOr (-1) s (at_ + 1 + 4 * k), byteOr (-1) s (at_ + 1 + 4 * k + 1), byteOr (-1) s (at_ + 1 + 4 * k + 2), byteOr (-1) s (at_ + 1 + 4 * k + 3)⟩]) := rfl
      go_wp2_with (first | (go_at_call 69; refine (byteAt_any _ _ _ hs).mono ?_; rintro e w' ⟨rfl, rfl⟩) | (at_builtin; refine wpList_append_own _ rfl _ _ 86 rfl (w.heap.size + 2) 101 i0 (.agg #[.int .i64 0, .int .i64 0, .int .i64 0, .int .i64 0]) 4 32 Try.underlying86 ii iz0 iz1 iz2 rfl (by decide) _ _ _ rfl ((hown.alloc _).alloc _) ⟨wr.heap.size + 1, 0, none⟩ 1 1 [.int .i64 (byteOr (-1) s (at_ + 1 + 4 * k)), .int .i64 (byteOr (-1) s (at_ + 1 + 4 * k + 1)), .int .i64 (byteOr (-1) s (at_ + 1 + 4 * k + 2)), .int .i64 (byteOr (-1) s (at_ + 1 + 4 * k + 3))] rfl rfl ?c1 four_one ?c3 ?c4 ?c5 ?_))
      case c1 => simpa using four_new (wr.alloc _) _ _ _ _ _
      case c3 => unfold maxLen; omega
      case c4 => omega
      case c5 => first | omega | (simp; omega)
      intro v' w1 hown' hgrow _
      rw [← opCells_snoc, ← HS.out] at hown'
      have hb2 := ((((Below.refl (w.heap.size + 2) wr).alloc hz _).alloc (by simp; omega) _).grown hgrow (by simp; omega) (fun g hg => (hown.lt g hg).1))
      have y0 := (hb2.cell (p := ⟨w.heap.size + 1, 0, none⟩) (by simp)).trans hx0
      have y1 := (hb2.cell (p := ⟨w.heap.size + 1, 1, none⟩) (by simp)).trans hx1
      have y2 := (hb2.cell (p := ⟨w.heap.size + 1, 2, none⟩) (by simp)).trans hx2
      have y3 := (hb2.cell (p := ⟨w.heap.size + 1, 3, none⟩) (by simp)).trans hx3
      have y4 := (hb2.cell (p := ⟨w.heap.size + 1, 4, none⟩) (by simp)).trans hx4
      have yf : ∀ o, w1.frozen? ⟨w.heap.size + 1, o, none⟩ = false := fun o => (hb2.frozen (p := ⟨w.heap.size + 1, o, none⟩) (by simp)).trans (hxf o)
      have yf0 := yf 0
      have hz2 := hb2.size
      have hb3 := (hbel.trans (hb2.mono (by omega)))
      obtain ⟨ao', cp', rfl⟩ := owns_slice hown'
      clear hgrow hown hx0 hx1 hx2 hx3 hx4 hxf f0 f1 f2 f3 f4 hb2 hbel
      have YF : Hid (∀ o, w1.frozen? ⟨w.heap.size + 1, o, none⟩ = false) := yf
      clear yf
      go_wp2
      go_roundw
      case rel =>
        refine ⟨k + 1, _, by omega, by go_num, by go_num, cell_set y0, cell_unset (by simp) y1, cell_unset (by simp) y2, cell_unset (by simp) y3, cell_unset (by simp) y4, fun o => by simp [YF.out o], ownsRow_setCell_below hown' (by simp) _, hb3.setCell (by simp) _, by simp; omega⟩
      case measure => simp [intOf]; omega
    · obtain rfl : k = c.toNat := by omega
      have r0 : wr.cell? ⟨w.heap.size, 0, none⟩ = some (.slice none 0 0) := (hbel.cell (by simp)).trans (by simp)
      have r1 : wr.cell? ⟨w.heap.size, 1, none⟩ = some (.int .i64 0) := (hbel.cell (by simp)).trans (by simp)
      have r2 : wr.cell? ⟨w.heap.size, 2, none⟩ = some (.int .i64 0) := (hbel.cell (by simp)).trans (by simp)
      have r3 : wr.cell? ⟨w.heap.size, 3, none⟩ = some (.int .i64 0) := (hbel.cell (by simp)).trans (by simp)
      have r4 : wr.cell? ⟨w.heap.size, 4, none⟩ = some (.int .i64 0) := (hbel.cell (by simp)).trans (by simp)
      have g0 : wr.frozen? ⟨w.heap.size, 0, none⟩ = false := (hbel.frozen (by simp)).trans (by simp)
      have g1 : wr.frozen? ⟨w.heap.size, 1, none⟩ = false := (hbel.frozen (by simp)).trans (by simp)
      have g2 : wr.frozen? ⟨w.heap.size, 2, none⟩ = false := (hbel.frozen (by simp)).trans (by simp)
      have g3 : wr.frozen? ⟨w.heap.size, 3, none⟩ = false := (hbel.frozen (by simp)).trans (by simp)
      have g4 : wr.frozen? ⟨w.heap.size, 4, none⟩ = false := (hbel.frozen (by simp)).trans (by simp)
      have HY : Hid (∀ sv w', w'.ownsRow w.heap.size 101 4 sv c.toNat (opCells (opsAt (-1) s (at_ + 1) c.toNat)) → Below w.heap.size w w' → Post (.returned (.agg #[sv, .int .i64 (byteOr (-1) s (at_ + 1 + 4 * c.toNat)), .int .i64 (byteOr (-1) s (at_ + 1 + 4 * c.toNat + 1)), .int .i64 (byteOr (-1) s (at_ + 1 + 4 * c.toNat + 2)), .int .i64 (byteOr (-1) s (at_ + 1 + 4 * c.toNat + 3))])) w') := hyes
      clear hyes
      have hb0 := Below.under hbel
      go_wp2_with (go_at_call 69; refine (byteAt_any _ _ _ hs).mono ?_; rintro e w' ⟨rfl, rfl⟩)
      refine bodyPost_ret (v := .agg #[.slice ao c.toNat cp, .int .i64 (byteOr (-1) s (at_ + 1 + 4 * c.toNat)), .int .i64 (byteOr (-1) s (at_ + 1 + 4 * c.toNat + 1)), .int .i64 (byteOr (-1) s (at_ + 1 + 4 * c.toNat + 2)), .int .i64 (byteOr (-1) s (at_ + 1 + 4 * c.toNat + 3))]) (by simp [results, Try.results70, go_sem, r0, r1, r2, r3, r4]) rfl (HY.out _ _ ?_ ?_)
      · refine owns_base (base := w.heap.size + 2) ?_ (by omega)
        repeat (refine ownsRow_setCell_below ?_ (by simp) _)
        exact hown
      · repeat (refine Below.setCell ?_ (by simp) _)
        exact hb0

end Go.Proofs.Ytblhmeidbjigaaa
