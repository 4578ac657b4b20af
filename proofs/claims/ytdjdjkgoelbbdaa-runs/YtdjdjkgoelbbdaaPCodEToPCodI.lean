/- Well made ends, in the codec. -/
import Derived.Test.YtdjdjkgoelbbdaaLawNToPDat
import Derived.Test.YtdjdjkgoelbbdaaPCodHJoined
set_option linter.unusedSimpArgs false
set_option linter.unusedVariables false
namespace Go.Proofs.Ytdjdjkgoelbbdaa
open Go.RowKit

theorem int_beqz (c : Int) : (c == 0) = decide (c = 0) := by by_cases h : c = 0 <;> simp [h]

set_option maxRecDepth 100000 in
set_option maxHeartbeats 2000000 in
theorem wmEnd1 (args regs data slots : Int) (bo : Option Addr) (bn bc : Nat) (r x y : Int) (w : World) :
    Calls Try.prog 108 #[.agg #[.int .i64 args, .int .i64 regs, .int .i64 data, .int .i64 slots, .slice bo bn bc], .agg #[.int .i64 1, .int .i64 r, .int .i64 x, .int .i64 y]] w fun e w' => e = .returned (.bool (endGood regs bn ⟨1, r, x, y⟩)) ∧ Below w.heap.size w w' := by
  by_cases h0 : r = 0
  case neg =>
    have h1 : (r == 0) = false := by simp [h0]
    go_enter Try.func108, Try.ntmps108
    go_wp2_with (go_at_call 98; refine (isBelow_any _ _ _).mono ?_; rintro e w' ⟨rfl, rfl⟩)
    go_ret
    exact ⟨by simp [endGood, int_beqz, h0, h1], ((Below.refl _ _).alloc (Nat.le_refl _) _).alloc (by simp) _⟩
  subst h0
  cases h2 : below x bn
  · go_enter Try.func108, Try.ntmps108
    go_wp2_with (go_at_call 98; refine (isBelow_any _ _ _).mono ?_; rintro e w' ⟨rfl, rfl⟩)
    go_ret
    exact ⟨by simp [endGood, int_beqz, h2], ((Below.refl _ _).alloc (Nat.le_refl _) _).alloc (by simp) _⟩
  · go_enter Try.func108, Try.ntmps108
    go_wp2_with (go_at_call 98; refine (isBelow_any _ _ _).mono ?_; rintro e w' ⟨rfl, rfl⟩)
    go_ret
    exact ⟨by simp [endGood, int_beqz, h2], ((Below.refl _ _).alloc (Nat.le_refl _) _).alloc (by simp) _⟩

set_option maxRecDepth 100000 in
set_option maxHeartbeats 2000000 in
theorem wmEnd2 (args regs data slots : Int) (bo : Option Addr) (bn bc : Nat) (r x y : Int) (w : World) :
    Calls Try.prog 108 #[.agg #[.int .i64 args, .int .i64 regs, .int .i64 data, .int .i64 slots, .slice bo bn bc], .agg #[.int .i64 2, .int .i64 r, .int .i64 x, .int .i64 y]] w fun e w' => e = .returned (.bool (endGood regs bn ⟨2, r, x, y⟩)) ∧ Below w.heap.size w w' := by
  cases h1 : below r regs
  · go_enter Try.func108, Try.ntmps108
    go_wp2_with (go_at_call 98; refine (isBelow_any _ _ _).mono ?_; rintro e w' ⟨rfl, rfl⟩)
    go_ret
    exact ⟨by simp [endGood, int_beqz, h1], ((Below.refl _ _).alloc (Nat.le_refl _) _).alloc (by simp) _⟩
  cases h2 : below x bn
  · go_enter Try.func108, Try.ntmps108
    go_wp2_with (go_at_call 98; refine (isBelow_any _ _ _).mono ?_; rintro e w' ⟨rfl, rfl⟩)
    go_ret
    exact ⟨by simp [endGood, int_beqz, h1, h2], ((Below.refl _ _).alloc (Nat.le_refl _) _).alloc (by simp) _⟩
  · go_enter Try.func108, Try.ntmps108
    go_wp2_with (go_at_call 98; refine (isBelow_any _ _ _).mono ?_; rintro e w' ⟨rfl, rfl⟩)
    go_ret
    exact ⟨by simp [endGood, int_beqz, h1, h2], ((Below.refl _ _).alloc (Nat.le_refl _) _).alloc (by simp) _⟩

set_option maxRecDepth 100000 in
set_option maxHeartbeats 2000000 in
theorem wmEnd3 (args regs data slots : Int) (bo : Option Addr) (bn bc : Nat) (r x y : Int) (w : World) :
    Calls Try.prog 108 #[.agg #[.int .i64 args, .int .i64 regs, .int .i64 data, .int .i64 slots, .slice bo bn bc], .agg #[.int .i64 3, .int .i64 r, .int .i64 x, .int .i64 y]] w fun e w' => e = .returned (.bool (endGood regs bn ⟨3, r, x, y⟩)) ∧ Below w.heap.size w w' := by
  cases h1 : below r regs
  · go_enter Try.func108, Try.ntmps108
    go_wp2_with (go_at_call 98; refine (isBelow_any _ _ _).mono ?_; rintro e w' ⟨rfl, rfl⟩)
    go_ret
    exact ⟨by simp [endGood, int_beqz, h1], ((Below.refl _ _).alloc (Nat.le_refl _) _).alloc (by simp) _⟩
  by_cases h0 : x = 0
  case neg =>
    have h2 : (x == 0) = false := by simp [h0]
    go_enter Try.func108, Try.ntmps108
    go_wp2_with (go_at_call 98; refine (isBelow_any _ _ _).mono ?_; rintro e w' ⟨rfl, rfl⟩)
    go_ret
    exact ⟨by simp [endGood, int_beqz, h1, h0, h2], ((Below.refl _ _).alloc (Nat.le_refl _) _).alloc (by simp) _⟩
  subst h0
  · go_enter Try.func108, Try.ntmps108
    go_wp2_with (go_at_call 98; refine (isBelow_any _ _ _).mono ?_; rintro e w' ⟨rfl, rfl⟩)
    go_ret
    exact ⟨by simp [endGood, int_beqz, h1], ((Below.refl _ _).alloc (Nat.le_refl _) _).alloc (by simp) _⟩

set_option maxRecDepth 100000 in
set_option maxHeartbeats 2000000 in
theorem wmEndNo (args regs data slots : Int) (bo : Option Addr) (bn bc : Nat) (k r x y : Int) (w : World) (hk : ¬ (1 ≤ k ∧ k ≤ 3)) :
    Calls Try.prog 108 #[.agg #[.int .i64 args, .int .i64 regs, .int .i64 data, .int .i64 slots, .slice bo bn bc], .agg #[.int .i64 k, .int .i64 r, .int .i64 x, .int .i64 y]] w fun e w' => e = .returned (.bool (endGood regs bn ⟨k, r, x, y⟩)) ∧ Below w.heap.size w w' := by
  have hg : endGood regs bn ⟨k, r, x, y⟩ = false := by
    unfold endGood
    rw [if_neg (by simp only []; omega), if_neg (by simp only []; omega), if_neg (by simp only []; omega)]
  have n1 : (k == 1) = false := by rw [beq_eq_false_iff_ne]; omega
  have n2 : (k == 2) = false := by rw [beq_eq_false_iff_ne]; omega
  have n3 : (k == 3) = false := by rw [beq_eq_false_iff_ne]; omega
  go_enter Try.func108, Try.ntmps108
  go_wp2
  go_ret
  exact ⟨by simp [hg], ((Below.refl _ _).alloc (Nat.le_refl _) _).alloc (by simp) _⟩

theorem wmEnd_any (args regs data slots : Int) (bo : Option Addr) (bn bc : Nat) (k r x y : Int) (w : World) :
    Calls Try.prog 108 #[.agg #[.int .i64 args, .int .i64 regs, .int .i64 data, .int .i64 slots, .slice bo bn bc], .agg #[.int .i64 k, .int .i64 r, .int .i64 x, .int .i64 y]] w fun e w' => e = .returned (.bool (endGood regs bn ⟨k, r, x, y⟩)) ∧ Below w.heap.size w w' := by
  by_cases hk : 1 ≤ k ∧ k ≤ 3
  · have : k = 1 ∨ k = 2 ∨ k = 3 := by omega
    rcases this with rfl | rfl | rfl
    · exact wmEnd1 args regs data slots bo bn bc r x y w
    · exact wmEnd2 args regs data slots bo bn bc r x y w
    · exact wmEnd3 args regs data slots bo bn bc r x y w
  · exact wmEndNo args regs data slots bo bn bc k r x y w hk

end Go.Proofs.Ytdjdjkgoelbbdaa

/- Well made blocks and programs, in the codec. -/
set_option linter.unusedSimpArgs false
set_option linter.unusedVariables false
namespace Go.Proofs.Ytdjdjkgoelbbdaa
open Go.RowKit

set_option maxRecDepth 100000 in
set_option maxHeartbeats 2000000 in
theorem wmBlock_any (args regs data slots : Int) (bo : Option Addr) (bn bc : Nat) (sv : Value) (l : List OpD) (k r x y : Int) (w : World) (hr : RdOps w sv l) :
    Calls Try.prog 99 #[.agg #[.int .i64 args, .int .i64 regs, .int .i64 data, .int .i64 slots, .slice bo bn bc], .agg #[sv, .int .i64 k, .int .i64 r, .int .i64 x, .int .i64 y]] w fun e w' => e = .returned (.bool (blockGood regs slots bn ⟨l, ⟨k, r, x, y⟩⟩)) ∧ Below w.heap.size w w' := by
  obtain ⟨ao, cap, rfl, hl, hc⟩ := hr
  obtain ⟨G, hG⟩ : ∃ G, blockGood regs slots bn ⟨l, ⟨k, r, x, y⟩⟩ = G := ⟨_, rfl⟩
  rw [hG]
  by_cases h1 : (12 : Int) < l.length
  · have hGf : G = false := by rw [← hG]; simp only [blockGood]; rw [show decide (l.length ≤ 12) = false by simp; omega]; rfl
    subst hGf
    clear hG
    go_enter Try.func99, Try.ntmps99
    go_wp2
    go_ret
    exact ⟨rfl, ((Below.refl _ _).alloc (Nat.le_refl _) _).alloc (by simp) _⟩
  have HG : Hid (G = (ogFrom regs slots l 0 && endGood regs bn ⟨k, r, x, y⟩)) := by show G = _; rw [← hG]; simp [blockGood, ogFrom, show l.length ≤ 12 by omega]
  clear hG
  go_enter Try.func99, Try.ntmps99
  go_wp2
  go_loopw [5] (fun i wr => ∃ (j : Nat), j ≤ l.length ∧ i = .int .i64 j ∧ Hid (G = (ogFrom regs slots l j && endGood regs bn ⟨k, r, x, y⟩)) ∧ Below (w.heap.size + 2) ((w.alloc (.cells #[.int .i64 args, .int .i64 regs, .int .i64 data, .int .i64 slots, .slice bo bn bc] 24)).alloc (.cells #[.slice ao l.length cap, .int .i64 k, .int .i64 r, .int .i64 x, .int .i64 y] 76)) wr)
    (fun i _ => l.length - (intOf i).toNat)
  case atStart => exact ⟨0, Nat.zero_le _, rfl, HG, Below.refl _ _⟩
  case round =>
    obtain ⟨j, hj, rfl, hg, hbel⟩ := hrel
    clear HG
    have hb0 : Below w.heap.size w wr := (((Below.refl w.heap.size w).alloc (Nat.le_refl _) _).alloc (by simp) _).trans (hbel.mono (by omega))
    have p0 : wr.cell? ⟨w.heap.size, 0, none⟩ = some (.int .i64 args) := (hbel.cell (by simp)).trans (by simp)
    have p1 : wr.cell? ⟨w.heap.size, 1, none⟩ = some (.int .i64 regs) := (hbel.cell (by simp)).trans (by simp)
    have p2 : wr.cell? ⟨w.heap.size, 2, none⟩ = some (.int .i64 data) := (hbel.cell (by simp)).trans (by simp)
    have p3 : wr.cell? ⟨w.heap.size, 3, none⟩ = some (.int .i64 slots) := (hbel.cell (by simp)).trans (by simp)
    have p4 : wr.cell? ⟨w.heap.size, 4, none⟩ = some (.slice bo bn bc) := (hbel.cell (by simp)).trans (by simp)
    have q0 : wr.cell? ⟨w.heap.size + 1, 0, none⟩ = some (.slice ao l.length cap) := (hbel.cell (by simp)).trans (by simp)
    have q1 : wr.cell? ⟨w.heap.size + 1, 1, none⟩ = some (.int .i64 k) := (hbel.cell (by simp)).trans (by simp)
    have q2 : wr.cell? ⟨w.heap.size + 1, 2, none⟩ = some (.int .i64 r) := (hbel.cell (by simp)).trans (by simp)
    have q3 : wr.cell? ⟨w.heap.size + 1, 3, none⟩ = some (.int .i64 x) := (hbel.cell (by simp)).trans (by simp)
    have q4 : wr.cell? ⟨w.heap.size + 1, 4, none⟩ = some (.int .i64 y) := (hbel.cell (by simp)).trans (by simp)
    have hz := hbel.size
    simp at hz
    by_cases hlt : j < l.length
    · obtain ⟨b, off, rfl, c1, c2, c3, c4⟩ := hc j hlt
      have e1 := cell_keep hb0 c1
      have e2 := cell_keep hb0 c2
      have e3 := cell_keep hb0 c3
      have e4 := cell_keep hb0 c4
      have u0 := fun z : Past wr.heap.size wr => z.cell p0
      have u1 := fun z : Past wr.heap.size wr => z.cell p1
      have u2 := fun z : Past wr.heap.size wr => z.cell p2
      have u3 := fun z : Past wr.heap.size wr => z.cell p3
      have u4 := fun z : Past wr.heap.size wr => z.cell p4
      have v0 := fun z : Past wr.heap.size wr => z.cell q0
      have f1 := fun z : Past wr.heap.size wr => z.cell e1
      have f2 := fun z : Past wr.heap.size wr => z.cell e2
      have f3 := fun z : Past wr.heap.size wr => z.cell e3
      have f4 := fun z : Past wr.heap.size wr => z.cell e4
      have np := Past.any wr.heap.size wr
      have HS : Hid (ogFrom regs slots l j = (opGood regs slots ⟨okind l j, oa l j, ob l j, oc l j⟩ && ogFrom regs slots l (j + 1))) := ogFrom_step hlt
      go_wp2
      refine wp_region_past wr.heap.size (by kernel_rfl) (by kernel_rfl) ?_
      repeat (go_big_quiet_step (exact Calls.past_of (Nat.le_refl _) (wmOp_any _ _ _ _ _ _ _ _ _ _ _ _)))
      refine wpQuiet_nil ?_
      rintro _ ⟨z, rfl⟩
      have hb1 := hbel.trans (z.ok.mono (by omega))
      have hb01 := hb0.trans (z.ok.mono (by omega))
      clear u0 u1 u2 u3 u4 v0 f1 f2 f3 f4 np p0 p1 p2 p3 p4 q0 q1 q2 q3 q4 e1 e2 e3 e4
      cases h3 : opGood regs slots ⟨okind l j, oa l j, ob l j, oc l j⟩
      · have hGf : G = false := by rw [hg.out, HS.out, h3]; rfl
        subst hGf
        clear hg HS
        go_wp2
        go_ret
        exact ⟨rfl, hb01⟩
      · have hG' : Hid (G = (ogFrom regs slots l (j + 1) && endGood regs bn ⟨k, r, x, y⟩)) := by show G = _; rw [hg.out, HS.out, h3]; rfl
        clear hg HS
        go_wp2
        go_roundw
        case rel => exact ⟨j + 1, by omega, by go_num, hG', hb1⟩
        case measure => simp [intOf]; omega
    · have hGt : G = endGood regs bn ⟨k, r, x, y⟩ := by rw [hg.out, ogFrom_end (by omega)]; rfl
      have HGT : Hid (G = endGood regs bn ⟨k, r, x, y⟩) := hGt
      clear hg hGt
      go_wp2_with fail
      refine (wmEnd_any _ _ _ _ _ _ _ _ _ _ _ _).mono ?_
      rintro e w1 ⟨rfl, hb1⟩
      have hb01 := hb0.trans (hb1.mono (by omega))
      go_wp2
      go_ret
      exact ⟨by rw [HGT.out]; rfl, hb01⟩

set_option maxRecDepth 100000 in
set_option maxHeartbeats 4000000 in
theorem wmProg_any (args regs data slots : Int) (v : Value) (l : List BlockD) (w : World) (hr : RdBlocks w v l) :
    Calls Try.prog 82 #[.agg #[.int .i64 args, .int .i64 regs, .int .i64 data, .int .i64 slots, v]] w fun e w' => e = .returned (.bool (progGood ⟨args, regs, data, slots, l⟩)) ∧ Below w.heap.size w w' := by
  obtain ⟨ao, cap, rfl, hl, hc⟩ := hr
  obtain ⟨G, hG⟩ : ∃ G, progGood ⟨args, regs, data, slots, l⟩ = G := ⟨_, rfl⟩
  rw [hG]
  have hno : ¬ (1 ≤ regs ∧ regs ≤ 8 ∧ 0 ≤ args ∧ args ≤ regs ∧ 0 ≤ data ∧ data ≤ 8 ∧ 0 ≤ slots ∧ slots ≤ 8 ∧ 1 ≤ l.length ∧ l.length ≤ 6) → G = false := by
    intro h
    rw [← hG]
    apply Bool.eq_false_iff.2
    intro hh
    simp [progGood] at hh
    exact h (by omega)
  have bfr : Below w.heap.size w (w.alloc (.cells #[.int .i64 args, .int .i64 regs, .int .i64 data, .int .i64 slots, .slice ao l.length cap] 24)) := (Below.refl _ _).alloc (Nat.le_refl _) _
  have HB : Hid (Below w.heap.size w (w.alloc (.cells #[.int .i64 args, .int .i64 regs, .int .i64 data, .int .i64 slots, .slice ao l.length cap] 24))) := bfr
  clear bfr
  by_cases t0 : regs < 1
  · have hGf : G = false := hno (by omega)
    subst hGf
    clear hG hno
    go_enter Try.func82, Try.ntmps82
    go_wp2
    go_ret
    exact ⟨rfl, HB.out⟩
  by_cases t1 : 8 < regs
  · have hGf : G = false := hno (by omega)
    subst hGf
    clear hG hno
    go_enter Try.func82, Try.ntmps82
    go_wp2
    go_ret
    exact ⟨rfl, HB.out⟩
  by_cases t2 : args < 0
  · have hGf : G = false := hno (by omega)
    subst hGf
    clear hG hno
    go_enter Try.func82, Try.ntmps82
    go_wp2
    go_ret
    exact ⟨rfl, HB.out⟩
  by_cases t3 : regs < args
  · have hGf : G = false := hno (by omega)
    subst hGf
    clear hG hno
    go_enter Try.func82, Try.ntmps82
    go_wp2
    go_ret
    exact ⟨rfl, HB.out⟩
  by_cases t4 : data < 0
  · have hGf : G = false := hno (by omega)
    subst hGf
    clear hG hno
    go_enter Try.func82, Try.ntmps82
    go_wp2
    go_ret
    exact ⟨rfl, HB.out⟩
  by_cases t5 : 8 < data
  · have hGf : G = false := hno (by omega)
    subst hGf
    clear hG hno
    go_enter Try.func82, Try.ntmps82
    go_wp2
    go_ret
    exact ⟨rfl, HB.out⟩
  by_cases t6 : slots < 0
  · have hGf : G = false := hno (by omega)
    subst hGf
    clear hG hno
    go_enter Try.func82, Try.ntmps82
    go_wp2
    go_ret
    exact ⟨rfl, HB.out⟩
  by_cases t7 : 8 < slots
  · have hGf : G = false := hno (by omega)
    subst hGf
    clear hG hno
    go_enter Try.func82, Try.ntmps82
    go_wp2
    go_ret
    exact ⟨rfl, HB.out⟩
  by_cases t8 : (l.length : Int) < 1
  · have hGf : G = false := hno (by omega)
    subst hGf
    clear hG hno
    go_enter Try.func82, Try.ntmps82
    go_wp2
    go_ret
    exact ⟨rfl, HB.out⟩
  by_cases t9 : (6 : Int) < l.length
  · have hGf : G = false := hno (by omega)
    subst hGf
    clear hG hno
    go_enter Try.func82, Try.ntmps82
    go_wp2
    go_ret
    exact ⟨rfl, HB.out⟩
  have HG : Hid (G = bgFrom regs slots l.length l 0) := by
    show G = _
    rw [← hG]
    simp only [progGood, bgFrom, List.drop_zero]
    rw [show decide (1 ≤ regs ∧ regs ≤ 8) = true by simp; omega, show decide (0 ≤ args ∧ args ≤ regs) = true by simp; omega, show decide (0 ≤ data ∧ data ≤ 8) = true by simp; omega, show decide (0 ≤ slots ∧ slots ≤ 8) = true by simp; omega, show decide (1 ≤ l.length ∧ l.length ≤ 6) = true by simp; omega]
    rfl
  clear hG hno HB
  go_enter Try.func82, Try.ntmps82
  go_wp2
  go_loopw [3] (fun i wr => ∃ (k : Nat), k ≤ l.length ∧ i = .int .i64 k ∧ Hid (G = bgFrom regs slots l.length l k) ∧ Below (w.heap.size + 1) (w.alloc (.cells #[.int .i64 args, .int .i64 regs, .int .i64 data, .int .i64 slots, .slice ao l.length cap] 24)) wr)
    (fun i _ => l.length - (intOf i).toNat)
  case atStart => exact ⟨0, Nat.zero_le _, rfl, HG, Below.refl _ _⟩
  case round =>
    obtain ⟨k, hk, rfl, hg, hbel⟩ := hrel
    clear HG
    have hb0 := Below.under hbel
    have p0 : wr.cell? ⟨w.heap.size, 0, none⟩ = some (.int .i64 args) := (hbel.cell (by simp)).trans (by simp)
    have p1 : wr.cell? ⟨w.heap.size, 1, none⟩ = some (.int .i64 regs) := (hbel.cell (by simp)).trans (by simp)
    have p2 : wr.cell? ⟨w.heap.size, 2, none⟩ = some (.int .i64 data) := (hbel.cell (by simp)).trans (by simp)
    have p3 : wr.cell? ⟨w.heap.size, 3, none⟩ = some (.int .i64 slots) := (hbel.cell (by simp)).trans (by simp)
    have p4 : wr.cell? ⟨w.heap.size, 4, none⟩ = some (.slice ao l.length cap) := (hbel.cell (by simp)).trans (by simp)
    have hz := hbel.size
    simp at hz
    by_cases hlt : k < l.length
    · obtain ⟨b, off, sv, rfl, c1, c2, c3, c4, c5, c6⟩ := hc k hlt
      have e1 := cell_keep hb0 c1
      have e2 := cell_keep hb0 c2
      have e3 := cell_keep hb0 c3
      have e4 := cell_keep hb0 c4
      have e5 := cell_keep hb0 c5
      have e6 := c6.keep hb0
      obtain ⟨so, sc, es, _, _⟩ := id e6
      subst es
      have u0 := fun z : Past wr.heap.size wr => z.cell p0
      have u1 := fun z : Past wr.heap.size wr => z.cell p1
      have u2 := fun z : Past wr.heap.size wr => z.cell p2
      have u3 := fun z : Past wr.heap.size wr => z.cell p3
      have u4 := fun z : Past wr.heap.size wr => z.cell p4
      have f1 := fun z : Past wr.heap.size wr => z.cell e1
      have f2 := fun z : Past wr.heap.size wr => z.cell e2
      have f3 := fun z : Past wr.heap.size wr => z.cell e3
      have f4 := fun z : Past wr.heap.size wr => z.cell e4
      have f5 := fun z : Past wr.heap.size wr => z.cell e5
      have np := Past.any wr.heap.size wr
      have HS : Hid (bgFrom regs slots l.length l k = (blockGood regs slots l.length ⟨bops l k, ⟨bek l k, ber l k, bex l k, bey l k⟩⟩ && bgFrom regs slots l.length l (k + 1))) := bgFrom_step hlt
      go_wp2
      refine wp_region_past wr.heap.size (by kernel_rfl) (by kernel_rfl) ?_
      repeat (go_big_quiet_step (exact Calls.past_of (Nat.le_refl _) (wmBlock_any _ _ _ _ _ _ _ _ _ _ _ _ _ _ (e6.keep (Past.ok _)))))
      refine wpQuiet_nil ?_
      rintro _ ⟨z, rfl⟩
      have hb1 := hbel.trans (z.ok.mono (by omega))
      have hb01 := hb0.trans (z.ok.mono (by omega))
      clear u0 u1 u2 u3 u4 f1 f2 f3 f4 f5 np p0 p1 p2 p3 p4 e1 e2 e3 e4 e5
      cases h3 : blockGood regs slots l.length ⟨bops l k, ⟨bek l k, ber l k, bex l k, bey l k⟩⟩
      · have hGf : G = false := by rw [hg.out, HS.out, h3]; rfl
        subst hGf
        clear hg HS
        go_wp2
        go_ret
        exact ⟨rfl, hb01⟩
      · have hG' : Hid (G = bgFrom regs slots l.length l (k + 1)) := by show G = _; rw [hg.out, HS.out, h3]; rfl
        clear hg HS
        go_wp2
        go_roundw
        case rel => exact ⟨k + 1, by omega, by go_num, hG', hb1⟩
        case measure => simp [intOf]; omega
    · have hGt : G = true := by rw [hg.out, bgFrom_end (by omega)]
      subst hGt
      clear hg
      go_wp2
      go_ret
      exact ⟨rfl, hb0⟩

end Go.Proofs.Ytdjdjkgoelbbdaa
