/- The reference does an operation. -/
import Derived.Test.YtblhmeidbjigaaaRows
import Derived.WalkKit
import Derived.WalkSpells
import Derived.WalkLawsBesides
import Derived.Laws.BytesArg
import Derived.Deep.QuietTactic
import Derived.BigQuiet
import Derived.Deep.RegionHeld3
import Derived.Maps.AppendAt
import Derived.StillTailTactics
import Derived.Test.YtblhmeidbjigaaaMOpsToMDoRuns

set_option linter.unusedSimpArgs false
set_option linter.unusedVariables false
namespace Go.Proofs.Ytblhmeidbjigaaa
open Go.RowKit

set_option maxRecDepth 100000 in
set_option maxHeartbeats 1000000 in
theorem does_1 (K : Nat → Prop) (t r : Int) (M : Nat) (s : RunD) (a b c : Int) (regs data slots : Int) (w : World) (h : RefS K t r w M s) (hl : s.leak.length ≤ 99999) (hz : Sized s regs data slots) (hg : opGood regs slots ⟨1, a, b, c⟩ = true) (Post : Ending → World → Prop)
    (hp : ∀ w', RefS K t r w' M (stepOp s ⟨1, a, b, c⟩) → Keep (fun g => ¬ K g) w w' → Post (.returned (.tuple #[])) w') :
    Calls Try.prog 91 #[.pointer (some ⟨M, 0, none⟩), .agg #[.int .i64 1, .int .i64 a, .int .i64 b, .int .i64 c]] w Post := by
  obtain ⟨zr, zc, zs⟩ := hz
  simp only [opGood, below, if_true, Bool.and_eq_true, decide_eq_true_eq] at hg
  obtain ⟨⟨ga, gb⟩, gc⟩ := hg
  obtain ⟨a, rfl⟩ := Int.eq_ofNat_of_zero_le ga.1
  have ha : a < s.regs.length := by omega
  simp only [stepOp, if_true] at hp
  have W0 := RWith.start h 101 [.int .i64 1, .int .i64 a, .int .i64 b, .int .i64 c]
  have o0 := W0.row.cell (i := 0) rfl
  clear h
  have o2 := W0.row.cell (i := 2) rfl
  have o3 := W0.row.cell (i := 3) rfl
  have Wd := W0.below ((Below.refl _ _).drew)
  obtain ⟨rv, cv, sv, lv, hrow, hbu, hK⟩ := id Wd.mach
  obtain ⟨g2, rc2, hrv, hgr, hrc2, hrf2⟩ := hbu.regs.at (i := a) ha
  subst hrv
  have m1 := hrow.cell (i := 1) rfl
  have o1 := Wd.row.cell (i := 1) rfl
  have f2 := hrf2 a
  have hai : (0 : Int) ≤ (a : Int) := by omega
  have haj : (a : Int) < (s.regs.length : Int) := by omega
  obtain ⟨q1, q2⟩ := Wd.setReg hrow hbu hgr (i := a) ha (256 * b + c - 32768)
  have HF : Hid (Post (.returned (.tuple #[])) ((w.alloc (.cells #[.int .i64 1, .int .i64 a, .int .i64 b, .int .i64 c] 101)).drew.setCell ⟨g2, a, none⟩ (.int .i64 (256 * b + c - 32768)))) := hp _ (q1) q2
  clear hp q1 q2 Wd hrow hbu W0
  go_enter Try.func91, Try.ntmps91
  go_wp2
  refine wp_tail 8 (by kernel_rfl) (by kernel_rfl) ?_
  simp only [List.take_succ_cons, List.take_zero, List.drop_succ_cons, List.drop_zero]
  repeat still_step
  refine wpStill_nil ?_
  go_wp2
  go_end0
  exact HF.out

set_option maxRecDepth 100000 in
set_option maxHeartbeats 1000000 in
theorem does_14 (K : Nat → Prop) (t r : Int) (M : Nat) (s : RunD) (a b c : Int) (regs data slots : Int) (w : World) (h : RefS K t r w M s) (hl : s.leak.length ≤ 99999) (hz : Sized s regs data slots) (hg : opGood regs slots ⟨14, a, b, c⟩ = true) (Post : Ending → World → Prop)
    (hp : ∀ w', RefS K t r w' M (stepOp s ⟨14, a, b, c⟩) → Keep (fun g => ¬ K g) w w' → Post (.returned (.tuple #[])) w') :
    Calls Try.prog 91 #[.pointer (some ⟨M, 0, none⟩), .agg #[.int .i64 14, .int .i64 a, .int .i64 b, .int .i64 c]] w Post := by
  obtain ⟨zr, zc, zs⟩ := hz
  simp [opGood, below] at hg
  obtain ⟨⟨ga, gb⟩, gc⟩ := hg
  subst gc
  obtain ⟨a, rfl⟩ := Int.eq_ofNat_of_zero_le ga.1
  obtain ⟨b, rfl⟩ := Int.eq_ofNat_of_zero_le gb.1
  have W0 := RWith.start h 101 [.int .i64 14, .int .i64 a, .int .i64 b, .int .i64 0]
  have o0 := W0.row.cell (i := 0) rfl
  clear h
  simp [stepOp] at hp
  have ha : a < s.slots.length := by omega
  have hb : b < s.regs.length := by omega
  have Wd := W0.below ((Below.refl _ _).drew)
  obtain ⟨rv, cv, sv, lv, hrow, hbu, hK⟩ := id Wd.mach
  obtain ⟨g2, rc, hrv, hgr, hrc, hrf⟩ := hbu.slots.at (i := a) ha
  obtain ⟨g1, rc1, hrv1, hgr1, hrc1, hrf1⟩ := hbu.regs.at (i := b) hb
  have e1 : s.regs.getD b 0 = rg s.regs b := by simp [rg]
  rw [e1] at hrc1
  subst hrv
  subst hrv1
  have m3 := hrow.cell (i := 3) rfl
  have m1 := hrow.cell (i := 1) rfl
  have o1 := Wd.row.cell (i := 1) rfl
  have o2 := Wd.row.cell (i := 2) rfl
  have f2 := hrf a
  have hai : (0 : Int) ≤ (a : Int) := by omega
  have haj : (a : Int) < (s.slots.length : Int) := by omega
  have hbi : (0 : Int) ≤ (b : Int) := by omega
  have hbj : (b : Int) < (s.regs.length : Int) := by omega
  obtain ⟨q1, q2⟩ := Wd.setSlot hrow hbu hgr (i := a) ha (rg s.regs b)
  have HF : Hid (Post (.returned (.tuple #[])) ((w.alloc (.cells #[.int .i64 14, .int .i64 a, .int .i64 b, .int .i64 0] 101)).drew.setCell ⟨g2, a, none⟩ (.int .i64 (rg s.regs b)))) := hp _ q1 q2
  clear hp q1 q2 W0 Wd hrow hbu
  go_enter Try.func91, Try.ntmps91
  go_wp2
  refine wp_tail 15 (by kernel_rfl) (by kernel_rfl) ?_
  simp only [List.take_succ_cons, List.take_zero, List.drop_succ_cons, List.drop_zero]
  repeat still_step
  refine wpStill_nil ?_
  go_wp2
  (try simp only [Exit.inBlock, Exit.then])
  refine bodyPost_ret (v := .tuple #[]) ?_ rfl ?_
  · simp [results, Try.results91, go_sem]
  · exact HF.out

set_option maxRecDepth 100000 in
set_option maxHeartbeats 1000000 in
theorem does_2 (K : Nat → Prop) (t r : Int) (M : Nat) (s : RunD) (a b c : Int) (regs data slots : Int) (w : World) (h : RefS K t r w M s) (hl : s.leak.length ≤ 99999) (hz : Sized s regs data slots) (hg : opGood regs slots ⟨2, a, b, c⟩ = true) (Post : Ending → World → Prop)
    (hp : ∀ w', RefS K t r w' M (stepOp s ⟨2, a, b, c⟩) → Keep (fun g => ¬ K g) w w' → Post (.returned (.tuple #[])) w') :
    Calls Try.prog 91 #[.pointer (some ⟨M, 0, none⟩), .agg #[.int .i64 2, .int .i64 a, .int .i64 b, .int .i64 c]] w Post := by
  obtain ⟨zr, zc, zs⟩ := hz
  simp [opGood, below] at hg
  obtain ⟨⟨ga, gb⟩, gc⟩ := hg
  subst gc
  obtain ⟨a, rfl⟩ := Int.eq_ofNat_of_zero_le ga.1
  obtain ⟨b, rfl⟩ := Int.eq_ofNat_of_zero_le gb.1
  have ha : a < s.regs.length := by omega
  have hb : b < s.regs.length := by omega
  simp [stepOp] at hp
  have W0 := RWith.start h 101 [.int .i64 2, .int .i64 a, .int .i64 b, .int .i64 0]
  have o0 := W0.row.cell (i := 0) rfl
  clear h
  obtain ⟨rv, cv, sv, lv, hrow, hbu, hK⟩ := id W0.mach
  obtain ⟨rb, rc, hrv, hrb, hrc, hrf⟩ := hbu.regs.at (i := b) hb
  subst hrv
  have m0 := hrow.cell (i := 1) rfl
  have oo := W0.row.cell (i := 2) rfl
  have hbi : (0 : Int) ≤ (b : Int) := by omega
  have hbj : (b : Int) < (s.regs.length : Int) := by omega
  have hn : s.regs.getD b 0 = rg s.regs b := by simp [rg]
  rw [hn] at hrc
  generalize rg s.regs b = x at *
  have WWd : ∀ d, RWith K t r w ((w.alloc (.cells #[.int .i64 2, .int .i64 a, .int .i64 b, .int .i64 0] 101)).drewN d) M w.heap.size 101 [.int .i64 2, .int .i64 a, .int .i64 b, .int .i64 0] s := fun d => W0.below (below_drewN (Below.refl _ _) d)
  go_enter Try.func91, Try.ntmps91
  go_wp2
  go_quiet (fail)
  generalize hwq : (w.alloc (.cells #[.int .i64 2, .int .i64 a, .int .i64 b, .int .i64 0] 101)).drewN _ = wq
  have Wq : RWith K t r w wq M w.heap.size 101 [.int .i64 2, .int .i64 a, .int .i64 b, .int .i64 0] s := by rw [← hwq]; exact WWd _
  clear WWd hwq m0 oo hrc hrf hrb hK hbi hbj hn W0 hrow hbu
  have Wd := Wq.below ((Below.refl _ _).drew)
  obtain ⟨rv, cv, sv, lv, hrow, hbu, hK⟩ := id Wd.mach
  obtain ⟨g2, rc2, hrv, hgr, hrc2, hrf2⟩ := hbu.regs.at (i := a) ha
  subst hrv
  have m1 := hrow.cell (i := 1) rfl
  have o1 := Wd.row.cell (i := 1) rfl
  have f2 := hrf2 a
  have hai : (0 : Int) ≤ (a : Int) := by omega
  have haj : (a : Int) < (s.regs.length : Int) := by omega
  obtain ⟨q1, q2⟩ := Wd.setReg hrow hbu hgr (i := a) ha (x)
  have HF : Hid (Post (.returned (.tuple #[])) (wq.drew.setCell ⟨g2, a, none⟩ (.int .i64 (x)))) := hp _ (q1) q2
  clear hp q1 q2 Wd hrow hbu Wq
  go_wp2
  refine wp_tail 8 (by kernel_rfl) (by kernel_rfl) ?_
  simp only [List.take_succ_cons, List.take_zero, List.drop_succ_cons, List.drop_zero]
  repeat still_step
  refine wpStill_nil ?_
  go_wp2
  go_end0
  exact HF.out

set_option maxRecDepth 100000 in
set_option maxHeartbeats 1000000 in
theorem does_15 (K : Nat → Prop) (t r : Int) (M : Nat) (s : RunD) (a b c : Int) (regs data slots : Int) (w : World) (h : RefS K t r w M s) (hl : s.leak.length ≤ 99999) (hz : Sized s regs data slots) (hg : opGood regs slots ⟨15, a, b, c⟩ = true) (Post : Ending → World → Prop)
    (hp : ∀ w', RefS K t r w' M (stepOp s ⟨15, a, b, c⟩) → Keep (fun g => ¬ K g) w w' → Post (.returned (.tuple #[])) w') :
    Calls Try.prog 91 #[.pointer (some ⟨M, 0, none⟩), .agg #[.int .i64 15, .int .i64 a, .int .i64 b, .int .i64 c]] w Post := by
  obtain ⟨zr, zc, zs⟩ := hz
  simp [opGood, below] at hg
  obtain ⟨⟨ga, gb⟩, gc⟩ := hg
  subst gc
  obtain ⟨a, rfl⟩ := Int.eq_ofNat_of_zero_le ga.1
  obtain ⟨b, rfl⟩ := Int.eq_ofNat_of_zero_le gb.1
  have ha : a < s.regs.length := by omega
  have hb : b < s.slots.length := by omega
  simp [stepOp] at hp
  have W0 := RWith.start h 101 [.int .i64 15, .int .i64 a, .int .i64 b, .int .i64 0]
  have o0 := W0.row.cell (i := 0) rfl
  clear h
  obtain ⟨rv, cv, sv, lv, hrow, hbu, hK⟩ := id W0.mach
  obtain ⟨rb, rc, hrv, hrb, hrc, hrf⟩ := hbu.slots.at (i := b) hb
  subst hrv
  have m0 := hrow.cell (i := 3) rfl
  have oo := W0.row.cell (i := 2) rfl
  have hbi : (0 : Int) ≤ (b : Int) := by omega
  have hbj : (b : Int) < (s.slots.length : Int) := by omega
  have hn : s.slots.getD b 0 = rg s.slots b := by simp [rg]
  rw [hn] at hrc
  generalize rg s.slots b = x at *
  have WWd : ∀ d, RWith K t r w ((w.alloc (.cells #[.int .i64 15, .int .i64 a, .int .i64 b, .int .i64 0] 101)).drewN d) M w.heap.size 101 [.int .i64 15, .int .i64 a, .int .i64 b, .int .i64 0] s := fun d => W0.below (below_drewN (Below.refl _ _) d)
  go_enter Try.func91, Try.ntmps91
  go_wp2
  go_quiet (fail)
  generalize hwq : (w.alloc (.cells #[.int .i64 15, .int .i64 a, .int .i64 b, .int .i64 0] 101)).drewN _ = wq
  have Wq : RWith K t r w wq M w.heap.size 101 [.int .i64 15, .int .i64 a, .int .i64 b, .int .i64 0] s := by rw [← hwq]; exact WWd _
  clear WWd hwq m0 oo hrc hrf hrb hK hbi hbj hn W0 hrow hbu
  have Wd := Wq.below ((Below.refl _ _).drew)
  obtain ⟨rv, cv, sv, lv, hrow, hbu, hK⟩ := id Wd.mach
  obtain ⟨g2, rc2, hrv, hgr, hrc2, hrf2⟩ := hbu.regs.at (i := a) ha
  subst hrv
  have m1 := hrow.cell (i := 1) rfl
  have o1 := Wd.row.cell (i := 1) rfl
  have f2 := hrf2 a
  have hai : (0 : Int) ≤ (a : Int) := by omega
  have haj : (a : Int) < (s.regs.length : Int) := by omega
  obtain ⟨q1, q2⟩ := Wd.setReg hrow hbu hgr (i := a) ha (x)
  have HF : Hid (Post (.returned (.tuple #[])) (wq.drew.setCell ⟨g2, a, none⟩ (.int .i64 (x)))) := hp _ (q1) q2
  clear hp q1 q2 Wd hrow hbu Wq
  go_wp2
  refine wp_tail 8 (by kernel_rfl) (by kernel_rfl) ?_
  simp only [List.take_succ_cons, List.take_zero, List.drop_succ_cons, List.drop_zero]
  repeat still_step
  refine wpStill_nil ?_
  go_wp2
  go_end0
  exact HF.out

set_option maxRecDepth 100000 in
set_option maxHeartbeats 1000000 in
theorem does_13 (K : Nat → Prop) (t r : Int) (M : Nat) (s : RunD) (a b c : Int) (regs data slots : Int) (w : World) (h : RefS K t r w M s) (hl : s.leak.length ≤ 99999) (hz : Sized s regs data slots) (hg : opGood regs slots ⟨13, a, b, c⟩ = true) (Post : Ending → World → Prop)
    (hp : ∀ w', RefS K t r w' M (stepOp s ⟨13, a, b, c⟩) → Keep (fun g => ¬ K g) w w' → Post (.returned (.tuple #[])) w') :
    Calls Try.prog 91 #[.pointer (some ⟨M, 0, none⟩), .agg #[.int .i64 13, .int .i64 a, .int .i64 b, .int .i64 c]] w Post := by
  obtain ⟨zr, zc, zs⟩ := hz
  simp [opGood, below] at hg
  obtain ⟨⟨ga, gb⟩, gc⟩ := hg
  subst gc
  obtain ⟨a, rfl⟩ := Int.eq_ofNat_of_zero_le ga.1
  obtain ⟨b, rfl⟩ := Int.eq_ofNat_of_zero_le gb.1
  have ha : a < s.regs.length := by omega
  have hb : b < s.regs.length := by omega
  simp [stepOp] at hp
  have W0 := RWith.start h 101 [.int .i64 13, .int .i64 a, .int .i64 b, .int .i64 0]
  have o0 := W0.row.cell (i := 0) rfl
  clear h
  obtain ⟨rv, cv, sv, lv, hrow, hbu, hK⟩ := id W0.mach
  obtain ⟨rb, rc, hrv, hrb, hrc, hrf⟩ := hbu.regs.at (i := a) ha
  subst hrv
  have m0 := hrow.cell (i := 1) rfl
  have oo := W0.row.cell (i := 1) rfl
  have hbi : (0 : Int) ≤ (a : Int) := by omega
  have hbj : (a : Int) < (s.regs.length : Int) := by omega
  have hn : s.regs.getD a 0 = rg s.regs a := by simp [rg]
  rw [hn] at hrc
  generalize rg s.regs a = n at *
  have WWd : ∀ d, RWith K t r w ((w.alloc (.cells #[.int .i64 13, .int .i64 a, .int .i64 b, .int .i64 0] 101)).drewN d) M w.heap.size 101 [.int .i64 13, .int .i64 a, .int .i64 b, .int .i64 0] s := fun d => W0.below (below_drewN (Below.refl _ _) d)
  go_enter Try.func91, Try.ntmps91
  go_wp2
  go_quiet (fail)
  generalize hwq : (w.alloc (.cells #[.int .i64 13, .int .i64 a, .int .i64 b, .int .i64 0] 101)).drewN _ = wq
  have Wq : RWith K t r w wq M w.heap.size 101 [.int .i64 13, .int .i64 a, .int .i64 b, .int .i64 0] s := by rw [← hwq]; exact WWd _
  clear WWd hwq m0 oo hrc hrf hrb hK hbi hbj hn W0 hrow hbu
  go_wp2_with fail
  refine rCell_cps _ t r M s n wq Wq.mach (by omega) _ ?_ ?_
  · intro hin w2 hm2 hk2
    rw [if_pos hin] at hp
    obtain ⟨hn0, hn1⟩ := hin
    obtain ⟨j, rfl⟩ := Int.eq_ofNat_of_zero_le hn0
    have W2 := Wq.next hm2 hk2
    clear Wq hm2 hk2
    have Wd := W2.below ((Below.refl w2.heap.size w2).drew)
    obtain ⟨rv, cv, sv, lv, hrow, hbu, hK⟩ := id Wd.mach
    obtain ⟨g1, cc, hcv, hgc, hcc, hcf⟩ := hbu.cells.at (i := j) (by show j < s.cells.length; omega)
    obtain ⟨g2, rc, hrv, hgr, hrc, hrf⟩ := hbu.regs.at (i := b) hb
    subst hcv hrv
    have e1 : (s.out j).regs.getD b 0 = rg s.regs b := by simp [rg, RunD.out]
    rw [e1] at hrc
    have m1 := hrow.cell (i := 1) rfl
    have m2 := hrow.cell (i := 2) rfl
    have o2 := Wd.row.cell (i := 2) rfl
    have f2 := hcf j
    have hai : (0 : Int) ≤ (b : Int) := by omega
    have haj : (b : Int) < ((s.out j).regs.length : Int) := by show (b : Int) < (s.regs.length : Int); omega
    have hji : (0 : Int) ≤ (j : Int) := by omega
    have hjj : (j : Int) < ((s.out j).cells.length : Int) := hn1
    obtain ⟨q1, q2⟩ := Wd.setMem hrow hbu hgc (i := j) (by show j < s.cells.length; omega) (rg s.regs b)
    have HF : Hid (Post (.returned (.tuple #[])) (w2.drew.setCell ⟨g1, j, none⟩ (.int .i64 (rg s.regs b)))) := hp _ q1 q2
    clear hp q1 q2 W2 Wd hrow hbu
    go_wp2
    refine wp_tail 14 (by kernel_rfl) (by kernel_rfl) ?_
    simp only [List.take_succ_cons, List.take_zero, List.drop_succ_cons, List.drop_zero]
    repeat still_step
    refine wpStill_nil ?_
    go_wp2
    (try simp only [Exit.inBlock, Exit.then])
    refine bodyPost_ret (v := .tuple #[]) ?_ rfl ?_
    · simp [results, Try.results91, go_sem]
    · exact HF.out
  · intro hin w2 hm2 hk2
    rw [if_neg hin] at hp
    have W2 := Wq.next hm2 hk2
    have HF : Hid (Post (.returned (.tuple #[])) w2) := hp _ W2.done W2.keep
    clear hp W2 Wq hm2 hk2
    go_wp2
    (try simp only [Exit.inBlock, Exit.then])
    refine bodyPost_ret (v := .tuple #[]) ?_ rfl ?_
    · simp [results, Try.results91, go_sem]
    · exact HF.out

set_option maxRecDepth 100000 in
set_option maxHeartbeats 1000000 in
theorem does_12 (K : Nat → Prop) (t r : Int) (M : Nat) (s : RunD) (a b c : Int) (regs data slots : Int) (w : World) (h : RefS K t r w M s) (hl : s.leak.length ≤ 99999) (hz : Sized s regs data slots) (hg : opGood regs slots ⟨12, a, b, c⟩ = true) (Post : Ending → World → Prop)
    (hp : ∀ w', RefS K t r w' M (stepOp s ⟨12, a, b, c⟩) → Keep (fun g => ¬ K g) w w' → Post (.returned (.tuple #[])) w') :
    Calls Try.prog 91 #[.pointer (some ⟨M, 0, none⟩), .agg #[.int .i64 12, .int .i64 a, .int .i64 b, .int .i64 c]] w Post := by
  obtain ⟨zr, zc, zs⟩ := hz
  simp [opGood, below] at hg
  obtain ⟨⟨ga, gb⟩, gc⟩ := hg
  subst gc
  obtain ⟨a, rfl⟩ := Int.eq_ofNat_of_zero_le ga.1
  obtain ⟨b, rfl⟩ := Int.eq_ofNat_of_zero_le gb.1
  have ha : a < s.regs.length := by omega
  have hb : b < s.regs.length := by omega
  simp [stepOp] at hp
  have W0 := RWith.start h 101 [.int .i64 12, .int .i64 a, .int .i64 b, .int .i64 0]
  have o0 := W0.row.cell (i := 0) rfl
  clear h
  obtain ⟨rv, cv, sv, lv, hrow, hbu, hK⟩ := id W0.mach
  obtain ⟨rb, rc, hrv, hrb, hrc, hrf⟩ := hbu.regs.at (i := b) hb
  subst hrv
  have m0 := hrow.cell (i := 1) rfl
  have oo := W0.row.cell (i := 2) rfl
  have hbi : (0 : Int) ≤ (b : Int) := by omega
  have hbj : (b : Int) < (s.regs.length : Int) := by omega
  have hn : s.regs.getD b 0 = rg s.regs b := by simp [rg]
  rw [hn] at hrc
  generalize rg s.regs b = n at *
  have WWd : ∀ d, RWith K t r w ((w.alloc (.cells #[.int .i64 12, .int .i64 a, .int .i64 b, .int .i64 0] 101)).drewN d) M w.heap.size 101 [.int .i64 12, .int .i64 a, .int .i64 b, .int .i64 0] s := fun d => W0.below (below_drewN (Below.refl _ _) d)
  go_enter Try.func91, Try.ntmps91
  go_wp2
  go_quiet (fail)
  generalize hwq : (w.alloc (.cells #[.int .i64 12, .int .i64 a, .int .i64 b, .int .i64 0] 101)).drewN _ = wq
  have Wq : RWith K t r w wq M w.heap.size 101 [.int .i64 12, .int .i64 a, .int .i64 b, .int .i64 0] s := by rw [← hwq]; exact WWd _
  clear WWd hwq m0 oo hrc hrf hrb hK hbi hbj hn W0 hrow hbu
  go_wp2_with fail
  refine rCell_cps _ t r M s n wq Wq.mach (by omega) _ ?_ ?_
  · intro hin w2 hm2 hk2
    rw [if_pos hin] at hp
    obtain ⟨hn0, hn1⟩ := hin
    obtain ⟨j, rfl⟩ := Int.eq_ofNat_of_zero_le hn0
    have W2 := Wq.next hm2 hk2
    clear Wq hm2 hk2
    obtain ⟨rv, cv, sv, lv, hrow, hbu, hK⟩ := id W2.mach
    obtain ⟨g1, cc, hcv, hgc, hcc, hcf⟩ := hbu.cells.at (i := j) (by show j < s.cells.length; omega)
    subst hcv
    have e1 : (s.out j).cells.getD j 0 = rg s.cells j := by simp [rg, RunD.out]
    rw [e1] at hcc
    have m2 := hrow.cell (i := 2) rfl
    have hji : (0 : Int) ≤ (j : Int) := by omega
    have hjj : (j : Int) < ((s.out j).cells.length : Int) := hn1
    clear hrow hbu
    have Wd := W2.below ((Below.refl _ _).drew)
    obtain ⟨rv, cv, sv, lv, hrow, hbu, hK⟩ := id Wd.mach
    obtain ⟨g2, rc2, hrv, hgr, hrc2, hrf2⟩ := hbu.regs.at (i := a) ha
    subst hrv
    have m1 := hrow.cell (i := 1) rfl
    have o1 := Wd.row.cell (i := 1) rfl
    have f2 := hrf2 a
    have hai : (0 : Int) ≤ (a : Int) := by omega
    have haj : (a : Int) < (s.regs.length : Int) := by omega
    obtain ⟨q1, q2⟩ := Wd.setReg hrow hbu hgr (i := a) ha (rg s.cells j)
    have HF : Hid (Post (.returned (.tuple #[])) (w2.drew.setCell ⟨g2, a, none⟩ (.int .i64 (rg s.cells j)))) := hp _ (q1) q2
    clear hp q1 q2 Wd hrow hbu W2
    have haj' : (a : Int) < ((s.out j).regs.length : Int) := haj
    generalize rg s.cells j = x at *
    go_wp2
    refine wp_tail 8 (by kernel_rfl) (by kernel_rfl) ?_
    simp only [List.take_succ_cons, List.take_zero, List.drop_succ_cons, List.drop_zero]
    repeat still_step
    refine wpStill_nil ?_
    go_wp2
    go_end0
    exact HF.out
  · intro hin w2 hm2 hk2
    rw [if_neg hin] at hp
    have W2 := Wq.next hm2 hk2
    have HF : Hid (Post (.returned (.tuple #[])) w2) := hp _ W2.done W2.keep
    clear hp W2 Wq hm2 hk2
    go_wp2
    (try simp only [Exit.inBlock, Exit.then])
    refine bodyPost_ret (v := .tuple #[]) ?_ rfl ?_
    · simp [results, Try.results91, go_sem]
    · exact HF.out

end Go.Proofs.Ytblhmeidbjigaaa

/- The reference does an operation: from Add to Div; every one. -/
set_option linter.unusedSimpArgs false
set_option linter.unusedVariables false
namespace Go.Proofs.Ytblhmeidbjigaaa
open Go.RowKit

set_option maxRecDepth 100000 in
set_option maxHeartbeats 2000000 in
theorem does_calc (K : Nat → Prop) (t r : Int) (M : Nat) (s : RunD) (k : Int) (a b c : Nat) (w : World) (h : RefS K t r w M s) (hl : s.leak.length ≤ 99998) (hk : 3 ≤ k ∧ k ≤ 11) (ha : a < s.regs.length) (hb : b < s.regs.length) (hc : c < s.regs.length) (Post : Ending → World → Prop)
    (hp : ∀ w', RefS K t r w' M (if k = 11 then (if rg s.regs c = 0 then ((s.out (rg s.regs b)).out (rg s.regs c)).die 3 else ((s.out (rg s.regs b)).out (rg s.regs c)).reg a (calcW 11 (rg s.regs b) (rg s.regs c))) else s.reg a (calcW k (rg s.regs b) (rg s.regs c))) → Keep (fun g => ¬ K g) w w' → Post (.returned (.tuple #[])) w') :
    Calls Try.prog 91 #[.pointer (some ⟨M, 0, none⟩), .agg #[.int .i64 k, .int .i64 a, .int .i64 b, .int .i64 c]] w Post := by
  obtain ⟨i0, ii, iz0, iz1, iz2⟩ := info_parts Try.infoInt
  have W0 := RWith.start h 101 [.int .i64 k, .int .i64 a, .int .i64 b, .int .i64 c]
  have o0 := W0.row.cell (i := 0) rfl
  have e1 : (k == 1) = false := by simp; omega
  have e2 : (k == 2) = false := by simp; omega
  have e12 : (k == 12) = false := by simp; omega
  have e13 : (k == 13) = false := by simp; omega
  have e14 : (k == 14) = false := by simp; omega
  have e15 : (k == 15) = false := by simp; omega
  clear h
  obtain ⟨rv, cv, sv, lv, hrow, hbu, hK⟩ := id W0.mach
  obtain ⟨rb, rc, hrv, hrb, hrc, hrf⟩ := hbu.regs.at (i := b) hb
  subst hrv
  have m0 := hrow.cell (i := 1) rfl
  have oo := W0.row.cell (i := 2) rfl
  have hbi : (0 : Int) ≤ (b : Int) := by omega
  have hbj : (b : Int) < (s.regs.length : Int) := by omega
  have hn : s.regs.getD b 0 = rg s.regs b := by simp [rg]
  rw [hn] at hrc
  generalize rg s.regs b = x at *
  have WWd : ∀ d, RWith K t r w ((w.alloc (.cells #[.int .i64 k, .int .i64 a, .int .i64 b, .int .i64 c] 101)).drewN d) M w.heap.size 101 [.int .i64 k, .int .i64 a, .int .i64 b, .int .i64 c] s := fun d => W0.below (below_drewN (Below.refl _ _) d)
  go_enter Try.func91, Try.ntmps91
  go_wp2
  go_quiet (fail)
  generalize hwq : (w.alloc (.cells #[.int .i64 k, .int .i64 a, .int .i64 b, .int .i64 c] 101)).drewN _ = wq
  have Wq : RWith K t r w wq M w.heap.size 101 [.int .i64 k, .int .i64 a, .int .i64 b, .int .i64 c] s := by rw [← hwq]; exact WWd _
  clear WWd hwq m0 oo hrc hrf hrb hK hbi hbj hn W0 hrow hbu
  clear o0
  obtain ⟨rv, cv, sv, lv, hrow, hbu, hK⟩ := id Wq.mach
  obtain ⟨rb, rc, hrv, hrb, hrc, hrf⟩ := hbu.regs.at (i := c) hc
  subst hrv
  have m0 := hrow.cell (i := 1) rfl
  have oo := Wq.row.cell (i := 3) rfl
  have hbi : (0 : Int) ≤ (c : Int) := by omega
  have hbj : (c : Int) < (s.regs.length : Int) := by omega
  have hn : s.regs.getD c 0 = rg s.regs c := by simp [rg]
  rw [hn] at hrc
  generalize rg s.regs c = y at *
  have WWd : ∀ d, RWith K t r w (wq.drewN d) M w.heap.size 101 [.int .i64 k, .int .i64 a, .int .i64 b, .int .i64 c] s := fun d => Wq.below (below_drewN (Below.refl _ _) d)
  go_wp2
  go_quiet (fail)
  generalize hwq : wq.drewN _ = wp
  have Wp : RWith K t r w wp M w.heap.size 101 [.int .i64 k, .int .i64 a, .int .i64 b, .int .i64 c] s := by rw [← hwq]; exact WWd _
  clear WWd hwq m0 oo hrc hrf hrb hK hbi hbj hn Wq hrow hbu
  have o0 := Wp.row.cell (i := 0) rfl
  by_cases h11 : k = 11
  · subst h11
    obtain ⟨rv, cv, sv, lv, hrow, hbu, hK⟩ := id Wp.mach
    obtain ⟨lo1, lc1, rfl⟩ := owns_slice hbu.leak
    have m4 := hrow.cell (i := 4) rfl
    have hbl := (hbu.keep ((Below.refl wp.heap.size wp).alloc (Nat.le_refl _) (.cells #[.int .i64 x] 3))).leak
    have hll : (s).leak.length ≤ 100000 := by omega
    go_wp2_with (at_builtin; refine wpList_append_own_at _ rfl _ _ 36 rfl 0 3 i0 (.int .i64 0) 1 8 Try.underlying36 ii iz0 iz1 iz2 rfl (by decide) _ _ _ rfl hbl ⟨wp.heap.size, 0, none⟩ 1 1 [.int .i64 x] rfl rfl (by simpa using one_new wp (.int .i64 x) 3) (int_one' _) ?_ ?_ (by omega) ?_)
    · unfold maxLen; omega
    · omega
    intro v1 u1 hown hgrow _ hat
    obtain ⟨⟨hm1, hk1⟩, y41, yf1⟩ := refs_app hrow hbu hK hown hgrow (by simpa using hat)
    obtain ⟨lo1', lc1', rfl⟩ := owns_slice hown
    have W3 := Wp.next hm1 hk1
    clear hrow hbu hown hgrow hat hbl m4 hm1 hk1 hll Wp
    clear o0
    obtain ⟨rv, cv, sv, lv, hrow, hbu, hK⟩ := id W3.mach
    obtain ⟨lo2, lc2, rfl⟩ := owns_slice hbu.leak
    have m4 := hrow.cell (i := 4) rfl
    have hbl := (hbu.keep ((Below.refl (u1.setCell ⟨M, 4, none⟩ (.slice lo1' (s.leak.length + 1) lc1')).heap.size (u1.setCell ⟨M, 4, none⟩ (.slice lo1' (s.leak.length + 1) lc1'))).alloc (Nat.le_refl _) (.cells #[.int .i64 y] 3))).leak
    have hll : (s.out x).leak.length ≤ 100000 := by simp [RunD.out]; omega
    go_wp2_with (at_builtin; refine wpList_append_own_at _ rfl _ _ 36 rfl 0 3 i0 (.int .i64 0) 1 8 Try.underlying36 ii iz0 iz1 iz2 rfl (by decide) _ _ _ rfl hbl ⟨u1.heap.size, 0, none⟩ 1 1 [.int .i64 y] rfl rfl (by simpa using one_new (u1.setCell ⟨M, 4, none⟩ (.slice lo1' (s.leak.length + 1) lc1')) (.int .i64 y) 3) (int_one' _) ?_ ?_ (by omega) ?_)
    · unfold maxLen; omega
    · omega
    intro v2 u2 hown hgrow _ hat
    obtain ⟨⟨hm2, hk2⟩, y42, yf2⟩ := refs_app hrow hbu hK hown hgrow (by simpa using hat)
    obtain ⟨lo2', lc2', rfl⟩ := owns_slice hown
    have W4 := W3.next hm2 hk2
    clear hrow hbu hown hgrow hat hbl m4 hm2 hk2 hll W3
    have o0 := W4.row.cell (i := 0) rfl
    by_cases hy : y = 0
    · subst hy
      obtain ⟨rv, cv, sv, lv, hrow, hbu, hK⟩ := id W4.mach
      have m5 := hrow.cell (i := 5) rfl
      have f5 := hrow.frozen 5
      obtain ⟨q1, q2⟩ := W4.trap hrow hbu 3
      have HF : Hid (Post (.returned (.tuple #[])) ((u2.setCell ⟨M, 4, none⟩ (.slice lo2' ((s.out x).leak.length + 1) lc2')).setCell ⟨M, 5, none⟩ (.int .i64 3))) := hp _ (by simpa using q1) q2
      clear hp q1 q2 W4 hrow hbu
      go_wp2
      (try simp only [Exit.inBlock, Exit.then])
      refine bodyPost_ret (v := .tuple #[]) ?_ rfl ?_
      · simp [results, Try.results91, go_sem]
      · exact HF.out
    · have hy' : (y == 0) = false := by simp [hy]
      have Wd := W4.below ((Below.refl _ _).drew)
      obtain ⟨rv, cv, sv, lv, hrow, hbu, hK⟩ := id Wd.mach
      obtain ⟨g2, rc2, hrv, hgr, hrc2, hrf2⟩ := hbu.regs.at (i := a) ha
      subst hrv
      have m1 := hrow.cell (i := 1) rfl
      have o1 := Wd.row.cell (i := 1) rfl
      have f2 := hrf2 a
      have hai : (0 : Int) ≤ (a : Int) := by omega
      have haj : (a : Int) < (((s.out x).out y).regs.length : Int) := by show (a : Int) < (s.regs.length : Int); omega
      obtain ⟨q1, q2⟩ := Wd.setReg hrow hbu hgr (i := a) ha (calcW 11 x y)
      have HF : Hid (Post (.returned (.tuple #[])) ((u2.setCell ⟨M, 4, none⟩ (.slice lo2' ((s.out x).leak.length + 1) lc2')).drew.setCell ⟨g2, a, none⟩ (.int .i64 (calcW 11 x y)))) := hp _ (by simpa [hy] using q1) q2
      clear hp q1 q2 W4 Wd hrow hbu
      go_wp2_with (go_at_call 99; refine (calcW_any 11 x y _ (by omega) (fun _ => hy)).mono ?_; rintro e w' ⟨rfl, rfl⟩)
      generalize calcW 11 x y = v at *
      refine wp_tail 8 (by kernel_rfl) (by kernel_rfl) ?_
      simp only [List.take_succ_cons, List.take_zero, List.drop_succ_cons, List.drop_zero]
      repeat still_step
      refine wpStill_nil ?_
      go_wp2
      go_end0
      exact HF.out
  · have h11' : (k == 11) = false := by simp [h11]
    rw [if_neg h11] at hp
    have Wd := Wp.below ((Below.refl _ _).drew)
    obtain ⟨rv, cv, sv, lv, hrow, hbu, hK⟩ := id Wd.mach
    obtain ⟨g2, rc2, hrv, hgr, hrc2, hrf2⟩ := hbu.regs.at (i := a) ha
    subst hrv
    have m1 := hrow.cell (i := 1) rfl
    have o1 := Wd.row.cell (i := 1) rfl
    have f2 := hrf2 a
    have hai : (0 : Int) ≤ (a : Int) := by omega
    have haj : (a : Int) < ((s).regs.length : Int) := by show (a : Int) < (s.regs.length : Int); omega
    obtain ⟨q1, q2⟩ := Wd.setReg hrow hbu hgr (i := a) ha (calcW k x y)
    have HF : Hid (Post (.returned (.tuple #[])) (wp.drew.setCell ⟨g2, a, none⟩ (.int .i64 (calcW k x y)))) := hp _ q1 q2
    clear hp q1 q2 Wp Wd hrow hbu
    go_wp2_with (go_at_call 99; refine (calcW_any k x y _ hk (fun e => absurd e h11)).mono ?_; rintro e w' ⟨rfl, rfl⟩)
    generalize calcW k x y = v at *
    refine wp_tail 8 (by kernel_rfl) (by kernel_rfl) ?_
    simp only [List.take_succ_cons, List.take_zero, List.drop_succ_cons, List.drop_zero]
    repeat still_step
    refine wpStill_nil ?_
    go_wp2
    go_end0
    exact HF.out

set_option maxHeartbeats 1000000 in
theorem does_cps (K : Nat → Prop) (t r : Int) (M : Nat) (s : RunD) (o : OpD) (regs data slots : Int) (w : World) (h : RefS K t r w M s) (hl : s.leak.length ≤ 99998) (hz : Sized s regs data slots) (hg : opGood regs slots o = true) (Post : Ending → World → Prop)
    (hp : ∀ w', RefS K t r w' M (stepOp s o) → Keep (fun g => ¬ K g) w w' → Post (.returned (.tuple #[])) w') :
    Calls Try.prog 91 #[.pointer (some ⟨M, 0, none⟩), .agg #[.int .i64 o.kind, .int .i64 o.a, .int .i64 o.b, .int .i64 o.c]] w Post := by
  have hkk := opGood_kind hg
  obtain ⟨k, a, b, c⟩ := o
  simp only at hkk ⊢
  by_cases h1 : k = 1
  · subst h1
    exact does_1 K t r M s a b c regs data slots w h (by omega) hz hg Post hp
  by_cases h2 : k = 2
  · subst h2
    exact does_2 K t r M s a b c regs data slots w h (by omega) hz hg Post hp
  by_cases h12 : k = 12
  · subst h12
    exact does_12 K t r M s a b c regs data slots w h (by omega) hz hg Post hp
  by_cases h13 : k = 13
  · subst h13
    exact does_13 K t r M s a b c regs data slots w h (by omega) hz hg Post hp
  by_cases h14 : k = 14
  · subst h14
    exact does_14 K t r M s a b c regs data slots w h (by omega) hz hg Post hp
  by_cases h15 : k = 15
  · subst h15
    exact does_15 K t r M s a b c regs data slots w h (by omega) hz hg Post hp
  obtain ⟨zr, zc, zs⟩ := hz
  have hk3 : 3 ≤ k ∧ k ≤ 11 := by omega
  have hgg : (0 ≤ a ∧ a < regs) ∧ (0 ≤ b ∧ b < regs) ∧ 0 ≤ c ∧ c < regs := by
    unfold opGood at hg
    rw [if_neg (by simpa using h1), if_pos (by simpa using hk3)] at hg
    simp [below] at hg
    omega
  clear hg
  obtain ⟨ga, gb, gc⟩ := hgg
  obtain ⟨a, rfl⟩ := Int.eq_ofNat_of_zero_le ga.1
  obtain ⟨b, rfl⟩ := Int.eq_ofNat_of_zero_le gb.1
  obtain ⟨c, rfl⟩ := Int.eq_ofNat_of_zero_le gc.1
  refine does_calc K t r M s k a b c w h hl hk3 (by omega) (by omega) (by omega) Post (fun w' hm hk => hp w' ?_ hk)
  unfold stepOp
  simp only [h1, h2, h12, h13, h14, h15, if_false]
  by_cases h11 : k = 11
  · subst h11; simpa using hm
  · simpa [h11] using hm

end Go.Proofs.Ytblhmeidbjigaaa

/- The machine does the operations of a block; where it goes on. -/
set_option linter.unusedSimpArgs false
set_option linter.unusedVariables false
namespace Go.Proofs.Ytblhmeidbjigaaa
open Go.RowKit

theorem opsGood_at {regs slots : Int} {l : List OpD} (h : opsGood regs slots l = true) {k : Nat} (hk : k < l.length) : opGood regs slots ⟨okind l k, oa l k, ob l k, oc l k⟩ = true := by
  have := List.all_eq_true.1 h (l.getD k oz) (getD_mem' hk)
  exact this

set_option maxRecDepth 100000 in
set_option maxHeartbeats 2000000 in
theorem doAll_cps (K : Nat → Prop) (M : Nat) (s : RunD) (l : List OpD) (v : Value) (regs data slots : Int) (w : World) (h : Mach K w M s) (hl : s.leak.length + 2 * l.length ≤ 99999) (hz : Sized s regs data slots) (hg : opsGood regs slots l = true)
    (hrd : ∀ w', Keep (fun g => ¬ K g) w w' → RdOps w' v l) (Post : Ending → World → Prop)
    (hp : ∀ w', Mach K w' M (doOps l s) → Keep (fun g => ¬ K g) w w' → Post (.returned (.tuple #[])) w') :
    Calls Try.prog 94 #[.pointer (some ⟨M, 0, none⟩), v] w Post := by
  obtain ⟨ao, cap, rfl, hll, _⟩ := hrd w (Keep.refl _ _)
  go_enter Try.func94, Try.ntmps94
  go_wp2
  go_loopw [4] (fun i wr => ∃ (k : Nat), k ≤ l.length ∧ i = .int .i64 k ∧ Mach K wr M (doOps (l.take k) s) ∧ Keep (fun g => ¬ K g) w wr)
    (fun i _ => l.length - (intOf i).toNat)
  case atStart => exact ⟨0, Nat.zero_le _, rfl, h, Keep.refl _ _⟩
  case round =>
    clear h
    obtain ⟨k, hk, rfl, hm, hke⟩ := hrel
    have hlk : (doOps (l.take k) s).leak.length ≤ 99999 := by
      have := doOps_leak (l.take k) s
      have : (l.take k).length ≤ l.length := by rw [List.length_take]; omega
      omega
    have hzk : Sized (doOps (l.take k) s) regs data slots := hz.doOps _
    by_cases hlt : k < l.length
    · obtain ⟨rv, cv, sv, lv, hrow, hbu, hK⟩ := id hm
      have m4 := hrow.cell (i := 4) rfl
      by_cases ht : (doOps (l.take k) s).trap = 0
      · rw [ht] at m4
        obtain ⟨ao', cap', e0, _, hc⟩ := hrd wr hke
        simp only [Value.slice.injEq, true_and] at e0
        obtain ⟨rfl, rfl⟩ := e0
        obtain ⟨b, off, rfl, c0, c1, c2, c3⟩ := hc k hlt
        clear hc hrow hbu
        go_wp2_with fail
        refine do_cps K M _ ⟨okind l k, oa l k, ob l k, oc l k⟩ regs data slots wr hm hlk hzk (opsGood_at hg hlt) _ ?_
        intro w2 hm2 hk2
        have hm3 : Mach K w2 M (doOps (l.take (k + 1)) s) := by rw [doOps_take hlt, if_pos ht]; exact hm2
        have hke2 := hke.trans hk2
        clear hm hm2 hk2 hke c0 c1 c2 c3 m4
        go_wp2
        go_roundw
        case rel => exact ⟨k + 1, by omega, by go_num, hm3, hke2⟩
        case measure => simp [intOf]; omega
      · have HF : Hid (Post (.returned (.tuple #[])) wr) := hp _ (by rw [doOps_stop ht]; exact hm) hke
        have ht' : ((doOps (l.take k) s).trap == 0) = false := by simp [ht]
        clear hp hm hke hrd hrow hbu
        generalize (doOps (l.take k) s).trap = tr at *
        go_wp2
        go_end0
        exact HF.out
    · obtain rfl : k = l.length := by omega
      rw [List.take_length] at hm
      have HF : Hid (Post (.returned (.tuple #[])) wr) := hp _ hm hke
      clear hp hm hke hrd
      go_wp2
      go_end0
      exact HF.out

set_option maxRecDepth 100000 in
set_option maxHeartbeats 2000000 in
theorem after_cps (K : Nat → Prop) (M : Nat) (s : RunD) (e : EndD) (regs nb : Int) (w : World) (h : Mach K w M s) (hl : s.leak.length ≤ 99999) (hz : (s.regs.length : Int) = regs) (hg : endGood regs nb e = true) (hne : e.kind ≠ 3) (Post : Ending → World → Prop)
    (hp : ∀ w', Mach K w' M (goesOn s e) → Keep (fun g => ¬ K g) w w' → Post (.returned (.int .i64 (goesTo s e))) w') :
    Calls Try.prog 95 #[.pointer (some ⟨M, 0, none⟩), .agg #[.int .i64 e.kind, .int .i64 e.r, .int .i64 e.x, .int .i64 e.y]] w Post := by
  obtain ⟨k, r, x, y⟩ := e
  simp only at hne ⊢
  have W0 := With.start h 88 [.int .i64 k, .int .i64 r, .int .i64 x, .int .i64 y]
  have o0 := W0.row.cell (i := 0) rfl
  clear h
  by_cases h1 : k = 1
  · subst h1
    have o2 := W0.row.cell (i := 2) rfl
    have HF : Hid (Post (.returned (.int .i64 x)) (w.alloc (.cells #[.int .i64 1, .int .i64 r, .int .i64 x, .int .i64 y] 88))) := by
      have := hp _ (by simpa [goesOn] using W0.done) W0.keep
      show Post _ _
      simpa [goesTo] using this
    clear hp W0
    go_enter Try.func95, Try.ntmps95
    go_wp2
    exact HF.out
  · obtain rfl : k = 2 := by
      unfold endGood at hg
      simp only at hg
      repeat' split at hg
      all_goals first | omega | simp at hg
    simp [endGood, below] at hg
    obtain ⟨⟨⟨hr0, hr1⟩, _⟩, _⟩ := hg
    obtain ⟨r, rfl⟩ := Int.eq_ofNat_of_zero_le hr0
    obtain ⟨rv, cv, sv, lv, hrow, hbu, hK⟩ := id W0.mach
    obtain ⟨rb, rc, hrv, hrb, hrc, hrf⟩ := hbu.regs.at (i := r) (by omega)
    subst hrv
    have m0 := hrow.cell (i := 0) rfl
    have o1 := W0.row.cell (i := 1) rfl
    have hbi : (0 : Int) ≤ (r : Int) := by omega
    have hbj : (r : Int) < (s.regs.length : Int) := by omega
    have hn : s.regs.getD r 0 = rg s.regs r := by simp [rg]
    rw [hn] at hrc
    have hG : goesOn s ⟨2, r, x, y⟩ = s.out (if rg s.regs r = 0 then 0 else 1) := by simp [goesOn]
    have hT : goesTo s ⟨2, r, x, y⟩ = if rg s.regs r = 0 then y else x := by simp [goesTo]
    rw [hG, hT] at hp
    generalize rg s.regs r = z at *
    have Wd : ∀ d, With K w ((w.alloc (.cells #[.int .i64 2, .int .i64 r, .int .i64 x, .int .i64 y] 88)).drewN d) M w.heap.size 88 [.int .i64 2, .int .i64 r, .int .i64 x, .int .i64 y] s := fun d => W0.below (below_drewN (Below.refl _ _) d)
    clear W0 hrow hbu hG hT hn
    by_cases hz0 : z = 0
    · subst hz0
      simp only [if_true] at hp
      go_enter Try.func95, Try.ntmps95
      go_wp2
      go_quiet (fail)
      generalize hwq : (w.alloc (.cells #[.int .i64 2, .int .i64 r, .int .i64 x, .int .i64 y] 88)).drewN _ = wq
      have Wq : With K w wq M w.heap.size 88 [.int .i64 2, .int .i64 r, .int .i64 x, .int .i64 y] s := by rw [← hwq]; exact Wd _
      clear Wd hwq m0 o1 hrc hrf o0
      go_wp2_with fail
      refine letOut_cps _ M s 0 wq Wq.mach (by omega) _ ?_
      intro w3 hm3 hk3
      have W3 := Wq.next hm3 hk3
      have o3 := W3.row.cell (i := 3) rfl
      have HF : Hid (Post (.returned (.int .i64 y)) w3) := hp _ W3.done W3.keep
      clear hp Wq W3 hm3 hk3
      go_wp2
      exact HF.out
    · simp only [if_neg hz0] at hp
      have hz1 : (z == 0) = false := by simp [hz0]
      go_enter Try.func95, Try.ntmps95
      go_wp2
      go_quiet (fail)
      generalize hwq : (w.alloc (.cells #[.int .i64 2, .int .i64 r, .int .i64 x, .int .i64 y] 88)).drewN _ = wq
      have Wq : With K w wq M w.heap.size 88 [.int .i64 2, .int .i64 r, .int .i64 x, .int .i64 y] s := by rw [← hwq]; exact Wd _
      clear Wd hwq m0 o1 hrc hrf o0
      go_wp2_with fail
      refine letOut_cps _ M s 1 wq Wq.mach (by omega) _ ?_
      intro w3 hm3 hk3
      have W3 := Wq.next hm3 hk3
      have o2 := W3.row.cell (i := 2) rfl
      have HF : Hid (Post (.returned (.int .i64 x)) w3) := hp _ W3.done W3.keep
      clear hp Wq W3 hm3 hk3
      go_wp2
      exact HF.out

end Go.Proofs.Ytblhmeidbjigaaa

/- The machine runs. -/
set_option linter.unusedSimpArgs false
set_option linter.unusedVariables false
namespace Go.Proofs.Ytblhmeidbjigaaa
open Go.RowKit

theorem blocksGood_at {regs slots n : Int} {l : List BlockD} (h : blocksGood regs slots n l = true) {k : Nat} (hk : k < l.length) : (bops l k).length ≤ 12 ∧ opsGood regs slots (bops l k) = true ∧ endGood regs n (bfin l k) = true := by
  have := List.all_eq_true.1 h (l.getD k bz) (getD_mem' hk)
  simp only [blockGood, Bool.and_eq_true, decide_eq_true_eq] at this
  exact ⟨this.1.1, this.1.2, this.2⟩

theorem goesTo_in {s : RunD} {e : EndD} {regs n : Int} (h : endGood regs n e = true) (hne : e.kind ≠ 3) : 0 ≤ goesTo s e ∧ goesTo s e < n := by
  unfold endGood at h
  by_cases h1 : e.kind = 1
  · simp [h1, below] at h
    have : goesTo s e = e.x := by simp [goesTo, h1]
    rw [this]; omega
  · by_cases h2 : e.kind = 2
    · simp [h2, below] at h
      have : goesTo s e = if rg s.regs e.r = 0 then e.y else e.x := by simp [goesTo, h2]
      rw [this]
      split <;> omega
    · simp [h1, h2, hne] at h

theorem goesOn_leak (s : RunD) (e : EndD) : (goesOn s e).leak.length ≤ s.leak.length + 1 := by
  unfold goesOn
  split <;> simp [RunD.out]

theorem goesOn_trap (s : RunD) (e : EndD) : (goesOn s e).trap = s.trap := by
  unfold goesOn
  split <;> rfl

def zOut : List Value := [.int .i64 0, .int .i64 0, .slice none 0 0, .slice none 0 0]

/-- The outcome is stored, where it goes out. -/
def out4 (w : World) (R : Nat) (k r : Int) (m l : Value) : World := (((w.setCell ⟨R, 0, none⟩ (.int .i64 k)).setCell ⟨R, 1, none⟩ (.int .i64 r)).setCell ⟨R, 2, none⟩ m).setCell ⟨R, 3, none⟩ l

theorem OwnW.far {w : World} {v : Value} {l : List Int} (h : OwnW w v l) {H : Nat} {t : TypeId} {xs : List Value} (hr : Row w H t xs) (ht : t ≠ 3) (i : Nat) (u : Value) : OwnW (w.setCell ⟨H, i, none⟩ u) v l :=
  owns_unset h (fun e => row_owns_apart hr h ht e) u

theorem OwnW.out4 {w : World} {v : Value} {l : List Int} (h : OwnW w v l) {R : Nat} {xs : List Value} (hr : Row w R 54 xs) (k r : Int) (m q : Value) : OwnW (Go.Proofs.Ytblhmeidbjigaaa.out4 w R k r m q) v l :=
  (((h.far hr (by decide) 0 _).far (hr.set 0 _) (by decide) 1 _).far ((hr.set 0 _).set 1 _) (by decide) 2 _).far (((hr.set 0 _).set 1 _).set 2 _) (by decide) 3 _

theorem Keep.out4 {S : Nat → Prop} {w a : World} (h : Keep S w a) {R : Nat} (hp : S R ∨ w.heap.size ≤ R) (k r : Int) (m q : Value) : Keep S w (Go.Proofs.Ytblhmeidbjigaaa.out4 a R k r m q) :=
  (((h.setCell hp _).setCell hp _).setCell hp _).setCell hp _

set_option maxRecDepth 100000 in
set_option maxHeartbeats 4000000 in
theorem run_cps (K : Nat → Prop) (M : Nat) (s : RunD) (bs : List BlockD) (v : Value) (fuel : Nat) (regs data slots : Int) (w0 w : World) (h : Mach K w M s) (hf : fuel ≤ 300) (hl : s.leak = []) (ht : s.trap = 0) (hz : Sized s regs data slots) (hg : blocksGood regs slots bs.length bs = true) (hnb : 1 ≤ bs.length)
    (hrd : RdBlocks w0 v bs) (hK0 : ∀ g, g < w0.heap.size → K g) (hb0 : Below w0.heap.size w0 w) (Post : Ending → World → Prop)
    (hp : ∀ mv lv w', OwnW w' mv (runN bs fuel 0 s).mem → OwnW w' lv (runN bs fuel 0 s).leak → (∀ g, mv.ownBlock = some g → lv.ownBlock ≠ some g) → (∀ g, mv.ownBlock = some g → ¬ K g) → (∀ g, lv.ownBlock = some g → ¬ K g) → Keep (fun g => ¬ K g) w w' →
      Post (.returned (.agg #[.int .i64 (runN bs fuel 0 s).kind, .int .i64 (runN bs fuel 0 s).result, mv, lv])) w') :
    Calls Try.prog 83 #[.pointer (some ⟨M, 0, none⟩), v, .int .i64 fuel] w Post := by
  obtain ⟨ao, cap, rfl, hll, hc⟩ := hrd
  obtain ⟨G, hG⟩ : ∃ G, runN bs fuel 0 s = G := ⟨_, rfl⟩
  rw [hG] at hp
  have W0 := With.start h 54 zOut
  have hold : ∀ w', Keep (fun g => ¬ K g) w w' → Below w0.heap.size w0 w' := fun w' hk => hb0.trans (hk.toBelow hb0.size (fun g hn => by rcases Nat.lt_or_ge g w0.heap.size with q | q; exact absurd (hK0 g q) hn; exact q))
  clear h hb0 hK0
  have HG : Hid (runN bs (fuel - 0) 0 s = G) := hG
  clear hG
  go_enter Try.func83, Try.ntmps83
  go_wp2
  go_loopw [7, 8] (fun x i wr => ∃ (k : Nat) (t : Nat) (s1 : RunD), k ≤ fuel ∧ i = .int .i64 k ∧ x = .int .i64 t ∧ t < bs.length ∧ Sized s1 regs data slots ∧ s1.leak.length ≤ 25 * k ∧ s1.trap = 0 ∧ With K w wr M w.heap.size 54 zOut s1 ∧ Hid (runN bs (fuel - k) t s1 = G))
    (fun _ i _ => fuel - (intOf i).toNat)
  case atStart => exact ⟨0, 0, s, Nat.zero_le _, rfl, rfl, by omega, hz, by simp [hl], ht, W0, HG⟩
  case round =>
    clear W0 HG hl ht hz s
    obtain ⟨k, t, s, hk, rfl, rfl, ht, hz, hl, htr, W, HG⟩ := hrel
    have hR := W.row.lt
    by_cases hlt : k < fuel
    · obtain ⟨b, off, sv, rfl, c0, c1, c2, c3, c4, hops⟩ := hc t ht
      have hbw := hold wr W.keep
      have d0 := cell_keep hbw c0
      have d1 := cell_keep hbw c1
      have d2 := cell_keep hbw c2
      have d3 := cell_keep hbw c3
      have d4 := cell_keep hbw c4
      obtain ⟨g12, gops, gend⟩ := blocksGood_at hg ht
      have V := With.start W.mach 90 [sv, .int .i64 (bek bs t), .int .i64 (ber bs t), .int .i64 (bex bs t), .int .i64 (bey bs t)]
      obtain ⟨so, sc, e0, _, _⟩ := id hops
      subst e0
      have v0 := V.row.cell (i := 0) rfl
      obtain ⟨f, hfk⟩ : ∃ f, fuel - k = f + 1 := ⟨fuel - k - 1, by omega⟩
      have HE : Hid (runN bs (f + 1) t s = G) := by show _ = _; rw [← hfk]; exact HG.out
      clear c0 c1 c2 c3 c4 hbw HG
      go_wp2_with fail
      refine doAll_cps _ M s (bops bs t) _ regs data slots _ V.mach (by omega) hz gops ?_ _ ?_
      · intro w' hk'
        refine hops.keep (hold w' (W.keep.trans ?_))
        have := V.keep.trans (hk'.mono (fun g hn e => hn (.inl e)))
        exact this.mono (fun g hn e => hn (.inl e))
      intro w2 hm2 hk2
      have V2 := V.next hm2 hk2
      clear V hm2 hk2 d0 d1 d2 d3 d4 v0
      have hz2 : Sized (doOps (bops bs t) s) regs data slots := hz.doOps _
      have hl2 := doOps_leak (bops bs t) s
      have HE2 : Hid ((if (doOps (bops bs t) s).trap ≠ 0 then OutD.mk (doOps (bops bs t) s).trap 0 [] (doOps (bops bs t) s).leak
          else if bek bs t = 3 then OutD.mk 1 (rg (doOps (bops bs t) s).regs (ber bs t)) (doOps (bops bs t) s).cells (doOps (bops bs t) s).leak
          else runN bs f (goesTo (doOps (bops bs t) s) (bfin bs t)) (goesOn (doOps (bops bs t) s) (bfin bs t))) = G) := HE.out
      clear HE
      generalize doOps (bops bs t) s = u at *
      obtain ⟨rv, cv, sv', lv, hrow, hbu, hKM⟩ := id V2.mach
      have m4 := hrow.cell (i := 4) rfl
      have WW : With K w w2 M w.heap.size 54 zOut u := W.next V2.done (V2.keep.mono (fun g hn e => hn (by rcases e with e | e; exact .inl e; exact .inr e)))
      clear W hops
      by_cases htu : u.trap = 0
      · rw [htu] at m4
        have e1 := V2.row.cell (i := 1) rfl
        by_cases h3 : bek bs t = 3
        · rw [h3] at e1
          have HG3 : Hid (OutD.mk 1 (rg u.regs (ber bs t)) u.cells u.leak = G) := by
            have := HE2.out
            simp only [htu, ne_eq, not_true_eq_false, if_false, h3, if_true] at this
            exact this
          have hge := gend
          unfold endGood at hge
          have hk3 : (bfin bs t).kind = 3 := h3
          simp [hk3, below] at hge
          obtain ⟨rr, hrr⟩ := Int.eq_ofNat_of_zero_le hge.1.1.1
          have hrr' : ber bs t = rr := hrr
          have e2 := V2.row.cell (i := 2) rfl
          rw [hrr'] at e2
          have hrl : rr < u.regs.length := by have := hz2.regs; omega
          have Wd := WW.below ((Below.refl w2.heap.size w2).drew)
          have b0 := WW.row.cell (i := 0) rfl
          have h0' := WW.row.frozen 0
          have b1 := WW.row.cell (i := 1) rfl
          have h1' := WW.row.frozen 1
          have b2 := WW.row.cell (i := 2) rfl
          have h2' := WW.row.frozen 2
          have b3 := WW.row.cell (i := 3) rfl
          have h3' := WW.row.frozen 3
          have Vd := V2.below ((Below.refl w2.heap.size w2).drew)
          clear hrow hbu WW
          obtain ⟨rv, cv, sv', lv, hrow, hbu, hKM⟩ := id Vd.mach
          obtain ⟨g2, rc, hrv, hgr, hrc, hrf⟩ := hbu.regs.at (i := rr) hrl
          subst hrv
          have en : u.regs.getD rr 0 = rg u.regs rr := by simp [rg]
          rw [en] at hrc
          have m0 := hrow.cell (i := 0) rfl
          have m1 := hrow.cell (i := 1) rfl
          have m3 := hrow.cell (i := 3) rfl
          have e2' := Vd.row.cell (i := 2) rfl
          rw [hrr'] at e2'
          have hai : (0 : Int) ≤ (rr : Int) := by omega
          have haj : (rr : Int) < (u.regs.length : Int) := by omega
          have a0 := Wd.row.cell (i := 0) rfl
          have a1 := Wd.row.cell (i := 1) rfl
          have a2 := Wd.row.cell (i := 2) rfl
          have a3 := Wd.row.cell (i := 3) rfl
          have f0 := Wd.row.frozen 0
          have f1 := Wd.row.frozen 1
          have f2 := Wd.row.frozen 2
          have f3 := Wd.row.frozen 3
          have hfin := hp cv lv (out4 w2.drew w.heap.size 1 (rg u.regs rr) cv lv) (by rw [← HG3.out]; exact OwnW.out4 hbu.cells Wd.row _ _ _ _) (by rw [← HG3.out]; exact OwnW.out4 hbu.leak Wd.row _ _ _ _) hbu.cl (fun g e c => hbu.kc g e (.inl (.inl c))) (fun g e c => hbu.kl g e (.inl (.inl c))) (Wd.keep.out4 (.inr (Nat.le_refl _)) _ _ _ _)
          rw [← HG3.out] at hfin
          simp only [hrr'] at hfin
          obtain ⟨co, cc, rfl⟩ := owns_slice hbu.cells
          obtain ⟨lo, lc, rfl⟩ := owns_slice hbu.leak
          have HF : Hid (Post (.returned (.agg #[.int .i64 1, .int .i64 (rg u.regs rr), .slice co u.cells.length cc, .slice lo u.leak.length lc])) (out4 w2.drew w.heap.size 1 (rg u.regs rr) (.slice co u.cells.length cc) (.slice lo u.leak.length lc))) := hfin
          clear hfin hp Wd Vd V2 hbu hrow HE2 HG3
          generalize rg u.regs rr = res at *
          unfold out4 at HF
          go_wp2
          refine wp_tail 18 (by kernel_rfl) (by kernel_rfl) ?_
          simp only [List.take_succ_cons, List.take_zero, List.drop_succ_cons, List.drop_zero]
          repeat still_step
          refine wpStill_nil ?_
          go_wp2
          (try simp only [Exit.inBlock, Exit.then])
          refine bodyPost_ret (v := .agg #[.int .i64 1, .int .i64 res, .slice co u.cells.length cc, .slice lo u.leak.length lc]) ?_ rfl ?_
          · simp [results, Try.results83, go_sem, b0, b1, b2, b3]
          · exact HF.out
        · have hn3 : (bek bs t == 3) = false := by simp [h3]
          have HG3 : Hid (runN bs f (goesTo u (bfin bs t)) (goesOn u (bfin bs t)) = G) := by
            have := HE2.out
            simp only [htu, ne_eq, not_true_eq_false, if_false, h3] at this
            exact this
          have e2 := V2.row.cell (i := 2) rfl
          have e3 := V2.row.cell (i := 3) rfl
          have e4 := V2.row.cell (i := 4) rfl
          clear hrow hbu
          go_wp2_with fail
          refine after_cps _ M u (bfin bs t) regs bs.length w2 V2.mach (by omega) hz2.regs gend h3 _ ?_
          intro w3 hm3 hk3
          have V3 := V2.next hm3 hk3
          have W3 : With K w w3 M w.heap.size 54 zOut (goesOn u (bfin bs t)) := WW.next V3.done ((hk3.mono (fun g hn e => hn (.inl e))))
          obtain ⟨gt0, gt1⟩ := goesTo_in (s := u) gend h3
          have hz3 : Sized (goesOn u (bfin bs t)) regs data slots := hz2.on _
          have hl3 := goesOn_leak u (bfin bs t)
          have ht3 : (goesOn u (bfin bs t)).trap = 0 := by rw [goesOn_trap]; exact htu
          generalize goesOn u (bfin bs t) = u3 at *
          generalize goesTo u (bfin bs t) = t3 at *
          obtain ⟨t3, rfl⟩ := Int.eq_ofNat_of_zero_le gt0
          have hfe : fuel - (k + 1) = f := by omega
          have HG4 : Hid (runN bs (fuel - (k + 1)) t3 u3 = G) := by show _ = _; rw [hfe]; exact HG3.out
          clear hm3 hk3 V3 V2 WW HG3 HE2 m4 e1 e2 e3 e4
          go_wp2
          go_roundw
          case rel => exact ⟨k + 1, t3, u3, by omega, by go_num, rfl, by omega, hz3, by omega, ht3, W3, HG4⟩
          case measure => simp [intOf]; omega
      · have HG3 : Hid (OutD.mk u.trap 0 [] u.leak = G) := by
          have := HE2.out
          simp only [htu, ne_eq, not_false_eq_true, if_true] at this
          exact this
        have htu' : (u.trap == 0) = false := by simp [htu]
        have Wd := WW.below ((Below.refl w2.heap.size w2).drew)
        have b0 := WW.row.cell (i := 0) rfl
        have h0' := WW.row.frozen 0
        have b1 := WW.row.cell (i := 1) rfl
        have h1' := WW.row.frozen 1
        have b2 := WW.row.cell (i := 2) rfl
        have h2' := WW.row.frozen 2
        have b3 := WW.row.cell (i := 3) rfl
        have h3' := WW.row.frozen 3
        clear hrow hbu WW
        obtain ⟨rv, cv, sv', lv, hrow, hbu, hKM⟩ := id Wd.mach
        have m4d := hrow.cell (i := 4) rfl
        have m3 := hrow.cell (i := 3) rfl
        have a0 := Wd.row.cell (i := 0) rfl
        have a1 := Wd.row.cell (i := 1) rfl
        have a2 := Wd.row.cell (i := 2) rfl
        have a3 := Wd.row.cell (i := 3) rfl
        have f0 := Wd.row.frozen 0
        have f1 := Wd.row.frozen 1
        have f2 := Wd.row.frozen 2
        have f3 := Wd.row.frozen 3
        have hfin := hp (.slice none 0 0) lv (out4 w2.drew w.heap.size u.trap 0 (.slice none 0 0) lv) (by rw [← HG3.out]; exact World.ownsRow_nil _ _ _ _) (by rw [← HG3.out]; exact OwnW.out4 hbu.leak Wd.row _ _ _ _) (fun g e => by simp [Value.ownBlock] at e) (fun g e => by simp [Value.ownBlock] at e) (fun g e c => hbu.kl g e (.inl c)) (Wd.keep.out4 (.inr (Nat.le_refl _)) _ _ _ _)
        rw [← HG3.out] at hfin
        obtain ⟨lo, lc, rfl⟩ := owns_slice hbu.leak
        have HF : Hid (Post (.returned (.agg #[.int .i64 u.trap, .int .i64 0, .slice none 0 0, .slice lo u.leak.length lc])) (out4 w2.drew w.heap.size u.trap 0 (.slice none 0 0) (.slice lo u.leak.length lc))) := hfin
        clear hfin hp Wd V2 hbu hrow HE2 HG3
        generalize u.trap = tr at *
        unfold out4 at HF
        go_wp2
        refine wp_tail 9 (by kernel_rfl) (by kernel_rfl) ?_
        simp only [List.take_succ_cons, List.take_zero, List.drop_succ_cons, List.drop_zero]
        repeat still_step
        refine wpStill_nil ?_
        go_wp2
        (try simp only [Exit.inBlock, Exit.then])
        refine bodyPost_ret (v := .agg #[.int .i64 tr, .int .i64 0, .slice none 0 0, .slice lo u.leak.length lc]) ?_ rfl ?_
        · simp [results, Try.results83, go_sem, b0, b1, b2, b3]
        · exact HF.out
    · have hfe : fuel - k = 0 := by omega
      have HG3 : Hid (OutD.mk 4 0 s.cells s.leak = G) := by
        have := HG.out
        rw [hfe] at this
        exact this
      have Wd := W.below ((Below.refl wr.heap.size wr).drew)
      have b0 := W.row.cell (i := 0) rfl
      have h0' := W.row.frozen 0
      have b1 := W.row.cell (i := 1) rfl
      have h1' := W.row.frozen 1
      have b2 := W.row.cell (i := 2) rfl
      have h2' := W.row.frozen 2
      have b3 := W.row.cell (i := 3) rfl
      have h3' := W.row.frozen 3
      obtain ⟨rv, cv, sv', lv, hrow, hbu, hKM⟩ := id Wd.mach
      have m1 := hrow.cell (i := 1) rfl
      have m3 := hrow.cell (i := 3) rfl
      have a0 := Wd.row.cell (i := 0) rfl
      have a1 := Wd.row.cell (i := 1) rfl
      have a2 := Wd.row.cell (i := 2) rfl
      have a3 := Wd.row.cell (i := 3) rfl
      have f0 := Wd.row.frozen 0
      have f1 := Wd.row.frozen 1
      have f2 := Wd.row.frozen 2
      have f3 := Wd.row.frozen 3
      have hfin := hp cv lv (out4 wr.drew w.heap.size 4 0 cv lv) (by rw [← HG3.out]; exact OwnW.out4 hbu.cells Wd.row _ _ _ _) (by rw [← HG3.out]; exact OwnW.out4 hbu.leak Wd.row _ _ _ _) hbu.cl (fun g e c => hbu.kc g e (.inl c)) (fun g e c => hbu.kl g e (.inl c)) (Wd.keep.out4 (.inr (Nat.le_refl _)) _ _ _ _)
      rw [← HG3.out] at hfin
      obtain ⟨co, cc, rfl⟩ := owns_slice hbu.cells
      obtain ⟨lo, lc, rfl⟩ := owns_slice hbu.leak
      have HF : Hid (Post (.returned (.agg #[.int .i64 4, .int .i64 0, .slice co s.cells.length cc, .slice lo s.leak.length lc])) (out4 wr.drew w.heap.size 4 0 (.slice co s.cells.length cc) (.slice lo s.leak.length lc))) := hfin
      clear hfin hp Wd W hbu hrow HG HG3
      unfold out4 at HF
      go_wp2
      refine wp_tail 9 (by kernel_rfl) (by kernel_rfl) ?_
      simp only [List.take_succ_cons, List.take_zero, List.drop_succ_cons, List.drop_zero]
      repeat still_step
      refine wpStill_nil ?_
      go_wp2
      (try simp only [Exit.inBlock, Exit.then])
      refine bodyPost_ret (v := .agg #[.int .i64 4, .int .i64 0, .slice co s.cells.length cc, .slice lo s.leak.length lc]) ?_ rfl ?_
      · simp [results, Try.results83, go_sem, b0, b1, b2, b3]
      · exact HF.out

end Go.Proofs.Ytblhmeidbjigaaa
