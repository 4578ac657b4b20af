/- The reference does an operation. -/
import Derived.Test.YtdjdjkgoelbbdaaRStaToRLet
import Derived.Test.YtdjdjkgoelbbdaaMDoJoined
set_option linter.unusedSimpArgs false
set_option linter.unusedVariables false
namespace Go.Proofs.Ytdjdjkgoelbbdaa
open Go.RowKit

set_option maxRecDepth 100000 in
set_option maxHeartbeats 1000000 in
theorem does_1 (K : Nat → Prop) (t r : Int) (M : Nat) (s : RunD) (a b c : Int) (regs data slots : Int) (w : World) (h : RefS K t r w M s) (hl : s.leak.length ≤ 99999) (hz : Sized s regs data slots) (hg : opGood regs slots ⟨1, a, b, c⟩ = true) (Post : Ending → World → Prop)
    (hp : ∀ w', RefS K t r w' M (stepOp s ⟨1, a, b, c⟩) → Keep (fun g => ¬ K g) w w' → Post (.returned (.tuple #[])) w') :
    Calls Try.prog 102 #[.pointer (some ⟨M, 0, none⟩), .agg #[.int .i64 1, .int .i64 a, .int .i64 b, .int .i64 c]] w Post := by
  obtain ⟨zr, zc, zs⟩ := hz
  simp only [opGood, below, if_true, Bool.and_eq_true, decide_eq_true_eq] at hg
  obtain ⟨⟨ga, gb⟩, gc⟩ := hg
  obtain ⟨a, rfl⟩ := Int.eq_ofNat_of_zero_le ga.1
  have ha : a < s.regs.length := by omega
  simp only [stepOp, if_true] at hp
  have W0 := RWith.start h 78 [.int .i64 1, .int .i64 a, .int .i64 b, .int .i64 c]
  have o0 := W0.row.cell (i := 0) rfl
  clear h
  have o2 := W0.row.cell (i := 2) rfl
  have o3 := W0.row.cell (i := 3) rfl
  have Wd := W0.below ((Below.refl _ _).drew)
  obtain ⟨rv, cv, sv, lv, hrow, hbu, hK⟩ := id Wd.mach
  obtain ⟨g2, rc2, hrv, hgr, hrc2, hrf2⟩ := hbu.regs.at (i := a) ha
  subst hrv
  have m1 := hrow.cell (i := 1) rfl
  have o1 := Wd.row.cell (i := 1) rfl
  have f2 := hrf2 a
  have hai : (0 : Int) ≤ (a : Int) := by omega
  have haj : (a : Int) < (s.regs.length : Int) := by omega
  obtain ⟨q1, q2⟩ := Wd.setReg hrow hbu hgr (i := a) ha (256 * b + c - 32768)
  have HF : Hid (Post (.returned (.tuple #[])) ((w.alloc (.cells #[.int .i64 1, .int .i64 a, .int .i64 b, .int .i64 c] 78)).drew.setCell ⟨g2, a, none⟩ (.int .i64 (256 * b + c - 32768)))) := hp _ (q1) q2
  clear hp q1 q2 Wd hrow hbu W0
  go_enter Try.func102, Try.ntmps102
  go_wp2
  refine wp_tail 8 (by kernel_rfl) (by kernel_rfl) ?_
  simp only [List.take_succ_cons, List.take_zero, List.drop_succ_cons, List.drop_zero]
  repeat still_step
  refine wpStill_nil ?_
  go_wp2
  go_end0
  exact HF.out

set_option maxRecDepth 100000 in
set_option maxHeartbeats 1000000 in
theorem does_14 (K : Nat → Prop) (t r : Int) (M : Nat) (s : RunD) (a b c : Int) (regs data slots : Int) (w : World) (h : RefS K t r w M s) (hl : s.leak.length ≤ 99999) (hz : Sized s regs data slots) (hg : opGood regs slots ⟨14, a, b, c⟩ = true) (Post : Ending → World → Prop)
    (hp : ∀ w', RefS K t r w' M (stepOp s ⟨14, a, b, c⟩) → Keep (fun g => ¬ K g) w w' → Post (.returned (.tuple #[])) w') :
    Calls Try.prog 102 #[.pointer (some ⟨M, 0, none⟩), .agg #[.int .i64 14, .int .i64 a, .int .i64 b, .int .i64 c]] w Post := by
  obtain ⟨zr, zc, zs⟩ := hz
  simp [opGood, below] at hg
  obtain ⟨⟨ga, gb⟩, gc⟩ := hg
  subst gc
  obtain ⟨a, rfl⟩ := Int.eq_ofNat_of_zero_le ga.1
  obtain ⟨b, rfl⟩ := Int.eq_ofNat_of_zero_le gb.1
  have W0 := RWith.start h 78 [.int .i64 14, .int .i64 a, .int .i64 b, .int .i64 0]
  have o0 := W0.row.cell (i := 0) rfl
  clear h
  simp [stepOp] at hp
  have ha : a < s.slots.length := by omega
  have hb : b < s.regs.length := by omega
  have Wd := W0.below ((Below.refl _ _).drew)
  obtain ⟨rv, cv, sv, lv, hrow, hbu, hK⟩ := id Wd.mach
  obtain ⟨g2, rc, hrv, hgr, hrc, hrf⟩ := hbu.slots.at (i := a) ha
  obtain ⟨g1, rc1, hrv1, hgr1, hrc1, hrf1⟩ := hbu.regs.at (i := b) hb
  have e1 : s.regs.getD b 0 = rg s.regs b := by simp [rg]
  rw [e1] at hrc1
  subst hrv
  subst hrv1
  have m3 := hrow.cell (i := 3) rfl
  have m1 := hrow.cell (i := 1) rfl
  have o1 := Wd.row.cell (i := 1) rfl
  have o2 := Wd.row.cell (i := 2) rfl
  have f2 := hrf a
  have hai : (0 : Int) ≤ (a : Int) := by omega
  have haj : (a : Int) < (s.slots.length : Int) := by omega
  have hbi : (0 : Int) ≤ (b : Int) := by omega
  have hbj : (b : Int) < (s.regs.length : Int) := by omega
  obtain ⟨q1, q2⟩ := Wd.setSlot hrow hbu hgr (i := a) ha (rg s.regs b)
  have HF : Hid (Post (.returned (.tuple #[])) ((w.alloc (.cells #[.int .i64 14, .int .i64 a, .int .i64 b, .int .i64 0] 78)).drew.setCell ⟨g2, a, none⟩ (.int .i64 (rg s.regs b)))) := hp _ q1 q2
  clear hp q1 q2 W0 Wd hrow hbu
  go_enter Try.func102, Try.ntmps102
  go_wp2
  refine wp_tail 15 (by kernel_rfl) (by kernel_rfl) ?_
  simp only [List.take_succ_cons, List.take_zero, List.drop_succ_cons, List.drop_zero]
  repeat still_step
  refine wpStill_nil ?_
  go_wp2
  (try simp only [Exit.inBlock, Exit.then])
  refine bodyPost_ret (v := .tuple #[]) ?_ rfl ?_
  · simp [results, Try.results102, go_sem]
  · exact HF.out

set_option maxRecDepth 100000 in
set_option maxHeartbeats 1000000 in
theorem does_2 (K : Nat → Prop) (t r : Int) (M : Nat) (s : RunD) (a b c : Int) (regs data slots : Int) (w : World) (h : RefS K t r w M s) (hl : s.leak.length ≤ 99999) (hz : Sized s regs data slots) (hg : opGood regs slots ⟨2, a, b, c⟩ = true) (Post : Ending → World → Prop)
    (hp : ∀ w', RefS K t r w' M (stepOp s ⟨2, a, b, c⟩) → Keep (fun g => ¬ K g) w w' → Post (.returned (.tuple #[])) w') :
    Calls Try.prog 102 #[.pointer (some ⟨M, 0, none⟩), .agg #[.int .i64 2, .int .i64 a, .int .i64 b, .int .i64 c]] w Post := by
  obtain ⟨zr, zc, zs⟩ := hz
  simp [opGood, below] at hg
  obtain ⟨⟨ga, gb⟩, gc⟩ := hg
  subst gc
  obtain ⟨a, rfl⟩ := Int.eq_ofNat_of_zero_le ga.1
  obtain ⟨b, rfl⟩ := Int.eq_ofNat_of_zero_le gb.1
  have ha : a < s.regs.length := by omega
  have hb : b < s.regs.length := by omega
  simp [stepOp] at hp
  have W0 := RWith.start h 78 [.int .i64 2, .int .i64 a, .int .i64 b, .int .i64 0]
  have o0 := W0.row.cell (i := 0) rfl
  clear h
  obtain ⟨rv, cv, sv, lv, hrow, hbu, hK⟩ := id W0.mach
  obtain ⟨rb, rc, hrv, hrb, hrc, hrf⟩ := hbu.regs.at (i := b) hb
  subst hrv
  have m0 := hrow.cell (i := 1) rfl
  have oo := W0.row.cell (i := 2) rfl
  have hbi : (0 : Int) ≤ (b : Int) := by omega
  have hbj : (b : Int) < (s.regs.length : Int) := by omega
  have hn : s.regs.getD b 0 = rg s.regs b := by simp [rg]
  rw [hn] at hrc
  generalize rg s.regs b = x at *
  have WWd : ∀ d, RWith K t r w ((w.alloc (.cells #[.int .i64 2, .int .i64 a, .int .i64 b, .int .i64 0] 78)).drewN d) M w.heap.size 78 [.int .i64 2, .int .i64 a, .int .i64 b, .int .i64 0] s := fun d => W0.below (below_drewN (Below.refl _ _) d)
  go_enter Try.func102, Try.ntmps102
  go_wp2
  go_quiet (fail)
  generalize hwq : (w.alloc (.cells #[.int .i64 2, .int .i64 a, .int .i64 b, .int .i64 0] 78)).drewN _ = wq
  have Wq : RWith K t r w wq M w.heap.size 78 [.int .i64 2, .int .i64 a, .int .i64 b, .int .i64 0] s := by rw [← hwq]; exact WWd _
  clear WWd hwq m0 oo hrc hrf hrb hK hbi hbj hn W0 hrow hbu
  have Wd := Wq.below ((Below.refl _ _).drew)
  obtain ⟨rv, cv, sv, lv, hrow, hbu, hK⟩ := id Wd.mach
  obtain ⟨g2, rc2, hrv, hgr, hrc2, hrf2⟩ := hbu.regs.at (i := a) ha
  subst hrv
  have m1 := hrow.cell (i := 1) rfl
  have o1 := Wd.row.cell (i := 1) rfl
  have f2 := hrf2 a
  have hai : (0 : Int) ≤ (a : Int) := by omega
  have haj : (a : Int) < (s.regs.length : Int) := by omega
  obtain ⟨q1, q2⟩ := Wd.setReg hrow hbu hgr (i := a) ha (x)
  have HF : Hid (Post (.returned (.tuple #[])) (wq.drew.setCell ⟨g2, a, none⟩ (.int .i64 (x)))) := hp _ (q1) q2
  clear hp q1 q2 Wd hrow hbu Wq
  go_wp2
  refine wp_tail 8 (by kernel_rfl) (by kernel_rfl) ?_
  simp only [List.take_succ_cons, List.take_zero, List.drop_succ_cons, List.drop_zero]
  repeat still_step
  refine wpStill_nil ?_
  go_wp2
  go_end0
  exact HF.out

set_option maxRecDepth 100000 in
set_option maxHeartbeats 1000000 in
theorem does_15 (K : Nat → Prop) (t r : Int) (M : Nat) (s : RunD) (a b c : Int) (regs data slots : Int) (w : World) (h : RefS K t r w M s) (hl : s.leak.length ≤ 99999) (hz : Sized s regs data slots) (hg : opGood regs slots ⟨15, a, b, c⟩ = true) (Post : Ending → World → Prop)
    (hp : ∀ w', RefS K t r w' M (stepOp s ⟨15, a, b, c⟩) → Keep (fun g => ¬ K g) w w' → Post (.returned (.tuple #[])) w') :
    Calls Try.prog 102 #[.pointer (some ⟨M, 0, none⟩), .agg #[.int .i64 15, .int .i64 a, .int .i64 b, .int .i64 c]] w Post := by
  obtain ⟨zr, zc, zs⟩ := hz
  simp [opGood, below] at hg
  obtain ⟨⟨ga, gb⟩, gc⟩ := hg
  subst gc
  obtain ⟨a, rfl⟩ := Int.eq_ofNat_of_zero_le ga.1
  obtain ⟨b, rfl⟩ := Int.eq_ofNat_of_zero_le gb.1
  have ha : a < s.regs.length := by omega
  have hb : b < s.slots.length := by omega
  simp [stepOp] at hp
  have W0 := RWith.start h 78 [.int .i64 15, .int .i64 a, .int .i64 b, .int .i64 0]
  have o0 := W0.row.cell (i := 0) rfl
  clear h
  obtain ⟨rv, cv, sv, lv, hrow, hbu, hK⟩ := id W0.mach
  obtain ⟨rb, rc, hrv, hrb, hrc, hrf⟩ := hbu.slots.at (i := b) hb
  subst hrv
  have m0 := hrow.cell (i := 3) rfl
  have oo := W0.row.cell (i := 2) rfl
  have hbi : (0 : Int) ≤ (b : Int) := by omega
  have hbj : (b : Int) < (s.slots.length : Int) := by omega
  have hn : s.slots.getD b 0 = rg s.slots b := by simp [rg]
  rw [hn] at hrc
  generalize rg s.slots b = x at *
  have WWd : ∀ d, RWith K t r w ((w.alloc (.cells #[.int .i64 15, .int .i64 a, .int .i64 b, .int .i64 0] 78)).drewN d) M w.heap.size 78 [.int .i64 15, .int .i64 a, .int .i64 b, .int .i64 0] s := fun d => W0.below (below_drewN (Below.refl _ _) d)
  go_enter Try.func102, Try.ntmps102
  go_wp2
  go_quiet (fail)
  generalize hwq : (w.alloc (.cells #[.int .i64 15, .int .i64 a, .int .i64 b, .int .i64 0] 78)).drewN _ = wq
  have Wq : RWith K t r w wq M w.heap.size 78 [.int .i64 15, .int .i64 a, .int .i64 b, .int .i64 0] s := by rw [← hwq]; exact WWd _
  clear WWd hwq m0 oo hrc hrf hrb hK hbi hbj hn W0 hrow hbu
  have Wd := Wq.below ((Below.refl _ _).drew)
  obtain ⟨rv, cv, sv, lv, hrow, hbu, hK⟩ := id Wd.mach
  obtain ⟨g2, rc2, hrv, hgr, hrc2, hrf2⟩ := hbu.regs.at (i := a) ha
  subst hrv
  have m1 := hrow.cell (i := 1) rfl
  have o1 := Wd.row.cell (i := 1) rfl
  have f2 := hrf2 a
  have hai : (0 : Int) ≤ (a : Int) := by omega
  have haj : (a : Int) < (s.regs.length : Int) := by omega
  obtain ⟨q1, q2⟩ := Wd.setReg hrow hbu hgr (i := a) ha (x)
  have HF : Hid (Post (.returned (.tuple #[])) (wq.drew.setCell ⟨g2, a, none⟩ (.int .i64 (x)))) := hp _ (q1) q2
  clear hp q1 q2 Wd hrow hbu Wq
  go_wp2
  refine wp_tail 8 (by kernel_rfl) (by kernel_rfl) ?_
  simp only [List.take_succ_cons, List.take_zero, List.drop_succ_cons, List.drop_zero]
  repeat still_step
  refine wpStill_nil ?_
  go_wp2
  go_end0
  exact HF.out

set_option maxRecDepth 100000 in
set_option maxHeartbeats 1000000 in
theorem does_13 (K : Nat → Prop) (t r : Int) (M : Nat) (s : RunD) (a b c : Int) (regs data slots : Int) (w : World) (h : RefS K t r w M s) (hl : s.leak.length ≤ 99999) (hz : Sized s regs data slots) (hg : opGood regs slots ⟨13, a, b, c⟩ = true) (Post : Ending → World → Prop)
    (hp : ∀ w', RefS K t r w' M (stepOp s ⟨13, a, b, c⟩) → Keep (fun g => ¬ K g) w w' → Post (.returned (.tuple #[])) w') :
    Calls Try.prog 102 #[.pointer (some ⟨M, 0, none⟩), .agg #[.int .i64 13, .int .i64 a, .int .i64 b, .int .i64 c]] w Post := by
  obtain ⟨zr, zc, zs⟩ := hz
  simp [opGood, below] at hg
  obtain ⟨⟨ga, gb⟩, gc⟩ := hg
  subst gc
  obtain ⟨a, rfl⟩ := Int.eq_ofNat_of_zero_le ga.1
  obtain ⟨b, rfl⟩ := Int.eq_ofNat_of_zero_le gb.1
  have ha : a < s.regs.length := by omega
  have hb : b < s.regs.length := by omega
  simp [stepOp] at hp
  have W0 := RWith.start h 78 [.int .i64 13, .int .i64 a, .int .i64 b, .int .i64 0]
  have o0 := W0.row.cell (i := 0) rfl
  clear h
  obtain ⟨rv, cv, sv, lv, hrow, hbu, hK⟩ := id W0.mach
  obtain ⟨rb, rc, hrv, hrb, hrc, hrf⟩ := hbu.regs.at (i := a) ha
  subst hrv
  have m0 := hrow.cell (i := 1) rfl
  have oo := W0.row.cell (i := 1) rfl
  have hbi : (0 : Int) ≤ (a : Int) := by omega
  have hbj : (a : Int) < (s.regs.length : Int) := by omega
  have hn : s.regs.getD a 0 = rg s.regs a := by simp [rg]
  rw [hn] at hrc
  generalize rg s.regs a = n at *
  have WWd : ∀ d, RWith K t r w ((w.alloc (.cells #[.int .i64 13, .int .i64 a, .int .i64 b, .int .i64 0] 78)).drewN d) M w.heap.size 78 [.int .i64 13, .int .i64 a, .int .i64 b, .int .i64 0] s := fun d => W0.below (below_drewN (Below.refl _ _) d)
  go_enter Try.func102, Try.ntmps102
  go_wp2
  go_quiet (fail)
  generalize hwq : (w.alloc (.cells #[.int .i64 13, .int .i64 a, .int .i64 b, .int .i64 0] 78)).drewN _ = wq
  have Wq : RWith K t r w wq M w.heap.size 78 [.int .i64 13, .int .i64 a, .int .i64 b, .int .i64 0] s := by rw [← hwq]; exact WWd _
  clear WWd hwq m0 oo hrc hrf hrb hK hbi hbj hn W0 hrow hbu
  go_wp2_with fail
  refine rCell_cps _ t r M s n wq Wq.mach (by omega) _ ?_ ?_
  · intro hin w2 hm2 hk2
    rw [if_pos hin] at hp
    obtain ⟨hn0, hn1⟩ := hin
    obtain ⟨j, rfl⟩ := Int.eq_ofNat_of_zero_le hn0
    have W2 := Wq.next hm2 hk2
    clear Wq hm2 hk2
    have Wd := W2.below ((Below.refl w2.heap.size w2).drew)
    obtain ⟨rv, cv, sv, lv, hrow, hbu, hK⟩ := id Wd.mach
    obtain ⟨g1, cc, hcv, hgc, hcc, hcf⟩ := hbu.cells.at (i := j) (by show j < s.cells.length; omega)
    obtain ⟨g2, rc, hrv, hgr, hrc, hrf⟩ := hbu.regs.at (i := b) hb
    subst hcv hrv
    have e1 : (s.out j).regs.getD b 0 = rg s.regs b := by simp [rg, RunD.out]
    rw [e1] at hrc
    have m1 := hrow.cell (i := 1) rfl
    have m2 := hrow.cell (i := 2) rfl
    have o2 := Wd.row.cell (i := 2) rfl
    have f2 := hcf j
    have hai : (0 : Int) ≤ (b : Int) := by omega
    have haj : (b : Int) < ((s.out j).regs.length : Int) := by show (b : Int) < (s.regs.length : Int); omega
    have hji : (0 : Int) ≤ (j : Int) := by omega
    have hjj : (j : Int) < ((s.out j).cells.length : Int) := hn1
    obtain ⟨q1, q2⟩ := Wd.setMem hrow hbu hgc (i := j) (by show j < s.cells.length; omega) (rg s.regs b)
    have HF : Hid (Post (.returned (.tuple #[])) (w2.drew.setCell ⟨g1, j, none⟩ (.int .i64 (rg s.regs b)))) := hp _ q1 q2
    clear hp q1 q2 W2 Wd hrow hbu
    go_wp2
    refine wp_tail 14 (by kernel_rfl) (by kernel_rfl) ?_
    simp only [List.take_succ_cons, List.take_zero, List.drop_succ_cons, List.drop_zero]
    repeat still_step
    refine wpStill_nil ?_
    go_wp2
    (try simp only [Exit.inBlock, Exit.then])
    refine bodyPost_ret (v := .tuple #[]) ?_ rfl ?_
    · simp [results, Try.results102, go_sem]
    · exact HF.out
  · intro hin w2 hm2 hk2
    rw [if_neg hin] at hp
    have W2 := Wq.next hm2 hk2
    have HF : Hid (Post (.returned (.tuple #[])) w2) := hp _ W2.done W2.keep
    clear hp W2 Wq hm2 hk2
    go_wp2
    (try simp only [Exit.inBlock, Exit.then])
    refine bodyPost_ret (v := .tuple #[]) ?_ rfl ?_
    · simp [results, Try.results102, go_sem]
    · exact HF.out

set_option maxRecDepth 100000 in
set_option maxHeartbeats 1000000 in
theorem does_12 (K : Nat → Prop) (t r : Int) (M : Nat) (s : RunD) (a b c : Int) (regs data slots : Int) (w : World) (h : RefS K t r w M s) (hl : s.leak.length ≤ 99999) (hz : Sized s regs data slots) (hg : opGood regs slots ⟨12, a, b, c⟩ = true) (Post : Ending → World → Prop)
    (hp : ∀ w', RefS K t r w' M (stepOp s ⟨12, a, b, c⟩) → Keep (fun g => ¬ K g) w w' → Post (.returned (.tuple #[])) w') :
    Calls Try.prog 102 #[.pointer (some ⟨M, 0, none⟩), .agg #[.int .i64 12, .int .i64 a, .int .i64 b, .int .i64 c]] w Post := by
  obtain ⟨zr, zc, zs⟩ := hz
  simp [opGood, below] at hg
  obtain ⟨⟨ga, gb⟩, gc⟩ := hg
  subst gc
  obtain ⟨a, rfl⟩ := Int.eq_ofNat_of_zero_le ga.1
  obtain ⟨b, rfl⟩ := Int.eq_ofNat_of_zero_le gb.1
  have ha : a < s.regs.length := by omega
  have hb : b < s.regs.length := by omega
  simp [stepOp] at hp
  have W0 := RWith.start h 78 [.int .i64 12, .int .i64 a, .int .i64 b, .int .i64 0]
  have o0 := W0.row.cell (i := 0) rfl
  clear h
  obtain ⟨rv, cv, sv, lv, hrow, hbu, hK⟩ := id W0.mach
  obtain ⟨rb, rc, hrv, hrb, hrc, hrf⟩ := hbu.regs.at (i := b) hb
  subst hrv
  have m0 := hrow.cell (i := 1) rfl
  have oo := W0.row.cell (i := 2) rfl
  have hbi : (0 : Int) ≤ (b : Int) := by omega
  have hbj : (b : Int) < (s.regs.length : Int) := by omega
  have hn : s.regs.getD b 0 = rg s.regs b := by simp [rg]
  rw [hn] at hrc
  generalize rg s.regs b = n at *
  have WWd : ∀ d, RWith K t r w ((w.alloc (.cells #[.int .i64 12, .int .i64 a, .int .i64 b, .int .i64 0] 78)).drewN d) M w.heap.size 78 [.int .i64 12, .int .i64 a, .int .i64 b, .int .i64 0] s := fun d => W0.below (below_drewN (Below.refl _ _) d)
  go_enter Try.func102, Try.ntmps102
  go_wp2
  go_quiet (fail)
  generalize hwq : (w.alloc (.cells #[.int .i64 12, .int .i64 a, .int .i64 b, .int .i64 0] 78)).drewN _ = wq
  have Wq : RWith K t r w wq M w.heap.size 78 [.int .i64 12, .int .i64 a, .int .i64 b, .int .i64 0] s := by rw [← hwq]; exact WWd _
  clear WWd hwq m0 oo hrc hrf hrb hK hbi hbj hn W0 hrow hbu
  go_wp2_with fail
  refine rCell_cps _ t r M s n wq Wq.mach (by omega) _ ?_ ?_
  · intro hin w2 hm2 hk2
    rw [if_pos hin] at hp
    obtain ⟨hn0, hn1⟩ := hin
    obtain ⟨j, rfl⟩ := Int.eq_ofNat_of_zero_le hn0
    have W2 := Wq.next hm2 hk2
    clear Wq hm2 hk2
    obtain ⟨rv, cv, sv, lv, hrow, hbu, hK⟩ := id W2.mach
    obtain ⟨g1, cc, hcv, hgc, hcc, hcf⟩ := hbu.cells.at (i := j) (by show j < s.cells.length; omega)
    subst hcv
    have e1 : (s.out j).cells.getD j 0 = rg s.cells j := by simp [rg, RunD.out]
    rw [e1] at hcc
    have m2 := hrow.cell (i := 2) rfl
    have hji : (0 : Int) ≤ (j : Int) := by omega
    have hjj : (j : Int) < ((s.out j).cells.length : Int) := hn1
    clear hrow hbu
    have Wd := W2.below ((Below.refl _ _).drew)
    obtain ⟨rv, cv, sv, lv, hrow, hbu, hK⟩ := id Wd.mach
    obtain ⟨g2, rc2, hrv, hgr, hrc2, hrf2⟩ := hbu.regs.at (i := a) ha
    subst hrv
    have m1 := hrow.cell (i := 1) rfl
    have o1 := Wd.row.cell (i := 1) rfl
    have f2 := hrf2 a
    have hai : (0 : Int) ≤ (a : Int) := by omega
    have haj : (a : Int) < (s.regs.length : Int) := by omega
    obtain ⟨q1, q2⟩ := Wd.setReg hrow hbu hgr (i := a) ha (rg s.cells j)
    have HF : Hid (Post (.returned (.tuple #[])) (w2.drew.setCell ⟨g2, a, none⟩ (.int .i64 (rg s.cells j)))) := hp _ (q1) q2
    clear hp q1 q2 Wd hrow hbu W2
    have haj' : (a : Int) < ((s.out j).regs.length : Int) := haj
    generalize rg s.cells j = x at *
    go_wp2
    refine wp_tail 8 (by kernel_rfl) (by kernel_rfl) ?_
    simp only [List.take_succ_cons, List.take_zero, List.drop_succ_cons, List.drop_zero]
    repeat still_step
    refine wpStill_nil ?_
    go_wp2
    go_end0
    exact HF.out
  · intro hin w2 hm2 hk2
    rw [if_neg hin] at hp
    have W2 := Wq.next hm2 hk2
    have HF : Hid (Post (.returned (.tuple #[])) w2) := hp _ W2.done W2.keep
    clear hp W2 Wq hm2 hk2
    go_wp2
    (try simp only [Exit.inBlock, Exit.then])
    refine bodyPost_ret (v := .tuple #[]) ?_ rfl ?_
    · simp [results, Try.results102, go_sem]
    · exact HF.out

end Go.Proofs.Ytdjdjkgoelbbdaa
