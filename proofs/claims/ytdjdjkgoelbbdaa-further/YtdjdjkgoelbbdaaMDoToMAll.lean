/- The machine does an operation; the operations of a block; where it goes on. -/
import Derived.Test.YtdjdjkgoelbbdaaMStoJoined
set_option linter.unusedSimpArgs false
set_option linter.unusedVariables false
namespace Go.Proofs.Ytdjdjkgoelbbdaa
open Go.RowKit

theorem opGood_kind {regs slots : Int} {o : OpD} (h : opGood regs slots o = true) : 1 ≤ o.kind ∧ o.kind ≤ 15 := by
  unfold opGood at h
  repeat' split at h
  all_goals first | omega | simp at h

set_option maxRecDepth 100000 in
set_option maxHeartbeats 1000000 in
theorem do_1 (K : Nat → Prop) (M : Nat) (s : RunD) (a b c : Int) (regs data slots : Int) (w : World) (h : Mach K w M s) (hl : s.leak.length ≤ 99999) (hz : Sized s regs data slots) (hg : opGood regs slots ⟨1, a, b, c⟩ = true) (Post : Ending → World → Prop)
    (hp : ∀ w', Mach K w' M (stepOp s ⟨1, a, b, c⟩) → Keep (fun g => ¬ K g) w w' → Post (.returned (.tuple #[])) w') :
    Calls Try.prog 111 #[.pointer (some ⟨M, 0, none⟩), .agg #[.int .i64 1, .int .i64 a, .int .i64 b, .int .i64 c]] w Post := by
  obtain ⟨zr, zc, zs⟩ := hz
  have W0 := With.start h 78 [.int .i64 1, .int .i64 a, .int .i64 b, .int .i64 c]
  have o0 := W0.row.cell (i := 0) rfl
  clear h
  simp only [opGood, below, if_true, Bool.and_eq_true, decide_eq_true_eq] at hg
  obtain ⟨⟨ga, gb⟩, gc⟩ := hg
  obtain ⟨a, rfl⟩ := Int.eq_ofNat_of_zero_le ga.1
  simp only [stepOp, if_true] at hp
  have ha : a < s.regs.length := by omega
  have Wd := W0.below ((Below.refl _ _).drew)
  obtain ⟨rv, cv, sv, lv, hrow, hbu, hK⟩ := id Wd.mach
  obtain ⟨g2, rc, hrv, hgr, hrc, hrf⟩ := hbu.regs.at (i := a) ha
  subst hrv
  have m0 := hrow.cell (i := 0) rfl
  have o1 := Wd.row.cell (i := 1) rfl
  have o2 := Wd.row.cell (i := 2) rfl
  have o3 := Wd.row.cell (i := 3) rfl
  have f2 := hrf a
  have hai : (0 : Int) ≤ (a : Int) := by omega
  have haj : (a : Int) < (s.regs.length : Int) := by omega
  obtain ⟨q1, q2⟩ := Wd.setReg hrow hbu hgr (i := a) ha (256 * b + c - 32768)
  have HF : Hid (Post (.returned (.tuple #[])) ((w.alloc (.cells #[.int .i64 1, .int .i64 a, .int .i64 b, .int .i64 c] 78)).drew.setCell ⟨g2, a, none⟩ (.int .i64 (256 * b + c - 32768)))) := hp _ q1 q2
  have hof := ofConst_any b c (w.alloc (.cells #[.int .i64 1, .int .i64 a, .int .i64 b, .int .i64 c] 78)).drew gb gc
  clear hp q1 q2 W0 Wd hrow hbu
  go_enter Try.func111, Try.ntmps111
  go_wp2
  refine wp_tail 12 (by kernel_rfl) (by kernel_rfl) ?_
  simp only [List.take_succ_cons, List.take_zero, List.drop_succ_cons, List.drop_zero]
  repeat still_step
  still_call (hof.mono (fun e w' h => ⟨h.1, h.2.symm⟩))
  repeat still_step
  refine wpStill_nil ?_
  go_wp2
  go_end0
  exact HF.out

set_option maxRecDepth 100000 in
set_option maxHeartbeats 1000000 in
theorem do_2 (K : Nat → Prop) (M : Nat) (s : RunD) (a b c : Int) (regs data slots : Int) (w : World) (h : Mach K w M s) (hl : s.leak.length ≤ 99999) (hz : Sized s regs data slots) (hg : opGood regs slots ⟨2, a, b, c⟩ = true) (Post : Ending → World → Prop)
    (hp : ∀ w', Mach K w' M (stepOp s ⟨2, a, b, c⟩) → Keep (fun g => ¬ K g) w w' → Post (.returned (.tuple #[])) w') :
    Calls Try.prog 111 #[.pointer (some ⟨M, 0, none⟩), .agg #[.int .i64 2, .int .i64 a, .int .i64 b, .int .i64 c]] w Post := by
  obtain ⟨zr, zc, zs⟩ := hz
  have W0 := With.start h 78 [.int .i64 2, .int .i64 a, .int .i64 b, .int .i64 c]
  have o0 := W0.row.cell (i := 0) rfl
  clear h
  simp [opGood, below] at hg
  obtain ⟨⟨ga, gb⟩, gc⟩ := hg
  subst gc
  obtain ⟨a, rfl⟩ := Int.eq_ofNat_of_zero_le ga.1
  obtain ⟨b, rfl⟩ := Int.eq_ofNat_of_zero_le gb.1
  simp [stepOp] at hp
  have ha : a < s.regs.length := by omega
  have hb : b < s.regs.length := by omega
  have Wd := W0.below ((Below.refl _ _).drew)
  obtain ⟨rv, cv, sv, lv, hrow, hbu, hK⟩ := id Wd.mach
  obtain ⟨g2, rc, hrv, hgr, hrc, hrf⟩ := hbu.regs.at (i := a) ha
  obtain ⟨g1, rc1, hrv1, hgr1, hrc1, hrf1⟩ := hbu.regs.at (i := b) hb
  have e1 : s.regs.getD b 0 = rg s.regs b := by simp [rg]
  rw [e1] at hrc1
  have m0 := hrow.cell (i := 0) rfl
  have m1 := hrow.cell (i := 0) rfl
  have o1 := Wd.row.cell (i := 1) rfl
  have o2 := Wd.row.cell (i := 2) rfl
  have f2 := hrf a
  have hai : (0 : Int) ≤ (a : Int) := by omega
  have haj : (a : Int) < (s.regs.length : Int) := by omega
  have hbi : (0 : Int) ≤ (b : Int) := by omega
  have hbj : (b : Int) < (s.regs.length : Int) := by omega
  obtain ⟨q1, q2⟩ := Wd.setReg hrow hbu hgr (i := a) ha (rg s.regs b)
  have HF : Hid (Post (.returned (.tuple #[])) ((w.alloc (.cells #[.int .i64 2, .int .i64 a, .int .i64 b, .int .i64 0] 78)).drew.setCell ⟨g2, a, none⟩ (.int .i64 (rg s.regs b)))) := hp _ q1 q2
  rw [hrv] at hrv1 m0 m1
  simp only [Value.slice.injEq, Option.some.injEq, Addr.mk.injEq, true_and, and_true] at hrv1
  obtain ⟨rfl, rfl⟩ := hrv1
  clear hp q1 q2 W0 Wd hrow hbu
  go_enter Try.func111, Try.ntmps111
  go_wp2
  refine wp_tail 15 (by kernel_rfl) (by kernel_rfl) ?_
  simp only [List.take_succ_cons, List.take_zero, List.drop_succ_cons, List.drop_zero]
  repeat still_step
  refine wpStill_nil ?_
  go_wp2
  go_end0
  exact HF.out

set_option maxRecDepth 100000 in
set_option maxHeartbeats 1000000 in
theorem do_12 (K : Nat → Prop) (M : Nat) (s : RunD) (a b c : Int) (regs data slots : Int) (w : World) (h : Mach K w M s) (hl : s.leak.length ≤ 99999) (hz : Sized s regs data slots) (hg : opGood regs slots ⟨12, a, b, c⟩ = true) (Post : Ending → World → Prop)
    (hp : ∀ w', Mach K w' M (stepOp s ⟨12, a, b, c⟩) → Keep (fun g => ¬ K g) w w' → Post (.returned (.tuple #[])) w') :
    Calls Try.prog 111 #[.pointer (some ⟨M, 0, none⟩), .agg #[.int .i64 12, .int .i64 a, .int .i64 b, .int .i64 c]] w Post := by
  obtain ⟨zr, zc, zs⟩ := hz
  have W0 := With.start h 78 [.int .i64 12, .int .i64 a, .int .i64 b, .int .i64 c]
  have o0 := W0.row.cell (i := 0) rfl
  clear h
  simp [opGood, below] at hg
  obtain ⟨⟨ga, gb⟩, gc⟩ := hg
  subst gc
  obtain ⟨a, rfl⟩ := Int.eq_ofNat_of_zero_le ga.1
  obtain ⟨b, rfl⟩ := Int.eq_ofNat_of_zero_le gb.1
  have HP : Hid (∀ w', Mach K w' M (stepOp s ⟨12, a, b, 0⟩) → Keep (fun g => ¬ K g) w w' → Post (.returned (.tuple #[])) w') := hp
  clear hp
  have o1 := W0.row.cell (i := 1) rfl
  have o2 := W0.row.cell (i := 2) rfl
  have o3 := W0.row.cell (i := 3) rfl
  go_enter Try.func111, Try.ntmps111
  go_wp2_with fail
  refine load_cps _ M s 12 0 a b _ W0.mach (by omega) (by omega) (by omega) _ ?_
  intro w2 hm hk
  have W2 := W0.next (s' := stepOp s ⟨12, a, b, 0⟩) (by simpa [stepOp] using hm) hk
  have HF : Hid (Post (.returned (.tuple #[])) w2) := HP.out _ W2.done W2.keep
  clear HP W0 W2 hm hk
  go_wp2
  go_end0
  exact HF.out

set_option maxRecDepth 100000 in
set_option maxHeartbeats 1000000 in
theorem do_13 (K : Nat → Prop) (M : Nat) (s : RunD) (a b c : Int) (regs data slots : Int) (w : World) (h : Mach K w M s) (hl : s.leak.length ≤ 99999) (hz : Sized s regs data slots) (hg : opGood regs slots ⟨13, a, b, c⟩ = true) (Post : Ending → World → Prop)
    (hp : ∀ w', Mach K w' M (stepOp s ⟨13, a, b, c⟩) → Keep (fun g => ¬ K g) w w' → Post (.returned (.tuple #[])) w') :
    Calls Try.prog 111 #[.pointer (some ⟨M, 0, none⟩), .agg #[.int .i64 13, .int .i64 a, .int .i64 b, .int .i64 c]] w Post := by
  obtain ⟨zr, zc, zs⟩ := hz
  have W0 := With.start h 78 [.int .i64 13, .int .i64 a, .int .i64 b, .int .i64 c]
  have o0 := W0.row.cell (i := 0) rfl
  clear h
  simp [opGood, below] at hg
  obtain ⟨⟨ga, gb⟩, gc⟩ := hg
  subst gc
  obtain ⟨a, rfl⟩ := Int.eq_ofNat_of_zero_le ga.1
  obtain ⟨b, rfl⟩ := Int.eq_ofNat_of_zero_le gb.1
  have HP : Hid (∀ w', Mach K w' M (stepOp s ⟨13, a, b, 0⟩) → Keep (fun g => ¬ K g) w w' → Post (.returned (.tuple #[])) w') := hp
  clear hp
  have o1 := W0.row.cell (i := 1) rfl
  have o2 := W0.row.cell (i := 2) rfl
  have o3 := W0.row.cell (i := 3) rfl
  go_enter Try.func111, Try.ntmps111
  go_wp2_with fail
  refine store_cps _ M s 13 0 a b _ W0.mach (by omega) (by omega) (by omega) _ ?_
  intro w2 hm hk
  have W2 := W0.next (s' := stepOp s ⟨13, a, b, 0⟩) (by simpa [stepOp] using hm) hk
  have HF : Hid (Post (.returned (.tuple #[])) w2) := HP.out _ W2.done W2.keep
  clear HP W0 W2 hm hk
  go_wp2
  go_end0
  exact HF.out

set_option maxRecDepth 100000 in
set_option maxHeartbeats 1000000 in
theorem do_14 (K : Nat → Prop) (M : Nat) (s : RunD) (a b c : Int) (regs data slots : Int) (w : World) (h : Mach K w M s) (hl : s.leak.length ≤ 99999) (hz : Sized s regs data slots) (hg : opGood regs slots ⟨14, a, b, c⟩ = true) (Post : Ending → World → Prop)
    (hp : ∀ w', Mach K w' M (stepOp s ⟨14, a, b, c⟩) → Keep (fun g => ¬ K g) w w' → Post (.returned (.tuple #[])) w') :
    Calls Try.prog 111 #[.pointer (some ⟨M, 0, none⟩), .agg #[.int .i64 14, .int .i64 a, .int .i64 b, .int .i64 c]] w Post := by
  obtain ⟨zr, zc, zs⟩ := hz
  have W0 := With.start h 78 [.int .i64 14, .int .i64 a, .int .i64 b, .int .i64 c]
  have o0 := W0.row.cell (i := 0) rfl
  clear h
  simp [opGood, below] at hg
  obtain ⟨⟨ga, gb⟩, gc⟩ := hg
  subst gc
  obtain ⟨a, rfl⟩ := Int.eq_ofNat_of_zero_le ga.1
  obtain ⟨b, rfl⟩ := Int.eq_ofNat_of_zero_le gb.1
  simp [stepOp] at hp
  have ha : a < s.slots.length := by omega
  have hb : b < s.regs.length := by omega
  have Wd := W0.below ((Below.refl _ _).drew)
  obtain ⟨rv, cv, sv, lv, hrow, hbu, hK⟩ := id Wd.mach
  obtain ⟨g2, rc, hrv, hgr, hrc, hrf⟩ := hbu.slots.at (i := a) ha
  obtain ⟨g1, rc1, hrv1, hgr1, hrc1, hrf1⟩ := hbu.regs.at (i := b) hb
  have e1 : s.regs.getD b 0 = rg s.regs b := by simp [rg]
  rw [e1] at hrc1
  have m0 := hrow.cell (i := 2) rfl
  have m1 := hrow.cell (i := 0) rfl
  have o1 := Wd.row.cell (i := 1) rfl
  have o2 := Wd.row.cell (i := 2) rfl
  have f2 := hrf a
  have hai : (0 : Int) ≤ (a : Int) := by omega
  have haj : (a : Int) < (s.slots.length : Int) := by omega
  have hbi : (0 : Int) ≤ (b : Int) := by omega
  have hbj : (b : Int) < (s.regs.length : Int) := by omega
  obtain ⟨q1, q2⟩ := Wd.setSlot hrow hbu hgr (i := a) ha (rg s.regs b)
  have HF : Hid (Post (.returned (.tuple #[])) ((w.alloc (.cells #[.int .i64 14, .int .i64 a, .int .i64 b, .int .i64 0] 78)).drew.setCell ⟨g2, a, none⟩ (.int .i64 (rg s.regs b)))) := hp _ q1 q2
  subst hrv
  subst hrv1
  clear hp q1 q2 W0 Wd hrow hbu
  go_enter Try.func111, Try.ntmps111
  go_wp2
  refine wp_tail 15 (by kernel_rfl) (by kernel_rfl) ?_
  simp only [List.take_succ_cons, List.take_zero, List.drop_succ_cons, List.drop_zero]
  repeat still_step
  refine wpStill_nil ?_
  go_wp2
  go_end0
  exact HF.out

set_option maxRecDepth 100000 in
set_option maxHeartbeats 1000000 in
theorem do_15 (K : Nat → Prop) (M : Nat) (s : RunD) (a b c : Int) (regs data slots : Int) (w : World) (h : Mach K w M s) (hl : s.leak.length ≤ 99999) (hz : Sized s regs data slots) (hg : opGood regs slots ⟨15, a, b, c⟩ = true) (Post : Ending → World → Prop)
    (hp : ∀ w', Mach K w' M (stepOp s ⟨15, a, b, c⟩) → Keep (fun g => ¬ K g) w w' → Post (.returned (.tuple #[])) w') :
    Calls Try.prog 111 #[.pointer (some ⟨M, 0, none⟩), .agg #[.int .i64 15, .int .i64 a, .int .i64 b, .int .i64 c]] w Post := by
  obtain ⟨zr, zc, zs⟩ := hz
  have W0 := With.start h 78 [.int .i64 15, .int .i64 a, .int .i64 b, .int .i64 c]
  have o0 := W0.row.cell (i := 0) rfl
  clear h
  simp [opGood, below] at hg
  obtain ⟨⟨ga, gb⟩, gc⟩ := hg
  subst gc
  obtain ⟨a, rfl⟩ := Int.eq_ofNat_of_zero_le ga.1
  obtain ⟨b, rfl⟩ := Int.eq_ofNat_of_zero_le gb.1
  simp [stepOp] at hp
  have ha : a < s.regs.length := by omega
  have hb : b < s.slots.length := by omega
  have Wd := W0.below ((Below.refl _ _).drew)
  obtain ⟨rv, cv, sv, lv, hrow, hbu, hK⟩ := id Wd.mach
  obtain ⟨g2, rc, hrv, hgr, hrc, hrf⟩ := hbu.regs.at (i := a) ha
  obtain ⟨g1, rc1, hrv1, hgr1, hrc1, hrf1⟩ := hbu.slots.at (i := b) hb
  have e1 : s.slots.getD b 0 = rg s.slots b := by simp [rg]
  rw [e1] at hrc1
  have m0 := hrow.cell (i := 0) rfl
  have m1 := hrow.cell (i := 2) rfl
  have o1 := Wd.row.cell (i := 1) rfl
  have o2 := Wd.row.cell (i := 2) rfl
  have f2 := hrf a
  have hai : (0 : Int) ≤ (a : Int) := by omega
  have haj : (a : Int) < (s.regs.length : Int) := by omega
  have hbi : (0 : Int) ≤ (b : Int) := by omega
  have hbj : (b : Int) < (s.slots.length : Int) := by omega
  obtain ⟨q1, q2⟩ := Wd.setReg hrow hbu hgr (i := a) ha (rg s.slots b)
  have HF : Hid (Post (.returned (.tuple #[])) ((w.alloc (.cells #[.int .i64 15, .int .i64 a, .int .i64 b, .int .i64 0] 78)).drew.setCell ⟨g2, a, none⟩ (.int .i64 (rg s.slots b)))) := hp _ q1 q2
  subst hrv
  subst hrv1
  clear hp q1 q2 W0 Wd hrow hbu
  go_enter Try.func111, Try.ntmps111
  go_wp2
  refine wp_tail 15 (by kernel_rfl) (by kernel_rfl) ?_
  simp only [List.take_succ_cons, List.take_zero, List.drop_succ_cons, List.drop_zero]
  repeat still_step
  refine wpStill_nil ?_
  go_wp2
  go_end0
  exact HF.out

set_option maxRecDepth 100000 in
set_option maxHeartbeats 1000000 in
theorem do_cps (K : Nat → Prop) (M : Nat) (s : RunD) (o : OpD) (regs data slots : Int) (w : World) (h : Mach K w M s) (hl : s.leak.length ≤ 99999) (hz : Sized s regs data slots) (hg : opGood regs slots o = true) (Post : Ending → World → Prop)
    (hp : ∀ w', Mach K w' M (stepOp s o) → Keep (fun g => ¬ K g) w w' → Post (.returned (.tuple #[])) w') :
    Calls Try.prog 111 #[.pointer (some ⟨M, 0, none⟩), .agg #[.int .i64 o.kind, .int .i64 o.a, .int .i64 o.b, .int .i64 o.c]] w Post := by
  have hkk := opGood_kind hg
  obtain ⟨k, a, b, c⟩ := o
  simp only at hkk ⊢
  by_cases h1 : k = 1
  · subst h1
    exact do_1 K M s a b c regs data slots w h hl hz hg Post hp
  by_cases h2 : k = 2
  · subst h2
    exact do_2 K M s a b c regs data slots w h hl hz hg Post hp
  by_cases h12 : k = 12
  · subst h12
    exact do_12 K M s a b c regs data slots w h hl hz hg Post hp
  by_cases h13 : k = 13
  · subst h13
    exact do_13 K M s a b c regs data slots w h hl hz hg Post hp
  by_cases h14 : k = 14
  · subst h14
    exact do_14 K M s a b c regs data slots w h hl hz hg Post hp
  by_cases h15 : k = 15
  · subst h15
    exact do_15 K M s a b c regs data slots w h hl hz hg Post hp
  obtain ⟨zr, zc, zs⟩ := hz
  have W0 := With.start h 78 [.int .i64 k, .int .i64 a, .int .i64 b, .int .i64 c]
  have o0 := W0.row.cell (i := 0) rfl
  clear h
  have hk3 : 3 ≤ k ∧ k ≤ 11 := by omega
  have hgg : (0 ≤ a ∧ a < regs) ∧ (0 ≤ b ∧ b < regs) ∧ 0 ≤ c ∧ c < regs := by
    unfold opGood at hg
    rw [if_neg (by simpa using h1), if_pos (by simpa using hk3)] at hg
    simp [below] at hg
    omega
  clear hg
  obtain ⟨ga, gb, gc⟩ := hgg
  obtain ⟨a, rfl⟩ := Int.eq_ofNat_of_zero_le ga.1
  obtain ⟨b, rfl⟩ := Int.eq_ofNat_of_zero_le gb.1
  obtain ⟨c, rfl⟩ := Int.eq_ofNat_of_zero_le gc.1
  have HP : Hid (∀ w', Mach K w' M (stepOp s ⟨k, a, b, c⟩) → Keep (fun g => ¬ K g) w w' → Post (.returned (.tuple #[])) w') := hp
  clear hp
  have o1 := W0.row.cell (i := 1) rfl
  have o2 := W0.row.cell (i := 2) rfl
  have o3 := W0.row.cell (i := 3) rfl
  have e1 : (k == 1) = false := by simp [h1]
  have e2 : (k == 2) = false := by simp [h2]
  have e12 : (k == 12) = false := by simp [h12]
  have e13 : (k == 13) = false := by simp [h13]
  have e14 : (k == 14) = false := by simp [h14]
  have e15 : (k == 15) = false := by simp [h15]
  go_enter Try.func111, Try.ntmps111
  go_wp2_with fail
  refine compute_cps _ M s k a b c _ W0.mach (by omega) hk3 (by omega) (by omega) (by omega) _ ?_
  intro w2 hm hk
  have W2 := W0.next (s' := stepOp s ⟨k, a, b, c⟩) (by
    unfold stepOp
    simp only [h1, h2, h12, h13, h14, h15, if_false]
    by_cases h11 : k = 11
    · subst h11; simpa using hm
    · simpa [h11] using hm) hk
  have HF : Hid (Post (.returned (.tuple #[])) w2) := HP.out _ W2.done W2.keep
  clear HP W0 W2 hm hk
  go_wp2
  go_end0
  exact HF.out

end Go.Proofs.Ytdjdjkgoelbbdaa

/- The machine does the operations of a block; where it goes on. -/
set_option linter.unusedSimpArgs false
set_option linter.unusedVariables false
namespace Go.Proofs.Ytdjdjkgoelbbdaa
open Go.RowKit

theorem opsGood_at {regs slots : Int} {l : List OpD} (h : opsGood regs slots l = true) {k : Nat} (hk : k < l.length) : opGood regs slots ⟨okind l k, oa l k, ob l k, oc l k⟩ = true := by
  have := List.all_eq_true.1 h (l.getD k oz) (getD_mem' hk)
  exact this

set_option maxRecDepth 100000 in
set_option maxHeartbeats 2000000 in
theorem doAll_cps (K : Nat → Prop) (M : Nat) (s : RunD) (l : List OpD) (v : Value) (regs data slots : Int) (w : World) (h : Mach K w M s) (hl : s.leak.length + 2 * l.length ≤ 99999) (hz : Sized s regs data slots) (hg : opsGood regs slots l = true)
    (hrd : ∀ w', Keep (fun g => ¬ K g) w w' → RdOps w' v l) (Post : Ending → World → Prop)
    (hp : ∀ w', Mach K w' M (doOps l s) → Keep (fun g => ¬ K g) w w' → Post (.returned (.tuple #[])) w') :
    Calls Try.prog 105 #[.pointer (some ⟨M, 0, none⟩), v] w Post := by
  obtain ⟨ao, cap, rfl, hll, _⟩ := hrd w (Keep.refl _ _)
  go_enter Try.func105, Try.ntmps105
  go_wp2
  go_loopw [4] (fun i wr => ∃ (k : Nat), k ≤ l.length ∧ i = .int .i64 k ∧ Mach K wr M (doOps (l.take k) s) ∧ Keep (fun g => ¬ K g) w wr)
    (fun i _ => l.length - (intOf i).toNat)
  case atStart => exact ⟨0, Nat.zero_le _, rfl, h, Keep.refl _ _⟩
  case round =>
    clear h
    obtain ⟨k, hk, rfl, hm, hke⟩ := hrel
    have hlk : (doOps (l.take k) s).leak.length ≤ 99999 := by
      have := doOps_leak (l.take k) s
      have : (l.take k).length ≤ l.length := by rw [List.length_take]; omega
      omega
    have hzk : Sized (doOps (l.take k) s) regs data slots := hz.doOps _
    by_cases hlt : k < l.length
    · obtain ⟨rv, cv, sv, lv, hrow, hbu, hK⟩ := id hm
      have m4 := hrow.cell (i := 4) rfl
      by_cases ht : (doOps (l.take k) s).trap = 0
      · rw [ht] at m4
        obtain ⟨ao', cap', e0, _, hc⟩ := hrd wr hke
        simp only [Value.slice.injEq, true_and] at e0
        obtain ⟨rfl, rfl⟩ := e0
        obtain ⟨b, off, rfl, c0, c1, c2, c3⟩ := hc k hlt
        clear hc hrow hbu
        go_wp2_with fail
        refine do_cps K M _ ⟨okind l k, oa l k, ob l k, oc l k⟩ regs data slots wr hm hlk hzk (opsGood_at hg hlt) _ ?_
        intro w2 hm2 hk2
        have hm3 : Mach K w2 M (doOps (l.take (k + 1)) s) := by rw [doOps_take hlt, if_pos ht]; exact hm2
        have hke2 := hke.trans hk2
        clear hm hm2 hk2 hke c0 c1 c2 c3 m4
        go_wp2
        go_roundw
        case rel => exact ⟨k + 1, by omega, by go_num, hm3, hke2⟩
        case measure => simp [intOf]; omega
      · have HF : Hid (Post (.returned (.tuple #[])) wr) := hp _ (by rw [doOps_stop ht]; exact hm) hke
        have ht' : ((doOps (l.take k) s).trap == 0) = false := by simp [ht]
        clear hp hm hke hrd hrow hbu
        generalize (doOps (l.take k) s).trap = tr at *
        go_wp2
        go_end0
        exact HF.out
    · obtain rfl : k = l.length := by omega
      rw [List.take_length] at hm
      have HF : Hid (Post (.returned (.tuple #[])) wr) := hp _ hm hke
      clear hp hm hke hrd
      go_wp2
      go_end0
      exact HF.out

set_option maxRecDepth 100000 in
set_option maxHeartbeats 2000000 in
theorem after_cps (K : Nat → Prop) (M : Nat) (s : RunD) (e : EndD) (regs nb : Int) (w : World) (h : Mach K w M s) (hl : s.leak.length ≤ 99999) (hz : (s.regs.length : Int) = regs) (hg : endGood regs nb e = true) (hne : e.kind ≠ 3) (Post : Ending → World → Prop)
    (hp : ∀ w', Mach K w' M (goesOn s e) → Keep (fun g => ¬ K g) w w' → Post (.returned (.int .i64 (goesTo s e))) w') :
    Calls Try.prog 106 #[.pointer (some ⟨M, 0, none⟩), .agg #[.int .i64 e.kind, .int .i64 e.r, .int .i64 e.x, .int .i64 e.y]] w Post := by
  obtain ⟨k, r, x, y⟩ := e
  simp only at hne ⊢
  have W0 := With.start h 74 [.int .i64 k, .int .i64 r, .int .i64 x, .int .i64 y]
  have o0 := W0.row.cell (i := 0) rfl
  clear h
  by_cases h1 : k = 1
  · subst h1
    have o2 := W0.row.cell (i := 2) rfl
    have HF : Hid (Post (.returned (.int .i64 x)) (w.alloc (.cells #[.int .i64 1, .int .i64 r, .int .i64 x, .int .i64 y] 74))) := by
      have := hp _ (by simpa [goesOn] using W0.done) W0.keep
      show Post _ _
      simpa [goesTo] using this
    clear hp W0
    go_enter Try.func106, Try.ntmps106
    go_wp2
    exact HF.out
  · obtain rfl : k = 2 := by
      unfold endGood at hg
      simp only at hg
      repeat' split at hg
      all_goals first | omega | simp at hg
    simp [endGood, below] at hg
    obtain ⟨⟨⟨hr0, hr1⟩, _⟩, _⟩ := hg
    obtain ⟨r, rfl⟩ := Int.eq_ofNat_of_zero_le hr0
    obtain ⟨rv, cv, sv, lv, hrow, hbu, hK⟩ := id W0.mach
    obtain ⟨rb, rc, hrv, hrb, hrc, hrf⟩ := hbu.regs.at (i := r) (by omega)
    subst hrv
    have m0 := hrow.cell (i := 0) rfl
    have o1 := W0.row.cell (i := 1) rfl
    have hbi : (0 : Int) ≤ (r : Int) := by omega
    have hbj : (r : Int) < (s.regs.length : Int) := by omega
    have hn : s.regs.getD r 0 = rg s.regs r := by simp [rg]
    rw [hn] at hrc
    have hG : goesOn s ⟨2, r, x, y⟩ = s.out (if rg s.regs r = 0 then 0 else 1) := by simp [goesOn]
    have hT : goesTo s ⟨2, r, x, y⟩ = if rg s.regs r = 0 then y else x := by simp [goesTo]
    rw [hG, hT] at hp
    generalize rg s.regs r = z at *
    have Wd : ∀ d, With K w ((w.alloc (.cells #[.int .i64 2, .int .i64 r, .int .i64 x, .int .i64 y] 74)).drewN d) M w.heap.size 74 [.int .i64 2, .int .i64 r, .int .i64 x, .int .i64 y] s := fun d => W0.below (below_drewN (Below.refl _ _) d)
    clear W0 hrow hbu hG hT hn
    by_cases hz0 : z = 0
    · subst hz0
      simp only [if_true] at hp
      go_enter Try.func106, Try.ntmps106
      go_wp2
      go_quiet (fail)
      generalize hwq : (w.alloc (.cells #[.int .i64 2, .int .i64 r, .int .i64 x, .int .i64 y] 74)).drewN _ = wq
      have Wq : With K w wq M w.heap.size 74 [.int .i64 2, .int .i64 r, .int .i64 x, .int .i64 y] s := by rw [← hwq]; exact Wd _
      clear Wd hwq m0 o1 hrc hrf o0
      go_wp2_with fail
      refine letOut_cps _ M s 0 wq Wq.mach (by omega) _ ?_
      intro w3 hm3 hk3
      have W3 := Wq.next hm3 hk3
      have o3 := W3.row.cell (i := 3) rfl
      have HF : Hid (Post (.returned (.int .i64 y)) w3) := hp _ W3.done W3.keep
      clear hp Wq W3 hm3 hk3
      go_wp2
      exact HF.out
    · simp only [if_neg hz0] at hp
      have hz1 : (z == 0) = false := by simp [hz0]
      go_enter Try.func106, Try.ntmps106
      go_wp2
      go_quiet (fail)
      generalize hwq : (w.alloc (.cells #[.int .i64 2, .int .i64 r, .int .i64 x, .int .i64 y] 74)).drewN _ = wq
      have Wq : With K w wq M w.heap.size 74 [.int .i64 2, .int .i64 r, .int .i64 x, .int .i64 y] s := by rw [← hwq]; exact Wd _
      clear Wd hwq m0 o1 hrc hrf o0
      go_wp2_with fail
      refine letOut_cps _ M s 1 wq Wq.mach (by omega) _ ?_
      intro w3 hm3 hk3
      have W3 := Wq.next hm3 hk3
      have o2 := W3.row.cell (i := 2) rfl
      have HF : Hid (Post (.returned (.int .i64 x)) w3) := hp _ W3.done W3.keep
      clear hp Wq W3 hm3 hk3
      go_wp2
      exact HF.out

end Go.Proofs.Ytdjdjkgoelbbdaa
