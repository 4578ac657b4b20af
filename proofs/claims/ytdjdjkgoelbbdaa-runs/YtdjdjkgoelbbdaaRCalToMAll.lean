/- The reference does an operation: from Add to Div; every one. -/
import Derived.Test.YtdjdjkgoelbbdaaRDoesJoined
import Derived.Test.YtdjdjkgoelbbdaaMDoJoined
set_option linter.unusedSimpArgs false
set_option linter.unusedVariables false
namespace Go.Proofs.Ytdjdjkgoelbbdaa
open Go.RowKit

set_option maxRecDepth 100000 in
set_option maxHeartbeats 2000000 in
theorem does_calc (K : Nat → Prop) (t r : Int) (M : Nat) (s : RunD) (k : Int) (a b c : Nat) (w : World) (h : RefS K t r w M s) (hl : s.leak.length ≤ 99998) (hk : 3 ≤ k ∧ k ≤ 11) (ha : a < s.regs.length) (hb : b < s.regs.length) (hc : c < s.regs.length) (Post : Ending → World → Prop)
    (hp : ∀ w', RefS K t r w' M (if k = 11 then (if rg s.regs c = 0 then ((s.out (rg s.regs b)).out (rg s.regs c)).die 3 else ((s.out (rg s.regs b)).out (rg s.regs c)).reg a (calcW 11 (rg s.regs b) (rg s.regs c))) else s.reg a (calcW k (rg s.regs b) (rg s.regs c))) → Keep (fun g => ¬ K g) w w' → Post (.returned (.tuple #[])) w') :
    Calls Try.prog 102 #[.pointer (some ⟨M, 0, none⟩), .agg #[.int .i64 k, .int .i64 a, .int .i64 b, .int .i64 c]] w Post := by
  obtain ⟨i0, ii, iz0, iz1, iz2⟩ := info_parts Try.infoInt
  have W0 := RWith.start h 78 [.int .i64 k, .int .i64 a, .int .i64 b, .int .i64 c]
  have o0 := W0.row.cell (i := 0) rfl
  have e1 : (k == 1) = false := by simp; omega
  have e2 : (k == 2) = false := by simp; omega
  have e12 : (k == 12) = false := by simp; omega
  have e13 : (k == 13) = false := by simp; omega
  have e14 : (k == 14) = false := by simp; omega
  have e15 : (k == 15) = false := by simp; omega
  clear h
  obtain ⟨rv, cv, sv, lv, hrow, hbu, hK⟩ := id W0.mach
  obtain ⟨rb, rc, hrv, hrb, hrc, hrf⟩ := hbu.regs.at (i := b) hb
  subst hrv
  have m0 := hrow.cell (i := 1) rfl
  have oo := W0.row.cell (i := 2) rfl
  have hbi : (0 : Int) ≤ (b : Int) := by omega
  have hbj : (b : Int) < (s.regs.length : Int) := by omega
  have hn : s.regs.getD b 0 = rg s.regs b := by simp [rg]
  rw [hn] at hrc
  generalize rg s.regs b = x at *
  have WWd : ∀ d, RWith K t r w ((w.alloc (.cells #[.int .i64 k, .int .i64 a, .int .i64 b, .int .i64 c] 78)).drewN d) M w.heap.size 78 [.int .i64 k, .int .i64 a, .int .i64 b, .int .i64 c] s := fun d => W0.below (below_drewN (Below.refl _ _) d)
  go_enter Try.func102, Try.ntmps102
  go_wp2
  go_quiet (fail)
  generalize hwq : (w.alloc (.cells #[.int .i64 k, .int .i64 a, .int .i64 b, .int .i64 c] 78)).drewN _ = wq
  have Wq : RWith K t r w wq M w.heap.size 78 [.int .i64 k, .int .i64 a, .int .i64 b, .int .i64 c] s := by rw [← hwq]; exact WWd _
  clear WWd hwq m0 oo hrc hrf hrb hK hbi hbj hn W0 hrow hbu
  clear o0
  obtain ⟨rv, cv, sv, lv, hrow, hbu, hK⟩ := id Wq.mach
  obtain ⟨rb, rc, hrv, hrb, hrc, hrf⟩ := hbu.regs.at (i := c) hc
  subst hrv
  have m0 := hrow.cell (i := 1) rfl
  have oo := Wq.row.cell (i := 3) rfl
  have hbi : (0 : Int) ≤ (c : Int) := by omega
  have hbj : (c : Int) < (s.regs.length : Int) := by omega
  have hn : s.regs.getD c 0 = rg s.regs c := by simp [rg]
  rw [hn] at hrc
  generalize rg s.regs c = y at *
  have WWd : ∀ d, RWith K t r w (wq.drewN d) M w.heap.size 78 [.int .i64 k, .int .i64 a, .int .i64 b, .int .i64 c] s := fun d => Wq.below (below_drewN (Below.refl _ _) d)
  go_wp2
  go_quiet (fail)
  generalize hwq : wq.drewN _ = wp
  have Wp : RWith K t r w wp M w.heap.size 78 [.int .i64 k, .int .i64 a, .int .i64 b, .int .i64 c] s := by rw [← hwq]; exact WWd _
  clear WWd hwq m0 oo hrc hrf hrb hK hbi hbj hn Wq hrow hbu
  have o0 := Wp.row.cell (i := 0) rfl
  by_cases h11 : k = 11
  · subst h11
    obtain ⟨rv, cv, sv, lv, hrow, hbu, hK⟩ := id Wp.mach
    obtain ⟨lo1, lc1, rfl⟩ := owns_slice hbu.leak
    have m4 := hrow.cell (i := 4) rfl
    have hbl := (hbu.keep ((Below.refl wp.heap.size wp).alloc (Nat.le_refl _) (.cells #[.int .i64 x] 3))).leak
    have hll : (s).leak.length ≤ 100000 := by omega
    go_wp2_with (at_builtin; refine wpList_append_own_at _ rfl _ _ 36 rfl 0 3 i0 (.int .i64 0) 1 8 Try.underlying36 ii iz0 iz1 iz2 rfl (by decide) _ _ _ rfl hbl ⟨wp.heap.size, 0, none⟩ 1 1 [.int .i64 x] rfl rfl (by simpa using one_new wp (.int .i64 x) 3) (int_one' _) ?_ ?_ (by omega) ?_)
    · unfold maxLen; omega
    · omega
    intro v1 u1 hown hgrow _ hat
    obtain ⟨⟨hm1, hk1⟩, y41, yf1⟩ := refs_app hrow hbu hK hown hgrow (by simpa using hat)
    obtain ⟨lo1', lc1', rfl⟩ := owns_slice hown
    have W3 := Wp.next hm1 hk1
    clear hrow hbu hown hgrow hat hbl m4 hm1 hk1 hll Wp
    clear o0
    obtain ⟨rv, cv, sv, lv, hrow, hbu, hK⟩ := id W3.mach
    obtain ⟨lo2, lc2, rfl⟩ := owns_slice hbu.leak
    have m4 := hrow.cell (i := 4) rfl
    have hbl := (hbu.keep ((Below.refl (u1.setCell ⟨M, 4, none⟩ (.slice lo1' (s.leak.length + 1) lc1')).heap.size (u1.setCell ⟨M, 4, none⟩ (.slice lo1' (s.leak.length + 1) lc1'))).alloc (Nat.le_refl _) (.cells #[.int .i64 y] 3))).leak
    have hll : (s.out x).leak.length ≤ 100000 := by simp [RunD.out]; omega
    go_wp2_with (at_builtin; refine wpList_append_own_at _ rfl _ _ 36 rfl 0 3 i0 (.int .i64 0) 1 8 Try.underlying36 ii iz0 iz1 iz2 rfl (by decide) _ _ _ rfl hbl ⟨u1.heap.size, 0, none⟩ 1 1 [.int .i64 y] rfl rfl (by simpa using one_new (u1.setCell ⟨M, 4, none⟩ (.slice lo1' (s.leak.length + 1) lc1')) (.int .i64 y) 3) (int_one' _) ?_ ?_ (by omega) ?_)
    · unfold maxLen; omega
    · omega
    intro v2 u2 hown hgrow _ hat
    obtain ⟨⟨hm2, hk2⟩, y42, yf2⟩ := refs_app hrow hbu hK hown hgrow (by simpa using hat)
    obtain ⟨lo2', lc2', rfl⟩ := owns_slice hown
    have W4 := W3.next hm2 hk2
    clear hrow hbu hown hgrow hat hbl m4 hm2 hk2 hll W3
    have o0 := W4.row.cell (i := 0) rfl
    by_cases hy : y = 0
    · subst hy
      obtain ⟨rv, cv, sv, lv, hrow, hbu, hK⟩ := id W4.mach
      have m5 := hrow.cell (i := 5) rfl
      have f5 := hrow.frozen 5
      obtain ⟨q1, q2⟩ := W4.trap hrow hbu 3
      have HF : Hid (Post (.returned (.tuple #[])) ((u2.setCell ⟨M, 4, none⟩ (.slice lo2' ((s.out x).leak.length + 1) lc2')).setCell ⟨M, 5, none⟩ (.int .i64 3))) := hp _ (by simpa using q1) q2
      clear hp q1 q2 W4 hrow hbu
      go_wp2
      (try simp only [Exit.inBlock, Exit.then])
      refine bodyPost_ret (v := .tuple #[]) ?_ rfl ?_
      · simp [results, Try.results102, go_sem]
      · exact HF.out
    · have hy' : (y == 0) = false := by simp [hy]
      have Wd := W4.below ((Below.refl _ _).drew)
      obtain ⟨rv, cv, sv, lv, hrow, hbu, hK⟩ := id Wd.mach
      obtain ⟨g2, rc2, hrv, hgr, hrc2, hrf2⟩ := hbu.regs.at (i := a) ha
      subst hrv
      have m1 := hrow.cell (i := 1) rfl
      have o1 := Wd.row.cell (i := 1) rfl
      have f2 := hrf2 a
      have hai : (0 : Int) ≤ (a : Int) := by omega
      have haj : (a : Int) < (((s.out x).out y).regs.length : Int) := by show (a : Int) < (s.regs.length : Int); omega
      obtain ⟨q1, q2⟩ := Wd.setReg hrow hbu hgr (i := a) ha (calcW 11 x y)
      have HF : Hid (Post (.returned (.tuple #[])) ((u2.setCell ⟨M, 4, none⟩ (.slice lo2' ((s.out x).leak.length + 1) lc2')).drew.setCell ⟨g2, a, none⟩ (.int .i64 (calcW 11 x y)))) := hp _ (by simpa [hy] using q1) q2
      clear hp q1 q2 W4 Wd hrow hbu
      go_wp2_with (go_at_call 110; refine (calcW_any 11 x y _ (by omega) (fun _ => hy)).mono ?_; rintro e w' ⟨rfl, rfl⟩)
      generalize calcW 11 x y = v at *
      refine wp_tail 8 (by kernel_rfl) (by kernel_rfl) ?_
      simp only [List.take_succ_cons, List.take_zero, List.drop_succ_cons, List.drop_zero]
      repeat still_step
      refine wpStill_nil ?_
      go_wp2
      go_end0
      exact HF.out
  · have h11' : (k == 11) = false := by simp [h11]
    rw [if_neg h11] at hp
    have Wd := Wp.below ((Below.refl _ _).drew)
    obtain ⟨rv, cv, sv, lv, hrow, hbu, hK⟩ := id Wd.mach
    obtain ⟨g2, rc2, hrv, hgr, hrc2, hrf2⟩ := hbu.regs.at (i := a) ha
    subst hrv
    have m1 := hrow.cell (i := 1) rfl
    have o1 := Wd.row.cell (i := 1) rfl
    have f2 := hrf2 a
    have hai : (0 : Int) ≤ (a : Int) := by omega
    have haj : (a : Int) < ((s).regs.length : Int) := by show (a : Int) < (s.regs.length : Int); omega
    obtain ⟨q1, q2⟩ := Wd.setReg hrow hbu hgr (i := a) ha (calcW k x y)
    have HF : Hid (Post (.returned (.tuple #[])) (wp.drew.setCell ⟨g2, a, none⟩ (.int .i64 (calcW k x y)))) := hp _ q1 q2
    clear hp q1 q2 Wp Wd hrow hbu
    go_wp2_with (go_at_call 110; refine (calcW_any k x y _ hk (fun e => absurd e h11)).mono ?_; rintro e w' ⟨rfl, rfl⟩)
    generalize calcW k x y = v at *
    refine wp_tail 8 (by kernel_rfl) (by kernel_rfl) ?_
    simp only [List.take_succ_cons, List.take_zero, List.drop_succ_cons, List.drop_zero]
    repeat still_step
    refine wpStill_nil ?_
    go_wp2
    go_end0
    exact HF.out

set_option maxHeartbeats 1000000 in
theorem does_cps (K : Nat → Prop) (t r : Int) (M : Nat) (s : RunD) (o : OpD) (regs data slots : Int) (w : World) (h : RefS K t r w M s) (hl : s.leak.length ≤ 99998) (hz : Sized s regs data slots) (hg : opGood regs slots o = true) (Post : Ending → World → Prop)
    (hp : ∀ w', RefS K t r w' M (stepOp s o) → Keep (fun g => ¬ K g) w w' → Post (.returned (.tuple #[])) w') :
    Calls Try.prog 102 #[.pointer (some ⟨M, 0, none⟩), .agg #[.int .i64 o.kind, .int .i64 o.a, .int .i64 o.b, .int .i64 o.c]] w Post := by
  have hkk := opGood_kind hg
  obtain ⟨k, a, b, c⟩ := o
  simp only at hkk ⊢
  by_cases h1 : k = 1
  · subst h1
    exact does_1 K t r M s a b c regs data slots w h (by omega) hz hg Post hp
  by_cases h2 : k = 2
  · subst h2
    exact does_2 K t r M s a b c regs data slots w h (by omega) hz hg Post hp
  by_cases h12 : k = 12
  · subst h12
    exact does_12 K t r M s a b c regs data slots w h (by omega) hz hg Post hp
  by_cases h13 : k = 13
  · subst h13
    exact does_13 K t r M s a b c regs data slots w h (by omega) hz hg Post hp
  by_cases h14 : k = 14
  · subst h14
    exact does_14 K t r M s a b c regs data slots w h (by omega) hz hg Post hp
  by_cases h15 : k = 15
  · subst h15
    exact does_15 K t r M s a b c regs data slots w h (by omega) hz hg Post hp
  obtain ⟨zr, zc, zs⟩ := hz
  have hk3 : 3 ≤ k ∧ k ≤ 11 := by omega
  have hgg : (0 ≤ a ∧ a < regs) ∧ (0 ≤ b ∧ b < regs) ∧ 0 ≤ c ∧ c < regs := by
    unfold opGood at hg
    rw [if_neg (by simpa using h1), if_pos (by simpa using hk3)] at hg
    simp [below] at hg
    omega
  clear hg
  obtain ⟨ga, gb, gc⟩ := hgg
  obtain ⟨a, rfl⟩ := Int.eq_ofNat_of_zero_le ga.1
  obtain ⟨b, rfl⟩ := Int.eq_ofNat_of_zero_le gb.1
  obtain ⟨c, rfl⟩ := Int.eq_ofNat_of_zero_le gc.1
  refine does_calc K t r M s k a b c w h hl hk3 (by omega) (by omega) (by omega) Post (fun w' hm hk => hp w' ?_ hk)
  unfold stepOp
  simp only [h1, h2, h12, h13, h14, h15, if_false]
  by_cases h11 : k = 11
  · subst h11; simpa using hm
  · simpa [h11] using hm

end Go.Proofs.Ytdjdjkgoelbbdaa

/- The machine does the operations of a block; where it goes on. -/
set_option linter.unusedSimpArgs false
set_option linter.unusedVariables false
namespace Go.Proofs.Ytdjdjkgoelbbdaa
open Go.RowKit

theorem opsGood_at {regs slots : Int} {l : List OpD} (h : opsGood regs slots l = true) {k : Nat} (hk : k < l.length) : opGood regs slots ⟨okind l k, oa l k, ob l k, oc l k⟩ = true := by
  have := List.all_eq_true.1 h (l.getD k oz) (getD_mem' hk)
  exact this

set_option maxRecDepth 100000 in
set_option maxHeartbeats 2000000 in
theorem doAll_cps (K : Nat → Prop) (M : Nat) (s : RunD) (l : List OpD) (v : Value) (regs data slots : Int) (w : World) (h : Mach K w M s) (hl : s.leak.length + 2 * l.length ≤ 99999) (hz : Sized s regs data slots) (hg : opsGood regs slots l = true)
    (hrd : ∀ w', Keep (fun g => ¬ K g) w w' → RdOps w' v l) (Post : Ending → World → Prop)
    (hp : ∀ w', Mach K w' M (doOps l s) → Keep (fun g => ¬ K g) w w' → Post (.returned (.tuple #[])) w') :
    Calls Try.prog 105 #[.pointer (some ⟨M, 0, none⟩), v] w Post := by
  obtain ⟨ao, cap, rfl, hll, _⟩ := hrd w (Keep.refl _ _)
  go_enter Try.func105, Try.ntmps105
  go_wp2
  go_loopw [4] (fun i wr => ∃ (k : Nat), k ≤ l.length ∧ i = .int .i64 k ∧ Mach K wr M (doOps (l.take k) s) ∧ Keep (fun g => ¬ K g) w wr)
    (fun i _ => l.length - (intOf i).toNat)
  case atStart => exact ⟨0, Nat.zero_le _, rfl, h, Keep.refl _ _⟩
  case round =>
    clear h
    obtain ⟨k, hk, rfl, hm, hke⟩ := hrel
    have hlk : (doOps (l.take k) s).leak.length ≤ 99999 := by
      have := doOps_leak (l.take k) s
      have : (l.take k).length ≤ l.length := by rw [List.length_take]; omega
      omega
    have hzk : Sized (doOps (l.take k) s) regs data slots := hz.doOps _
    by_cases hlt : k < l.length
    · obtain ⟨rv, cv, sv, lv, hrow, hbu, hK⟩ := id hm
      have m4 := hrow.cell (i := 4) rfl
      by_cases ht : (doOps (l.take k) s).trap = 0
      · rw [ht] at m4
        obtain ⟨ao', cap', e0, _, hc⟩ := hrd wr hke
        simp only [Value.slice.injEq, true_and] at e0
        obtain ⟨rfl, rfl⟩ := e0
        obtain ⟨b, off, rfl, c0, c1, c2, c3⟩ := hc k hlt
        clear hc hrow hbu
        go_wp2_with fail
        refine do_cps K M _ ⟨okind l k, oa l k, ob l k, oc l k⟩ regs data slots wr hm hlk hzk (opsGood_at hg hlt) _ ?_
        intro w2 hm2 hk2
        have hm3 : Mach K w2 M (doOps (l.take (k + 1)) s) := by rw [doOps_take hlt, if_pos ht]; exact hm2
        have hke2 := hke.trans hk2
        clear hm hm2 hk2 hke c0 c1 c2 c3 m4
        go_wp2
        go_roundw
        case rel => exact ⟨k + 1, by omega, by go_num, hm3, hke2⟩
        case measure => simp [intOf]; omega
      · have HF : Hid (Post (.returned (.tuple #[])) wr) := hp _ (by rw [doOps_stop ht]; exact hm) hke
        have ht' : ((doOps (l.take k) s).trap == 0) = false := by simp [ht]
        clear hp hm hke hrd hrow hbu
        generalize (doOps (l.take k) s).trap = tr at *
        go_wp2
        go_end0
        exact HF.out
    · obtain rfl : k = l.length := by omega
      rw [List.take_length] at hm
      have HF : Hid (Post (.returned (.tuple #[])) wr) := hp _ hm hke
      clear hp hm hke hrd
      go_wp2
      go_end0
      exact HF.out

set_option maxRecDepth 100000 in
set_option maxHeartbeats 2000000 in
theorem after_cps (K : Nat → Prop) (M : Nat) (s : RunD) (e : EndD) (regs nb : Int) (w : World) (h : Mach K w M s) (hl : s.leak.length ≤ 99999) (hz : (s.regs.length : Int) = regs) (hg : endGood regs nb e = true) (hne : e.kind ≠ 3) (Post : Ending → World → Prop)
    (hp : ∀ w', Mach K w' M (goesOn s e) → Keep (fun g => ¬ K g) w w' → Post (.returned (.int .i64 (goesTo s e))) w') :
    Calls Try.prog 106 #[.pointer (some ⟨M, 0, none⟩), .agg #[.int .i64 e.kind, .int .i64 e.r, .int .i64 e.x, .int .i64 e.y]] w Post := by
  obtain ⟨k, r, x, y⟩ := e
  simp only at hne ⊢
  have W0 := With.start h 74 [.int .i64 k, .int .i64 r, .int .i64 x, .int .i64 y]
  have o0 := W0.row.cell (i := 0) rfl
  clear h
  by_cases h1 : k = 1
  · subst h1
    have o2 := W0.row.cell (i := 2) rfl
    have HF : Hid (Post (.returned (.int .i64 x)) (w.alloc (.cells #[.int .i64 1, .int .i64 r, .int .i64 x, .int .i64 y] 74))) := by
      have := hp _ (by simpa [goesOn] using W0.done) W0.keep
      show Post _ _
      simpa [goesTo] using this
    clear hp W0
    go_enter Try.func106, Try.ntmps106
    go_wp2
    exact HF.out
  · obtain rfl : k = 2 := by
      unfold endGood at hg
      simp only at hg
      repeat' split at hg
      all_goals first | omega | simp at hg
    simp [endGood, below] at hg
    obtain ⟨⟨⟨hr0, hr1⟩, _⟩, _⟩ := hg
    obtain ⟨r, rfl⟩ := Int.eq_ofNat_of_zero_le hr0
    obtain ⟨rv, cv, sv, lv, hrow, hbu, hK⟩ := id W0.mach
    obtain ⟨rb, rc, hrv, hrb, hrc, hrf⟩ := hbu.regs.at (i := r) (by omega)
    subst hrv
    have m0 := hrow.cell (i := 0) rfl
    have o1 := W0.row.cell (i := 1) rfl
    have hbi : (0 : Int) ≤ (r : Int) := by omega
    have hbj : (r : Int) < (s.regs.length : Int) := by omega
    have hn : s.regs.getD r 0 = rg s.regs r := by simp [rg]
    rw [hn] at hrc
    have hG : goesOn s ⟨2, r, x, y⟩ = s.out (if rg s.regs r = 0 then 0 else 1) := by simp [goesOn]
    have hT : goesTo s ⟨2, r, x, y⟩ = if rg s.regs r = 0 then y else x := by simp [goesTo]
    rw [hG, hT] at hp
    generalize rg s.regs r = z at *
    have Wd : ∀ d, With K w ((w.alloc (.cells #[.int .i64 2, .int .i64 r, .int .i64 x, .int .i64 y] 74)).drewN d) M w.heap.size 74 [.int .i64 2, .int .i64 r, .int .i64 x, .int .i64 y] s := fun d => W0.below (below_drewN (Below.refl _ _) d)
    clear W0 hrow hbu hG hT hn
    by_cases hz0 : z = 0
    · subst hz0
      simp only [if_true] at hp
      go_enter Try.func106, Try.ntmps106
      go_wp2
      go_quiet (fail)
      generalize hwq : (w.alloc (.cells #[.int .i64 2, .int .i64 r, .int .i64 x, .int .i64 y] 74)).drewN _ = wq
      have Wq : With K w wq M w.heap.size 74 [.int .i64 2, .int .i64 r, .int .i64 x, .int .i64 y] s := by rw [← hwq]; exact Wd _
      clear Wd hwq m0 o1 hrc hrf o0
      go_wp2_with fail
      refine letOut_cps _ M s 0 wq Wq.mach (by omega) _ ?_
      intro w3 hm3 hk3
      have W3 := Wq.next hm3 hk3
      have o3 := W3.row.cell (i := 3) rfl
      have HF : Hid (Post (.returned (.int .i64 y)) w3) := hp _ W3.done W3.keep
      clear hp Wq W3 hm3 hk3
      go_wp2
      exact HF.out
    · simp only [if_neg hz0] at hp
      have hz1 : (z == 0) = false := by simp [hz0]
      go_enter Try.func106, Try.ntmps106
      go_wp2
      go_quiet (fail)
      generalize hwq : (w.alloc (.cells #[.int .i64 2, .int .i64 r, .int .i64 x, .int .i64 y] 74)).drewN _ = wq
      have Wq : With K w wq M w.heap.size 74 [.int .i64 2, .int .i64 r, .int .i64 x, .int .i64 y] s := by rw [← hwq]; exact Wd _
      clear Wd hwq m0 o1 hrc hrf o0
      go_wp2_with fail
      refine letOut_cps _ M s 1 wq Wq.mach (by omega) _ ?_
      intro w3 hm3 hk3
      have W3 := Wq.next hm3 hk3
      have o2 := W3.row.cell (i := 2) rfl
      have HF : Hid (Post (.returned (.int .i64 x)) w3) := hp _ W3.done W3.keep
      clear hp Wq W3 hm3 hk3
      go_wp2
      exact HF.out

end Go.Proofs.Ytdjdjkgoelbbdaa
