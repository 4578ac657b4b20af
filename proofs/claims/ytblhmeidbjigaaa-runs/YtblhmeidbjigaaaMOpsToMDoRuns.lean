/- The machine's Load. -/
import Derived.Test.YtblhmeidbjigaaaRows
import Derived.WalkKit
import Derived.WalkSpells
import Derived.WalkLawsBesides
import Derived.Laws.BytesArg
import Derived.Deep.QuietTactic
import Derived.BigQuiet
import Derived.Deep.RegionHeld3
import Derived.Maps.AppendAt
import Derived.StillTailTactics
import Derived.Test.YtblhmeidbjigaaaPRefFToMLetRuns

set_option linter.unusedSimpArgs false
set_option linter.unusedVariables false
namespace Go.Proofs.Ytblhmeidbjigaaa
open Go.RowKit

/-- A region that reads, then one store (or what follows of itself). -/
theorem wp_tail {P : Program} {id : Nat} {Q : Exit → Act → World → Prop} {a : Act} {w : World} {l : List Oper} (n : Nat) (hm : P.follows .mixedOrders = true) (hB : Region.lexTailB .any l.toArray n = true)
    (h : wpStill P l.toArray w.drew (fun a' => wpList P l.toArray Q (l.drop n) a' w.drew) (l.take n) a) : (Code.region id l.toArray true).wp P Q a w :=
  wp_region_still_tail n hm hB h

/-- The machine beside a boxed operation (or end) at block O. -/
structure With (K : Nat → Prop) (w0 w : World) (M O : Nat) (t : TypeId) (xs : List Value) (s : RunD) : Prop where
  mach : Mach (fun g => K g ∨ g = O) w M s
  row : Row w O t xs
  keep : Keep (fun g => ¬ K g) w0 w
  lt : ∀ g, K g → g < w0.heap.size
  ge : w0.heap.size ≤ O

theorem With.start {K : Nat → Prop} {w : World} {M : Nat} {s : RunD} (h : Mach K w M s) (t : TypeId) (xs : List Value) : With K w (w.alloc (.cells xs.toArray t)) M w.heap.size t xs s :=
  ⟨h.kept (fun g hg => by rcases hg with hg | hg; exact .inl hg; exact .inr (by omega)) (fun g hg => by rcases hg with hg | hg; have := h.lt g hg; simp; omega; simp; omega) ((Below.refl _ _).alloc (Nat.le_refl _) _),
    heap_alloc_new w _, (Keep.refl _ _).alloc _, h.lt, Nat.le_refl _⟩

theorem With.below {K : Nat → Prop} {w0 w w' : World} {M O : Nat} {t : TypeId} {xs : List Value} {s : RunD} (h : With K w0 w M O t xs s) (hb : Below w.heap.size w w') : With K w0 w' M O t xs s :=
  ⟨h.mach.keep hb, h.row.keep hb, h.keep.below hb h.keep.size, h.lt, h.ge⟩

theorem With.next {K : Nat → Prop} {w0 w w' : World} {M O : Nat} {t : TypeId} {xs : List Value} {s s' : RunD} (h : With K w0 w M O t xs s) (hm : Mach (fun g => K g ∨ g = O) w' M s') (hk : Keep (fun g => ¬ (K g ∨ g = O)) w w') : With K w0 w' M O t xs s' :=
  ⟨hm, h.row.same (hk.block O h.row.lt (fun hn => hn (.inr rfl))), h.keep.trans (hk.mono (fun g hn e => hn (.inl e))), h.lt, h.ge⟩

theorem With.done {K : Nat → Prop} {w0 w : World} {M O : Nat} {t : TypeId} {xs : List Value} {s : RunD} (h : With K w0 w M O t xs s) : Mach K w M s :=
  h.mach.kept (fun g hg => .inl (.inl hg)) (fun g hg => Nat.lt_of_lt_of_le (h.lt g hg) h.keep.size) (Below.refl _ _)

/-- A word becomes another: a register. -/
theorem With.setReg {K : Nat → Prop} {w0 w : World} {M O : Nat} {t : TypeId} {xs : List Value} {s : RunD} (h : With K w0 w M O t xs s) {rv cv sv lv : Value} (hrow : Row w M 123 [rv, cv, sv, lv, .int .i64 s.trap]) (hb : Bunch (fun g => K g ∨ g = O) w rv cv sv lv s)
    {g i : Nat} (hg : rv.ownBlock = some g) (hi : i < s.regs.length) (u : Int) : Mach K (w.setCell ⟨g, i, none⟩ (.int .i64 u)) M (s.reg i u) ∧ Keep (fun g => ¬ K g) w0 (w.setCell ⟨g, i, none⟩ (.int .i64 u)) := by
  have hne : ¬ (rv.ownBlock = some M) := row_owns_apart hrow hb.regs (by decide)
  have hK : ¬ (K g ∨ g = O) := hb.kr g hg
  have hM : ¬ K M := by obtain ⟨_, _, _, _, _, _, h3⟩ := h.mach; exact fun e => h3 (.inl e)
  have b2 := hb.setReg hg hi u
  have r2 := hrow.unset (a := ⟨g, i, none⟩) (fun e => hne (by rw [hg]; exact congrArg some e.symm)) (.int .i64 u)
  have b3 := b2.kept (K' := K) (fun g hg => .inl (.inl hg)) (fun g hg => by have := h.lt g hg; have := h.keep.size; simp; omega) (Below.refl _ _)
  exact ⟨⟨rv, cv, sv, lv, r2, b3, hM⟩, h.keep.setCell (.inl (fun e => hK (.inl e))) _⟩

theorem With.setMem {K : Nat → Prop} {w0 w : World} {M O : Nat} {t : TypeId} {xs : List Value} {s : RunD} (h : With K w0 w M O t xs s) {rv cv sv lv : Value} (hrow : Row w M 123 [rv, cv, sv, lv, .int .i64 s.trap]) (hb : Bunch (fun g => K g ∨ g = O) w rv cv sv lv s)
    {g i : Nat} (hg : cv.ownBlock = some g) (hi : i < s.cells.length) (u : Int) : Mach K (w.setCell ⟨g, i, none⟩ (.int .i64 u)) M (s.cell i u) ∧ Keep (fun g => ¬ K g) w0 (w.setCell ⟨g, i, none⟩ (.int .i64 u)) := by
  have hne : ¬ (cv.ownBlock = some M) := row_owns_apart hrow hb.cells (by decide)
  have hK : ¬ (K g ∨ g = O) := hb.kc g hg
  have hM : ¬ K M := by obtain ⟨_, _, _, _, _, _, h3⟩ := h.mach; exact fun e => h3 (.inl e)
  have b2 := hb.setMem hg hi u
  have r2 := hrow.unset (a := ⟨g, i, none⟩) (fun e => hne (by rw [hg]; exact congrArg some e.symm)) (.int .i64 u)
  have b3 := b2.kept (K' := K) (fun g hg => .inl (.inl hg)) (fun g hg => by have := h.lt g hg; have := h.keep.size; simp; omega) (Below.refl _ _)
  exact ⟨⟨rv, cv, sv, lv, r2, b3, hM⟩, h.keep.setCell (.inl (fun e => hK (.inl e))) _⟩

theorem With.setSlot {K : Nat → Prop} {w0 w : World} {M O : Nat} {t : TypeId} {xs : List Value} {s : RunD} (h : With K w0 w M O t xs s) {rv cv sv lv : Value} (hrow : Row w M 123 [rv, cv, sv, lv, .int .i64 s.trap]) (hb : Bunch (fun g => K g ∨ g = O) w rv cv sv lv s)
    {g i : Nat} (hg : sv.ownBlock = some g) (hi : i < s.slots.length) (u : Int) : Mach K (w.setCell ⟨g, i, none⟩ (.int .i64 u)) M (s.slot i u) ∧ Keep (fun g => ¬ K g) w0 (w.setCell ⟨g, i, none⟩ (.int .i64 u)) := by
  have hne : ¬ (sv.ownBlock = some M) := row_owns_apart hrow hb.slots (by decide)
  have hK : ¬ (K g ∨ g = O) := hb.ks g hg
  have hM : ¬ K M := by obtain ⟨_, _, _, _, _, _, h3⟩ := h.mach; exact fun e => h3 (.inl e)
  have b2 := hb.setSlot hg hi u
  have r2 := hrow.unset (a := ⟨g, i, none⟩) (fun e => hne (by rw [hg]; exact congrArg some e.symm)) (.int .i64 u)
  have b3 := b2.kept (K' := K) (fun g hg => .inl (.inl hg)) (fun g hg => by have := h.lt g hg; have := h.keep.size; simp; omega) (Below.refl _ _)
  exact ⟨⟨rv, cv, sv, lv, r2, b3, hM⟩, h.keep.setCell (.inl (fun e => hK (.inl e))) _⟩

set_option maxRecDepth 100000 in
set_option maxHeartbeats 4000000 in
theorem load_cps (K : Nat → Prop) (M : Nat) (s : RunD) (k c : Int) (a b : Nat) (w : World) (h : Mach K w M s) (hl : s.leak.length ≤ 100000) (ha : a < s.regs.length) (hb : b < s.regs.length) (Post : Ending → World → Prop)
    (hp : ∀ w', Mach K w' M (if 0 ≤ rg s.regs b ∧ rg s.regs b < s.cells.length then (s.out (rg s.regs b)).reg a (rg s.cells (rg s.regs b)) else (s.out (rg s.regs b)).die 2) → Keep (fun g => ¬ K g) w w' → Post (.returned (.tuple #[])) w') :
    Calls Try.prog 104 #[.pointer (some ⟨M, 0, none⟩), .agg #[.int .i64 k, .int .i64 a, .int .i64 b, .int .i64 c]] w Post := by
  have W0 := With.start h 101 [.int .i64 k, .int .i64 a, .int .i64 b, .int .i64 c]
  clear h
  obtain ⟨rv, cv, sv, lv, hrow, hbu, hK⟩ := id W0.mach
  obtain ⟨rb, rc, hrv, hrb, hrc, hrf⟩ := hbu.regs.at hb
  subst hrv
  have m0 := hrow.cell (i := 0) rfl
  have o2 := W0.row.cell (i := 2) rfl
  have hbi : (0 : Int) ≤ (b : Int) := by omega
  have hbj : (b : Int) < (s.regs.length : Int) := by omega
  have hn : s.regs.getD b 0 = rg s.regs b := by simp [rg]
  rw [hn] at hrc
  generalize rg s.regs b = n at *
  have Wd : ∀ d, With K w ((w.alloc (.cells #[.int .i64 k, .int .i64 a, .int .i64 b, .int .i64 c] 101)).drewN d) M w.heap.size 101 [.int .i64 k, .int .i64 a, .int .i64 b, .int .i64 c] s := fun d => W0.below (below_drewN (Below.refl _ _) d)
  clear W0 hrow hbu
  go_enter Try.func104, Try.ntmps104
  go_wp2
  go_quiet (fail)
  go_wp2_with fail
  generalize hwq : (w.alloc (.cells #[.int .i64 k, .int .i64 a, .int .i64 b, .int .i64 c] 101)).drewN _ = wq
  have Wq : With K w wq M w.heap.size 101 [.int .i64 k, .int .i64 a, .int .i64 b, .int .i64 c] s := by rw [← hwq]; exact Wd _
  clear Wd hwq m0 o2 hrc hrf
  refine reaches_cps _ M s n wq Wq.mach hl _ ?_ ?_
  · intro hin w2 hm2 hk2
    rw [if_pos hin] at hp
    obtain ⟨hn0, hn1⟩ := hin
    obtain ⟨j, rfl⟩ := Int.eq_ofNat_of_zero_le hn0
    have W2 := Wq.next hm2 hk2
    clear Wq hm2 hk2
    have Wd := W2.below ((Below.refl w2.heap.size w2).drew)
    obtain ⟨rv, cv, sv, lv, hrow, hbu, hK⟩ := id Wd.mach
    obtain ⟨g1, cc, hcv, hgc, hcc, hcf⟩ := hbu.cells.at (i := j) (by show j < s.cells.length; omega)
    obtain ⟨g2, rc, hrv, hgr, hrc, hrf⟩ := hbu.regs.at (i := a) ha
    subst hcv hrv
    have e1 : (s.out j).cells.getD j 0 = rg s.cells j := by simp [rg, RunD.out]
    rw [e1] at hcc
    have m0 := hrow.cell (i := 0) rfl
    have m1 := hrow.cell (i := 1) rfl
    have o1 := Wd.row.cell (i := 1) rfl
    have f2 := hrf a
    have hai : (0 : Int) ≤ (a : Int) := by omega
    have haj : (a : Int) < ((s.out j).regs.length : Int) := by show (a : Int) < (s.regs.length : Int); omega
    have hji : (0 : Int) ≤ (j : Int) := by omega
    have hjj : (j : Int) < ((s.out j).cells.length : Int) := hn1
    obtain ⟨q1, q2⟩ := Wd.setReg hrow hbu hgr (i := a) ha (rg s.cells j)
    have HF : Hid (Post (.returned (.tuple #[])) (w2.drew.setCell ⟨g2, a, none⟩ (.int .i64 (rg s.cells j)))) := hp _ q1 q2
    clear hp q1 q2 W2 Wd hrow hbu
    go_wp2
    refine wp_tail 14 (by kernel_rfl) (by kernel_rfl) ?_
    simp only [List.take_succ_cons, List.take_zero, List.drop_succ_cons, List.drop_zero]
    repeat still_step
    refine wpStill_nil ?_
    go_wp2
    go_end0
    exact HF.out
  · intro hin w2 hm2 hk2
    rw [if_neg hin] at hp
    have W2 := Wq.next hm2 hk2
    have HF : Hid (Post (.returned (.tuple #[])) w2) := hp _ W2.done W2.keep
    clear hp W2 Wq hm2 hk2
    go_wp2
    go_end0
    exact HF.out

end Go.Proofs.Ytblhmeidbjigaaa

/- The machine's Store; operations from Add to Div. -/
set_option linter.unusedSimpArgs false
set_option linter.unusedVariables false
namespace Go.Proofs.Ytblhmeidbjigaaa
open Go.RowKit

set_option maxRecDepth 100000 in
set_option maxHeartbeats 4000000 in
theorem store_cps (K : Nat → Prop) (M : Nat) (s : RunD) (k c : Int) (a b : Nat) (w : World) (h : Mach K w M s) (hl : s.leak.length ≤ 100000) (ha : a < s.regs.length) (hb : b < s.regs.length) (Post : Ending → World → Prop)
    (hp : ∀ w', Mach K w' M (if 0 ≤ rg s.regs a ∧ rg s.regs a < s.cells.length then (s.out (rg s.regs a)).cell (rg s.regs a) (rg s.regs b) else (s.out (rg s.regs a)).die 2) → Keep (fun g => ¬ K g) w w' → Post (.returned (.tuple #[])) w') :
    Calls Try.prog 105 #[.pointer (some ⟨M, 0, none⟩), .agg #[.int .i64 k, .int .i64 a, .int .i64 b, .int .i64 c]] w Post := by
  have W0 := With.start h 101 [.int .i64 k, .int .i64 a, .int .i64 b, .int .i64 c]
  clear h
  obtain ⟨rv, cv, sv, lv, hrow, hbu, hK⟩ := id W0.mach
  obtain ⟨rb, rc, hrv, hrb, hrc, hrf⟩ := hbu.regs.at ha
  subst hrv
  have m0 := hrow.cell (i := 0) rfl
  have o1 := W0.row.cell (i := 1) rfl
  have hbi : (0 : Int) ≤ (a : Int) := by omega
  have hbj : (a : Int) < (s.regs.length : Int) := by omega
  have hn : s.regs.getD a 0 = rg s.regs a := by simp [rg]
  rw [hn] at hrc
  generalize rg s.regs a = n at *
  have Wd : ∀ d, With K w ((w.alloc (.cells #[.int .i64 k, .int .i64 a, .int .i64 b, .int .i64 c] 101)).drewN d) M w.heap.size 101 [.int .i64 k, .int .i64 a, .int .i64 b, .int .i64 c] s := fun d => W0.below (below_drewN (Below.refl _ _) d)
  clear W0 hrow hbu
  go_enter Try.func105, Try.ntmps105
  go_wp2
  go_quiet (fail)
  go_wp2_with fail
  generalize hwq : (w.alloc (.cells #[.int .i64 k, .int .i64 a, .int .i64 b, .int .i64 c] 101)).drewN _ = wq
  have Wq : With K w wq M w.heap.size 101 [.int .i64 k, .int .i64 a, .int .i64 b, .int .i64 c] s := by rw [← hwq]; exact Wd _
  clear Wd hwq m0 o1 hrc hrf
  refine reaches_cps _ M s n wq Wq.mach hl _ ?_ ?_
  · intro hin w2 hm2 hk2
    rw [if_pos hin] at hp
    obtain ⟨hn0, hn1⟩ := hin
    obtain ⟨j, rfl⟩ := Int.eq_ofNat_of_zero_le hn0
    have W2 := Wq.next hm2 hk2
    clear Wq hm2 hk2
    have Wd := W2.below ((Below.refl w2.heap.size w2).drew)
    obtain ⟨rv, cv, sv, lv, hrow, hbu, hK⟩ := id Wd.mach
    obtain ⟨g1, cc, hcv, hgc, hcc, hcf⟩ := hbu.cells.at (i := j) (by show j < s.cells.length; omega)
    obtain ⟨g2, rc, hrv, hgr, hrc, hrf⟩ := hbu.regs.at (i := b) hb
    subst hcv hrv
    have e1 : (s.out j).regs.getD b 0 = rg s.regs b := by simp [rg, RunD.out]
    rw [e1] at hrc
    have m0 := hrow.cell (i := 0) rfl
    have m1 := hrow.cell (i := 1) rfl
    have o2 := Wd.row.cell (i := 2) rfl
    have f2 := hcf j
    have hai : (0 : Int) ≤ (b : Int) := by omega
    have haj : (b : Int) < ((s.out j).regs.length : Int) := by show (b : Int) < (s.regs.length : Int); omega
    have hji : (0 : Int) ≤ (j : Int) := by omega
    have hjj : (j : Int) < ((s.out j).cells.length : Int) := hn1
    obtain ⟨q1, q2⟩ := Wd.setMem hrow hbu hgc (i := j) (by show j < s.cells.length; omega) (rg s.regs b)
    have HF : Hid (Post (.returned (.tuple #[])) (w2.drew.setCell ⟨g1, j, none⟩ (.int .i64 (rg s.regs b)))) := hp _ q1 q2
    clear hp q1 q2 W2 Wd hrow hbu
    go_wp2
    refine wp_tail 14 (by kernel_rfl) (by kernel_rfl) ?_
    simp only [List.take_succ_cons, List.take_zero, List.drop_succ_cons, List.drop_zero]
    repeat still_step
    refine wpStill_nil ?_
    go_wp2
    go_end0
    exact HF.out
  · intro hin w2 hm2 hk2
    rw [if_neg hin] at hp
    have W2 := Wq.next hm2 hk2
    have HF : Hid (Post (.returned (.tuple #[])) w2) := hp _ W2.done W2.keep
    clear hp W2 Wq hm2 hk2
    go_wp2
    go_end0
    exact HF.out

/-- The machine traps. -/
theorem With.trap {K : Nat → Prop} {w0 w : World} {M O : Nat} {t : TypeId} {xs : List Value} {s : RunD} (h : With K w0 w M O t xs s) {rv cv sv lv : Value} (hrow : Row w M 123 [rv, cv, sv, lv, .int .i64 s.trap]) (hb : Bunch (fun g => K g ∨ g = O) w rv cv sv lv s) (u : Int) :
    Mach K (w.setCell ⟨M, 4, none⟩ (.int .i64 u)) M (s.die u) ∧ Keep (fun g => ¬ K g) w0 (w.setCell ⟨M, 4, none⟩ (.int .i64 u)) := by
  have hM : ¬ K M := by obtain ⟨_, _, _, _, _, _, h3⟩ := h.mach; exact fun e => h3 (.inl e)
  have b2 := (hb.far hrow (by decide) 4 (.int .i64 u)).trapped u
  have b3 := b2.kept (K' := K) (fun g hg => .inl (.inl hg)) (fun g hg => by have := h.lt g hg; have := h.keep.size; simp; omega) (Below.refl _ _)
  exact ⟨⟨rv, cv, sv, lv, hrow.set 4 (.int .i64 u), b3, hM⟩, h.keep.setCell (.inl hM) _⟩

set_option maxRecDepth 100000 in
set_option maxHeartbeats 4000000 in
theorem compute_cps (K : Nat → Prop) (M : Nat) (s : RunD) (k : Int) (a b c : Nat) (w : World) (h : Mach K w M s) (hl : s.leak.length ≤ 99999) (hk : 3 ≤ k ∧ k ≤ 11) (ha : a < s.regs.length) (hb : b < s.regs.length) (hc : c < s.regs.length) (Post : Ending → World → Prop)
    (hp : ∀ w', Mach K w' M (if k = 11 then (if rg s.regs c = 0 then ((s.out (rg s.regs b)).out (rg s.regs c)).die 3 else ((s.out (rg s.regs b)).out (rg s.regs c)).reg a (calcW 11 (rg s.regs b) (rg s.regs c))) else s.reg a (calcW k (rg s.regs b) (rg s.regs c))) → Keep (fun g => ¬ K g) w w' → Post (.returned (.tuple #[])) w') :
    Calls Try.prog 106 #[.pointer (some ⟨M, 0, none⟩), .agg #[.int .i64 k, .int .i64 a, .int .i64 b, .int .i64 c]] w Post := by
  have W0 := With.start h 101 [.int .i64 k, .int .i64 a, .int .i64 b, .int .i64 c]
  clear h
  obtain ⟨rv, cv, sv, lv, hrow, hbu, hK⟩ := id W0.mach
  obtain ⟨rb, rc, hrv, hrb, hrc, hrf⟩ := hbu.regs.at hb
  subst hrv
  have m0 := hrow.cell (i := 0) rfl
  have o2 := W0.row.cell (i := 2) rfl
  have hbi : (0 : Int) ≤ (b : Int) := by omega
  have hbj : (b : Int) < (s.regs.length : Int) := by omega
  have hn : s.regs.getD b 0 = rg s.regs b := by simp [rg]
  rw [hn] at hrc
  generalize rg s.regs b = x at *
  have Wd : ∀ d, With K w ((w.alloc (.cells #[.int .i64 k, .int .i64 a, .int .i64 b, .int .i64 c] 101)).drewN d) M w.heap.size 101 [.int .i64 k, .int .i64 a, .int .i64 b, .int .i64 c] s := fun d => W0.below (below_drewN (Below.refl _ _) d)
  clear W0 hrow hbu
  go_enter Try.func106, Try.ntmps106
  go_wp2
  go_quiet (fail)
  go_wp2
  generalize hwq : (w.alloc (.cells #[.int .i64 k, .int .i64 a, .int .i64 b, .int .i64 c] 101)).drewN _ = wq
  have Wq : With K w wq M w.heap.size 101 [.int .i64 k, .int .i64 a, .int .i64 b, .int .i64 c] s := by rw [← hwq]; exact Wd _
  clear Wd hwq m0 o2 hrc hrf hrb hK hbi hbj hn
  obtain ⟨rv, cv, sv, lv, hrow, hbu, hK⟩ := id Wq.mach
  obtain ⟨rb, rc, hrv, hrb, hrc, hrf⟩ := hbu.regs.at hc
  subst hrv
  have m0 := hrow.cell (i := 0) rfl
  have o3 := Wq.row.cell (i := 3) rfl
  have hbi : (0 : Int) ≤ (c : Int) := by omega
  have hbj : (c : Int) < (s.regs.length : Int) := by omega
  have hn : s.regs.getD c 0 = rg s.regs c := by simp [rg]
  rw [hn] at hrc
  generalize rg s.regs c = y at *
  go_quiet (fail)
  have Wd : ∀ d, With K w (wq.drewN d) M w.heap.size 101 [.int .i64 k, .int .i64 a, .int .i64 b, .int .i64 c] s := fun d => Wq.below (below_drewN (Below.refl _ _) d)
  clear Wq hrow hbu
  generalize hwq : wq.drewN _ = wp
  have Wp : With K w wp M w.heap.size 101 [.int .i64 k, .int .i64 a, .int .i64 b, .int .i64 c] s := by rw [← hwq]; exact Wd _
  clear Wd hwq m0 o3 hrc hrf hrb hK hbi hbj hn
  have o0 := Wp.row.cell (i := 0) rfl
  by_cases h11 : k = 11
  · subst h11
    go_wp2_with fail
    refine letOut_cps _ M s x wp Wp.mach (by omega) _ ?_
    intro w3 hm3 hk3
    have W3 := Wp.next hm3 hk3
    clear Wp hm3 hk3 o0
    go_wp2_with fail
    refine letOut_cps _ M _ y w3 W3.mach (by simp [RunD.out]; omega) _ ?_
    intro w4 hm4 hk4
    have W4 := W3.next hm4 hk4
    clear W3 hm4 hk4
    have o0 := W4.row.cell (i := 0) rfl
    by_cases hy : y = 0
    · subst hy
      obtain ⟨rv, cv, sv, lv, hrow, hbu, hK⟩ := id W4.mach
      have m4 := hrow.cell (i := 4) rfl
      have f4 := hrow.frozen 4
      obtain ⟨q1, q2⟩ := W4.trap hrow hbu 3
      have HF : Hid (Post (.returned (.tuple #[])) (w4.setCell ⟨M, 4, none⟩ (.int .i64 3))) := hp _ (by simpa using q1) q2
      clear hp q1 q2 W4 hrow hbu
      go_wp2_with (go_at_call 108; refine (wordOf_zero _ _).mono ?_; rintro e w' ⟨rfl, rfl⟩)
      exact bodyPost_ret (v := .tuple #[]) (by simp [results, Try.results106, go_sem]) rfl HF.out
    · have Wd := W4.below ((Below.refl w4.heap.size w4).drew)
      obtain ⟨rv, cv, sv, lv, hrow, hbu, hK⟩ := id Wd.mach
      obtain ⟨g2, rc, hrv, hgr, hrc, hrf⟩ := hbu.regs.at (i := a) ha
      subst hrv
      have m0 := hrow.cell (i := 0) rfl
      have o1 := Wd.row.cell (i := 1) rfl
      have f2 := hrf a
      have hai : (0 : Int) ≤ (a : Int) := by omega
      have haj : (a : Int) < (((s.out x).out y).regs.length : Int) := by show (a : Int) < (s.regs.length : Int); omega
      obtain ⟨q1, q2⟩ := Wd.setReg hrow hbu hgr (i := a) ha (calcW 11 x y)
      have HF : Hid (Post (.returned (.tuple #[])) (w4.drew.setCell ⟨g2, a, none⟩ (.int .i64 (calcW 11 x y)))) := hp _ (by simpa [hy] using q1) q2
      clear hp q1 q2 W4 Wd hrow hbu
      go_wp2_with (go_at_call 108; refine (wordOf_any 11 x y _ (by omega) (fun _ => hy)).mono ?_; rintro e w' ⟨rfl, rfl⟩)
      generalize calcW 11 x y = v at *
      refine wp_tail 8 (by kernel_rfl) (by kernel_rfl) ?_
      simp only [List.take_succ_cons, List.take_zero, List.drop_succ_cons, List.drop_zero]
      repeat still_step
      refine wpStill_nil ?_
      go_wp2
      go_end0
      exact HF.out
  · have h11' : (k == 11) = false := by simp [h11]
    rw [if_neg h11] at hp
    have Wd := Wp.below ((Below.refl wp.heap.size wp).drew)
    obtain ⟨rv, cv, sv, lv, hrow, hbu, hK⟩ := id Wd.mach
    obtain ⟨g2, rc, hrv, hgr, hrc, hrf⟩ := hbu.regs.at (i := a) ha
    subst hrv
    have m0 := hrow.cell (i := 0) rfl
    have o1 := Wd.row.cell (i := 1) rfl
    have f2 := hrf a
    have hai : (0 : Int) ≤ (a : Int) := by omega
    have haj : (a : Int) < (s.regs.length : Int) := by omega
    obtain ⟨q1, q2⟩ := Wd.setReg hrow hbu hgr (i := a) ha (calcW k x y)
    have HF : Hid (Post (.returned (.tuple #[])) (wp.drew.setCell ⟨g2, a, none⟩ (.int .i64 (calcW k x y)))) := hp _ q1 q2
    clear hp q1 q2 Wp Wd hrow hbu
    go_wp2_with (go_at_call 108; refine (wordOf_any k x y _ hk (fun e => absurd e h11)).mono ?_; rintro e w' ⟨rfl, rfl⟩)
    generalize calcW k x y = v at *
    refine wp_tail 8 (by kernel_rfl) (by kernel_rfl) ?_
    simp only [List.take_succ_cons, List.take_zero, List.drop_succ_cons, List.drop_zero]
    repeat still_step
    refine wpStill_nil ?_
    go_wp2
    go_end0
    exact HF.out

end Go.Proofs.Ytblhmeidbjigaaa

/- The reference's state of a run. -/
set_option linter.unusedSimpArgs false
set_option linter.unusedVariables false
namespace Go.Proofs.Ytblhmeidbjigaaa
open Go.RowKit

/-- The reference's state at block M: the block that it is at, the result. -/
def RefS (K : Nat → Prop) (t r : Int) (w : World) (M : Nat) (s : RunD) : Prop :=
  ∃ rv cv sv lv, Row w M 120 [.int .i64 t, rv, cv, sv, lv, .int .i64 s.trap, .int .i64 r] ∧ Bunch K w rv cv sv lv s ∧ ¬ K M

theorem RefS.keep {K : Nat → Prop} {w w' : World} {M : Nat} {t r : Int} {s : RunD} (h : RefS K t r w M s) (hb : Below w.heap.size w w') : RefS K t r w' M s := by
  obtain ⟨rv, cv, sv, lv, h1, h2, h3⟩ := h
  exact ⟨rv, cv, sv, lv, h1.keep hb, h2.keep hb, h3⟩

/-- Other blocks are kept: some of those, and new ones. -/
theorem RefS.kept {K K' : Nat → Prop} {w w' : World} {M : Nat} {t r : Int} {s : RunD} (h : RefS K t r w M s) (hk : ∀ g, K' g → K g ∨ w.heap.size ≤ g) (hl : ∀ g, K' g → g < w'.heap.size) (hb : Below w.heap.size w w') : RefS K' t r w' M s := by
  obtain ⟨rv, cv, sv, lv, h1, h2, h3⟩ := h
  refine ⟨rv, cv, sv, lv, h1.keep hb, h2.kept hk hl hb, fun e => ?_⟩
  rcases hk M e with q | q
  · exact h3 q
  · have := h1.lt; omega

theorem RefS.lt {K : Nat → Prop} {w : World} {M : Nat} {t r : Int} {s : RunD} (h : RefS K t r w M s) : ∀ g, K g → g < w.heap.size := by
  obtain ⟨rv, cv, sv, lv, h1, h2, h3⟩ := h
  exact h2.lt

/-- The state beside a boxed operation (or end) at block O. -/
structure RWith (K : Nat → Prop) (t r : Int) (w0 w : World) (M O : Nat) (ty : TypeId) (xs : List Value) (s : RunD) : Prop where
  mach : RefS (fun g => K g ∨ g = O) t r w M s
  row : Row w O ty xs
  keep : Keep (fun g => ¬ K g) w0 w
  lt : ∀ g, K g → g < w0.heap.size
  ge : w0.heap.size ≤ O

theorem RWith.start {K : Nat → Prop} {w : World} {M : Nat} {s : RunD} {t r : Int} (h : RefS K t r w M s) (ty : TypeId) (xs : List Value) : RWith K t r w (w.alloc (.cells xs.toArray ty)) M w.heap.size ty xs s :=
  ⟨h.kept (fun g hg => by rcases hg with hg | hg; exact .inl hg; exact .inr (by omega)) (fun g hg => by rcases hg with hg | hg; have := h.lt g hg; simp; omega; simp; omega) ((Below.refl _ _).alloc (Nat.le_refl _) _),
    heap_alloc_new w _, (Keep.refl _ _).alloc _, h.lt, Nat.le_refl _⟩

theorem RWith.below {K : Nat → Prop} {w0 w w' : World} {M O : Nat} {t r : Int} {ty : TypeId} {xs : List Value} {s : RunD} (h : RWith K t r w0 w M O ty xs s) (hb : Below w.heap.size w w') : RWith K t r w0 w' M O ty xs s :=
  ⟨h.mach.keep hb, h.row.keep hb, h.keep.below hb h.keep.size, h.lt, h.ge⟩

theorem RWith.next {K : Nat → Prop} {w0 w w' : World} {M O : Nat} {t r : Int} {ty : TypeId} {xs : List Value} {s s' : RunD} (h : RWith K t r w0 w M O ty xs s) (hm : RefS (fun g => K g ∨ g = O) t r w' M s') (hk : Keep (fun g => ¬ (K g ∨ g = O)) w w') : RWith K t r w0 w' M O ty xs s' :=
  ⟨hm, h.row.same (hk.block O h.row.lt (fun hn => hn (.inr rfl))), h.keep.trans (hk.mono (fun g hn e => hn (.inl e))), h.lt, h.ge⟩

theorem RWith.done {K : Nat → Prop} {w0 w : World} {M O : Nat} {t r : Int} {ty : TypeId} {xs : List Value} {s : RunD} (h : RWith K t r w0 w M O ty xs s) : RefS K t r w M s :=
  h.mach.kept (fun g hg => .inl (.inl hg)) (fun g hg => Nat.lt_of_lt_of_le (h.lt g hg) h.keep.size) (Below.refl _ _)

/-- A word becomes another: a register. -/
theorem RWith.setReg {K : Nat → Prop} {w0 w : World} {M O : Nat} {t r : Int} {ty : TypeId} {xs : List Value} {s : RunD} (h : RWith K t r w0 w M O ty xs s) {rv cv sv lv : Value} (hrow : Row w M 120 [.int .i64 t, rv, cv, sv, lv, .int .i64 s.trap, .int .i64 r]) (hb : Bunch (fun g => K g ∨ g = O) w rv cv sv lv s)
    {g i : Nat} (hg : rv.ownBlock = some g) (hi : i < s.regs.length) (u : Int) : RefS K t r (w.setCell ⟨g, i, none⟩ (.int .i64 u)) M (s.reg i u) ∧ Keep (fun g => ¬ K g) w0 (w.setCell ⟨g, i, none⟩ (.int .i64 u)) := by
  have hne : ¬ (rv.ownBlock = some M) := row_owns_apart hrow hb.regs (by decide)
  have hK : ¬ (K g ∨ g = O) := hb.kr g hg
  have hM : ¬ K M := by obtain ⟨_, _, _, _, _, _, h3⟩ := h.mach; exact fun e => h3 (.inl e)
  have b2 := hb.setReg hg hi u
  have r2 := hrow.unset (a := ⟨g, i, none⟩) (fun e => hne (by rw [hg]; exact congrArg some e.symm)) (.int .i64 u)
  have b3 := b2.kept (K' := K) (fun g hg => .inl (.inl hg)) (fun g hg => by have := h.lt g hg; have := h.keep.size; simp; omega) (Below.refl _ _)
  exact ⟨⟨rv, cv, sv, lv, r2, b3, hM⟩, h.keep.setCell (.inl (fun e => hK (.inl e))) _⟩

theorem RWith.setMem {K : Nat → Prop} {w0 w : World} {M O : Nat} {t r : Int} {ty : TypeId} {xs : List Value} {s : RunD} (h : RWith K t r w0 w M O ty xs s) {rv cv sv lv : Value} (hrow : Row w M 120 [.int .i64 t, rv, cv, sv, lv, .int .i64 s.trap, .int .i64 r]) (hb : Bunch (fun g => K g ∨ g = O) w rv cv sv lv s)
    {g i : Nat} (hg : cv.ownBlock = some g) (hi : i < s.cells.length) (u : Int) : RefS K t r (w.setCell ⟨g, i, none⟩ (.int .i64 u)) M (s.cell i u) ∧ Keep (fun g => ¬ K g) w0 (w.setCell ⟨g, i, none⟩ (.int .i64 u)) := by
  have hne : ¬ (cv.ownBlock = some M) := row_owns_apart hrow hb.cells (by decide)
  have hK : ¬ (K g ∨ g = O) := hb.kc g hg
  have hM : ¬ K M := by obtain ⟨_, _, _, _, _, _, h3⟩ := h.mach; exact fun e => h3 (.inl e)
  have b2 := hb.setMem hg hi u
  have r2 := hrow.unset (a := ⟨g, i, none⟩) (fun e => hne (by rw [hg]; exact congrArg some e.symm)) (.int .i64 u)
  have b3 := b2.kept (K' := K) (fun g hg => .inl (.inl hg)) (fun g hg => by have := h.lt g hg; have := h.keep.size; simp; omega) (Below.refl _ _)
  exact ⟨⟨rv, cv, sv, lv, r2, b3, hM⟩, h.keep.setCell (.inl (fun e => hK (.inl e))) _⟩

theorem RWith.setSlot {K : Nat → Prop} {w0 w : World} {M O : Nat} {t r : Int} {ty : TypeId} {xs : List Value} {s : RunD} (h : RWith K t r w0 w M O ty xs s) {rv cv sv lv : Value} (hrow : Row w M 120 [.int .i64 t, rv, cv, sv, lv, .int .i64 s.trap, .int .i64 r]) (hb : Bunch (fun g => K g ∨ g = O) w rv cv sv lv s)
    {g i : Nat} (hg : sv.ownBlock = some g) (hi : i < s.slots.length) (u : Int) : RefS K t r (w.setCell ⟨g, i, none⟩ (.int .i64 u)) M (s.slot i u) ∧ Keep (fun g => ¬ K g) w0 (w.setCell ⟨g, i, none⟩ (.int .i64 u)) := by
  have hne : ¬ (sv.ownBlock = some M) := row_owns_apart hrow hb.slots (by decide)
  have hK : ¬ (K g ∨ g = O) := hb.ks g hg
  have hM : ¬ K M := by obtain ⟨_, _, _, _, _, _, h3⟩ := h.mach; exact fun e => h3 (.inl e)
  have b2 := hb.setSlot hg hi u
  have r2 := hrow.unset (a := ⟨g, i, none⟩) (fun e => hne (by rw [hg]; exact congrArg some e.symm)) (.int .i64 u)
  have b3 := b2.kept (K' := K) (fun g hg => .inl (.inl hg)) (fun g hg => by have := h.lt g hg; have := h.keep.size; simp; omega) (Below.refl _ _)
  exact ⟨⟨rv, cv, sv, lv, r2, b3, hM⟩, h.keep.setCell (.inl (fun e => hK (.inl e))) _⟩

/-- The state traps. -/
theorem RWith.trap {K : Nat → Prop} {w0 w : World} {M O : Nat} {t r : Int} {ty : TypeId} {xs : List Value} {s : RunD} (h : RWith K t r w0 w M O ty xs s) {rv cv sv lv : Value} (hrow : Row w M 120 [.int .i64 t, rv, cv, sv, lv, .int .i64 s.trap, .int .i64 r]) (hb : Bunch (fun g => K g ∨ g = O) w rv cv sv lv s) (u : Int) :
    RefS K t r (w.setCell ⟨M, 5, none⟩ (.int .i64 u)) M (s.die u) ∧ Keep (fun g => ¬ K g) w0 (w.setCell ⟨M, 5, none⟩ (.int .i64 u)) := by
  have hM : ¬ K M := by obtain ⟨_, _, _, _, _, _, h3⟩ := h.mach; exact fun e => h3 (.inl e)
  have b2 := (hb.far hrow (by decide) 5 (.int .i64 u)).trapped u
  have b3 := b2.kept (K' := K) (fun g hg => .inl (.inl hg)) (fun g hg => by have := h.lt g hg; have := h.keep.size; simp; omega) (Below.refl _ _)
  exact ⟨⟨rv, cv, sv, lv, hrow.set 5 (.int .i64 u), b3, hM⟩, h.keep.setCell (.inl hM) _⟩

/-- A store into another field of the state. -/
theorem RWith.next' {K : Nat → Prop} {t r t' r' : Int} {w0 w w' : World} {M O : Nat} {ty : TypeId} {xs : List Value} {s s' : RunD} (h : RWith K t r w0 w M O ty xs s) (hm : RefS (fun g => K g ∨ g = O) t' r' w' M s') (hk : Keep (fun g => ¬ (K g ∨ g = O)) w w') : RWith K t' r' w0 w' M O ty xs s' :=
  ⟨hm, h.row.same (hk.block O h.row.lt (fun hn => hn (.inr rfl))), h.keep.trans (hk.mono (fun g hn e => hn (.inl e))), h.lt, h.ge⟩

end Go.Proofs.Ytblhmeidbjigaaa

/- The reference lets words out. -/
set_option linter.unusedSimpArgs false
set_option linter.unusedVariables false
namespace Go.Proofs.Ytblhmeidbjigaaa
open Go.RowKit

theorem int_one' (x : Int) : ∀ u ∈ [Value.int .i64 x], u.oneCell' = true := by
  intro u hu; simp at hu; subst hu; rfl

/-- A word is let out: behind the append, the store into the state. -/
theorem refs_app {K : Nat → Prop} {t r : Int} {w w1 : World} {M : Nat} {s : RunD} {rv cv sv lv v' : Value} {x : Int} (hrow : Row w M 120 [.int .i64 t, rv, cv, sv, lv, .int .i64 s.trap, .int .i64 r]) (hbu : Bunch K w rv cv sv lv s) (hK : ¬ K M)
    (hown : w1.ownsRow 0 3 1 v' (s.leak.length + 1) (ints s.leak ++ [.int .i64 x])) (hgrow : (w.alloc (.cells #[.int .i64 x] 3)).grownBy w1 lv.ownBlock) (hat : v'.ownBlock = lv.ownBlock ∨ v'.ownBlock = some (w.heap.size + 1)) :
    (RefS K t r (w1.setCell ⟨M, 4, none⟩ v') M (s.out x) ∧ Keep (fun g => ¬ K g) w (w1.setCell ⟨M, 4, none⟩ v')) ∧ w1.cell? ⟨M, 4, none⟩ = some lv ∧ w1.frozen? ⟨M, 4, none⟩ = false := by
  have hne := row_owns_apart hrow hbu.leak (by decide)
  have hal := (Below.refl w.heap.size w).alloc (Nat.le_refl _) (.cells #[.int .i64 x] 3)
  have hb0 := hbu.keep hal
  have hr0 := hrow.keep hal
  have hk0 : Keep (fun g => ¬ K g) w (w.alloc (.cells #[.int .i64 x] 3)) := (Keep.refl _ _).alloc _
  have hb1 := hb0.app hown hgrow (by simpa using hat)
  have hr1 := hr0.grown hgrow hne
  have hk1 := hk0.grown hgrow (fun g e => .inl (hbu.kl g e))
  have hb2 := hb1.far hr1 (by decide) 4 v'
  have hr2 := hr1.set 4 v'
  have hk2 := hk1.setCell (p := ⟨M, 4, none⟩) (.inl hK) v'
  exact ⟨⟨⟨rv, cv, sv, v', hr2, hb2, hK⟩, hk2⟩, hr1.cell (i := 4) rfl, hr1.frozen 4⟩

theorem refs_die {K : Nat → Prop} {t r : Int} {w : World} {M : Nat} {s : RunD} {rv cv sv lv : Value} (hrow : Row w M 120 [.int .i64 t, rv, cv, sv, lv, .int .i64 s.trap, .int .i64 r]) (hbu : Bunch K w rv cv sv lv s) (hK : ¬ K M) (u : Int) :
    RefS K t r (w.setCell ⟨M, 5, none⟩ (.int .i64 u)) M (s.die u) ∧ Keep (fun g => ¬ K g) w (w.setCell ⟨M, 5, none⟩ (.int .i64 u)) :=
  ⟨⟨rv, cv, sv, lv, hrow.set 5 (.int .i64 u), (hbu.far hrow (by decide) 5 _).trapped u, hK⟩, (Keep.refl _ _).setCell (.inl hK) _⟩

set_option maxRecDepth 100000 in
set_option maxHeartbeats 2000000 in
theorem rCell_cps (K : Nat → Prop) (t r : Int) (M : Nat) (s : RunD) (n : Int) (w : World) (h : RefS K t r w M s) (hl : s.leak.length ≤ 100000) (Post : Ending → World → Prop)
    (hyes : 0 ≤ n ∧ n < s.cells.length → ∀ w', RefS K t r w' M (s.out n) → Keep (fun g => ¬ K g) w w' → Post (.returned (.bool true)) w')
    (hno : ¬ (0 ≤ n ∧ n < s.cells.length) → ∀ w', RefS K t r w' M ((s.out n).die 2) → Keep (fun g => ¬ K g) w w' → Post (.returned (.bool false)) w') :
    Calls Try.prog 98 #[.pointer (some ⟨M, 0, none⟩), .int .i64 n] w Post := by
  obtain ⟨i0, ii, iz0, iz1, iz2⟩ := info_parts Try.infoInt
  obtain ⟨rv, cv, sv, lv, hrow, hbu, hK⟩ := h
  obtain ⟨lo, lc, rfl⟩ := owns_slice hbu.leak
  have m4 := hrow.cell (i := 4) rfl
  have hbl := (hbu.keep ((Below.refl w.heap.size w).alloc (Nat.le_refl _) (.cells #[.int .i64 n] 3))).leak
  go_enter Try.func98, Try.ntmps98
  go_wp2_with (at_builtin; refine wpList_append_own_at _ rfl _ _ 36 rfl 0 3 i0 (.int .i64 0) 1 8 Try.underlying36 ii iz0 iz1 iz2 rfl (by decide) _ _ _ rfl hbl ⟨w.heap.size, 0, none⟩ 1 1 [.int .i64 n] rfl rfl ?c1 (int_one' n) ?c3 ?c4 (by omega) ?_)
  case c1 => exact one_new w _ _
  case c3 => unfold maxLen; omega
  case c4 => omega
  intro v' w1 hown hgrow _ hat
  obtain ⟨⟨hm, hk⟩, y4, yf⟩ := refs_app hrow hbu hK hown hgrow (by simpa using hat)
  obtain ⟨lo', lc', rfl⟩ := owns_slice hown
  clear hrow hbu hown hgrow hat hbl m4
  generalize hW : w1.setCell ⟨M, 4, none⟩ (.slice lo' (s.leak.length + 1) lc') = w2 at *
  obtain ⟨rv, cv, sv, lv, hrow, hbu, hK⟩ := id hm
  obtain ⟨co, cc, rfl⟩ := owns_slice hbu.cells
  have x2 := hrow.cell (i := 2) rfl
  have hlc : (s.out n).cells.length = s.cells.length := rfl
  rw [hlc] at x2 hrow hbu
  have x5 := hrow.cell (i := 5) rfl
  have xf := hrow.frozen 5
  have hin : Hid (¬ (0 ≤ n ∧ n < s.cells.length) → Post (.returned (.bool false)) (w2.setCell ⟨M, 5, none⟩ (.int .i64 2))) := fun hc => by
    obtain ⟨q1, q2⟩ := refs_die hrow hbu hK 2
    exact hno hc _ q1 (hk.trans q2)
  have hit : Hid (0 ≤ n ∧ n < s.cells.length → Post (.returned (.bool true)) w2) := fun hc => hyes hc _ hm hk
  clear hyes hno hm hk hrow hbu
  rw [← hW] at x2 x5 xf hin hit
  by_cases h0 : n < 0
  · have HF : Hid (Post (.returned (.bool false)) _) := hin.out (by omega)
    clear hin hit hW
    go_wp2
    exact HF.out
  by_cases h1 : n < s.cells.length
  · have HF : Hid (Post (.returned (.bool true)) _) := hit.out ⟨by omega, h1⟩
    clear hin hit hW
    go_wp2
    exact HF.out
  · have HF : Hid (Post (.returned (.bool false)) _) := hin.out (by omega)
    clear hin hit hW
    go_wp2
    exact HF.out

end Go.Proofs.Ytblhmeidbjigaaa

/- The machine does an operation; the operations of a block; where it goes on. -/
set_option linter.unusedSimpArgs false
set_option linter.unusedVariables false
namespace Go.Proofs.Ytblhmeidbjigaaa
open Go.RowKit

theorem opGood_kind {regs slots : Int} {o : OpD} (h : opGood regs slots o = true) : 1 ≤ o.kind ∧ o.kind ≤ 15 := by
  unfold opGood at h
  repeat' split at h
  all_goals first | omega | simp at h

set_option maxRecDepth 100000 in
set_option maxHeartbeats 1000000 in
theorem do_1 (K : Nat → Prop) (M : Nat) (s : RunD) (a b c : Int) (regs data slots : Int) (w : World) (h : Mach K w M s) (hl : s.leak.length ≤ 99999) (hz : Sized s regs data slots) (hg : opGood regs slots ⟨1, a, b, c⟩ = true) (Post : Ending → World → Prop)
    (hp : ∀ w', Mach K w' M (stepOp s ⟨1, a, b, c⟩) → Keep (fun g => ¬ K g) w w' → Post (.returned (.tuple #[])) w') :
    Calls Try.prog 100 #[.pointer (some ⟨M, 0, none⟩), .agg #[.int .i64 1, .int .i64 a, .int .i64 b, .int .i64 c]] w Post := by
  obtain ⟨zr, zc, zs⟩ := hz
  have W0 := With.start h 101 [.int .i64 1, .int .i64 a, .int .i64 b, .int .i64 c]
  have o0 := W0.row.cell (i := 0) rfl
  clear h
  simp only [opGood, below, if_true, Bool.and_eq_true, decide_eq_true_eq] at hg
  obtain ⟨⟨ga, gb⟩, gc⟩ := hg
  obtain ⟨a, rfl⟩ := Int.eq_ofNat_of_zero_le ga.1
  simp only [stepOp, if_true] at hp
  have ha : a < s.regs.length := by omega
  have Wd := W0.below ((Below.refl _ _).drew)
  obtain ⟨rv, cv, sv, lv, hrow, hbu, hK⟩ := id Wd.mach
  obtain ⟨g2, rc, hrv, hgr, hrc, hrf⟩ := hbu.regs.at (i := a) ha
  subst hrv
  have m0 := hrow.cell (i := 0) rfl
  have o1 := Wd.row.cell (i := 1) rfl
  have o2 := Wd.row.cell (i := 2) rfl
  have o3 := Wd.row.cell (i := 3) rfl
  have f2 := hrf a
  have hai : (0 : Int) ≤ (a : Int) := by omega
  have haj : (a : Int) < (s.regs.length : Int) := by omega
  obtain ⟨q1, q2⟩ := Wd.setReg hrow hbu hgr (i := a) ha (256 * b + c - 32768)
  have HF : Hid (Post (.returned (.tuple #[])) ((w.alloc (.cells #[.int .i64 1, .int .i64 a, .int .i64 b, .int .i64 c] 101)).drew.setCell ⟨g2, a, none⟩ (.int .i64 (256 * b + c - 32768)))) := hp _ q1 q2
  have hof := ofConst_any b c (w.alloc (.cells #[.int .i64 1, .int .i64 a, .int .i64 b, .int .i64 c] 101)).drew gb gc
  clear hp q1 q2 W0 Wd hrow hbu
  go_enter Try.func100, Try.ntmps100
  go_wp2
  refine wp_tail 12 (by kernel_rfl) (by kernel_rfl) ?_
  simp only [List.take_succ_cons, List.take_zero, List.drop_succ_cons, List.drop_zero]
  repeat still_step
  still_call (hof.mono (fun e w' h => ⟨h.1, h.2.symm⟩))
  repeat still_step
  refine wpStill_nil ?_
  go_wp2
  go_end0
  exact HF.out

set_option maxRecDepth 100000 in
set_option maxHeartbeats 1000000 in
theorem do_2 (K : Nat → Prop) (M : Nat) (s : RunD) (a b c : Int) (regs data slots : Int) (w : World) (h : Mach K w M s) (hl : s.leak.length ≤ 99999) (hz : Sized s regs data slots) (hg : opGood regs slots ⟨2, a, b, c⟩ = true) (Post : Ending → World → Prop)
    (hp : ∀ w', Mach K w' M (stepOp s ⟨2, a, b, c⟩) → Keep (fun g => ¬ K g) w w' → Post (.returned (.tuple #[])) w') :
    Calls Try.prog 100 #[.pointer (some ⟨M, 0, none⟩), .agg #[.int .i64 2, .int .i64 a, .int .i64 b, .int .i64 c]] w Post := by
  obtain ⟨zr, zc, zs⟩ := hz
  have W0 := With.start h 101 [.int .i64 2, .int .i64 a, .int .i64 b, .int .i64 c]
  have o0 := W0.row.cell (i := 0) rfl
  clear h
  simp [opGood, below] at hg
  obtain ⟨⟨ga, gb⟩, gc⟩ := hg
  subst gc
  obtain ⟨a, rfl⟩ := Int.eq_ofNat_of_zero_le ga.1
  obtain ⟨b, rfl⟩ := Int.eq_ofNat_of_zero_le gb.1
  simp [stepOp] at hp
  have ha : a < s.regs.length := by omega
  have hb : b < s.regs.length := by omega
  have Wd := W0.below ((Below.refl _ _).drew)
  obtain ⟨rv, cv, sv, lv, hrow, hbu, hK⟩ := id Wd.mach
  obtain ⟨g2, rc, hrv, hgr, hrc, hrf⟩ := hbu.regs.at (i := a) ha
  obtain ⟨g1, rc1, hrv1, hgr1, hrc1, hrf1⟩ := hbu.regs.at (i := b) hb
  have e1 : s.regs.getD b 0 = rg s.regs b := by simp [rg]
  rw [e1] at hrc1
  have m0 := hrow.cell (i := 0) rfl
  have m1 := hrow.cell (i := 0) rfl
  have o1 := Wd.row.cell (i := 1) rfl
  have o2 := Wd.row.cell (i := 2) rfl
  have f2 := hrf a
  have hai : (0 : Int) ≤ (a : Int) := by omega
  have haj : (a : Int) < (s.regs.length : Int) := by omega
  have hbi : (0 : Int) ≤ (b : Int) := by omega
  have hbj : (b : Int) < (s.regs.length : Int) := by omega
  obtain ⟨q1, q2⟩ := Wd.setReg hrow hbu hgr (i := a) ha (rg s.regs b)
  have HF : Hid (Post (.returned (.tuple #[])) ((w.alloc (.cells #[.int .i64 2, .int .i64 a, .int .i64 b, .int .i64 0] 101)).drew.setCell ⟨g2, a, none⟩ (.int .i64 (rg s.regs b)))) := hp _ q1 q2
  rw [hrv] at hrv1 m0 m1
  simp only [Value.slice.injEq, Option.some.injEq, Addr.mk.injEq, true_and, and_true] at hrv1
  obtain ⟨rfl, rfl⟩ := hrv1
  clear hp q1 q2 W0 Wd hrow hbu
  go_enter Try.func100, Try.ntmps100
  go_wp2
  refine wp_tail 15 (by kernel_rfl) (by kernel_rfl) ?_
  simp only [List.take_succ_cons, List.take_zero, List.drop_succ_cons, List.drop_zero]
  repeat still_step
  refine wpStill_nil ?_
  go_wp2
  go_end0
  exact HF.out

set_option maxRecDepth 100000 in
set_option maxHeartbeats 1000000 in
theorem do_12 (K : Nat → Prop) (M : Nat) (s : RunD) (a b c : Int) (regs data slots : Int) (w : World) (h : Mach K w M s) (hl : s.leak.length ≤ 99999) (hz : Sized s regs data slots) (hg : opGood regs slots ⟨12, a, b, c⟩ = true) (Post : Ending → World → Prop)
    (hp : ∀ w', Mach K w' M (stepOp s ⟨12, a, b, c⟩) → Keep (fun g => ¬ K g) w w' → Post (.returned (.tuple #[])) w') :
    Calls Try.prog 100 #[.pointer (some ⟨M, 0, none⟩), .agg #[.int .i64 12, .int .i64 a, .int .i64 b, .int .i64 c]] w Post := by
  obtain ⟨zr, zc, zs⟩ := hz
  have W0 := With.start h 101 [.int .i64 12, .int .i64 a, .int .i64 b, .int .i64 c]
  have o0 := W0.row.cell (i := 0) rfl
  clear h
  simp [opGood, below] at hg
  obtain ⟨⟨ga, gb⟩, gc⟩ := hg
  subst gc
  obtain ⟨a, rfl⟩ := Int.eq_ofNat_of_zero_le ga.1
  obtain ⟨b, rfl⟩ := Int.eq_ofNat_of_zero_le gb.1
  have HP : Hid (∀ w', Mach K w' M (stepOp s ⟨12, a, b, 0⟩) → Keep (fun g => ¬ K g) w w' → Post (.returned (.tuple #[])) w') := hp
  clear hp
  have o1 := W0.row.cell (i := 1) rfl
  have o2 := W0.row.cell (i := 2) rfl
  have o3 := W0.row.cell (i := 3) rfl
  go_enter Try.func100, Try.ntmps100
  go_wp2_with fail
  refine load_cps _ M s 12 0 a b _ W0.mach (by omega) (by omega) (by omega) _ ?_
  intro w2 hm hk
  have W2 := W0.next (s' := stepOp s ⟨12, a, b, 0⟩) (by simpa [stepOp] using hm) hk
  have HF : Hid (Post (.returned (.tuple #[])) w2) := HP.out _ W2.done W2.keep
  clear HP W0 W2 hm hk
  go_wp2
  go_end0
  exact HF.out

set_option maxRecDepth 100000 in
set_option maxHeartbeats 1000000 in
theorem do_13 (K : Nat → Prop) (M : Nat) (s : RunD) (a b c : Int) (regs data slots : Int) (w : World) (h : Mach K w M s) (hl : s.leak.length ≤ 99999) (hz : Sized s regs data slots) (hg : opGood regs slots ⟨13, a, b, c⟩ = true) (Post : Ending → World → Prop)
    (hp : ∀ w', Mach K w' M (stepOp s ⟨13, a, b, c⟩) → Keep (fun g => ¬ K g) w w' → Post (.returned (.tuple #[])) w') :
    Calls Try.prog 100 #[.pointer (some ⟨M, 0, none⟩), .agg #[.int .i64 13, .int .i64 a, .int .i64 b, .int .i64 c]] w Post := by
  obtain ⟨zr, zc, zs⟩ := hz
  have W0 := With.start h 101 [.int .i64 13, .int .i64 a, .int .i64 b, .int .i64 c]
  have o0 := W0.row.cell (i := 0) rfl
  clear h
  simp [opGood, below] at hg
  obtain ⟨⟨ga, gb⟩, gc⟩ := hg
  subst gc
  obtain ⟨a, rfl⟩ := Int.eq_ofNat_of_zero_le ga.1
  obtain ⟨b, rfl⟩ := Int.eq_ofNat_of_zero_le gb.1
  have HP : Hid (∀ w', Mach K w' M (stepOp s ⟨13, a, b, 0⟩) → Keep (fun g => ¬ K g) w w' → Post (.returned (.tuple #[])) w') := hp
  clear hp
  have o1 := W0.row.cell (i := 1) rfl
  have o2 := W0.row.cell (i := 2) rfl
  have o3 := W0.row.cell (i := 3) rfl
  go_enter Try.func100, Try.ntmps100
  go_wp2_with fail
  refine store_cps _ M s 13 0 a b _ W0.mach (by omega) (by omega) (by omega) _ ?_
  intro w2 hm hk
  have W2 := W0.next (s' := stepOp s ⟨13, a, b, 0⟩) (by simpa [stepOp] using hm) hk
  have HF : Hid (Post (.returned (.tuple #[])) w2) := HP.out _ W2.done W2.keep
  clear HP W0 W2 hm hk
  go_wp2
  go_end0
  exact HF.out

set_option maxRecDepth 100000 in
set_option maxHeartbeats 1000000 in
theorem do_14 (K : Nat → Prop) (M : Nat) (s : RunD) (a b c : Int) (regs data slots : Int) (w : World) (h : Mach K w M s) (hl : s.leak.length ≤ 99999) (hz : Sized s regs data slots) (hg : opGood regs slots ⟨14, a, b, c⟩ = true) (Post : Ending → World → Prop)
    (hp : ∀ w', Mach K w' M (stepOp s ⟨14, a, b, c⟩) → Keep (fun g => ¬ K g) w w' → Post (.returned (.tuple #[])) w') :
    Calls Try.prog 100 #[.pointer (some ⟨M, 0, none⟩), .agg #[.int .i64 14, .int .i64 a, .int .i64 b, .int .i64 c]] w Post := by
  obtain ⟨zr, zc, zs⟩ := hz
  have W0 := With.start h 101 [.int .i64 14, .int .i64 a, .int .i64 b, .int .i64 c]
  have o0 := W0.row.cell (i := 0) rfl
  clear h
  simp [opGood, below] at hg
  obtain ⟨⟨ga, gb⟩, gc⟩ := hg
  subst gc
  obtain ⟨a, rfl⟩ := Int.eq_ofNat_of_zero_le ga.1
  obtain ⟨b, rfl⟩ := Int.eq_ofNat_of_zero_le gb.1
  simp [stepOp] at hp
  have ha : a < s.slots.length := by omega
  have hb : b < s.regs.length := by omega
  have Wd := W0.below ((Below.refl _ _).drew)
  obtain ⟨rv, cv, sv, lv, hrow, hbu, hK⟩ := id Wd.mach
  obtain ⟨g2, rc, hrv, hgr, hrc, hrf⟩ := hbu.slots.at (i := a) ha
  obtain ⟨g1, rc1, hrv1, hgr1, hrc1, hrf1⟩ := hbu.regs.at (i := b) hb
  have e1 : s.regs.getD b 0 = rg s.regs b := by simp [rg]
  rw [e1] at hrc1
  have m0 := hrow.cell (i := 2) rfl
  have m1 := hrow.cell (i := 0) rfl
  have o1 := Wd.row.cell (i := 1) rfl
  have o2 := Wd.row.cell (i := 2) rfl
  have f2 := hrf a
  have hai : (0 : Int) ≤ (a : Int) := by omega
  have haj : (a : Int) < (s.slots.length : Int) := by omega
  have hbi : (0 : Int) ≤ (b : Int) := by omega
  have hbj : (b : Int) < (s.regs.length : Int) := by omega
  obtain ⟨q1, q2⟩ := Wd.setSlot hrow hbu hgr (i := a) ha (rg s.regs b)
  have HF : Hid (Post (.returned (.tuple #[])) ((w.alloc (.cells #[.int .i64 14, .int .i64 a, .int .i64 b, .int .i64 0] 101)).drew.setCell ⟨g2, a, none⟩ (.int .i64 (rg s.regs b)))) := hp _ q1 q2
  subst hrv
  subst hrv1
  clear hp q1 q2 W0 Wd hrow hbu
  go_enter Try.func100, Try.ntmps100
  go_wp2
  refine wp_tail 15 (by kernel_rfl) (by kernel_rfl) ?_
  simp only [List.take_succ_cons, List.take_zero, List.drop_succ_cons, List.drop_zero]
  repeat still_step
  refine wpStill_nil ?_
  go_wp2
  go_end0
  exact HF.out

set_option maxRecDepth 100000 in
set_option maxHeartbeats 1000000 in
theorem do_15 (K : Nat → Prop) (M : Nat) (s : RunD) (a b c : Int) (regs data slots : Int) (w : World) (h : Mach K w M s) (hl : s.leak.length ≤ 99999) (hz : Sized s regs data slots) (hg : opGood regs slots ⟨15, a, b, c⟩ = true) (Post : Ending → World → Prop)
    (hp : ∀ w', Mach K w' M (stepOp s ⟨15, a, b, c⟩) → Keep (fun g => ¬ K g) w w' → Post (.returned (.tuple #[])) w') :
    Calls Try.prog 100 #[.pointer (some ⟨M, 0, none⟩), .agg #[.int .i64 15, .int .i64 a, .int .i64 b, .int .i64 c]] w Post := by
  obtain ⟨zr, zc, zs⟩ := hz
  have W0 := With.start h 101 [.int .i64 15, .int .i64 a, .int .i64 b, .int .i64 c]
  have o0 := W0.row.cell (i := 0) rfl
  clear h
  simp [opGood, below] at hg
  obtain ⟨⟨ga, gb⟩, gc⟩ := hg
  subst gc
  obtain ⟨a, rfl⟩ := Int.eq_ofNat_of_zero_le ga.1
  obtain ⟨b, rfl⟩ := Int.eq_ofNat_of_zero_le gb.1
  simp [stepOp] at hp
  have ha : a < s.regs.length := by omega
  have hb : b < s.slots.length := by omega
  have Wd := W0.below ((Below.refl _ _).drew)
  obtain ⟨rv, cv, sv, lv, hrow, hbu, hK⟩ := id Wd.mach
  obtain ⟨g2, rc, hrv, hgr, hrc, hrf⟩ := hbu.regs.at (i := a) ha
  obtain ⟨g1, rc1, hrv1, hgr1, hrc1, hrf1⟩ := hbu.slots.at (i := b) hb
  have e1 : s.slots.getD b 0 = rg s.slots b := by simp [rg]
  rw [e1] at hrc1
  have m0 := hrow.cell (i := 0) rfl
  have m1 := hrow.cell (i := 2) rfl
  have o1 := Wd.row.cell (i := 1) rfl
  have o2 := Wd.row.cell (i := 2) rfl
  have f2 := hrf a
  have hai : (0 : Int) ≤ (a : Int) := by omega
  have haj : (a : Int) < (s.regs.length : Int) := by omega
  have hbi : (0 : Int) ≤ (b : Int) := by omega
  have hbj : (b : Int) < (s.slots.length : Int) := by omega
  obtain ⟨q1, q2⟩ := Wd.setReg hrow hbu hgr (i := a) ha (rg s.slots b)
  have HF : Hid (Post (.returned (.tuple #[])) ((w.alloc (.cells #[.int .i64 15, .int .i64 a, .int .i64 b, .int .i64 0] 101)).drew.setCell ⟨g2, a, none⟩ (.int .i64 (rg s.slots b)))) := hp _ q1 q2
  subst hrv
  subst hrv1
  clear hp q1 q2 W0 Wd hrow hbu
  go_enter Try.func100, Try.ntmps100
  go_wp2
  refine wp_tail 15 (by kernel_rfl) (by kernel_rfl) ?_
  simp only [List.take_succ_cons, List.take_zero, List.drop_succ_cons, List.drop_zero]
  repeat still_step
  refine wpStill_nil ?_
  go_wp2
  go_end0
  exact HF.out

set_option maxRecDepth 100000 in
set_option maxHeartbeats 1000000 in
theorem do_cps (K : Nat → Prop) (M : Nat) (s : RunD) (o : OpD) (regs data slots : Int) (w : World) (h : Mach K w M s) (hl : s.leak.length ≤ 99999) (hz : Sized s regs data slots) (hg : opGood regs slots o = true) (Post : Ending → World → Prop)
    (hp : ∀ w', Mach K w' M (stepOp s o) → Keep (fun g => ¬ K g) w w' → Post (.returned (.tuple #[])) w') :
    Calls Try.prog 100 #[.pointer (some ⟨M, 0, none⟩), .agg #[.int .i64 o.kind, .int .i64 o.a, .int .i64 o.b, .int .i64 o.c]] w Post := by
  have hkk := opGood_kind hg
  obtain ⟨k, a, b, c⟩ := o
  simp only at hkk ⊢
  by_cases h1 : k = 1
  · subst h1
    exact do_1 K M s a b c regs data slots w h hl hz hg Post hp
  by_cases h2 : k = 2
  · subst h2
    exact do_2 K M s a b c regs data slots w h hl hz hg Post hp
  by_cases h12 : k = 12
  · subst h12
    exact do_12 K M s a b c regs data slots w h hl hz hg Post hp
  by_cases h13 : k = 13
  · subst h13
    exact do_13 K M s a b c regs data slots w h hl hz hg Post hp
  by_cases h14 : k = 14
  · subst h14
    exact do_14 K M s a b c regs data slots w h hl hz hg Post hp
  by_cases h15 : k = 15
  · subst h15
    exact do_15 K M s a b c regs data slots w h hl hz hg Post hp
  obtain ⟨zr, zc, zs⟩ := hz
  have W0 := With.start h 101 [.int .i64 k, .int .i64 a, .int .i64 b, .int .i64 c]
  have o0 := W0.row.cell (i := 0) rfl
  clear h
  have hk3 : 3 ≤ k ∧ k ≤ 11 := by omega
  have hgg : (0 ≤ a ∧ a < regs) ∧ (0 ≤ b ∧ b < regs) ∧ 0 ≤ c ∧ c < regs := by
    unfold opGood at hg
    rw [if_neg (by simpa using h1), if_pos (by simpa using hk3)] at hg
    simp [below] at hg
    omega
  clear hg
  obtain ⟨ga, gb, gc⟩ := hgg
  obtain ⟨a, rfl⟩ := Int.eq_ofNat_of_zero_le ga.1
  obtain ⟨b, rfl⟩ := Int.eq_ofNat_of_zero_le gb.1
  obtain ⟨c, rfl⟩ := Int.eq_ofNat_of_zero_le gc.1
  have HP : Hid (∀ w', Mach K w' M (stepOp s ⟨k, a, b, c⟩) → Keep (fun g => ¬ K g) w w' → Post (.returned (.tuple #[])) w') := hp
  clear hp
  have o1 := W0.row.cell (i := 1) rfl
  have o2 := W0.row.cell (i := 2) rfl
  have o3 := W0.row.cell (i := 3) rfl
  have e1 : (k == 1) = false := by simp [h1]
  have e2 : (k == 2) = false := by simp [h2]
  have e12 : (k == 12) = false := by simp [h12]
  have e13 : (k == 13) = false := by simp [h13]
  have e14 : (k == 14) = false := by simp [h14]
  have e15 : (k == 15) = false := by simp [h15]
  go_enter Try.func100, Try.ntmps100
  go_wp2_with fail
  refine compute_cps _ M s k a b c _ W0.mach (by omega) hk3 (by omega) (by omega) (by omega) _ ?_
  intro w2 hm hk
  have W2 := W0.next (s' := stepOp s ⟨k, a, b, c⟩) (by
    unfold stepOp
    simp only [h1, h2, h12, h13, h14, h15, if_false]
    by_cases h11 : k = 11
    · subst h11; simpa using hm
    · simpa [h11] using hm) hk
  have HF : Hid (Post (.returned (.tuple #[])) w2) := HP.out _ W2.done W2.keep
  clear HP W0 W2 hm hk
  go_wp2
  go_end0
  exact HF.out

end Go.Proofs.Ytblhmeidbjigaaa
