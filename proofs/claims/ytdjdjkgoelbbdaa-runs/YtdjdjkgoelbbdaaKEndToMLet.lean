/- An end out of raw numbers. -/
import Derived.Test.YtdjdjkgoelbbdaaKTxtToPLawI
import Derived.Test.YtdjdjkgoelbbdaaPLawNJoined
import Derived.Test.YtdjdjkgoelbbdaaMDatJoined
import Derived.StillTailTactics
set_option linter.unusedSimpArgs false
set_option linter.unusedVariables false
namespace Go.Proofs.Ytdjdjkgoelbbdaa
open Go.RowKit

theorem Keep.trans {S : Nat → Prop} {w a b : World} (h : Keep S w a) (h2 : Keep S a b) : Keep S w b :=
  h.step h2.os h2.tape h2.output h2.size fun k hk hn => h2.block k (Nat.lt_of_lt_of_le hk h.size) hn

theorem Rolls.set {w w0 : World} {R : Nat} {ao : Option Addr} {n cap k k0 : Nat} (h : Rolls w R ao n cap k) (h0 : Rolls w0 R ao n cap k0) {g i : Nat} (hg : w0.heap.size ≤ g) (u : Value) : Rolls (w.setCell ⟨g, i, none⟩ u) R ao n cap k := by
  have hR := h0.row.lt
  refine ⟨h.row.unset (a := ⟨g, i, none⟩) (by show R ≠ g; omega) _, h.le, ?_, h.off⟩
  obtain ⟨ao', cap', e, hn, hc⟩ := h.rd
  obtain ⟨ao2, cap2, e2, _, hc2⟩ := h0.rd
  simp only [Value.slice.injEq, true_and] at e e2
  obtain ⟨rfl, rfl⟩ := e
  obtain ⟨rfl, rfl⟩ := e2
  refine ⟨ao, cap, rfl, hn, fun i hi => ?_⟩
  obtain ⟨b, off, x, e1, h1, h2, h3⟩ := hc i hi
  obtain ⟨b2, off2, x2, e2, _, _, h4⟩ := hc2 i hi
  rw [e1] at e2
  simp only [Option.some.injEq, Addr.mk.injEq, and_true] at e2
  obtain ⟨rfl, rfl⟩ := e2
  have := World.block_lt_of_cell? _ _ h4
  exact ⟨b, off, x, e1, h1, h2, cell_unset (fun e => by simp at e; simp at this; omega) h3⟩

/-- Underway: two blocks of four cells each, the answer's (still zero) and the one that is filled. -/
structure St (w : World) (R : Nat) (ao : Option Addr) (n cap : Nat) (t : TypeId) (A B : Nat) (xs : List Value) (w' : World) : Prop where
  rolls : ∃ k, Rolls w' R ao n cap k
  keep : Keep (fun g => g = R) w w'
  rowA : Row w' A t [.int .i64 0, .int .i64 0, .int .i64 0, .int .i64 0]
  rowB : Row w' B t xs
  geA : w.heap.size ≤ A
  geB : w.heap.size ≤ B
  ne : B ≠ A
  ltR : R < w.heap.size

theorem St.next {w w' w2 : World} {R : Nat} {ao : Option Addr} {n cap k : Nat} {t : TypeId} {A B : Nat} {xs : List Value} (h : St w R ao n cap t A B xs w') (hr : Rolls w2 R ao n cap k) (hk : Keep (fun g => g = R) w' w2) : St w R ao n cap t A B xs w2 :=
  ⟨⟨k, hr⟩, h.keep.trans hk, h.rowA.kept hk (by have := h.geA; have := h.ltR; omega), h.rowB.kept hk (by have := h.geB; have := h.ltR; omega), h.geA, h.geB, h.ne, h.ltR⟩

theorem St.store {w w' : World} {R : Nat} {ao : Option Addr} {n cap k : Nat} {t : TypeId} {A B : Nat} {xs : List Value} (h : St w R ao n cap t A B xs w') (h0 : Rolls w R ao n cap k) (i : Nat) (u : Value) : St w R ao n cap t A B (xs.set i u) (w'.setCell ⟨B, i, none⟩ u) :=
  ⟨let ⟨k, hr⟩ := h.rolls; ⟨k, hr.set h0 h.geB u⟩, h.keep.setCell (.inr h.geB) u, h.rowA.unset (a := ⟨B, i, none⟩) (fun e => h.ne e.symm) u, h.rowB.set i u, h.geA, h.geB, h.ne, h.ltR⟩

theorem St.start {w w1 : World} {R : Nat} {ao : Option Addr} {n cap k k1 : Nat} {t : TypeId} {O : Obj} (h : Rolls w R ao n cap k) (hr : Rolls w1 R ao n cap k1) (hk : Keep (fun g => g = R) (w.alloc O) w1) (hA : Row w1 w.heap.size t [.int .i64 0, .int .i64 0, .int .i64 0, .int .i64 0])
    (hz : w1.heap.size = w.heap.size + 1) (xs : List Value) : St w R ao n cap t w.heap.size w1.heap.size xs (w1.alloc (.cells xs.toArray t)) :=
  ⟨⟨k1, hr.keep ((Below.refl _ _).alloc (Nat.le_refl _) _)⟩, (((Keep.refl _ _).alloc O).trans hk).alloc _, hA.alloc _, heap_alloc_new w1 _, Nat.le_refl _, by omega, by omega, h.row.lt⟩

set_option maxRecDepth 100000 in
set_option maxHeartbeats 2000000 in
theorem end_cps (R : Nat) (ao : Option Addr) (n cap k : Nat) (regs nb : Int) (w : World) (h : Rolls w R ao n cap k) (hre : 1 ≤ regs ∧ regs ≤ 8) (hnb : 1 ≤ nb ∧ nb ≤ 6) (Post : Ending → World → Prop)
    (hp : ∀ a b c d k' w', endGood regs nb ⟨a, b, c, d⟩ = true → Rolls w' R ao n cap k' → Keep (fun g => g = R) w w' → Post (.returned (.agg #[.int .i64 a, .int .i64 b, .int .i64 c, .int .i64 d])) w') :
    Calls Try.prog 77 #[.pointer (some ⟨R, 0, none⟩), .int .i64 regs, .int .i64 nb] w Post := by
  have hRw := h.row.lt
  have hA0 : Row (w.alloc (.cells #[.int .i64 0, .int .i64 0, .int .i64 0, .int .i64 0] 74)) w.heap.size 74 [.int .i64 0, .int .i64 0, .int .i64 0, .int .i64 0] := heap_alloc_new w _
  go_enter Try.func77, Try.ntmps77
  go_wp2_with fail
  refine next_cps R ao n cap k 3 _ (h.keep ((Below.refl _ _).alloc (Nat.le_refl _) _)) (by omega) _ ?_
  intro x k1 w1 hx0 hx3 hr1 hk1 hz1
  have hA := hA0.kept hk1 (by omega)
  simp only [World.size_alloc] at hz1
  have HZ : Hid (w1.heap.size = w.heap.size + 1) := hz1
  have hzl : w.heap.size < w1.heap.size := by omega
  have hRB : R < w1.heap.size := by omega
  clear hA0 hz1
  have hnb' : 1 ≤ nb ∧ nb ≤ 1000 := by omega
  have hre' : 1 ≤ regs ∧ regs ≤ 1000 := by omega
  obtain rfl | rfl | rfl : x = 0 ∨ x = 1 ∨ x = 2 := by omega
  · have st : St w R ao n cap 74 w.heap.size w1.heap.size [.int .i64 1, .int .i64 0, .int .i64 0, .int .i64 0] (w1.alloc (.cells #[.int .i64 1, .int .i64 0, .int .i64 0, .int .i64 0] 74)) := St.start h hr1 hk1 hA HZ.out _
    obtain ⟨k0, hro0⟩ := st.rolls
    go_wp2_with fail
    refine next_cps R ao n cap k0 nb _ hro0 hnb' _ ?_
    intro y0 kk0 v0 ya0 yb0 hr hk hzz
    have st := st.next hr hk
    have bc := st.rowB.cell (i := 2) rfl
    have bf := st.rowB.frozen 2
    have st' := st.store h 2 (.int .i64 y0)
    clear hr hk hzz
    have st2 := st'
    obtain ⟨kf, hrof⟩ := st2.rolls
    have hfin := hp 1 0 y0 0 kf (set4 (v0.setCell ⟨w1.heap.size, 2, none⟩ (.int .i64 y0)) w.heap.size 0 1 0 y0 0) (by simp [endGood, below]; omega) (((hrof.set h (Nat.le_refl _) _).set h (Nat.le_refl _) _ |>.set h (Nat.le_refl _) _).set h (Nat.le_refl _) _) (st2.keep.set4 (.inr (Nat.le_refl _)) _ _ _ _)
    have hne := st2.ne
    have a0 := st2.rowA.cell (i := 0) rfl
    have a1 := st2.rowA.cell (i := 1) rfl
    have a2 := st2.rowA.cell (i := 2) rfl
    have a3 := st2.rowA.cell (i := 3) rfl
    have f0 := st2.rowA.frozen 0
    have f1 := st2.rowA.frozen 1
    have f2 := st2.rowA.frozen 2
    have f3 := st2.rowA.frozen 3
    have q0 := st2.rowB.cell (i := 0) (u := .int .i64 1) rfl
    have q1 := st2.rowB.cell (i := 1) (u := .int .i64 0) rfl
    have q2 := st2.rowB.cell (i := 2) (u := .int .i64 y0) rfl
    have q3 := st2.rowB.cell (i := 3) (u := .int .i64 0) rfl
    clear st st' st2 hp h hr1 hk1 hA
    have HF : Hid (Post (.returned (.agg #[.int .i64 1, .int .i64 0, .int .i64 y0, .int .i64 0])) (set4 (v0.setCell ⟨w1.heap.size, 2, none⟩ (.int .i64 y0)) w.heap.size 0 1 0 y0 0)) := hfin
    clear hfin
    go_wp2
    exact bodyPost_ret (v := .agg #[.int .i64 1, .int .i64 0, .int .i64 y0, .int .i64 0]) (by simp [results, Try.results77, go_sem, a0, a1, a2, a3]) rfl HF.out
  · have st : St w R ao n cap 74 w.heap.size w1.heap.size [.int .i64 2, .int .i64 0, .int .i64 0, .int .i64 0] (w1.alloc (.cells #[.int .i64 2, .int .i64 0, .int .i64 0, .int .i64 0] 74)) := St.start h hr1 hk1 hA HZ.out _
    obtain ⟨k0, hro0⟩ := st.rolls
    go_wp2_with fail
    refine next_cps R ao n cap k0 regs _ hro0 hre' _ ?_
    intro y0 kk0 v0 ya0 yb0 hr hk hzz
    have st := st.next hr hk
    have bc := st.rowB.cell (i := 1) rfl
    have bf := st.rowB.frozen 1
    have st' := st.store h 1 (.int .i64 y0)
    clear hr hk hzz
    replace st := st'
    obtain ⟨k1, hro1⟩ := st.rolls
    go_wp2_with fail
    refine next_cps R ao n cap k1 nb _ hro1 hnb' _ ?_
    intro y1 kk1 v1 ya1 yb1 hr hk hzz
    have st := st.next hr hk
    have bc := st.rowB.cell (i := 2) rfl
    have bf := st.rowB.frozen 2
    have st' := st.store h 2 (.int .i64 y1)
    clear hr hk hzz
    replace st := st'
    obtain ⟨k2, hro2⟩ := st.rolls
    go_wp2_with fail
    refine next_cps R ao n cap k2 nb _ hro2 hnb' _ ?_
    intro y2 kk2 v2 ya2 yb2 hr hk hzz
    have st := st.next hr hk
    have bc := st.rowB.cell (i := 3) rfl
    have bf := st.rowB.frozen 3
    have st' := st.store h 3 (.int .i64 y2)
    clear hr hk hzz
    have st2 := st'
    obtain ⟨kf, hrof⟩ := st2.rolls
    have hfin := hp 2 y0 y1 y2 kf (set4 (v2.setCell ⟨w1.heap.size, 3, none⟩ (.int .i64 y2)) w.heap.size 0 2 y0 y1 y2) (by simp [endGood, below]; omega) (((hrof.set h (Nat.le_refl _) _).set h (Nat.le_refl _) _ |>.set h (Nat.le_refl _) _).set h (Nat.le_refl _) _) (st2.keep.set4 (.inr (Nat.le_refl _)) _ _ _ _)
    have hne := st2.ne
    have a0 := st2.rowA.cell (i := 0) rfl
    have a1 := st2.rowA.cell (i := 1) rfl
    have a2 := st2.rowA.cell (i := 2) rfl
    have a3 := st2.rowA.cell (i := 3) rfl
    have f0 := st2.rowA.frozen 0
    have f1 := st2.rowA.frozen 1
    have f2 := st2.rowA.frozen 2
    have f3 := st2.rowA.frozen 3
    have q0 := st2.rowB.cell (i := 0) (u := .int .i64 2) rfl
    have q1 := st2.rowB.cell (i := 1) (u := .int .i64 y0) rfl
    have q2 := st2.rowB.cell (i := 2) (u := .int .i64 y1) rfl
    have q3 := st2.rowB.cell (i := 3) (u := .int .i64 y2) rfl
    clear st st' st2 hp h hr1 hk1 hA
    have HF : Hid (Post (.returned (.agg #[.int .i64 2, .int .i64 y0, .int .i64 y1, .int .i64 y2])) (set4 (v2.setCell ⟨w1.heap.size, 3, none⟩ (.int .i64 y2)) w.heap.size 0 2 y0 y1 y2)) := hfin
    clear hfin
    go_wp2
    exact bodyPost_ret (v := .agg #[.int .i64 2, .int .i64 y0, .int .i64 y1, .int .i64 y2]) (by simp [results, Try.results77, go_sem, a0, a1, a2, a3]) rfl HF.out
  · have st : St w R ao n cap 74 w.heap.size w1.heap.size [.int .i64 3, .int .i64 0, .int .i64 0, .int .i64 0] (w1.alloc (.cells #[.int .i64 3, .int .i64 0, .int .i64 0, .int .i64 0] 74)) := St.start h hr1 hk1 hA HZ.out _
    obtain ⟨k0, hro0⟩ := st.rolls
    go_wp2_with fail
    refine next_cps R ao n cap k0 regs _ hro0 hre' _ ?_
    intro y0 kk0 v0 ya0 yb0 hr hk hzz
    have st := st.next hr hk
    have bc := st.rowB.cell (i := 1) rfl
    have bf := st.rowB.frozen 1
    have st' := st.store h 1 (.int .i64 y0)
    clear hr hk hzz
    have st2 := st'
    obtain ⟨kf, hrof⟩ := st2.rolls
    have hfin := hp 3 y0 0 0 kf (set4 (v0.setCell ⟨w1.heap.size, 1, none⟩ (.int .i64 y0)) w.heap.size 0 3 y0 0 0) (by simp [endGood, below]; omega) (((hrof.set h (Nat.le_refl _) _).set h (Nat.le_refl _) _ |>.set h (Nat.le_refl _) _).set h (Nat.le_refl _) _) (st2.keep.set4 (.inr (Nat.le_refl _)) _ _ _ _)
    have hne := st2.ne
    have a0 := st2.rowA.cell (i := 0) rfl
    have a1 := st2.rowA.cell (i := 1) rfl
    have a2 := st2.rowA.cell (i := 2) rfl
    have a3 := st2.rowA.cell (i := 3) rfl
    have f0 := st2.rowA.frozen 0
    have f1 := st2.rowA.frozen 1
    have f2 := st2.rowA.frozen 2
    have f3 := st2.rowA.frozen 3
    have q0 := st2.rowB.cell (i := 0) (u := .int .i64 3) rfl
    have q1 := st2.rowB.cell (i := 1) (u := .int .i64 y0) rfl
    have q2 := st2.rowB.cell (i := 2) (u := .int .i64 0) rfl
    have q3 := st2.rowB.cell (i := 3) (u := .int .i64 0) rfl
    clear st st' st2 hp h hr1 hk1 hA
    have HF : Hid (Post (.returned (.agg #[.int .i64 3, .int .i64 y0, .int .i64 0, .int .i64 0])) (set4 (v0.setCell ⟨w1.heap.size, 1, none⟩ (.int .i64 y0)) w.heap.size 0 3 y0 0 0)) := hfin
    clear hfin
    go_wp2
    exact bodyPost_ret (v := .agg #[.int .i64 3, .int .i64 y0, .int .i64 0, .int .i64 0]) (by simp [results, Try.results77, go_sem, a0, a1, a2, a3]) rfl HF.out

end Go.Proofs.Ytdjdjkgoelbbdaa

/- The machine lets words out. -/
set_option linter.unusedSimpArgs false
set_option linter.unusedVariables false
namespace Go.Proofs.Ytdjdjkgoelbbdaa
open Go.RowKit

theorem Row.grown {w w' : World} {M : Nat} {t : TypeId} {xs : List Value} {row : Option Nat} (h : Row w M t xs) (hg : w.grownBy w' row) (hne : row ≠ some M) : Row w' M t xs := h.same (hg.block M h.lt (fun e => hne e.symm))

theorem Keep.mono {S S' : Nat → Prop} {w w' : World} (h : Keep S w w') (hs : ∀ g, S g → S' g) : Keep S' w w' := ⟨h.os, h.tape, h.output, h.size, fun k hk hn => h.block k hk (fun e => hn (hs k e))⟩

/-- The machine at block M. -/
def Mach (K : Nat → Prop) (w : World) (M : Nat) (s : RunD) : Prop :=
  ∃ rv cv sv lv, Row w M 133 [rv, cv, sv, lv, .int .i64 s.trap] ∧ Bunch K w rv cv sv lv s ∧ ¬ K M

theorem Mach.keep {K : Nat → Prop} {w w' : World} {M : Nat} {s : RunD} (h : Mach K w M s) (hb : Below w.heap.size w w') : Mach K w' M s := by
  obtain ⟨rv, cv, sv, lv, h1, h2, h3⟩ := h
  exact ⟨rv, cv, sv, lv, h1.keep hb, h2.keep hb, h3⟩

/-- Other blocks are kept: some of those, and new ones. -/
theorem Mach.kept {K K' : Nat → Prop} {w w' : World} {M : Nat} {s : RunD} (h : Mach K w M s) (hk : ∀ g, K' g → K g ∨ w.heap.size ≤ g) (hl : ∀ g, K' g → g < w'.heap.size) (hb : Below w.heap.size w w') : Mach K' w' M s := by
  obtain ⟨rv, cv, sv, lv, h1, h2, h3⟩ := h
  refine ⟨rv, cv, sv, lv, h1.keep hb, h2.kept hk hl hb, fun e => ?_⟩
  rcases hk M e with q | q
  · exact h3 q
  · have := h1.lt; omega

theorem Mach.lt {K : Nat → Prop} {w : World} {M : Nat} {s : RunD} (h : Mach K w M s) : ∀ g, K g → g < w.heap.size := by
  obtain ⟨rv, cv, sv, lv, h1, h2, h3⟩ := h
  exact h2.lt

theorem one_new (w : World) (x : Value) (t : TypeId) : ∀ j u, [x][j]? = some u → (w.alloc (.cells #[x] t)).cell? ((⟨w.heap.size, 0, none⟩ : Addr).add j) = some u := by
  intro j u hj
  match j, hj with
  | 0, hj => simp at hj; subst hj; simp [Addr.add]

set_option maxRecDepth 100000 in
set_option maxHeartbeats 2000000 in
theorem letOut_cps (K : Nat → Prop) (M : Nat) (s : RunD) (x : Int) (w : World) (h : Mach K w M s) (hl : s.leak.length ≤ 100000) (Post : Ending → World → Prop)
    (hp : ∀ w', Mach K w' M (s.out x) → Keep (fun g => ¬ K g) w w' → Post (.returned (.tuple #[])) w') :
    Calls Try.prog 112 #[.pointer (some ⟨M, 0, none⟩), .int .i64 x] w Post := by
  obtain ⟨rv, cv, sv, lv, hrow, hb, hK⟩ := h
  obtain ⟨i0, ii, iz0, iz1, iz2⟩ := info_parts Try.infoInt
  obtain ⟨lo, lc, rfl⟩ := owns_slice hb.leak
  have x3 := hrow.cell (i := 3) rfl
  have hne := row_owns_apart hrow hb.leak (by decide)
  have hal := (Below.refl w.heap.size w).alloc (Nat.le_refl _) (.cells #[.int .i64 x] 3)
  have hb0 := hb.keep hal
  have hr0 := hrow.keep hal
  have hk0 : Keep (fun g => ¬ K g) w (w.alloc (.cells #[.int .i64 x] 3)) := (Keep.refl _ _).alloc _
  go_enter Try.func112, Try.ntmps112
  go_wp2_with (at_builtin; refine wpList_append_own_at _ rfl _ _ 36 rfl 0 3 i0 (.int .i64 0) 1 8 Try.underlying36 ii iz0 iz1 iz2 rfl (by decide) _ _ _ rfl hb0.leak ⟨w.heap.size, 0, none⟩ 1 1 [.int .i64 x] rfl rfl ?c1 ?c2 ?c3 ?c4 (by omega) ?_)
  case c1 => exact one_new w _ _
  case c2 => intro u hu; simp at hu; subst hu; rfl
  case c3 => unfold maxLen; omega
  case c4 => omega
  intro v' w1 hown hgrow _ hat
  have hb1 := hb0.app hown hgrow (by simpa using hat)
  have hr1 := hr0.grown hgrow hne
  have hk1 := hk0.grown hgrow (fun g e => .inl (hb.kl g e))
  have y3 := hr1.cell (i := 3) rfl
  have yf := hr1.frozen 3
  have hb2 := hb1.far hr1 (by decide) 3 v'
  have hr2 := hr1.set 3 v'
  have hk2 := hk1.setCell (p := ⟨M, 3, none⟩) (.inl hK) v'
  have HF : Hid (Post (.returned (.tuple #[])) (w1.setCell ⟨M, 3, none⟩ v')) := hp _ ⟨rv, cv, sv, v', hr2, hb2, hK⟩ hk2
  obtain ⟨lo', lc', rfl⟩ := owns_slice hown
  clear hp hb hb0 hr0 hb1 hr1 hk1 hb2 hr2 hk2 hgrow hown hat hal hk0 hrow
  go_wp2
  go_end0
  exact HF.out

set_option maxRecDepth 100000 in
set_option maxHeartbeats 2000000 in
theorem reaches_cps (K : Nat → Prop) (M : Nat) (s : RunD) (n : Int) (w : World) (h : Mach K w M s) (hl : s.leak.length ≤ 100000) (Post : Ending → World → Prop)
    (hyes : 0 ≤ n ∧ n < s.cells.length → ∀ w', Mach K w' M (s.out n) → Keep (fun g => ¬ K g) w w' → Post (.returned (.bool true)) w')
    (hno : ¬ (0 ≤ n ∧ n < s.cells.length) → ∀ w', Mach K w' M ((s.out n).die 2) → Keep (fun g => ¬ K g) w w' → Post (.returned (.bool false)) w') :
    Calls Try.prog 118 #[.pointer (some ⟨M, 0, none⟩), .int .i64 n] w Post := by
  go_enter Try.func118, Try.ntmps118
  go_wp2_with fail
  refine letOut_cps K M s n w h hl _ ?_
  intro w1 hm hk
  clear h hl
  obtain ⟨rv, cv, sv, lv, hrow, hb, hK⟩ := id hm
  obtain ⟨co, cc, rfl⟩ := owns_slice hb.cells
  have x1 := hrow.cell (i := 1) rfl
  have hlc : (s.out n).cells.length = s.cells.length := rfl
  rw [hlc] at x1 hrow hb
  by_cases h0 : n < 0
  · have x4 := hrow.cell (i := 4) rfl
    have xf := hrow.frozen 4
    have hk2 := hk.setCell (p := ⟨M, 4, none⟩) (.inl hK) (.int .i64 2)
    have HF : Hid (Post (.returned (.bool false)) (w1.setCell ⟨M, 4, none⟩ (.int .i64 2))) := hno (by omega) _ ⟨rv, _, sv, lv, hrow.set 4 (.int .i64 2), (hb.far hrow (by decide) 4 _).trapped 2, hK⟩ hk2
    clear hyes hno hk hk2 hb hrow hm
    go_wp2
    exact HF.out
  by_cases h1 : n < s.cells.length
  · have HF : Hid (Post (.returned (.bool true)) w1) := hyes ⟨by omega, h1⟩ _ hm hk
    clear hyes hno hk hb hrow hm
    go_wp2
    exact HF.out
  · have x4 := hrow.cell (i := 4) rfl
    have xf := hrow.frozen 4
    have hk2 := hk.setCell (p := ⟨M, 4, none⟩) (.inl hK) (.int .i64 2)
    have HF : Hid (Post (.returned (.bool false)) (w1.setCell ⟨M, 4, none⟩ (.int .i64 2))) := hno (by omega) _ ⟨rv, _, sv, lv, hrow.set 4 (.int .i64 2), (hb.far hrow (by decide) 4 _).trapped 2, hK⟩ hk2
    clear hyes hno hk hk2 hb hrow hm
    go_wp2
    exact HF.out

end Go.Proofs.Ytdjdjkgoelbbdaa
