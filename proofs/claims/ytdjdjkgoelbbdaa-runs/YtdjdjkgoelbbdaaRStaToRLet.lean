/- The reference's state of a run. -/
import Derived.Test.YtdjdjkgoelbbdaaMOpsToMSto
set_option linter.unusedSimpArgs false
set_option linter.unusedVariables false
namespace Go.Proofs.Ytdjdjkgoelbbdaa
open Go.RowKit

/-- The reference's state at block M: the block that it is at, the result. -/
def RefS (K : Nat → Prop) (t r : Int) (w : World) (M : Nat) (s : RunD) : Prop :=
  ∃ rv cv sv lv, Row w M 130 [.int .i64 t, rv, cv, sv, lv, .int .i64 s.trap, .int .i64 r] ∧ Bunch K w rv cv sv lv s ∧ ¬ K M

theorem RefS.keep {K : Nat → Prop} {w w' : World} {M : Nat} {t r : Int} {s : RunD} (h : RefS K t r w M s) (hb : Below w.heap.size w w') : RefS K t r w' M s := by
  obtain ⟨rv, cv, sv, lv, h1, h2, h3⟩ := h
  exact ⟨rv, cv, sv, lv, h1.keep hb, h2.keep hb, h3⟩

/-- Other blocks are kept: some of those, and new ones. -/
theorem RefS.kept {K K' : Nat → Prop} {w w' : World} {M : Nat} {t r : Int} {s : RunD} (h : RefS K t r w M s) (hk : ∀ g, K' g → K g ∨ w.heap.size ≤ g) (hl : ∀ g, K' g → g < w'.heap.size) (hb : Below w.heap.size w w') : RefS K' t r w' M s := by
  obtain ⟨rv, cv, sv, lv, h1, h2, h3⟩ := h
  refine ⟨rv, cv, sv, lv, h1.keep hb, h2.kept hk hl hb, fun e => ?_⟩
  rcases hk M e with q | q
  · exact h3 q
  · have := h1.lt; omega

theorem RefS.lt {K : Nat → Prop} {w : World} {M : Nat} {t r : Int} {s : RunD} (h : RefS K t r w M s) : ∀ g, K g → g < w.heap.size := by
  obtain ⟨rv, cv, sv, lv, h1, h2, h3⟩ := h
  exact h2.lt

/-- The state beside a boxed operation (or end) at block O. -/
structure RWith (K : Nat → Prop) (t r : Int) (w0 w : World) (M O : Nat) (ty : TypeId) (xs : List Value) (s : RunD) : Prop where
  mach : RefS (fun g => K g ∨ g = O) t r w M s
  row : Row w O ty xs
  keep : Keep (fun g => ¬ K g) w0 w
  lt : ∀ g, K g → g < w0.heap.size
  ge : w0.heap.size ≤ O

theorem RWith.start {K : Nat → Prop} {w : World} {M : Nat} {s : RunD} {t r : Int} (h : RefS K t r w M s) (ty : TypeId) (xs : List Value) : RWith K t r w (w.alloc (.cells xs.toArray ty)) M w.heap.size ty xs s :=
  ⟨h.kept (fun g hg => by rcases hg with hg | hg; exact .inl hg; exact .inr (by omega)) (fun g hg => by rcases hg with hg | hg; have := h.lt g hg; simp; omega; simp; omega) ((Below.refl _ _).alloc (Nat.le_refl _) _),
    heap_alloc_new w _, (Keep.refl _ _).alloc _, h.lt, Nat.le_refl _⟩

theorem RWith.below {K : Nat → Prop} {w0 w w' : World} {M O : Nat} {t r : Int} {ty : TypeId} {xs : List Value} {s : RunD} (h : RWith K t r w0 w M O ty xs s) (hb : Below w.heap.size w w') : RWith K t r w0 w' M O ty xs s :=
  ⟨h.mach.keep hb, h.row.keep hb, h.keep.below hb h.keep.size, h.lt, h.ge⟩

theorem RWith.next {K : Nat → Prop} {w0 w w' : World} {M O : Nat} {t r : Int} {ty : TypeId} {xs : List Value} {s s' : RunD} (h : RWith K t r w0 w M O ty xs s) (hm : RefS (fun g => K g ∨ g = O) t r w' M s') (hk : Keep (fun g => ¬ (K g ∨ g = O)) w w') : RWith K t r w0 w' M O ty xs s' :=
  ⟨hm, h.row.same (hk.block O h.row.lt (fun hn => hn (.inr rfl))), h.keep.trans (hk.mono (fun g hn e => hn (.inl e))), h.lt, h.ge⟩

theorem RWith.done {K : Nat → Prop} {w0 w : World} {M O : Nat} {t r : Int} {ty : TypeId} {xs : List Value} {s : RunD} (h : RWith K t r w0 w M O ty xs s) : RefS K t r w M s :=
  h.mach.kept (fun g hg => .inl (.inl hg)) (fun g hg => Nat.lt_of_lt_of_le (h.lt g hg) h.keep.size) (Below.refl _ _)

/-- A word becomes another: a register. -/
theorem RWith.setReg {K : Nat → Prop} {w0 w : World} {M O : Nat} {t r : Int} {ty : TypeId} {xs : List Value} {s : RunD} (h : RWith K t r w0 w M O ty xs s) {rv cv sv lv : Value} (hrow : Row w M 130 [.int .i64 t, rv, cv, sv, lv, .int .i64 s.trap, .int .i64 r]) (hb : Bunch (fun g => K g ∨ g = O) w rv cv sv lv s)
    {g i : Nat} (hg : rv.ownBlock = some g) (hi : i < s.regs.length) (u : Int) : RefS K t r (w.setCell ⟨g, i, none⟩ (.int .i64 u)) M (s.reg i u) ∧ Keep (fun g => ¬ K g) w0 (w.setCell ⟨g, i, none⟩ (.int .i64 u)) := by
  have hne : ¬ (rv.ownBlock = some M) := row_owns_apart hrow hb.regs (by decide)
  have hK : ¬ (K g ∨ g = O) := hb.kr g hg
  have hM : ¬ K M := by obtain ⟨_, _, _, _, _, _, h3⟩ := h.mach; exact fun e => h3 (.inl e)
  have b2 := hb.setReg hg hi u
  have r2 := hrow.unset (a := ⟨g, i, none⟩) (fun e => hne (by rw [hg]; exact congrArg some e.symm)) (.int .i64 u)
  have b3 := b2.kept (K' := K) (fun g hg => .inl (.inl hg)) (fun g hg => by have := h.lt g hg; have := h.keep.size; simp; omega) (Below.refl _ _)
  exact ⟨⟨rv, cv, sv, lv, r2, b3, hM⟩, h.keep.setCell (.inl (fun e => hK (.inl e))) _⟩

theorem RWith.setMem {K : Nat → Prop} {w0 w : World} {M O : Nat} {t r : Int} {ty : TypeId} {xs : List Value} {s : RunD} (h : RWith K t r w0 w M O ty xs s) {rv cv sv lv : Value} (hrow : Row w M 130 [.int .i64 t, rv, cv, sv, lv, .int .i64 s.trap, .int .i64 r]) (hb : Bunch (fun g => K g ∨ g = O) w rv cv sv lv s)
    {g i : Nat} (hg : cv.ownBlock = some g) (hi : i < s.cells.length) (u : Int) : RefS K t r (w.setCell ⟨g, i, none⟩ (.int .i64 u)) M (s.cell i u) ∧ Keep (fun g => ¬ K g) w0 (w.setCell ⟨g, i, none⟩ (.int .i64 u)) := by
  have hne : ¬ (cv.ownBlock = some M) := row_owns_apart hrow hb.cells (by decide)
  have hK : ¬ (K g ∨ g = O) := hb.kc g hg
  have hM : ¬ K M := by obtain ⟨_, _, _, _, _, _, h3⟩ := h.mach; exact fun e => h3 (.inl e)
  have b2 := hb.setMem hg hi u
  have r2 := hrow.unset (a := ⟨g, i, none⟩) (fun e => hne (by rw [hg]; exact congrArg some e.symm)) (.int .i64 u)
  have b3 := b2.kept (K' := K) (fun g hg => .inl (.inl hg)) (fun g hg => by have := h.lt g hg; have := h.keep.size; simp; omega) (Below.refl _ _)
  exact ⟨⟨rv, cv, sv, lv, r2, b3, hM⟩, h.keep.setCell (.inl (fun e => hK (.inl e))) _⟩

theorem RWith.setSlot {K : Nat → Prop} {w0 w : World} {M O : Nat} {t r : Int} {ty : TypeId} {xs : List Value} {s : RunD} (h : RWith K t r w0 w M O ty xs s) {rv cv sv lv : Value} (hrow : Row w M 130 [.int .i64 t, rv, cv, sv, lv, .int .i64 s.trap, .int .i64 r]) (hb : Bunch (fun g => K g ∨ g = O) w rv cv sv lv s)
    {g i : Nat} (hg : sv.ownBlock = some g) (hi : i < s.slots.length) (u : Int) : RefS K t r (w.setCell ⟨g, i, none⟩ (.int .i64 u)) M (s.slot i u) ∧ Keep (fun g => ¬ K g) w0 (w.setCell ⟨g, i, none⟩ (.int .i64 u)) := by
  have hne : ¬ (sv.ownBlock = some M) := row_owns_apart hrow hb.slots (by decide)
  have hK : ¬ (K g ∨ g = O) := hb.ks g hg
  have hM : ¬ K M := by obtain ⟨_, _, _, _, _, _, h3⟩ := h.mach; exact fun e => h3 (.inl e)
  have b2 := hb.setSlot hg hi u
  have r2 := hrow.unset (a := ⟨g, i, none⟩) (fun e => hne (by rw [hg]; exact congrArg some e.symm)) (.int .i64 u)
  have b3 := b2.kept (K' := K) (fun g hg => .inl (.inl hg)) (fun g hg => by have := h.lt g hg; have := h.keep.size; simp; omega) (Below.refl _ _)
  exact ⟨⟨rv, cv, sv, lv, r2, b3, hM⟩, h.keep.setCell (.inl (fun e => hK (.inl e))) _⟩

/-- The state traps. -/
theorem RWith.trap {K : Nat → Prop} {w0 w : World} {M O : Nat} {t r : Int} {ty : TypeId} {xs : List Value} {s : RunD} (h : RWith K t r w0 w M O ty xs s) {rv cv sv lv : Value} (hrow : Row w M 130 [.int .i64 t, rv, cv, sv, lv, .int .i64 s.trap, .int .i64 r]) (hb : Bunch (fun g => K g ∨ g = O) w rv cv sv lv s) (u : Int) :
    RefS K t r (w.setCell ⟨M, 5, none⟩ (.int .i64 u)) M (s.die u) ∧ Keep (fun g => ¬ K g) w0 (w.setCell ⟨M, 5, none⟩ (.int .i64 u)) := by
  have hM : ¬ K M := by obtain ⟨_, _, _, _, _, _, h3⟩ := h.mach; exact fun e => h3 (.inl e)
  have b2 := (hb.far hrow (by decide) 5 (.int .i64 u)).trapped u
  have b3 := b2.kept (K' := K) (fun g hg => .inl (.inl hg)) (fun g hg => by have := h.lt g hg; have := h.keep.size; simp; omega) (Below.refl _ _)
  exact ⟨⟨rv, cv, sv, lv, hrow.set 5 (.int .i64 u), b3, hM⟩, h.keep.setCell (.inl hM) _⟩

/-- A store into another field of the state. -/
theorem RWith.next' {K : Nat → Prop} {t r t' r' : Int} {w0 w w' : World} {M O : Nat} {ty : TypeId} {xs : List Value} {s s' : RunD} (h : RWith K t r w0 w M O ty xs s) (hm : RefS (fun g => K g ∨ g = O) t' r' w' M s') (hk : Keep (fun g => ¬ (K g ∨ g = O)) w w') : RWith K t' r' w0 w' M O ty xs s' :=
  ⟨hm, h.row.same (hk.block O h.row.lt (fun hn => hn (.inr rfl))), h.keep.trans (hk.mono (fun g hn e => hn (.inl e))), h.lt, h.ge⟩

end Go.Proofs.Ytdjdjkgoelbbdaa

/- The reference lets words out. -/
set_option linter.unusedSimpArgs false
set_option linter.unusedVariables false
namespace Go.Proofs.Ytdjdjkgoelbbdaa
open Go.RowKit

theorem int_one' (x : Int) : ∀ u ∈ [Value.int .i64 x], u.oneCell' = true := by
  intro u hu; simp at hu; subst hu; rfl

/-- A word is let out: behind the append, the store into the state. -/
theorem refs_app {K : Nat → Prop} {t r : Int} {w w1 : World} {M : Nat} {s : RunD} {rv cv sv lv v' : Value} {x : Int} (hrow : Row w M 130 [.int .i64 t, rv, cv, sv, lv, .int .i64 s.trap, .int .i64 r]) (hbu : Bunch K w rv cv sv lv s) (hK : ¬ K M)
    (hown : w1.ownsRow 0 3 1 v' (s.leak.length + 1) (ints s.leak ++ [.int .i64 x])) (hgrow : (w.alloc (.cells #[.int .i64 x] 3)).grownBy w1 lv.ownBlock) (hat : v'.ownBlock = lv.ownBlock ∨ v'.ownBlock = some (w.heap.size + 1)) :
    (RefS K t r (w1.setCell ⟨M, 4, none⟩ v') M (s.out x) ∧ Keep (fun g => ¬ K g) w (w1.setCell ⟨M, 4, none⟩ v')) ∧ w1.cell? ⟨M, 4, none⟩ = some lv ∧ w1.frozen? ⟨M, 4, none⟩ = false := by
  have hne := row_owns_apart hrow hbu.leak (by decide)
  have hal := (Below.refl w.heap.size w).alloc (Nat.le_refl _) (.cells #[.int .i64 x] 3)
  have hb0 := hbu.keep hal
  have hr0 := hrow.keep hal
  have hk0 : Keep (fun g => ¬ K g) w (w.alloc (.cells #[.int .i64 x] 3)) := (Keep.refl _ _).alloc _
  have hb1 := hb0.app hown hgrow (by simpa using hat)
  have hr1 := hr0.grown hgrow hne
  have hk1 := hk0.grown hgrow (fun g e => .inl (hbu.kl g e))
  have hb2 := hb1.far hr1 (by decide) 4 v'
  have hr2 := hr1.set 4 v'
  have hk2 := hk1.setCell (p := ⟨M, 4, none⟩) (.inl hK) v'
  exact ⟨⟨⟨rv, cv, sv, v', hr2, hb2, hK⟩, hk2⟩, hr1.cell (i := 4) rfl, hr1.frozen 4⟩

theorem refs_die {K : Nat → Prop} {t r : Int} {w : World} {M : Nat} {s : RunD} {rv cv sv lv : Value} (hrow : Row w M 130 [.int .i64 t, rv, cv, sv, lv, .int .i64 s.trap, .int .i64 r]) (hbu : Bunch K w rv cv sv lv s) (hK : ¬ K M) (u : Int) :
    RefS K t r (w.setCell ⟨M, 5, none⟩ (.int .i64 u)) M (s.die u) ∧ Keep (fun g => ¬ K g) w (w.setCell ⟨M, 5, none⟩ (.int .i64 u)) :=
  ⟨⟨rv, cv, sv, lv, hrow.set 5 (.int .i64 u), (hbu.far hrow (by decide) 5 _).trapped u, hK⟩, (Keep.refl _ _).setCell (.inl hK) _⟩

set_option maxRecDepth 100000 in
set_option maxHeartbeats 2000000 in
theorem rCell_cps (K : Nat → Prop) (t r : Int) (M : Nat) (s : RunD) (n : Int) (w : World) (h : RefS K t r w M s) (hl : s.leak.length ≤ 100000) (Post : Ending → World → Prop)
    (hyes : 0 ≤ n ∧ n < s.cells.length → ∀ w', RefS K t r w' M (s.out n) → Keep (fun g => ¬ K g) w w' → Post (.returned (.bool true)) w')
    (hno : ¬ (0 ≤ n ∧ n < s.cells.length) → ∀ w', RefS K t r w' M ((s.out n).die 2) → Keep (fun g => ¬ K g) w w' → Post (.returned (.bool false)) w') :
    Calls Try.prog 109 #[.pointer (some ⟨M, 0, none⟩), .int .i64 n] w Post := by
  obtain ⟨i0, ii, iz0, iz1, iz2⟩ := info_parts Try.infoInt
  obtain ⟨rv, cv, sv, lv, hrow, hbu, hK⟩ := h
  obtain ⟨lo, lc, rfl⟩ := owns_slice hbu.leak
  have m4 := hrow.cell (i := 4) rfl
  have hbl := (hbu.keep ((Below.refl w.heap.size w).alloc (Nat.le_refl _) (.cells #[.int .i64 n] 3))).leak
  go_enter Try.func109, Try.ntmps109
  go_wp2_with (at_builtin; refine wpList_append_own_at _ rfl _ _ 36 rfl 0 3 i0 (.int .i64 0) 1 8 Try.underlying36 ii iz0 iz1 iz2 rfl (by decide) _ _ _ rfl hbl ⟨w.heap.size, 0, none⟩ 1 1 [.int .i64 n] rfl rfl ?c1 (int_one' n) ?c3 ?c4 (by omega) ?_)
  case c1 => exact one_new w _ _
  case c3 => unfold maxLen; omega
  case c4 => omega
  intro v' w1 hown hgrow _ hat
  obtain ⟨⟨hm, hk⟩, y4, yf⟩ := refs_app hrow hbu hK hown hgrow (by simpa using hat)
  obtain ⟨lo', lc', rfl⟩ := owns_slice hown
  clear hrow hbu hown hgrow hat hbl m4
  generalize hW : w1.setCell ⟨M, 4, none⟩ (.slice lo' (s.leak.length + 1) lc') = w2 at *
  obtain ⟨rv, cv, sv, lv, hrow, hbu, hK⟩ := id hm
  obtain ⟨co, cc, rfl⟩ := owns_slice hbu.cells
  have x2 := hrow.cell (i := 2) rfl
  have hlc : (s.out n).cells.length = s.cells.length := rfl
  rw [hlc] at x2 hrow hbu
  have x5 := hrow.cell (i := 5) rfl
  have xf := hrow.frozen 5
  have hin : Hid (¬ (0 ≤ n ∧ n < s.cells.length) → Post (.returned (.bool false)) (w2.setCell ⟨M, 5, none⟩ (.int .i64 2))) := fun hc => by
    obtain ⟨q1, q2⟩ := refs_die hrow hbu hK 2
    exact hno hc _ q1 (hk.trans q2)
  have hit : Hid (0 ≤ n ∧ n < s.cells.length → Post (.returned (.bool true)) w2) := fun hc => hyes hc _ hm hk
  clear hyes hno hm hk hrow hbu
  rw [← hW] at x2 x5 xf hin hit
  by_cases h0 : n < 0
  · have HF : Hid (Post (.returned (.bool false)) _) := hin.out (by omega)
    clear hin hit hW
    go_wp2
    exact HF.out
  by_cases h1 : n < s.cells.length
  · have HF : Hid (Post (.returned (.bool true)) _) := hit.out ⟨by omega, h1⟩
    clear hin hit hW
    go_wp2
    exact HF.out
  · have HF : Hid (Post (.returned (.bool false)) _) := hin.out (by omega)
    clear hin hit hW
    go_wp2
    exact HF.out

end Go.Proofs.Ytdjdjkgoelbbdaa
