/- What an operation writes, reads and lets out (twinkeep.writes, reads, tells, loose). -/
import Derived.Test.YtblhmeidbjigaabGreatDoorRows
import Derived.WalkKit
import Derived.WalkSpells
import Derived.WalkLawsBesides
import Derived.Laws.BytesArg
import Derived.Deep.QuietTactic
import Derived.BigQuiet
import Derived.Deep.RegionHeld3
import Derived.Lib.ItoaNum
import Derived.Lib.ItoaLen
import Derived.OpenShut
import Derived.Maps.AppendAt
import Derived.StillTailTactics
import Derived.Shelf.Strconv.Itoa3
import Derived.Shelf.Lay
import Derived.Ground.NamesProg
import Derived.Lib.SmallJoins
import Derived.Lib.Hide
import Derived.Test.YtblhmeidbjigaabGreatDoorKNextToTOverSwapped

set_option linter.unusedSimpArgs false
set_option linter.unusedVariables false
namespace Go.Proofs.YtblhmeidbjigaabGreatDoor
open Go.RowKit

/-- The register that an operation writes; -1: none. -/
def writesK (o : OpD) : Int := if o.kind = 13 then -1 else o.a
/-- Does an operation read the register n? -/
def readsK (o : OpD) (n : Int) : Prop := if o.kind = 1 then False else if o.kind = 2 ∨ o.kind = 12 then o.b = n else if o.kind = 13 then o.a = n ∨ o.b = n else o.b = n ∨ o.c = n
/-- May the two change over? -/
def looseK (x y : OpD) : Prop := writesK x ≠ writesK y ∧ ¬ (tellsT x ∧ tellsT y) ∧ ¬ readsK y (writesK x) ∧ ¬ readsK x (writesK y)

set_option maxRecDepth 100000 in
set_option maxHeartbeats 1000000 in
theorem kWrites_cps (k a b c : Int) (w : World) (Post : Ending → World → Prop) (hp : ∀ w', Below w.heap.size w w' → Post (.returned (.int .i64 (writesK ⟨k, a, b, c⟩))) w') :
    Calls Tryz.prog 18 #[.agg #[.int .i64 k, .int .i64 a, .int .i64 b, .int .i64 c]] w Post := by
  have b0 : Below w.heap.size w (w.alloc (.cells #[.int .i64 k, .int .i64 a, .int .i64 b, .int .i64 c] 36)) := (Below.refl _ _).alloc (Nat.le_refl _) _
  have HF := Lib.hid (hp _ b0)
  clear hp b0
  by_cases h : k = 13
  · subst h
    have e : writesK ⟨13, a, b, c⟩ = -1 := by simp [writesK]
    rw [e] at HF
    clear e
    go_enter Tryz.func18, Tryz.ntmps18
    go_wp2
    exact HF.out
  · have e : writesK ⟨k, a, b, c⟩ = a := by simp [writesK, h]
    have e1 : (k == 13) = false := by simp [h]
    rw [e] at HF
    clear e h
    go_enter Tryz.func18, Tryz.ntmps18
    go_wp2
    exact HF.out

set_option maxRecDepth 100000 in
set_option maxHeartbeats 1000000 in
theorem kTells_cps (k a b c : Int) (w : World) (Post : Ending → World → Prop) (hp : ∀ z w', (z = true ↔ tellsT ⟨k, a, b, c⟩) → Below w.heap.size w w' → Post (.returned (.bool z)) w') :
    Calls Tryz.prog 33 #[.agg #[.int .i64 k, .int .i64 a, .int .i64 b, .int .i64 c]] w Post := by
  have b0 : Below w.heap.size w (w.alloc (.cells #[.int .i64 k, .int .i64 a, .int .i64 b, .int .i64 c] 36)) := (Below.refl _ _).alloc (Nat.le_refl _) _
  by_cases h1 : k = 11
  · subst h1
    have HF := Lib.hid (hp true _ (by simp [tellsT]) b0)
    clear hp b0
    go_enter Tryz.func33, Tryz.ntmps33
    go_wp2
    exact HF.out
  have e1 : (k == 11) = false := by simp [h1]
  by_cases h2 : k = 12
  · subst h2
    have HF := Lib.hid (hp true _ (by simp [tellsT]) b0)
    clear hp b0
    go_enter Tryz.func33, Tryz.ntmps33
    go_wp2
    exact HF.out
  have e2 : (k == 12) = false := by simp [h2]
  by_cases h3 : k = 13
  · subst h3
    have HF := Lib.hid (hp true _ (by simp [tellsT]) b0)
    clear hp b0
    go_enter Tryz.func33, Tryz.ntmps33
    go_wp2
    exact HF.out
  have e3 : (k == 13) = false := by simp [h3]
  have HF := Lib.hid (hp false _ (by simp [tellsT, h1, h2, h3]) b0)
  clear hp b0 h1 h2 h3
  go_enter Tryz.func33, Tryz.ntmps33
  go_wp2
  exact HF.out

set_option maxRecDepth 100000 in
set_option maxHeartbeats 1000000 in
theorem kReads_cps (k a b c n : Int) (w : World) (Post : Ending → World → Prop) (hp : ∀ z w', (z = true ↔ readsK ⟨k, a, b, c⟩ n) → Below w.heap.size w w' → Post (.returned (.bool z)) w') :
    Calls Tryz.prog 19 #[.agg #[.int .i64 k, .int .i64 a, .int .i64 b, .int .i64 c], .int .i64 n] w Post := by
  have b0 : Below w.heap.size w (w.alloc (.cells #[.int .i64 k, .int .i64 a, .int .i64 b, .int .i64 c] 36)) := (Below.refl _ _).alloc (Nat.le_refl _) _
  by_cases h1 : k = 1
  · subst h1
    have HF := Lib.hid (hp false _ (by simp [readsK]) b0)
    clear hp b0
    go_enter Tryz.func19, Tryz.ntmps19
    go_wp2
    exact HF.out
  have e1 : (k == 1) = false := by simp [h1]
  by_cases h2 : k = 2
  · subst h2
    by_cases hx : b = n
    · have q1 : (b == n) = true := by simp [hx]
      have HF := Lib.hid (hp true _ (by simp [readsK, hx]) b0)
      clear hp b0 hx
      go_enter Tryz.func19, Tryz.ntmps19
      go_wp2
      exact HF.out
    · have q1 : (b == n) = false := by simp [hx]
      have HF := Lib.hid (hp false _ (by simp [readsK, hx]) b0)
      clear hp b0 hx
      go_enter Tryz.func19, Tryz.ntmps19
      go_wp2
      exact HF.out
  have e2 : (k == 2) = false := by simp [h2]
  by_cases h3 : k = 12
  · subst h3
    by_cases hx : b = n
    · have q1 : (b == n) = true := by simp [hx]
      have HF := Lib.hid (hp true _ (by simp [readsK, hx]) b0)
      clear hp b0 hx
      go_enter Tryz.func19, Tryz.ntmps19
      go_wp2
      exact HF.out
    · have q1 : (b == n) = false := by simp [hx]
      have HF := Lib.hid (hp false _ (by simp [readsK, hx]) b0)
      clear hp b0 hx
      go_enter Tryz.func19, Tryz.ntmps19
      go_wp2
      exact HF.out
  have e3 : (k == 12) = false := by simp [h3]
  by_cases h4 : k = 13
  · subst h4
    by_cases hx : a = n
    · have q1 : (a == n) = true := by simp [hx]
      have HF := Lib.hid (hp true _ (by simp [readsK, hx]) b0)
      clear hp b0 hx
      go_enter Tryz.func19, Tryz.ntmps19
      go_wp2
      exact HF.out
    · have q1 : (a == n) = false := by simp [hx]
      by_cases hy : b = n
      · have q2 : (b == n) = true := by simp [hy]
        have HF := Lib.hid (hp true _ (by simp [readsK, hx, hy]) b0)
        clear hp b0 hx hy
        go_enter Tryz.func19, Tryz.ntmps19
        go_wp2
        exact HF.out
      · have q2 : (b == n) = false := by simp [hy]
        have HF := Lib.hid (hp false _ (by simp [readsK, hx, hy]) b0)
        clear hp b0 hx hy
        go_enter Tryz.func19, Tryz.ntmps19
        go_wp2
        exact HF.out
  have e4 : (k == 13) = false := by simp [h4]
  by_cases hx : b = n
  · have q1 : (b == n) = true := by simp [hx]
    have HF := Lib.hid (hp true _ (by simp [readsK, h1, h2, h3, h4, hx]) b0)
    clear hp b0 hx
    go_enter Tryz.func19, Tryz.ntmps19
    go_wp2
    exact HF.out
  · have q1 : (b == n) = false := by simp [hx]
    by_cases hy : c = n
    · have q2 : (c == n) = true := by simp [hy]
      have HF := Lib.hid (hp true _ (by simp [readsK, h1, h2, h3, h4, hx, hy]) b0)
      clear hp b0 hx hy
      go_enter Tryz.func19, Tryz.ntmps19
      go_wp2
      exact HF.out
    · have q2 : (c == n) = false := by simp [hy]
      have HF := Lib.hid (hp false _ (by simp [readsK, h1, h2, h3, h4, hx, hy]) b0)
      clear hp b0 hx hy
      go_enter Tryz.func19, Tryz.ntmps19
      go_wp2
      exact HF.out

set_option maxRecDepth 100000 in
set_option maxHeartbeats 1000000 in
theorem kLoose_cps (k1 a1 b1 c1 k2 a2 b2 c2 : Int) (w : World) (Post : Ending → World → Prop) (hp : ∀ z w', (z = true ↔ looseK ⟨k1, a1, b1, c1⟩ ⟨k2, a2, b2, c2⟩) → Below w.heap.size w w' → Post (.returned (.bool z)) w') :
    Calls Tryz.prog 17 #[.agg #[.int .i64 k1, .int .i64 a1, .int .i64 b1, .int .i64 c1], .agg #[.int .i64 k2, .int .i64 a2, .int .i64 b2, .int .i64 c2]] w Post := by
  obtain ⟨A, hA⟩ : ∃ A, A = (w.alloc (.cells #[.int .i64 k1, .int .i64 a1, .int .i64 b1, .int .i64 c1] 36)).alloc (.cells #[.int .i64 k2, .int .i64 a2, .int .i64 b2, .int .i64 c2] 36) := ⟨_, rfl⟩
  have S0 : Row A w.heap.size 36 [.int .i64 k1, .int .i64 a1, .int .i64 b1, .int .i64 c1] ∧ Row A (w.heap.size + 1) 36 [.int .i64 k2, .int .i64 a2, .int .i64 b2, .int .i64 c2] ∧ Below w.heap.size w A := by subst hA; exact ⟨Row.alloc (heap_alloc_new w _) _, heap_alloc2_new w _ _, ((Below.refl w.heap.size w).alloc (Nat.le_refl _) _).alloc (by simp) _⟩
  have nx : ∀ W W' : World, (Row W w.heap.size 36 [.int .i64 k1, .int .i64 a1, .int .i64 b1, .int .i64 c1] ∧ Row W (w.heap.size + 1) 36 [.int .i64 k2, .int .i64 a2, .int .i64 b2, .int .i64 c2] ∧ Below w.heap.size w W) → Below W.heap.size W W' → (Row W' w.heap.size 36 [.int .i64 k1, .int .i64 a1, .int .i64 b1, .int .i64 c1] ∧ Row W' (w.heap.size + 1) 36 [.int .i64 k2, .int .i64 a2, .int .i64 b2, .int .i64 c2] ∧ Below w.heap.size w W')   := fun W W' h hb => ⟨h.1.keep hb, h.2.1.keep hb, h.2.2.trans (hb.mono h.2.2.size)⟩
  have NX := Lib.hid nx
  have q1 := fun P' => kWrites_cps k1 a1 b1 c1 A P'
  rw [hA] at q1 S0
  have HP := Lib.hid hp
  have HS0 := Lib.hid S0
  clear hp hA A nx S0
  obtain ⟨X, hX⟩ : ∃ x, x = writesK ⟨k1, a1, b1, c1⟩ := ⟨_, rfl⟩
  obtain ⟨Y, hY⟩ : ∃ x, x = writesK ⟨k2, a2, b2, c2⟩ := ⟨_, rfl⟩
  have HX := Lib.hid hX
  have HY := Lib.hid hY
  rw [← hX] at q1
  clear hX hY
  go_enter Tryz.func17, Tryz.ntmps17
  go_wp2_with fail
  refine q1 _ ?_
  intro w1 d1
  have S1 := NX.out _ _ HS0.out d1
  have q2 := fun P' => kWrites_cps k2 a2 b2 c2 w1 P'
  rw [← HY.out] at q2
  clear q1 d1 HS0
  have x0 := S1.1.cell (i := 0) rfl
  have y0 := S1.2.1.cell (i := 0) rfl
  have x1 := S1.1.cell (i := 1) rfl
  have y1 := S1.2.1.cell (i := 1) rfl
  have x2 := S1.1.cell (i := 2) rfl
  have y2 := S1.2.1.cell (i := 2) rfl
  have x3 := S1.1.cell (i := 3) rfl
  have y3 := S1.2.1.cell (i := 3) rfl
  have HS1 := Lib.hid S1
  clear S1
  go_wp2_with fail
  refine q2 _ ?_
  intro w2 d2
  have S2 := NX.out _ _ HS1.out d2
  have q3 := fun P' => kTells_cps k1 a1 b1 c1 w2 P'
  clear q2 d2 HS1 x0 x1 x2 x3 y0 y1 y2 y3
  have x0 := S2.1.cell (i := 0) rfl
  have y0 := S2.2.1.cell (i := 0) rfl
  have x1 := S2.1.cell (i := 1) rfl
  have y1 := S2.2.1.cell (i := 1) rfl
  have x2 := S2.1.cell (i := 2) rfl
  have y2 := S2.2.1.cell (i := 2) rfl
  have x3 := S2.1.cell (i := 3) rfl
  have y3 := S2.2.1.cell (i := 3) rfl
  have HS2 := Lib.hid S2
  clear S2
  go_wp2_with fail
  refine q3 _ ?_
  intro z3 w3 hz3 d3
  have S3 := NX.out _ _ HS2.out d3
  have Z3 := Lib.hid hz3
  have q4 := fun P' => kTells_cps k2 a2 b2 c2 w3 P'
  clear q3 d3 HS2 hz3 x0 x1 x2 x3 y0 y1 y2 y3
  have x0 := S3.1.cell (i := 0) rfl
  have y0 := S3.2.1.cell (i := 0) rfl
  have x1 := S3.1.cell (i := 1) rfl
  have y1 := S3.2.1.cell (i := 1) rfl
  have x2 := S3.1.cell (i := 2) rfl
  have y2 := S3.2.1.cell (i := 2) rfl
  have x3 := S3.1.cell (i := 3) rfl
  have y3 := S3.2.1.cell (i := 3) rfl
  have HS3 := Lib.hid S3
  clear S3
  go_wp2_with fail
  refine q4 _ ?_
  intro z4 w4 hz4 d4
  have S4 := NX.out _ _ HS3.out d4
  have Z4 := Lib.hid hz4
  have q5 := fun P' => kReads_cps k2 a2 b2 c2 X w4 P'
  clear q4 d4 HS3 hz4 x0 x1 x2 x3 y0 y1 y2 y3
  have x0 := S4.1.cell (i := 0) rfl
  have y0 := S4.2.1.cell (i := 0) rfl
  have x1 := S4.1.cell (i := 1) rfl
  have y1 := S4.2.1.cell (i := 1) rfl
  have x2 := S4.1.cell (i := 2) rfl
  have y2 := S4.2.1.cell (i := 2) rfl
  have x3 := S4.1.cell (i := 3) rfl
  have y3 := S4.2.1.cell (i := 3) rfl
  have HS4 := Lib.hid S4
  clear S4
  go_wp2_with fail
  refine q5 _ ?_
  intro z5 w5 hz5 d5
  have S5 := NX.out _ _ HS4.out d5
  have Z5 := Lib.hid hz5
  have q6 := fun P' => kReads_cps k1 a1 b1 c1 Y w5 P'
  clear q5 d5 HS4 hz5 x0 x1 x2 x3 y0 y1 y2 y3
  have x0 := S5.1.cell (i := 0) rfl
  have y0 := S5.2.1.cell (i := 0) rfl
  have x1 := S5.1.cell (i := 1) rfl
  have y1 := S5.2.1.cell (i := 1) rfl
  have x2 := S5.1.cell (i := 2) rfl
  have y2 := S5.2.1.cell (i := 2) rfl
  have x3 := S5.1.cell (i := 3) rfl
  have y3 := S5.2.1.cell (i := 3) rfl
  have HS5 := Lib.hid S5
  clear S5
  go_wp2_with fail
  refine q6 _ ?_
  intro z6 w6 hz6 d6
  have Z6 := Lib.hid hz6
  have HL := Lib.hid (NX.out _ _ HS5.out d6).2.2
  have HLK : Hid (looseK ⟨k1, a1, b1, c1⟩ ⟨k2, a2, b2, c2⟩ ↔ X ≠ Y ∧ ¬ (z3 = true ∧ z4 = true) ∧ ¬ z5 = true ∧ ¬ z6 = true) := by
    show _ ↔ _
    unfold looseK
    rw [Z3.out, Z4.out, Z5.out, Z6.out, ← HX.out, ← HY.out]
  clear q6 d6 HS5 hz6 x0 x1 x2 x3 y0 y1 y2 y3 Z3 Z4 Z5 Z6 HX HY NX
  by_cases hXY : X = Y
  · have e1 : (X != Y) = false := by simp [hXY]
    have HF := Lib.hid (HP.out false w6 ⟨fun c => (by cases c), fun c => absurd hXY (HLK.out.1 c).1⟩ HL.out)
    clear HLK HP hXY
    go_wp2
    exact HF.out
  have e1 : (X != Y) = true := by simp [hXY]
  cases z3 <;> cases z4 <;> cases z5 <;> cases z6
  · have HF := Lib.hid (HP.out true w6 ⟨fun _ => HLK.out.2 ⟨hXY, by simp, by simp, by simp⟩, fun _ => rfl⟩ HL.out)
    clear HLK HP hXY
    go_wp2
    exact HF.out
  · have HF := Lib.hid (HP.out false w6 ⟨fun c => (by cases c), fun c => by have := HLK.out.1 c; simp at this⟩ HL.out)
    clear HLK HP hXY
    go_wp2
    exact HF.out
  · have HF := Lib.hid (HP.out false w6 ⟨fun c => (by cases c), fun c => by have := HLK.out.1 c; simp at this⟩ HL.out)
    clear HLK HP hXY
    go_wp2
    exact HF.out
  · have HF := Lib.hid (HP.out false w6 ⟨fun c => (by cases c), fun c => by have := HLK.out.1 c; simp at this⟩ HL.out)
    clear HLK HP hXY
    go_wp2
    exact HF.out
  · have HF := Lib.hid (HP.out true w6 ⟨fun _ => HLK.out.2 ⟨hXY, by simp, by simp, by simp⟩, fun _ => rfl⟩ HL.out)
    clear HLK HP hXY
    go_wp2
    exact HF.out
  · have HF := Lib.hid (HP.out false w6 ⟨fun c => (by cases c), fun c => by have := HLK.out.1 c; simp at this⟩ HL.out)
    clear HLK HP hXY
    go_wp2
    exact HF.out
  · have HF := Lib.hid (HP.out false w6 ⟨fun c => (by cases c), fun c => by have := HLK.out.1 c; simp at this⟩ HL.out)
    clear HLK HP hXY
    go_wp2
    exact HF.out
  · have HF := Lib.hid (HP.out false w6 ⟨fun c => (by cases c), fun c => by have := HLK.out.1 c; simp at this⟩ HL.out)
    clear HLK HP hXY
    go_wp2
    exact HF.out
  · have HF := Lib.hid (HP.out true w6 ⟨fun _ => HLK.out.2 ⟨hXY, by simp, by simp, by simp⟩, fun _ => rfl⟩ HL.out)
    clear HLK HP hXY
    go_wp2
    exact HF.out
  · have HF := Lib.hid (HP.out false w6 ⟨fun c => (by cases c), fun c => by have := HLK.out.1 c; simp at this⟩ HL.out)
    clear HLK HP hXY
    go_wp2
    exact HF.out
  · have HF := Lib.hid (HP.out false w6 ⟨fun c => (by cases c), fun c => by have := HLK.out.1 c; simp at this⟩ HL.out)
    clear HLK HP hXY
    go_wp2
    exact HF.out
  · have HF := Lib.hid (HP.out false w6 ⟨fun c => (by cases c), fun c => by have := HLK.out.1 c; simp at this⟩ HL.out)
    clear HLK HP hXY
    go_wp2
    exact HF.out
  · have HF := Lib.hid (HP.out false w6 ⟨fun c => (by cases c), fun c => by have := HLK.out.1 c; simp at this⟩ HL.out)
    clear HLK HP hXY
    go_wp2
    exact HF.out
  · have HF := Lib.hid (HP.out false w6 ⟨fun c => (by cases c), fun c => by have := HLK.out.1 c; simp at this⟩ HL.out)
    clear HLK HP hXY
    go_wp2
    exact HF.out
  · have HF := Lib.hid (HP.out false w6 ⟨fun c => (by cases c), fun c => by have := HLK.out.1 c; simp at this⟩ HL.out)
    clear HLK HP hXY
    go_wp2
    exact HF.out
  · have HF := Lib.hid (HP.out false w6 ⟨fun c => (by cases c), fun c => by have := HLK.out.1 c; simp at this⟩ HL.out)
    clear HLK HP hXY
    go_wp2
    exact HF.out

theorem op_plain {regs : Int} {o : OpD} (g : opGood regs 0 o = true) : (1 ≤ o.kind ∧ o.kind ≤ 13) ∧ (0 ≤ o.a ∧ o.a < regs) ∧ (o.kind ≠ 1 → 0 ≤ o.b ∧ o.b < regs) ∧ (3 ≤ o.kind ∧ o.kind ≤ 11 → 0 ≤ o.c ∧ o.c < regs) := by
  unfold opGood at g
  repeat' split at g
  all_goals (first | (simp only [Bool.and_eq_true, below, decide_eq_true_eq] at g; omega) | (cases g))

theorem loose_reads {regs : Int} {x y : OpD} (gx : opGood regs 0 x = true) (gy : opGood regs 0 y = true) (h2 : ¬ (tellsT x ∧ tellsT y)) (h3 : ¬ readsK y (writesK x)) : ¬ readsT regs 0 y (writesT regs 0 x) := by
  obtain ⟨kx, ax, bx, cx⟩ := op_plain gx
  obtain ⟨ky, ay, by', cy⟩ := op_plain gy
  intro hr
  unfold writesT at hr
  by_cases x13 : x.kind = 13
  · rw [if_pos x13] at hr
    have hy : ¬ tellsT y := fun c => h2 ⟨.inr (.inr x13), c⟩
    unfold tellsT at hy
    unfold readsT at hr
    split at hr; · exact hr
    split at hr; · omega
    split at hr; · omega
    split at hr; · omega
    omega
  · rw [if_neg x13, if_neg (by omega)] at hr
    apply h3
    unfold writesK readsK
    rw [if_neg x13]
    unfold readsT at hr
    by_cases y1 : y.kind = 1
    · rw [if_pos y1] at hr; exact hr.elim
    rw [if_neg y1] at hr ⊢
    by_cases y2 : y.kind = 2
    · rw [if_pos y2] at hr; rw [if_pos (.inl y2)]; exact hr
    rw [if_neg y2] at hr
    by_cases y12 : y.kind = 12
    · rw [if_pos y12] at hr; rw [if_pos (.inr y12)]
      rcases hr with hr | hr
      · exact hr
      · omega
    rw [if_neg y12] at hr
    rw [if_neg (by omega)]
    by_cases y13 : y.kind = 13
    · rw [if_pos y13] at hr ⊢
      rcases hr with hr | hr | hr
      · exact .inl hr
      · exact .inr hr
      · omega
    · rw [if_neg y13] at hr ⊢
      exact hr

theorem loose_swap {regs data : Int} {x y : OpD} (gx : opGood regs 0 x = true) (gy : opGood regs 0 y = true) (h : looseK x y) (l m : List OpD) (w : Int → TD) (a : List MD) :
    foldT regs 0 (l ++ x :: y :: m) w = foldT regs 0 (l ++ y :: x :: m) w ∧ foldM regs 0 data (l ++ x :: y :: m) w a = foldM regs 0 data (l ++ y :: x :: m) w a := by
  obtain ⟨h1, h2, h3, h4⟩ := h
  obtain ⟨kx, ax, bx, cx⟩ := op_plain gx
  obtain ⟨ky, ay, by', cy⟩ := op_plain gy
  refine swap_fold ⟨by omega, by omega⟩ ⟨by omega, by omega⟩ ?_ (loose_reads gx gy h2 h3) (loose_reads gy gx (fun c => h2 ⟨c.2, c.1⟩) h4) (fun c => h2 c) l m w a
  unfold writesT
  unfold writesK at h1
  by_cases x13 : x.kind = 13
  · by_cases y13 : y.kind = 13
    · rw [if_pos x13, if_pos y13] at h1; exact absurd rfl h1
    · rw [if_pos x13, if_neg y13, if_neg (by omega)]; omega
  · by_cases y13 : y.kind = 13
    · rw [if_neg x13, if_pos y13, if_neg (by omega)]; omega
    · rw [if_neg x13, if_neg y13] at h1
      rw [if_neg x13, if_neg y13, if_neg (by omega), if_neg (by omega)]; exact h1

end Go.Proofs.YtblhmeidbjigaabGreatDoor

/- Big blocks, step by step; pure. -/
set_option linter.unusedSimpArgs false
set_option linter.unusedVariables false
noncomputable section
namespace Go.Proofs.YtblhmeidbjigaabGreatDoor
open Go.RowKit Classical

def bigOp (regs slots : Int) (was : Int → TD) (o : OpD) : Bool := decide (3 ≤ o.kind ∧ o.kind ≤ 13 ∧ 4095 < (givesT regs slots was o).size)

def bigF (regs slots : Int) : List OpD → (Int → TD) → Bool
  | [], _ => false
  | o :: l, was => bigOp regs slots was o || bigF regs slots l (stepT regs slots was o)

theorem bigF_append (regs slots : Int) (l m : List OpD) (was : Int → TD) : bigF regs slots (l ++ m) was = (bigF regs slots l was || bigF regs slots m (foldT regs slots l was)) := by
  induction l generalizing was with
  | nil => simp [bigF, foldT]
  | cons o l ih => simp only [List.cons_append, bigF, foldT, ih, Bool.or_assoc]

theorem step_writes (regs slots : Int) (was : Int → TD) (o : OpD) : stepT regs slots was o (writesT regs slots o) = givesT regs slots was o := by
  unfold stepT; simp

theorem big_fold (regs slots : Int) (names : List Int) (ops : List OpD) : ∀ k, k ≤ ops.length →
    ((List.range k).any fun k => decide (3 ≤ okind ops k ∧ okind ops k ≤ 13 ∧ 4095 < (behindT regs slots names ops (k + 1) (writesT regs slots (ops.getD k oz))).size)) = bigF regs slots (ops.take k) (firstT names) := by
  intro k
  induction k with
  | zero => intro _; simp [bigF]
  | succ k ih =>
    intro hk
    rw [List.range_succ, List.any_append, ih (by omega), take_succ' (by omega), bigF_append, ← behind_fold _ _ _ _ _ (by omega)]
    simp only [List.any_cons, List.any_nil, Bool.or_false, bigF]
    rw [behind_succ, step_writes]
    rfl

theorem big_all (regs slots : Int) (names : List Int) (ops : List OpD) : bigT regs slots names ops = bigF regs slots ops (firstT names) := by
  have := big_fold regs slots names ops ops.length (Nat.le_refl _)
  rw [List.take_length] at this
  exact this

end Go.Proofs.YtblhmeidbjigaabGreatDoor

/- P15: targets on the same registers: pure. -/
set_option linter.unusedSimpArgs false
set_option linter.unusedVariables false
noncomputable section
namespace Go.Proofs.YtblhmeidbjigaabGreatDoor
open Go.RowKit Classical

/-- Two well made programs of one shape on the same registers, the ends the same, and block by block the same terms and marks: twins by the plain hint. -/
theorem twin_id {p q : ProgD} (gp : progGood p = true) (gq : progGood q = true) (hp0 : p.slots = 0) (hq0 : q.slots = 0) (hr : q.regs = p.regs) (ha : q.args = p.args) (hd : q.data = p.data) (hl : q.blocks.length = p.blocks.length)
    (sp : ∀ b, b < p.blocks.length → (bops p.blocks b).length ≤ 7) (sq : ∀ b, b < p.blocks.length → (bops q.blocks b).length ≤ 7)
    (ends : ∀ b, b < p.blocks.length → bfin q.blocks b = bfin p.blocks b)
    (terms : ∀ b, b < p.blocks.length → ∀ w a, foldT p.regs 0 (bops q.blocks b) w = foldT p.regs 0 (bops p.blocks b) w ∧ foldM p.regs 0 p.data (bops q.blocks b) w a = foldM p.regs 0 p.data (bops p.blocks b) w a) :
    ValAns (str (progText p)) (str (progText q)) (str (hintText (idHint p))) 0 0 := by
  have gp' := gp
  simp only [progGood, Bool.and_eq_true, decide_eq_true_eq] at gp'
  obtain ⟨⟨⟨⟨⟨p1, p2⟩, p3⟩, p4⟩, p5⟩, p6⟩ := gp'
  rw [hp0] at p6
  obtain ⟨i1, i2⟩ := idHint_at (p := p) (b := 0) (by omega)
  have hn := namesOf_id (regs := p.regs) (by omega)
  refine .inr ⟨p, gp, rfl, hp0, .inr ⟨q, gq, rfl, .inr ⟨⟨ha.symm, hd.symm⟩, .inr ⟨idHint p, idHint_good gp, rfl, ⟨by simp [idHint, hl], fun b hb => ?_⟩, .inr ⟨⟨by rw [i1]; rfl, fun x hx => ?_⟩, .inr ⟨rfl, rfl, fun b hb => ?_⟩⟩⟩⟩⟩⟩
  · have hb' : b < p.blocks.length := by simpa [idHint] using hb
    obtain ⟨j1, j2⟩ := idHint_at hb'
    rw [j1, j2]
    refine ⟨by omega, fun x hx => ?_⟩
    obtain ⟨i, hi, rfl⟩ := idPairs_mem hx
    simp only
    omega
  · rw [i2] at hx
    obtain ⟨i, hi, rfl⟩ := idPairs_mem hx
    exact ⟨by simp only; omega, .inl rfl⟩
  · rw [hl] at hb
    obtain ⟨j1, j2⟩ := idHint_at (p := p) hb
    have so : srcOps p (idHint p) b = bops p.blocks b := by unfold srcOps; rw [j1]; congr 1
    have tt : ∀ i, srcT p (idHint p) b i = tgtT q (idHint p) b i := by
      intro i
      unfold tgtT srcT
      rw [so, j2, hr, hq0, hn, behind_all, behind_all, (terms b hb _ []).1]
    refine like_wrong p6 hb hl (fun d hd => (idHint_at hd).1) (bigT_short (sp b hb)) (bigT_short (sq b hb)) ?_ ?_ ?_ (fun _ => ?_) (fun d hd x hx => ?_)
    · rw [j2, hr, hq0, hn, hd, marks_all, marks_all, (terms b hb _ _).2]
    · rw [hr, hq0, Int.add_zero]; exact tt _
    · rw [ends b hb]; exact ⟨rfl, rfl, rfl⟩
    · rw [ends b hb]; exact tt _
    · rw [(idHint_at hd).2] at hx
      obtain ⟨i, _, rfl⟩ := idPairs_mem hx
      exact tt _

end Go.Proofs.YtblhmeidbjigaabGreatDoor

/- Operations that change over; pure. -/
set_option linter.unusedSimpArgs false
set_option linter.unusedVariables false
namespace Go.Proofs.YtblhmeidbjigaabGreatDoor
open Go.RowKit

theorem bops_set {m : List BlockD} {b : Nat} (hb : b < m.length) (B : BlockD) (c : Nat) : bops (m.set b B) c = if c = b then B.ops else bops m c := by
  unfold bops
  by_cases h : c = b
  · subst h; simp [List.getD, hb]
  · rw [if_neg h]; simp [List.getD, List.getElem?_set_ne (fun e => h e.symm)]

theorem bfin_set {m : List BlockD} {b : Nat} (hb : b < m.length) (B : BlockD) (c : Nat) : bfin (m.set b B) c = if c = b then B.fin else bfin m c := by
  unfold bfin
  by_cases h : c = b
  · subst h; simp [List.getD, hb]
  · rw [if_neg h]; simp [List.getD, List.getElem?_set_ne (fun e => h e.symm)]

theorem good_set {a0 a1 a2 a3 : Int} {m : List BlockD} (g : progGood ⟨a0, a1, a2, a3, m⟩ = true) {b : Nat} (B : BlockD) (hB : blockGood a1 a3 m.length B = true) : progGood ⟨a0, a1, a2, a3, m.set b B⟩ = true := by
  simp only [progGood, blocksGood, Bool.and_eq_true, decide_eq_true_eq, List.all_eq_true, List.length_set] at g ⊢
  refine ⟨g.1, fun x hx => ?_⟩
  rcases List.mem_or_eq_of_mem_set hx with hx | rfl
  · exact g.2 x hx
  · exact hB

theorem good_at {a0 a1 a2 a3 : Int} {m : List BlockD} (g : progGood ⟨a0, a1, a2, a3, m⟩ = true) {b : Nat} (hb : b < m.length) : blockGood a1 a3 m.length ⟨bops m b, bfin m b⟩ = true :=
  progGood_block g (m.getD b bz) (getD_mem' hb)

/-- The blocks m do what l0 does. -/
structure SwpOk (a0 a1 a2 : Int) (l0 m : List BlockD) : Prop where
  good : progGood ⟨a0, a1, a2, 0, m⟩ = true
  len : m.length = l0.length
  each : ∀ b, b < l0.length → bfin m b = bfin l0 b ∧ (bops m b).length = (bops l0 b).length ∧ ∀ w a, foldT a1 0 (bops m b) w = foldT a1 0 (bops l0 b) w ∧ foldM a1 0 a2 (bops m b) w a = foldM a1 0 a2 (bops l0 b) w a

theorem SwpOk.refl {a0 a1 a2 : Int} {l0 : List BlockD} (g : progGood ⟨a0, a1, a2, 0, l0⟩ = true) : SwpOk a0 a1 a2 l0 l0 := ⟨g, rfl, fun b _ => ⟨rfl, rfl, fun w a => ⟨rfl, rfl⟩⟩⟩

theorem two_apart {l : List OpD} {i : Nat} (h : i + 1 < l.length) : ∃ a x y r, l = a ++ x :: y :: r ∧ a.length = i := by
  refine ⟨l.take i, l[i], l[i + 1], l.drop (i + 2), ?_, by simp; omega⟩
  rw [← List.drop_eq_getElem_cons h, ← List.drop_eq_getElem_cons (by omega), List.take_append_drop]

theorem SwpOk.step {a0 a1 a2 : Int} {l0 m : List BlockD} (h : SwpOk a0 a1 a2 l0 m) {b i : Nat} (hb : b < l0.length) (hi : i + 1 < (bops m b).length) (hl : looseK ((bops m b).getD i oz) ((bops m b).getD (i + 1) oz)) :
    SwpOk a0 a1 a2 l0 (m.set b ⟨((bops m b).set i ((bops m b).getD (i + 1) oz)).set (i + 1) ((bops m b).getD i oz), bfin m b⟩) := by
  have hbm : b < m.length := by rw [h.len]; exact hb
  have hB := good_at h.good hbm
  obtain ⟨a, x, y, r, e, ha⟩ := two_apart hi
  have e1 : (bops m b).getD i oz = x := by rw [e]; subst ha; simp [List.getD]
  have e2 : (bops m b).getD (i + 1) oz = y := by rw [e]; subst ha; simp [List.getD]
  have e3 : ((bops m b).set i y).set (i + 1) x = a ++ y :: x :: r := by
    rw [e]; subst ha
    rw [List.set_append_right _ _ (Nat.le_refl _), List.set_append_right _ _ (by omega)]
    simp
  rw [e1, e2] at hl ⊢
  rw [e3]
  simp only [blockGood, opsGood, Bool.and_eq_true, decide_eq_true_eq, List.all_eq_true] at hB
  rw [e] at hB
  have gx := hB.1.2 x (by simp)
  have gy := hB.1.2 y (by simp)
  refine ⟨good_set h.good _ ?_, by rw [List.length_set]; exact h.len, fun c hc => ?_⟩
  · simp only [blockGood, opsGood, Bool.and_eq_true, decide_eq_true_eq, List.all_eq_true]
    refine ⟨⟨by have := hB.1.1; simpa using this, fun o ho => hB.1.2 o (by simp at ho ⊢; rcases ho with q | q | q | q <;> simp [q])⟩, hB.2⟩
  · rw [bops_set hbm, bfin_set hbm]
    obtain ⟨f1, f2, f3⟩ := h.each c hc
    by_cases q : c = b
    · subst q
      rw [if_pos rfl, if_pos rfl]
      refine ⟨f1, by rw [← f2, e]; simp, fun w d => ?_⟩
      obtain ⟨s1, s2⟩ := loose_swap (data := a2) gx gy hl a r w d
      obtain ⟨t1, t2⟩ := f3 w d
      rw [e] at t1 t2
      exact ⟨s1.symm.trans t1, s2.symm.trans t2⟩
    · rw [if_neg q, if_neg q]
      exact ⟨f1, f2, f3⟩

theorem SwpOk.twin {a0 a1 a2 : Int} {l0 m : List BlockD} (g : progGood ⟨a0, a1, a2, 0, l0⟩ = true) (h : SwpOk a0 a1 a2 l0 m) (sp : ∀ b, b < l0.length → (bops l0 b).length ≤ 7) :
    ValAns (str (progText ⟨a0, a1, a2, 0, l0⟩)) (str (progText ⟨a0, a1, a2, 0, m⟩)) (str (hintText (idHint ⟨a0, a1, a2, 0, l0⟩))) 0 0 :=
  twin_id g h.good rfl rfl rfl rfl rfl h.len sp (fun b hb => by rw [(h.each b hb).2.1]; exact sp b hb) (fun b hb => (h.each b hb).1) (fun b hb w a => (h.each b hb).2.2 w a)

end Go.Proofs.YtblhmeidbjigaabGreatDoor

/- An operation out of raw numbers. -/
set_option linter.unusedSimpArgs false
set_option linter.unusedVariables false
namespace Go.Proofs.YtblhmeidbjigaabGreatDoor
open Go.RowKit

set_option maxRecDepth 100000 in
set_option maxHeartbeats 4000000 in
theorem op_cps (R : Nat) (ao : Option Addr) (n cap k : Nat) (most regs slots : Int) (w : World) (h : Rolls w R ao n cap k) (hre : 1 ≤ regs ∧ regs ≤ 8) (hsl : 0 ≤ slots ∧ slots ≤ 8) (hmo : 1 ≤ most ∧ most ≤ 15) (hms : most ≤ 13 ∨ 1 ≤ slots) (Post : Ending → World → Prop)
    (hp : ∀ a b c d k' w', opGood regs slots ⟨a, b, c, d⟩ = true → Rolls w' R ao n cap k' → Keep (fun g => g = R) w w' → Post (.returned (.agg #[.int .i64 a, .int .i64 b, .int .i64 c, .int .i64 d])) w') :
    Calls Tryz.prog 14 #[.pointer (some ⟨R, 0, none⟩), .int .i64 most, .int .i64 regs, .int .i64 slots] w Post := by
  have hRw := h.row.lt
  have hA0 : Row (w.alloc (.cells #[.int .i64 0, .int .i64 0, .int .i64 0, .int .i64 0] 36)) w.heap.size 36 [.int .i64 0, .int .i64 0, .int .i64 0, .int .i64 0] := heap_alloc_new w _
  go_enter Tryz.func14, Tryz.ntmps14
  go_wp2_with fail
  refine next_cps R ao n cap k most _ (h.keep ((Below.refl _ _).alloc (Nat.le_refl _) _)) (by omega) _ ?_
  intro x k1 w1 hx0 hx3 hr1 hk1 hz1
  have hA := hA0.kept hk1 (by omega)
  simp only [World.size_alloc] at hz1
  have HZ : Hid (w1.heap.size = w.heap.size + 1) := hz1
  have hzl : w.heap.size < w1.heap.size := by omega
  have hRB : R < w1.heap.size := by omega
  clear hA0 hz1
  have hre' : 1 ≤ regs ∧ regs ≤ 1000 := by omega
  have hct : (1 : Int) ≤ 256 ∧ (256 : Int) ≤ 1000 := by omega
  obtain rfl | rfl | rfl | rfl | rfl | rfl | hxx : x = 0 ∨ x = 1 ∨ x = 11 ∨ x = 12 ∨ x = 13 ∨ x = 14 ∨ (2 ≤ x ∧ x ≤ 10) := by omega
  · have st : St w R ao n cap 36 w.heap.size w1.heap.size [.int .i64 1, .int .i64 0, .int .i64 0, .int .i64 0] (w1.alloc (.cells #[.int .i64 1, .int .i64 0, .int .i64 0, .int .i64 0] 36)) := St.start h hr1 hk1 hA HZ.out _
    obtain ⟨k0, hro0⟩ := st.rolls
    go_wp2_with fail
    refine next_cps R ao n cap k0 regs _ hro0 hre' _ ?_
    intro y0 kk0 v0 ya0 yb0 hr hk hzz
    have st := st.next hr hk
    have bc := st.rowB.cell (i := 1) rfl
    have bf := st.rowB.frozen 1
    have st' := st.store h 1 (.int .i64 y0)
    clear hr hk hzz
    replace st := st'
    obtain ⟨k1, hro1⟩ := st.rolls
    go_wp2_with fail
    refine next_cps R ao n cap k1 256 _ hro1 hct _ ?_
    intro y1 kk1 v1 ya1 yb1 hr hk hzz
    have st := st.next hr hk
    have bc := st.rowB.cell (i := 2) rfl
    have bf := st.rowB.frozen 2
    have st' := st.store h 2 (.int .i64 y1)
    clear hr hk hzz
    replace st := st'
    obtain ⟨k2, hro2⟩ := st.rolls
    go_wp2_with fail
    refine next_cps R ao n cap k2 256 _ hro2 hct _ ?_
    intro y2 kk2 v2 ya2 yb2 hr hk hzz
    have st := st.next hr hk
    have bc := st.rowB.cell (i := 3) rfl
    have bf := st.rowB.frozen 3
    have st' := st.store h 3 (.int .i64 y2)
    clear hr hk hzz
    have st2 := st'
    obtain ⟨kf, hrof⟩ := st2.rolls
    have hfin := hp 1 y0 y1 y2 kf (set4 (v2.setCell ⟨w1.heap.size, 3, none⟩ (.int .i64 y2)) w.heap.size 0 1 y0 y1 y2) (by simp [opGood, below]; omega) (((hrof.set h (Nat.le_refl _) _).set h (Nat.le_refl _) _ |>.set h (Nat.le_refl _) _).set h (Nat.le_refl _) _) (st2.keep.set4 (.inr (Nat.le_refl _)) _ _ _ _)
    have hne := st2.ne
    have a0 := st2.rowA.cell (i := 0) rfl
    have a1 := st2.rowA.cell (i := 1) rfl
    have a2 := st2.rowA.cell (i := 2) rfl
    have a3 := st2.rowA.cell (i := 3) rfl
    have f0 := st2.rowA.frozen 0
    have f1 := st2.rowA.frozen 1
    have f2 := st2.rowA.frozen 2
    have f3 := st2.rowA.frozen 3
    have q0 := st2.rowB.cell (i := 0) (u := .int .i64 1) rfl
    have q1 := st2.rowB.cell (i := 1) (u := .int .i64 y0) rfl
    have q2 := st2.rowB.cell (i := 2) (u := .int .i64 y1) rfl
    have q3 := st2.rowB.cell (i := 3) (u := .int .i64 y2) rfl
    clear st st' st2 hp h hr1 hk1 hA
    have HF : Hid (Post (.returned (.agg #[.int .i64 1, .int .i64 y0, .int .i64 y1, .int .i64 y2])) (set4 (v2.setCell ⟨w1.heap.size, 3, none⟩ (.int .i64 y2)) w.heap.size 0 1 y0 y1 y2)) := hfin
    clear hfin
    go_wp2
    exact bodyPost_ret (v := .agg #[.int .i64 1, .int .i64 y0, .int .i64 y1, .int .i64 y2]) (by simp [results, Tryz.results14, go_sem, a0, a1, a2, a3]) rfl HF.out
  · have st : St w R ao n cap 36 w.heap.size w1.heap.size [.int .i64 2, .int .i64 0, .int .i64 0, .int .i64 0] (w1.alloc (.cells #[.int .i64 2, .int .i64 0, .int .i64 0, .int .i64 0] 36)) := St.start h hr1 hk1 hA HZ.out _
    obtain ⟨k0, hro0⟩ := st.rolls
    go_wp2_with fail
    refine next_cps R ao n cap k0 regs _ hro0 hre' _ ?_
    intro y0 kk0 v0 ya0 yb0 hr hk hzz
    have st := st.next hr hk
    have bc := st.rowB.cell (i := 1) rfl
    have bf := st.rowB.frozen 1
    have st' := st.store h 1 (.int .i64 y0)
    clear hr hk hzz
    replace st := st'
    obtain ⟨k1, hro1⟩ := st.rolls
    go_wp2_with fail
    refine next_cps R ao n cap k1 regs _ hro1 hre' _ ?_
    intro y1 kk1 v1 ya1 yb1 hr hk hzz
    have st := st.next hr hk
    have bc := st.rowB.cell (i := 2) rfl
    have bf := st.rowB.frozen 2
    have st' := st.store h 2 (.int .i64 y1)
    clear hr hk hzz
    have st2 := st'
    obtain ⟨kf, hrof⟩ := st2.rolls
    have hfin := hp 2 y0 y1 0 kf (set4 (v1.setCell ⟨w1.heap.size, 2, none⟩ (.int .i64 y1)) w.heap.size 0 2 y0 y1 0) (by simp [opGood, below]; omega) (((hrof.set h (Nat.le_refl _) _).set h (Nat.le_refl _) _ |>.set h (Nat.le_refl _) _).set h (Nat.le_refl _) _) (st2.keep.set4 (.inr (Nat.le_refl _)) _ _ _ _)
    have hne := st2.ne
    have a0 := st2.rowA.cell (i := 0) rfl
    have a1 := st2.rowA.cell (i := 1) rfl
    have a2 := st2.rowA.cell (i := 2) rfl
    have a3 := st2.rowA.cell (i := 3) rfl
    have f0 := st2.rowA.frozen 0
    have f1 := st2.rowA.frozen 1
    have f2 := st2.rowA.frozen 2
    have f3 := st2.rowA.frozen 3
    have q0 := st2.rowB.cell (i := 0) (u := .int .i64 2) rfl
    have q1 := st2.rowB.cell (i := 1) (u := .int .i64 y0) rfl
    have q2 := st2.rowB.cell (i := 2) (u := .int .i64 y1) rfl
    have q3 := st2.rowB.cell (i := 3) (u := .int .i64 0) rfl
    clear st st' st2 hp h hr1 hk1 hA
    have HF : Hid (Post (.returned (.agg #[.int .i64 2, .int .i64 y0, .int .i64 y1, .int .i64 0])) (set4 (v1.setCell ⟨w1.heap.size, 2, none⟩ (.int .i64 y1)) w.heap.size 0 2 y0 y1 0)) := hfin
    clear hfin
    go_wp2
    exact bodyPost_ret (v := .agg #[.int .i64 2, .int .i64 y0, .int .i64 y1, .int .i64 0]) (by simp [results, Tryz.results14, go_sem, a0, a1, a2, a3]) rfl HF.out
  · have st : St w R ao n cap 36 w.heap.size w1.heap.size [.int .i64 12, .int .i64 0, .int .i64 0, .int .i64 0] (w1.alloc (.cells #[.int .i64 12, .int .i64 0, .int .i64 0, .int .i64 0] 36)) := St.start h hr1 hk1 hA HZ.out _
    obtain ⟨k0, hro0⟩ := st.rolls
    go_wp2_with fail
    refine next_cps R ao n cap k0 regs _ hro0 hre' _ ?_
    intro y0 kk0 v0 ya0 yb0 hr hk hzz
    have st := st.next hr hk
    have bc := st.rowB.cell (i := 1) rfl
    have bf := st.rowB.frozen 1
    have st' := st.store h 1 (.int .i64 y0)
    clear hr hk hzz
    replace st := st'
    obtain ⟨k1, hro1⟩ := st.rolls
    go_wp2_with fail
    refine next_cps R ao n cap k1 regs _ hro1 hre' _ ?_
    intro y1 kk1 v1 ya1 yb1 hr hk hzz
    have st := st.next hr hk
    have bc := st.rowB.cell (i := 2) rfl
    have bf := st.rowB.frozen 2
    have st' := st.store h 2 (.int .i64 y1)
    clear hr hk hzz
    have st2 := st'
    obtain ⟨kf, hrof⟩ := st2.rolls
    have hfin := hp 12 y0 y1 0 kf (set4 (v1.setCell ⟨w1.heap.size, 2, none⟩ (.int .i64 y1)) w.heap.size 0 12 y0 y1 0) (by simp [opGood, below]; omega) (((hrof.set h (Nat.le_refl _) _).set h (Nat.le_refl _) _ |>.set h (Nat.le_refl _) _).set h (Nat.le_refl _) _) (st2.keep.set4 (.inr (Nat.le_refl _)) _ _ _ _)
    have hne := st2.ne
    have a0 := st2.rowA.cell (i := 0) rfl
    have a1 := st2.rowA.cell (i := 1) rfl
    have a2 := st2.rowA.cell (i := 2) rfl
    have a3 := st2.rowA.cell (i := 3) rfl
    have f0 := st2.rowA.frozen 0
    have f1 := st2.rowA.frozen 1
    have f2 := st2.rowA.frozen 2
    have f3 := st2.rowA.frozen 3
    have q0 := st2.rowB.cell (i := 0) (u := .int .i64 12) rfl
    have q1 := st2.rowB.cell (i := 1) (u := .int .i64 y0) rfl
    have q2 := st2.rowB.cell (i := 2) (u := .int .i64 y1) rfl
    have q3 := st2.rowB.cell (i := 3) (u := .int .i64 0) rfl
    clear st st' st2 hp h hr1 hk1 hA
    have HF : Hid (Post (.returned (.agg #[.int .i64 12, .int .i64 y0, .int .i64 y1, .int .i64 0])) (set4 (v1.setCell ⟨w1.heap.size, 2, none⟩ (.int .i64 y1)) w.heap.size 0 12 y0 y1 0)) := hfin
    clear hfin
    go_wp2
    exact bodyPost_ret (v := .agg #[.int .i64 12, .int .i64 y0, .int .i64 y1, .int .i64 0]) (by simp [results, Tryz.results14, go_sem, a0, a1, a2, a3]) rfl HF.out
  · have st : St w R ao n cap 36 w.heap.size w1.heap.size [.int .i64 13, .int .i64 0, .int .i64 0, .int .i64 0] (w1.alloc (.cells #[.int .i64 13, .int .i64 0, .int .i64 0, .int .i64 0] 36)) := St.start h hr1 hk1 hA HZ.out _
    obtain ⟨k0, hro0⟩ := st.rolls
    go_wp2_with fail
    refine next_cps R ao n cap k0 regs _ hro0 hre' _ ?_
    intro y0 kk0 v0 ya0 yb0 hr hk hzz
    have st := st.next hr hk
    have bc := st.rowB.cell (i := 1) rfl
    have bf := st.rowB.frozen 1
    have st' := st.store h 1 (.int .i64 y0)
    clear hr hk hzz
    replace st := st'
    obtain ⟨k1, hro1⟩ := st.rolls
    go_wp2_with fail
    refine next_cps R ao n cap k1 regs _ hro1 hre' _ ?_
    intro y1 kk1 v1 ya1 yb1 hr hk hzz
    have st := st.next hr hk
    have bc := st.rowB.cell (i := 2) rfl
    have bf := st.rowB.frozen 2
    have st' := st.store h 2 (.int .i64 y1)
    clear hr hk hzz
    have st2 := st'
    obtain ⟨kf, hrof⟩ := st2.rolls
    have hfin := hp 13 y0 y1 0 kf (set4 (v1.setCell ⟨w1.heap.size, 2, none⟩ (.int .i64 y1)) w.heap.size 0 13 y0 y1 0) (by simp [opGood, below]; omega) (((hrof.set h (Nat.le_refl _) _).set h (Nat.le_refl _) _ |>.set h (Nat.le_refl _) _).set h (Nat.le_refl _) _) (st2.keep.set4 (.inr (Nat.le_refl _)) _ _ _ _)
    have hne := st2.ne
    have a0 := st2.rowA.cell (i := 0) rfl
    have a1 := st2.rowA.cell (i := 1) rfl
    have a2 := st2.rowA.cell (i := 2) rfl
    have a3 := st2.rowA.cell (i := 3) rfl
    have f0 := st2.rowA.frozen 0
    have f1 := st2.rowA.frozen 1
    have f2 := st2.rowA.frozen 2
    have f3 := st2.rowA.frozen 3
    have q0 := st2.rowB.cell (i := 0) (u := .int .i64 13) rfl
    have q1 := st2.rowB.cell (i := 1) (u := .int .i64 y0) rfl
    have q2 := st2.rowB.cell (i := 2) (u := .int .i64 y1) rfl
    have q3 := st2.rowB.cell (i := 3) (u := .int .i64 0) rfl
    clear st st' st2 hp h hr1 hk1 hA
    have HF : Hid (Post (.returned (.agg #[.int .i64 13, .int .i64 y0, .int .i64 y1, .int .i64 0])) (set4 (v1.setCell ⟨w1.heap.size, 2, none⟩ (.int .i64 y1)) w.heap.size 0 13 y0 y1 0)) := hfin
    clear hfin
    go_wp2
    exact bodyPost_ret (v := .agg #[.int .i64 13, .int .i64 y0, .int .i64 y1, .int .i64 0]) (by simp [results, Tryz.results14, go_sem, a0, a1, a2, a3]) rfl HF.out
  · have hsl' : 1 ≤ slots ∧ slots ≤ 1000 := by omega
    have st : St w R ao n cap 36 w.heap.size w1.heap.size [.int .i64 14, .int .i64 0, .int .i64 0, .int .i64 0] (w1.alloc (.cells #[.int .i64 14, .int .i64 0, .int .i64 0, .int .i64 0] 36)) := St.start h hr1 hk1 hA HZ.out _
    obtain ⟨k0, hro0⟩ := st.rolls
    go_wp2_with fail
    refine next_cps R ao n cap k0 slots _ hro0 hsl' _ ?_
    intro y0 kk0 v0 ya0 yb0 hr hk hzz
    have st := st.next hr hk
    have bc := st.rowB.cell (i := 1) rfl
    have bf := st.rowB.frozen 1
    have st' := st.store h 1 (.int .i64 y0)
    clear hr hk hzz
    replace st := st'
    obtain ⟨k1, hro1⟩ := st.rolls
    go_wp2_with fail
    refine next_cps R ao n cap k1 regs _ hro1 hre' _ ?_
    intro y1 kk1 v1 ya1 yb1 hr hk hzz
    have st := st.next hr hk
    have bc := st.rowB.cell (i := 2) rfl
    have bf := st.rowB.frozen 2
    have st' := st.store h 2 (.int .i64 y1)
    clear hr hk hzz
    have st2 := st'
    obtain ⟨kf, hrof⟩ := st2.rolls
    have hfin := hp 14 y0 y1 0 kf (set4 (v1.setCell ⟨w1.heap.size, 2, none⟩ (.int .i64 y1)) w.heap.size 0 14 y0 y1 0) (by simp [opGood, below]; omega) (((hrof.set h (Nat.le_refl _) _).set h (Nat.le_refl _) _ |>.set h (Nat.le_refl _) _).set h (Nat.le_refl _) _) (st2.keep.set4 (.inr (Nat.le_refl _)) _ _ _ _)
    have hne := st2.ne
    have a0 := st2.rowA.cell (i := 0) rfl
    have a1 := st2.rowA.cell (i := 1) rfl
    have a2 := st2.rowA.cell (i := 2) rfl
    have a3 := st2.rowA.cell (i := 3) rfl
    have f0 := st2.rowA.frozen 0
    have f1 := st2.rowA.frozen 1
    have f2 := st2.rowA.frozen 2
    have f3 := st2.rowA.frozen 3
    have q0 := st2.rowB.cell (i := 0) (u := .int .i64 14) rfl
    have q1 := st2.rowB.cell (i := 1) (u := .int .i64 y0) rfl
    have q2 := st2.rowB.cell (i := 2) (u := .int .i64 y1) rfl
    have q3 := st2.rowB.cell (i := 3) (u := .int .i64 0) rfl
    clear st st' st2 hp h hr1 hk1 hA
    have HF : Hid (Post (.returned (.agg #[.int .i64 14, .int .i64 y0, .int .i64 y1, .int .i64 0])) (set4 (v1.setCell ⟨w1.heap.size, 2, none⟩ (.int .i64 y1)) w.heap.size 0 14 y0 y1 0)) := hfin
    clear hfin
    go_wp2
    exact bodyPost_ret (v := .agg #[.int .i64 14, .int .i64 y0, .int .i64 y1, .int .i64 0]) (by simp [results, Tryz.results14, go_sem, a0, a1, a2, a3]) rfl HF.out
  · have hsl' : 1 ≤ slots ∧ slots ≤ 1000 := by omega
    have st : St w R ao n cap 36 w.heap.size w1.heap.size [.int .i64 15, .int .i64 0, .int .i64 0, .int .i64 0] (w1.alloc (.cells #[.int .i64 15, .int .i64 0, .int .i64 0, .int .i64 0] 36)) := St.start h hr1 hk1 hA HZ.out _
    obtain ⟨k0, hro0⟩ := st.rolls
    go_wp2_with fail
    refine next_cps R ao n cap k0 regs _ hro0 hre' _ ?_
    intro y0 kk0 v0 ya0 yb0 hr hk hzz
    have st := st.next hr hk
    have bc := st.rowB.cell (i := 1) rfl
    have bf := st.rowB.frozen 1
    have st' := st.store h 1 (.int .i64 y0)
    clear hr hk hzz
    replace st := st'
    obtain ⟨k1, hro1⟩ := st.rolls
    go_wp2_with fail
    refine next_cps R ao n cap k1 slots _ hro1 hsl' _ ?_
    intro y1 kk1 v1 ya1 yb1 hr hk hzz
    have st := st.next hr hk
    have bc := st.rowB.cell (i := 2) rfl
    have bf := st.rowB.frozen 2
    have st' := st.store h 2 (.int .i64 y1)
    clear hr hk hzz
    have st2 := st'
    obtain ⟨kf, hrof⟩ := st2.rolls
    have hfin := hp 15 y0 y1 0 kf (set4 (v1.setCell ⟨w1.heap.size, 2, none⟩ (.int .i64 y1)) w.heap.size 0 15 y0 y1 0) (by simp [opGood, below]; omega) (((hrof.set h (Nat.le_refl _) _).set h (Nat.le_refl _) _ |>.set h (Nat.le_refl _) _).set h (Nat.le_refl _) _) (st2.keep.set4 (.inr (Nat.le_refl _)) _ _ _ _)
    have hne := st2.ne
    have a0 := st2.rowA.cell (i := 0) rfl
    have a1 := st2.rowA.cell (i := 1) rfl
    have a2 := st2.rowA.cell (i := 2) rfl
    have a3 := st2.rowA.cell (i := 3) rfl
    have f0 := st2.rowA.frozen 0
    have f1 := st2.rowA.frozen 1
    have f2 := st2.rowA.frozen 2
    have f3 := st2.rowA.frozen 3
    have q0 := st2.rowB.cell (i := 0) (u := .int .i64 15) rfl
    have q1 := st2.rowB.cell (i := 1) (u := .int .i64 y0) rfl
    have q2 := st2.rowB.cell (i := 2) (u := .int .i64 y1) rfl
    have q3 := st2.rowB.cell (i := 3) (u := .int .i64 0) rfl
    clear st st' st2 hp h hr1 hk1 hA
    have HF : Hid (Post (.returned (.agg #[.int .i64 15, .int .i64 y0, .int .i64 y1, .int .i64 0])) (set4 (v1.setCell ⟨w1.heap.size, 2, none⟩ (.int .i64 y1)) w.heap.size 0 15 y0 y1 0)) := hfin
    clear hfin
    go_wp2
    exact bodyPost_ret (v := .agg #[.int .i64 15, .int .i64 y0, .int .i64 y1, .int .i64 0]) (by simp [results, Tryz.results14, go_sem, a0, a1, a2, a3]) rfl HF.out
  · have n1 : ((1 + x : Int) == 1) = false := by simp; omega
    have n2 : ((1 + x : Int) == 2) = false := by simp; omega
    have n12 : ((1 + x : Int) == 12) = false := by simp; omega
    have n13 : ((1 + x : Int) == 13) = false := by simp; omega
    have n14 : ((1 + x : Int) == 14) = false := by simp; omega
    have n15 : ((1 + x : Int) == 15) = false := by simp; omega
    have st : St w R ao n cap 36 w.heap.size w1.heap.size [.int .i64 (1 + x), .int .i64 0, .int .i64 0, .int .i64 0] (w1.alloc (.cells #[.int .i64 (1 + x), .int .i64 0, .int .i64 0, .int .i64 0] 36)) := St.start h hr1 hk1 hA HZ.out _
    obtain ⟨k0, hro0⟩ := st.rolls
    go_wp2_with fail
    refine next_cps R ao n cap k0 regs _ hro0 hre' _ ?_
    intro y0 kk0 v0 ya0 yb0 hr hk hzz
    have st := st.next hr hk
    have bc := st.rowB.cell (i := 1) rfl
    have bf := st.rowB.frozen 1
    have st' := st.store h 1 (.int .i64 y0)
    clear hr hk hzz
    replace st := st'
    obtain ⟨k1, hro1⟩ := st.rolls
    go_wp2_with fail
    refine next_cps R ao n cap k1 regs _ hro1 hre' _ ?_
    intro y1 kk1 v1 ya1 yb1 hr hk hzz
    have st := st.next hr hk
    have bc := st.rowB.cell (i := 2) rfl
    have bf := st.rowB.frozen 2
    have st' := st.store h 2 (.int .i64 y1)
    clear hr hk hzz
    replace st := st'
    obtain ⟨k2, hro2⟩ := st.rolls
    go_wp2_with fail
    refine next_cps R ao n cap k2 regs _ hro2 hre' _ ?_
    intro y2 kk2 v2 ya2 yb2 hr hk hzz
    have st := st.next hr hk
    have bc := st.rowB.cell (i := 3) rfl
    have bf := st.rowB.frozen 3
    have st' := st.store h 3 (.int .i64 y2)
    clear hr hk hzz
    have st2 := st'
    obtain ⟨kf, hrof⟩ := st2.rolls
    have hfin := hp (1 + x) y0 y1 y2 kf (set4 (v2.setCell ⟨w1.heap.size, 3, none⟩ (.int .i64 y2)) w.heap.size 0 (1 + x) y0 y1 y2) (by unfold opGood; rw [if_neg (by show ¬ (1 + x = 1); omega), if_pos (by show 3 ≤ 1 + x ∧ 1 + x ≤ 11; omega)]; simp [below]; omega) (((hrof.set h (Nat.le_refl _) _).set h (Nat.le_refl _) _ |>.set h (Nat.le_refl _) _).set h (Nat.le_refl _) _) (st2.keep.set4 (.inr (Nat.le_refl _)) _ _ _ _)
    have hne := st2.ne
    have a0 := st2.rowA.cell (i := 0) rfl
    have a1 := st2.rowA.cell (i := 1) rfl
    have a2 := st2.rowA.cell (i := 2) rfl
    have a3 := st2.rowA.cell (i := 3) rfl
    have f0 := st2.rowA.frozen 0
    have f1 := st2.rowA.frozen 1
    have f2 := st2.rowA.frozen 2
    have f3 := st2.rowA.frozen 3
    have q0 := st2.rowB.cell (i := 0) (u := .int .i64 (1 + x)) rfl
    have q1 := st2.rowB.cell (i := 1) (u := .int .i64 y0) rfl
    have q2 := st2.rowB.cell (i := 2) (u := .int .i64 y1) rfl
    have q3 := st2.rowB.cell (i := 3) (u := .int .i64 y2) rfl
    clear st st' st2 hp h hr1 hk1 hA
    have HF : Hid (Post (.returned (.agg #[.int .i64 (1 + x), .int .i64 y0, .int .i64 y1, .int .i64 y2])) (set4 (v2.setCell ⟨w1.heap.size, 3, none⟩ (.int .i64 y2)) w.heap.size 0 (1 + x) y0 y1 y2)) := hfin
    clear hfin
    go_wp2
    exact bodyPost_ret (v := .agg #[.int .i64 (1 + x), .int .i64 y0, .int .i64 y1, .int .i64 y2]) (by simp [results, Tryz.results14, go_sem, a0, a1, a2, a3]) rfl HF.out

end Go.Proofs.YtblhmeidbjigaabGreatDoor

/- A block out of raw numbers. -/
set_option linter.unusedSimpArgs false
set_option linter.unusedVariables false
namespace Go.Proofs.YtblhmeidbjigaabGreatDoor
open Go.RowKit

theorem owns_keep {S : Nat → Prop} {w w' : World} {base : Nat} {e : TypeId} {sz : Nat} {v : Value} {n : Nat} {xs : List Value} (h : w.ownsRow base e sz v n xs) (hk : Keep S w w') (hS : ∀ g, S g → g < base) : w'.ownsRow base e sz v n xs :=
  owns_same h fun g hg => hk.block g (h.lt g hg).2 (fun hs => by have := hS g hs; have := (h.lt g hg).1; omega)

theorem Rolls.below {w w' w0 : World} {R : Nat} {ao : Option Addr} {n cap k k0 : Nat} (h : Rolls w R ao n cap k) (h0 : Rolls w0 R ao n cap k0) {B : Nat} (hb : Below B w w') (hB : w0.heap.size ≤ B) : Rolls w' R ao n cap k := by
  have hR := h0.row.lt
  refine ⟨h.row.below hb (by omega), h.le, ?_, h.off⟩
  obtain ⟨ao', cap', e, hn, hc⟩ := h.rd
  obtain ⟨ao2, cap2, e2, _, hc2⟩ := h0.rd
  simp only [Value.slice.injEq, true_and] at e e2
  obtain ⟨rfl, rfl⟩ := e
  obtain ⟨rfl, rfl⟩ := e2
  refine ⟨ao, cap, rfl, hn, fun i hi => ?_⟩
  obtain ⟨b, off, x, e1, h1, h2, h3⟩ := hc i hi
  obtain ⟨b2, off2, x2, e2, _, _, h4⟩ := hc2 i hi
  rw [e1] at e2
  simp only [Option.some.injEq, Addr.mk.injEq, and_true] at e2
  obtain ⟨rfl, rfl⟩ := e2
  have := World.block_lt_of_cell? _ _ h4
  exact ⟨b, off, x, e1, h1, h2, (hb.cell (by simp at this ⊢; omega)).trans h3⟩

end Go.Proofs.YtblhmeidbjigaabGreatDoor

/- A program out of raw numbers. -/
set_option linter.unusedSimpArgs false
set_option linter.unusedVariables false
namespace Go.Proofs.YtblhmeidbjigaabGreatDoor
open Go.RowKit

theorem Rolls.away {w w0 : World} {R : Nat} {ao : Option Addr} {n cap k : Nat} (h : Rolls w R ao n cap k) (h0 : RdInts w0 (.slice ao n cap) n) {g i : Nat} (hg : w0.heap.size ≤ g) (hgR : R ≠ g) (u : Value) : Rolls (w.setCell ⟨g, i, none⟩ u) R ao n cap k := by
  refine ⟨h.row.unset (a := ⟨g, i, none⟩) hgR _, h.le, ?_, h.off⟩
  obtain ⟨ao', cap', e, hn, hc⟩ := h.rd
  obtain ⟨ao2, cap2, e2, _, hc2⟩ := h0
  simp only [Value.slice.injEq, true_and] at e e2
  obtain ⟨rfl, rfl⟩ := e
  obtain ⟨rfl, rfl⟩ := e2
  refine ⟨ao, cap, rfl, hn, fun i hi => ?_⟩
  obtain ⟨b, off, x, e1, h1, h2, h3⟩ := hc i hi
  obtain ⟨b2, off2, x2, e2, _, _, h4⟩ := hc2 i hi
  rw [e1] at e2
  simp only [Option.some.injEq, Addr.mk.injEq, and_true] at e2
  obtain ⟨rfl, rfl⟩ := e2
  have := World.block_lt_of_cell? _ _ h4
  exact ⟨b, off, x, e1, h1, h2, cell_unset (fun e => by simp at e; simp at this; omega) h3⟩

theorem Rolls.belowB {w w' w0 : World} {R : Nat} {ao : Option Addr} {n cap k : Nat} (h : Rolls w R ao n cap k) (h0 : RdInts w0 (.slice ao n cap) n) {B : Nat} (hb : Below B w w') (hB : w0.heap.size ≤ B) (hR : R < B) : Rolls w' R ao n cap k := by
  refine ⟨h.row.below hb hR, h.le, ?_, h.off⟩
  obtain ⟨ao', cap', e, hn, hc⟩ := h.rd
  obtain ⟨ao2, cap2, e2, _, hc2⟩ := h0
  simp only [Value.slice.injEq, true_and] at e e2
  obtain ⟨rfl, rfl⟩ := e
  obtain ⟨rfl, rfl⟩ := e2
  refine ⟨ao, cap, rfl, hn, fun i hi => ?_⟩
  obtain ⟨b, off, x, e1, h1, h2, h3⟩ := hc i hi
  obtain ⟨b2, off2, x2, e2, _, _, h4⟩ := hc2 i hi
  rw [e1] at e2
  simp only [Option.some.injEq, Addr.mk.injEq, and_true] at e2
  obtain ⟨rfl, rfl⟩ := e2
  have := World.block_lt_of_cell? _ _ h4
  exact ⟨b, off, x, e1, h1, h2, (hb.cell (by simp at this ⊢; omega)).trans h3⟩

theorem RdInts.keep {w w' : World} {v : Value} {n : Nat} (h : RdInts w v n) (hb : Below w.heap.size w w') : RdInts w' v n := by
  obtain ⟨ao', cap', e, hn, hc⟩ := h
  exact ⟨ao', cap', e, hn, fun i hi => let ⟨b, off, x, e1, h1, h2, h3⟩ := hc i hi; ⟨b, off, x, e1, h1, h2, cell_keep hb h3⟩⟩

/-- Rolls that begin, in a block that is new. -/
theorem Rolls.fresh {w w' : World} {R : Nat} {ao : Option Addr} {n cap : Nat} (h : RdInts w (.slice ao n cap) n) (hb : Below w.heap.size w w') (hrow : Row w' R 47 [.slice ao n cap, .int .i64 0]) (hR : w.heap.size ≤ R) : Rolls w' R ao n cap 0 := by
  refine ⟨hrow, Nat.zero_le _, h.keep hb, fun hn b o e => ?_⟩
  obtain ⟨ao', cap', e0, _, hc⟩ := h
  simp only [Value.slice.injEq, true_and] at e0
  obtain ⟨rfl, rfl⟩ := e0
  obtain ⟨b2, off2, x2, e2, _, _, h4⟩ := hc 0 hn
  rw [e] at e2
  simp only [Option.some.injEq, Addr.mk.injEq, and_true] at e2
  obtain ⟨rfl, rfl⟩ := e2
  have := World.block_lt_of_cell? _ _ h4
  simp at this
  omega

end Go.Proofs.YtblhmeidbjigaabGreatDoor

/- The reference's terms: Show. -/
set_option linter.unusedSimpArgs false
set_option linter.unusedVariables false
namespace Go.Proofs.YtblhmeidbjigaabGreatDoor
open Go.RowKit

theorem show_size {t : TD} (h : t.fine) (hs : t.size ≤ 4000000000000) : (str (showT t)).size ≤ 96000000000000 := by
  have := show_length h
  simp only [str, ByteArray.size, List.size_toArray]
  omega

theorem show_two (k : Int) (a b : TD) : (⟨#[40]⟩ : ByteArray) ++ str [signT k] ++ ⟨#[32]⟩ ++ str (showT a) ++ ⟨#[32]⟩ ++ str (showT b) ++ ⟨#[41]⟩ = str (showT (.two k a b)) := by
  show str [40] ++ str [signT k] ++ str [32] ++ str (showT a) ++ str [32] ++ str (showT b) ++ str [41] = _
  simp only [str_append, showT]
  congr 1
  simp

theorem show_three (k : Int) (a b c : TD) : (⟨#[40]⟩ : ByteArray) ++ str [signT k] ++ ⟨#[32]⟩ ++ str (showT a) ++ ⟨#[32]⟩ ++ str (showT b) ++ ⟨#[32]⟩ ++ str (showT c) ++ ⟨#[41]⟩ = str (showT (.three k a b c)) := by
  show str [40] ++ str [signT k] ++ str [32] ++ str (showT a) ++ str [32] ++ str (showT b) ++ str [32] ++ str (showT c) ++ str [41] = _
  simp only [str_append, showT]
  congr 1
  simp

theorem itoa_size {n : Int} (h : W64 n) : (str (Lib.itoa n)).size ≤ 21 := by
  have := Lib.itoa_length_le n h.1 h.2
  simp only [str, ByteArray.size, List.size_toArray]
  omega

end Go.Proofs.YtblhmeidbjigaabGreatDoor

/- The reference's terms: Same, turns, plus, thing, Apart. -/
set_option linter.unusedSimpArgs false
set_option linter.unusedVariables false
namespace Go.Proofs.YtblhmeidbjigaabGreatDoor
open Go.RowKit

noncomputable def sameT (t u : TD) : Bool := @decide (t = u) (Classical.propDecidable _)

theorem sameT_self (t : TD) : sameT t t = true := by unfold sameT; simp
theorem sameT_ne {t u : TD} (h : t ≠ u) : sameT t u = false := by unfold sameT; simp [h]
theorem sameT_iff (t u : TD) : sameT t u = true ↔ t = u := by unfold sameT; simp

theorem quiet1 {P : Program} {f : FuncId} {args : Array Value} {w : World} {a n : Nat} {v : Value}
    (h : Calls P f args (w.drewN (a + n)) fun e w' => e = .returned v ∧ ∃ m, w' = (w.drewN (a + n)).drewN m) : Calls P f args (w.drewN (a + n)) fun e w'' => e = .returned v ∧ ∃ m, w'' = w.drewN (a + m) :=
  h.mono fun _ _ ⟨he, m, hm⟩ => ⟨he, n + m, by rw [hm, World.drewN_drewN, Nat.add_assoc]⟩

theorem quiet2 {P : Program} {f : FuncId} {args : Array Value} {w : World} {a b n : Nat} {v : Value}
    (h : Calls P f args (w.drewN (a + (b + n))) fun e w' => e = .returned v ∧ ∃ m, w' = (w.drewN (a + (b + n))).drewN m) : Calls P f args (w.drewN (a + (b + n))) fun e w'' => e = .returned v ∧ ∃ m, w'' = w.drewN (a + (b + m)) :=
  h.mono fun _ _ ⟨he, m, hm⟩ => ⟨he, n + m, by rw [hm, World.drewN_drewN]; congr 1; omega⟩

theorem quiet3 {P : Program} {f : FuncId} {args : Array Value} {w : World} {a b c n : Nat} {v : Value}
    (h : Calls P f args (w.drewN (a + (b + (c + n)))) fun e w' => e = .returned v ∧ ∃ m, w' = (w.drewN (a + (b + (c + n)))).drewN m) : Calls P f args (w.drewN (a + (b + (c + n)))) fun e w'' => e = .returned v ∧ ∃ m, w'' = w.drewN (a + (b + (c + m))) :=
  h.mono fun _ _ ⟨he, m, hm⟩ => ⟨he, n + m, by rw [hm, World.drewN_drewN]; congr 1; omega⟩

end Go.Proofs.YtblhmeidbjigaabGreatDoor

/- The reference's terms: turns, plus, thing, Apart. -/
set_option linter.unusedSimpArgs false
set_option linter.unusedVariables false
namespace Go.Proofs.YtblhmeidbjigaabGreatDoor
open Go.RowKit

theorem turnsT_eq (k : Int) : turnsT k = true ↔ (k = 3 ∨ k = 5 ∨ k = 6 ∨ k = 7 ∨ k = 8 ∨ k = 10) := by unfold turnsT; simp

theorem turnsT_no {k : Int} (h : ¬ (k = 3 ∨ k = 5 ∨ k = 6 ∨ k = 7 ∨ k = 8 ∨ k = 10)) : turnsT k = false := by unfold turnsT; simpa using h

theorem apartT_iff (u v : TD) : apartT u v = true ↔ (thingT u).1 = (thingT v).1 ∧ (thingT u).2 ≠ (thingT v).2 := by unfold apartT; simp

theorem apartT_no {u v : TD} (h : ¬ ((thingT u).1 = (thingT v).1 ∧ (thingT u).2 ≠ (thingT v).2)) : apartT u v = false := by
  cases e : apartT u v with
  | false => rfl
  | true => exact absurd ((apartT_iff u v).1 e) h

end Go.Proofs.YtblhmeidbjigaabGreatDoor

/- The reference's terms: Made. -/
set_option linter.unusedSimpArgs false
set_option linter.unusedVariables false
namespace Go.Proofs.YtblhmeidbjigaabGreatDoor
open Go.RowKit

theorem made_num {kind a b : Int} {u v : TD} (hu : u.isNum = some a) (hv : v.isNum = some b) (h : ¬ (kind = 11 ∧ b = 0)) : madeT kind u v = tnum (calcW kind a b) := by
  simp only [madeT, hu, hv, if_neg h]

theorem made_div0 {kind a b : Int} {u v : TD} (hu : u.isNum = some a) (hv : v.isNum = some b) (h : kind = 11 ∧ b = 0) : madeT kind u v = rowT kind u v := by
  simp only [madeT, hu, hv, if_pos h]

theorem made_left {kind a : Int} {u v : TD} (hu : u.isNum = some a) (hv : v.isNum = none) : madeT kind u v = if turnsT kind = true then rowT kind v u else rowT kind u v := by
  simp only [madeT, hu, hv]

theorem made_right {kind b : Int} {u v : TD} (hu : u.isNum = none) (hv : v.isNum = some b) : madeT kind u v = rowT kind u v := by
  simp only [madeT, hu, hv]

theorem made_over {kind : Int} {u v : TD} (hu : u.isNum = none) (hv : v.isNum = none) (h : turnsT kind = true ∧ showT v < showT u) : madeT kind u v = rowT kind v u := by
  simp only [madeT, hu, hv, if_pos h]

theorem made_stay {kind : Int} {u v : TD} (hu : u.isNum = none) (hv : v.isNum = none) (h : ¬ (turnsT kind = true ∧ showT v < showT u)) : madeT kind u v = rowT kind u v := by
  simp only [madeT, hu, hv, if_neg h]

theorem bytesLess_lt : ∀ (x y : List UInt8), Op.bytesLess x y = true ↔ x < y
  | [], [] => by simp [Op.bytesLess]
  | _ :: _, [] => by simp [Op.bytesLess]
  | [], _ :: _ => by simp [Op.bytesLess]
  | a :: x, b :: y => by
    rw [Op.bytesLess, List.cons_lt_cons_iff]
    simp [bytesLess_lt x y]

theorem less_show (u v : TD) : Op.bytesLess (str (showT v)).toList (str (showT u)).toList = true ↔ showT v < showT u := by
  simp only [str, ByteArray.toList_mk]
  exact bytesLess_lt _ _

end Go.Proofs.YtblhmeidbjigaabGreatDoor

/- The reference's terms: Read, left, laid, Written. -/
set_option linter.unusedSimpArgs false
set_option linter.unusedVariables false
namespace Go.Proofs.YtblhmeidbjigaabGreatDoor
open Go.RowKit

theorem read_same {c a v u : TD} (h : a = u) : readT (.three 13 c a v) u = v := by rw [readT, if_pos h]
theorem read_far {c a v u : TD} (h : a ≠ u) (h2 : apartT a u = true) : readT (.three 13 c a v) u = readT c u := by rw [readT, if_neg h, if_pos h2]
theorem read_near {c a v u : TD} (h : a ≠ u) (h2 : apartT a u = false) : readT (.three 13 c a v) u = .two 12 (.three 13 c a v) u := by rw [readT, if_neg h, if_neg (by rw [h2]; simp)]
theorem read_else {m u : TD} (h : m.kind ≠ 13) : readT m u = .two 12 m u := by
  cases m with
  | leaf k n => rfl
  | two k a b => rfl
  | three k a b c =>
    simp only [TD.kind] at h
    unfold readT
    split
    · rename_i e; cases e; exact absurd rfl h
    · rfl

theorem left_same {c a v u : TD} (h : a = u) : leftT (.three 13 c a v) u = c := by rw [leftT, if_pos h]
theorem left_far {c a v u : TD} (h : a ≠ u) (h2 : apartT a u = true) : leftT (.three 13 c a v) u = .three 13 (leftT c u) a v := by rw [leftT, if_neg h, if_pos h2]
theorem left_near {c a v u : TD} (h : a ≠ u) (h2 : apartT a u = false) : leftT (.three 13 c a v) u = .three 13 c a v := by rw [leftT, if_neg h, if_neg (by rw [h2]; simp)]
theorem left_else {m u : TD} (h : m.kind ≠ 13) : leftT m u = m := by
  cases m with
  | leaf k n => rfl
  | two k a b => rfl
  | three k a b c =>
    simp only [TD.kind] at h
    unfold leftT
    split
    · rename_i e; cases e; exact absurd rfl h
    · rfl

theorem laid_over {c a w u v : TD} {n k : Int} (hu : u.isNum = some n) (ha : a.isNum = some k) (h : k > n) : laidT (.three 13 c a w) u v = .three 13 (laidT c u v) a w := by
  rw [laidT]; simp only [hu, ha, if_pos h]
theorem laid_else {m u v : TD} (h : ¬ ∃ c a w n k, m = .three 13 c a w ∧ u.isNum = some n ∧ a.isNum = some k ∧ k > n) : laidT m u v = .three 13 m u v := by
  cases m with
  | leaf k n => rfl
  | two k a b => rfl
  | three k a b c =>
    by_cases hk : k = 13
    · subst hk
      rw [laidT]
      split
      · rename_i n q e1 e2
        by_cases hq : q > n
        · exact absurd ⟨a, b, c, n, q, rfl, e1, e2, hq⟩ h
        · rw [if_neg hq]
      · rfl
    · unfold laidT
      split
      · rename_i e; cases e; exact absurd rfl hk
      · rfl

end Go.Proofs.YtblhmeidbjigaabGreatDoor
