/- Well made ends, in the document's answer. -/
import Derived.Test.YtdjdjkgoelbbdaaPRefA
set_option linter.unusedSimpArgs false
set_option linter.unusedVariables false
namespace Go.Proofs.Ytdjdjkgoelbbdaa
open Go.RowKit

theorem below_nonneg {x n : Int} (h : 0 ≤ x) : below x n = decide (x < n) := by simp [below, h]

set_option maxRecDepth 100000 in
set_option maxHeartbeats 4000000 in
theorem gEnd1 (args regs data slots : Int) (bo : Option Addr) (bn bc : Nat) (r x y : Int) (w : World) :
    Calls Try.prog 70 #[.agg #[.int .i64 args, .int .i64 regs, .int .i64 data, .int .i64 slots, .slice bo bn bc], .agg #[.int .i64 1, .int .i64 r, .int .i64 x, .int .i64 y]] w fun e w' => e = .returned (.bool (endGood regs bn ⟨1, r, x, y⟩)) ∧ Below w.heap.size w w' := by
  have tx : (x < 0 ∧ below x bn = false) ∨ (0 ≤ x ∧ x < bn ∧ below x bn = true) ∨ (0 ≤ x ∧ ¬ x < bn ∧ below x bn = false) := by
    by_cases h1 : x < 0
    · exact .inl ⟨h1, below_lo h1⟩
    · by_cases h2 : x < bn
      · exact .inr (.inl ⟨by omega, h2, below_true (by omega) h2⟩)
      · exact .inr (.inr ⟨by omega, h2, below_hi (by omega)⟩)
  have ty : (y < 0 ∧ below y bn = false) ∨ (0 ≤ y ∧ below y bn = decide (y < bn)) := by
    by_cases h1 : y < 0
    · exact .inl ⟨h1, below_lo h1⟩
    · exact .inr ⟨by omega, below_nonneg (by omega)⟩
  by_cases hr : r = 0
  case neg =>
    have hr1 : (r == 0) = false := by simp [hr]
    rcases tx with ⟨x1, x2⟩ | ⟨x1, x3, x2⟩ | ⟨x1, x3, x2⟩ <;> rcases ty with ⟨y1, y2⟩ | ⟨y1, y2⟩
    all_goals
      go_enter Try.func70, Try.ntmps70
      go_wp2_with (go_at_call 95; refine (register_any _ _ _ _ _ _ _ _ _).mono ?_; rintro e w' ⟨rfl, rfl⟩)
      go_ret
      exact ⟨by simp [endGood, hr], (by (repeat refine Below.al ?_ (Nat.le_refl _)); exact Below.refl _ _)⟩
  subst hr
  rcases tx with ⟨x1, x2⟩ | ⟨x1, x3, x2⟩ | ⟨x1, x3, x2⟩ <;> rcases ty with ⟨y1, y2⟩ | ⟨y1, y2⟩
  all_goals
    go_enter Try.func70, Try.ntmps70
    go_wp2_with (go_at_call 95; refine (register_any _ _ _ _ _ _ _ _ _).mono ?_; rintro e w' ⟨rfl, rfl⟩)
    go_ret
    exact ⟨by simp [endGood, x2, int_beq_z], (by (repeat refine Below.al ?_ (Nat.le_refl _)); exact Below.refl _ _)⟩

set_option maxRecDepth 100000 in
set_option maxHeartbeats 4000000 in
theorem gEnd2 (args regs data slots : Int) (bo : Option Addr) (bn bc : Nat) (r x y : Int) (w : World) :
    Calls Try.prog 70 #[.agg #[.int .i64 args, .int .i64 regs, .int .i64 data, .int .i64 slots, .slice bo bn bc], .agg #[.int .i64 2, .int .i64 r, .int .i64 x, .int .i64 y]] w fun e w' => e = .returned (.bool (endGood regs bn ⟨2, r, x, y⟩)) ∧ Below w.heap.size w w' := by
  have tx : (x < 0 ∧ below x bn = false) ∨ (0 ≤ x ∧ x < bn ∧ below x bn = true) ∨ (0 ≤ x ∧ ¬ x < bn ∧ below x bn = false) := by
    by_cases h1 : x < 0
    · exact .inl ⟨h1, below_lo h1⟩
    · by_cases h2 : x < bn
      · exact .inr (.inl ⟨by omega, h2, below_true (by omega) h2⟩)
      · exact .inr (.inr ⟨by omega, h2, below_hi (by omega)⟩)
  have ty : (y < 0 ∧ below y bn = false) ∨ (0 ≤ y ∧ below y bn = decide (y < bn)) := by
    by_cases h1 : y < 0
    · exact .inl ⟨h1, below_lo h1⟩
    · exact .inr ⟨by omega, below_nonneg (by omega)⟩
  cases hr : below r regs <;> rcases tx with ⟨x1, x2⟩ | ⟨x1, x3, x2⟩ | ⟨x1, x3, x2⟩ <;> rcases ty with ⟨y1, y2⟩ | ⟨y1, y2⟩
  all_goals
    go_enter Try.func70, Try.ntmps70
    go_wp2_with (go_at_call 95; refine (register_any _ _ _ _ _ _ _ _ _).mono ?_; rintro e w' ⟨rfl, rfl⟩)
    go_ret
    exact ⟨by simp [endGood, hr, x2, y2], (by (repeat refine Below.al ?_ (Nat.le_refl _)); exact Below.refl _ _)⟩

set_option maxRecDepth 100000 in
set_option maxHeartbeats 4000000 in
theorem gEnd3 (args regs data slots : Int) (bo : Option Addr) (bn bc : Nat) (r x y : Int) (w : World) :
    Calls Try.prog 70 #[.agg #[.int .i64 args, .int .i64 regs, .int .i64 data, .int .i64 slots, .slice bo bn bc], .agg #[.int .i64 3, .int .i64 r, .int .i64 x, .int .i64 y]] w fun e w' => e = .returned (.bool (endGood regs bn ⟨3, r, x, y⟩)) ∧ Below w.heap.size w w' := by
  have tx : (x < 0 ∧ below x bn = false) ∨ (0 ≤ x ∧ x < bn ∧ below x bn = true) ∨ (0 ≤ x ∧ ¬ x < bn ∧ below x bn = false) := by
    by_cases h1 : x < 0
    · exact .inl ⟨h1, below_lo h1⟩
    · by_cases h2 : x < bn
      · exact .inr (.inl ⟨by omega, h2, below_true (by omega) h2⟩)
      · exact .inr (.inr ⟨by omega, h2, below_hi (by omega)⟩)
  have ty : (y < 0 ∧ below y bn = false) ∨ (0 ≤ y ∧ below y bn = decide (y < bn)) := by
    by_cases h1 : y < 0
    · exact .inl ⟨h1, below_lo h1⟩
    · exact .inr ⟨by omega, below_nonneg (by omega)⟩
  by_cases hx : x = 0
  · have hx1 : (x == 0) = true := by simp [hx]
    cases hr : below r regs <;> rcases tx with ⟨x1, x2⟩ | ⟨x1, x3, x2⟩ | ⟨x1, x3, x2⟩ <;> rcases ty with ⟨y1, y2⟩ | ⟨y1, y2⟩
    all_goals
      clear hx
      go_enter Try.func70, Try.ntmps70
      go_wp2_with (go_at_call 95; refine (register_any _ _ _ _ _ _ _ _ _).mono ?_; rintro e w' ⟨rfl, rfl⟩)
      go_ret
      exact ⟨by have hx : x = 0 := by simpa using hx1
                simp [endGood, hr, hx, int_beq_z], (by (repeat refine Below.al ?_ (Nat.le_refl _)); exact Below.refl _ _)⟩
  · have hx1 : (x == 0) = false := by simp [hx]
    cases hr : below r regs <;> rcases tx with ⟨x1, x2⟩ | ⟨x1, x3, x2⟩ | ⟨x1, x3, x2⟩ <;> rcases ty with ⟨y1, y2⟩ | ⟨y1, y2⟩
    all_goals
      go_enter Try.func70, Try.ntmps70
      go_wp2_with (go_at_call 95; refine (register_any _ _ _ _ _ _ _ _ _).mono ?_; rintro e w' ⟨rfl, rfl⟩)
      go_ret
      exact ⟨by simp [endGood, hr, hx], (by (repeat refine Below.al ?_ (Nat.le_refl _)); exact Below.refl _ _)⟩

set_option maxRecDepth 100000 in
set_option maxHeartbeats 4000000 in
theorem gEndNo (args regs data slots : Int) (bo : Option Addr) (bn bc : Nat) (k r x y : Int) (w : World) (hk : ¬ (1 ≤ k ∧ k ≤ 3)) :
    Calls Try.prog 70 #[.agg #[.int .i64 args, .int .i64 regs, .int .i64 data, .int .i64 slots, .slice bo bn bc], .agg #[.int .i64 k, .int .i64 r, .int .i64 x, .int .i64 y]] w fun e w' => e = .returned (.bool (endGood regs bn ⟨k, r, x, y⟩)) ∧ Below w.heap.size w w' := by
  have hg : endGood regs bn ⟨k, r, x, y⟩ = false := by
    unfold endGood
    rw [if_neg (by simp only []; omega), if_neg (by simp only []; omega), if_neg (by simp only []; omega)]
  have n1 : (k == 1) = false := by rw [beq_eq_false_iff_ne]; omega
  have n2 : (k == 2) = false := by rw [beq_eq_false_iff_ne]; omega
  have n3 : (k == 3) = false := by rw [beq_eq_false_iff_ne]; omega
  by_cases x1 : 0 ≤ x <;> by_cases y1 : 0 ≤ y
  all_goals
    go_enter Try.func70, Try.ntmps70
    go_wp2_with (go_at_call 95; refine (register_any _ _ _ _ _ _ _ _ _).mono ?_; rintro e w' ⟨rfl, rfl⟩)
    go_ret
    exact ⟨by simp [hg], (by (repeat refine Below.al ?_ (Nat.le_refl _)); exact Below.refl _ _)⟩

theorem gEnd_any (args regs data slots : Int) (bo : Option Addr) (bn bc : Nat) (k r x y : Int) (w : World) :
    Calls Try.prog 70 #[.agg #[.int .i64 args, .int .i64 regs, .int .i64 data, .int .i64 slots, .slice bo bn bc], .agg #[.int .i64 k, .int .i64 r, .int .i64 x, .int .i64 y]] w fun e w' => e = .returned (.bool (endGood regs bn ⟨k, r, x, y⟩)) ∧ Below w.heap.size w w' := by
  by_cases hk : 1 ≤ k ∧ k ≤ 3
  · have : k = 1 ∨ k = 2 ∨ k = 3 := by omega
    rcases this with rfl | rfl | rfl
    · exact gEnd1 args regs data slots bo bn bc r x y w
    · exact gEnd2 args regs data slots bo bn bc r x y w
    · exact gEnd3 args regs data slots bo bn bc r x y w
  · exact gEndNo args regs data slots bo bn bc k r x y w hk

end Go.Proofs.Ytdjdjkgoelbbdaa
