/- Well made operations and ends, in the document's answer. -/
import Derived.Test.YtblhmeidbjigaaaRows
import Derived.WalkKit
import Derived.WalkSpells
import Derived.WalkLawsBesides
import Derived.Laws.BytesArg
import Derived.Deep.QuietTactic
import Derived.BigQuiet
import Derived.Deep.RegionHeld3
import Derived.Test.YtblhmeidbjigaaaCodAToPDatCodes

set_option linter.unusedSimpArgs false
set_option linter.unusedVariables false
namespace Go.Proofs.Ytblhmeidbjigaaa
open Go.RowKit

set_option maxHeartbeats 400000 in
theorem register_any (args regs data slots : Int) (bo : Option Addr) (bn bc : Nat) (n : Int) (w : World) :
    Calls Try.prog 84 #[.agg #[.int .i64 args, .int .i64 regs, .int .i64 data, .int .i64 slots, .slice bo bn bc], .int .i64 n] w fun e w' => e = .returned (.bool (below n regs)) ∧ w.alloc (.cells #[.int .i64 args, .int .i64 regs, .int .i64 data, .int .i64 slots, .slice bo bn bc] 24) = w' := by
  by_cases h : 0 ≤ n
  · go_enter Try.func84, Try.ntmps84
    go_wp2
    go_ret
    exact ⟨by simp [below, h], rfl⟩
  · have hb : below n regs = false := by simp only [below, h, false_and, decide_false]
    go_enter Try.func84, Try.ntmps84
    go_wp2
    go_ret
    exact ⟨by simp [hb], rfl⟩

set_option maxHeartbeats 400000 in
theorem slot_any (args regs data slots : Int) (bo : Option Addr) (bn bc : Nat) (n : Int) (w : World) :
    Calls Try.prog 86 #[.agg #[.int .i64 args, .int .i64 regs, .int .i64 data, .int .i64 slots, .slice bo bn bc], .int .i64 n] w fun e w' => e = .returned (.bool (below n slots)) ∧ w.alloc (.cells #[.int .i64 args, .int .i64 regs, .int .i64 data, .int .i64 slots, .slice bo bn bc] 24) = w' := by
  by_cases h : 0 ≤ n
  · go_enter Try.func86, Try.ntmps86
    go_wp2
    go_ret
    exact ⟨by simp [below, h], rfl⟩
  · have hb : below n slots = false := by simp only [below, h, false_and, decide_false]
    go_enter Try.func86, Try.ntmps86
    go_wp2
    go_ret
    exact ⟨by simp [hb], rfl⟩

set_option maxHeartbeats 400000 in
theorem octet_any (n : Int) (w : World) : Calls Try.prog 85 #[.int .i64 n] w fun e w' => e = .returned (.bool (below n 256)) ∧ w = w' := by
  by_cases h : 0 ≤ n
  · go_enter Try.func85, Try.ntmps85
    go_wp2
    go_ret
    refine ⟨?_, rfl⟩
    have : decide (n ≤ 255) = below n 256 := by simp only [below, h, true_and]; exact decide_eq_decide.2 (by omega)
    simp [← this]
  · have hb : below n 256 = false := by simp only [below, h, false_and, decide_false]
    go_enter Try.func85, Try.ntmps85
    go_wp2
    go_ret
    exact ⟨by simp [hb], rfl⟩

theorem Below.al {B : Nat} {a w : World} {o : Obj} (h : Below B a w) (hB : B ≤ a.heap.size) : Below B a (w.alloc o) := h.alloc (Nat.le_trans hB h.size) o

theorem int_beq_z (c : Int) : (c == 0) = decide (c = 0) := by by_cases h : c = 0 <;> simp [h]

set_option maxRecDepth 100000 in
set_option maxHeartbeats 2000000 in
theorem gOp1 (args regs data slots : Int) (bo : Option Addr) (bn bc : Nat) (a b c : Int) (w : World) :
    Calls Try.prog 61 #[.agg #[.int .i64 args, .int .i64 regs, .int .i64 data, .int .i64 slots, .slice bo bn bc], .agg #[.int .i64 1, .int .i64 a, .int .i64 b, .int .i64 c]] w fun e w' => e = .returned (.bool (opGood regs slots ⟨1, a, b, c⟩)) ∧ Below w.heap.size w w' := by
  cases h1 : below a regs
  · go_enter Try.func61, Try.ntmps61
    go_wp2_with (first | (go_at_call 84; refine (register_any _ _ _ _ _ _ _ _ _).mono ?_; rintro e w' ⟨rfl, rfl⟩) | (go_at_call 86; refine (slot_any _ _ _ _ _ _ _ _ _).mono ?_; rintro e w' ⟨rfl, rfl⟩) | (go_at_call 85; refine (octet_any _ _).mono ?_; rintro e w' ⟨rfl, rfl⟩))
    go_ret
    exact ⟨by simp [opGood, h1], (by (repeat refine Below.al ?_ (Nat.le_refl _)); exact Below.refl _ _)⟩
  cases h2 : below b 256
  · go_enter Try.func61, Try.ntmps61
    go_wp2_with (first | (go_at_call 84; refine (register_any _ _ _ _ _ _ _ _ _).mono ?_; rintro e w' ⟨rfl, rfl⟩) | (go_at_call 86; refine (slot_any _ _ _ _ _ _ _ _ _).mono ?_; rintro e w' ⟨rfl, rfl⟩) | (go_at_call 85; refine (octet_any _ _).mono ?_; rintro e w' ⟨rfl, rfl⟩))
    go_ret
    exact ⟨by simp [opGood, h1, h2], (by (repeat refine Below.al ?_ (Nat.le_refl _)); exact Below.refl _ _)⟩
  · go_enter Try.func61, Try.ntmps61
    go_wp2_with (first | (go_at_call 84; refine (register_any _ _ _ _ _ _ _ _ _).mono ?_; rintro e w' ⟨rfl, rfl⟩) | (go_at_call 86; refine (slot_any _ _ _ _ _ _ _ _ _).mono ?_; rintro e w' ⟨rfl, rfl⟩) | (go_at_call 85; refine (octet_any _ _).mono ?_; rintro e w' ⟨rfl, rfl⟩))
    go_ret
    exact ⟨by simp [opGood, h1, h2, int_beq_z], (by (repeat refine Below.al ?_ (Nat.le_refl _)); exact Below.refl _ _)⟩

set_option maxRecDepth 100000 in
set_option maxHeartbeats 2000000 in
theorem gOp2 (args regs data slots : Int) (bo : Option Addr) (bn bc : Nat) (a b c : Int) (w : World) :
    Calls Try.prog 61 #[.agg #[.int .i64 args, .int .i64 regs, .int .i64 data, .int .i64 slots, .slice bo bn bc], .agg #[.int .i64 2, .int .i64 a, .int .i64 b, .int .i64 c]] w fun e w' => e = .returned (.bool (opGood regs slots ⟨2, a, b, c⟩)) ∧ Below w.heap.size w w' := by
  cases h1 : below a regs
  · go_enter Try.func61, Try.ntmps61
    go_wp2_with (first | (go_at_call 84; refine (register_any _ _ _ _ _ _ _ _ _).mono ?_; rintro e w' ⟨rfl, rfl⟩) | (go_at_call 86; refine (slot_any _ _ _ _ _ _ _ _ _).mono ?_; rintro e w' ⟨rfl, rfl⟩) | (go_at_call 85; refine (octet_any _ _).mono ?_; rintro e w' ⟨rfl, rfl⟩))
    go_ret
    exact ⟨by simp [opGood, h1], (by (repeat refine Below.al ?_ (Nat.le_refl _)); exact Below.refl _ _)⟩
  cases h2 : below b regs
  · go_enter Try.func61, Try.ntmps61
    go_wp2_with (first | (go_at_call 84; refine (register_any _ _ _ _ _ _ _ _ _).mono ?_; rintro e w' ⟨rfl, rfl⟩) | (go_at_call 86; refine (slot_any _ _ _ _ _ _ _ _ _).mono ?_; rintro e w' ⟨rfl, rfl⟩) | (go_at_call 85; refine (octet_any _ _).mono ?_; rintro e w' ⟨rfl, rfl⟩))
    go_ret
    exact ⟨by simp [opGood, h1, h2], (by (repeat refine Below.al ?_ (Nat.le_refl _)); exact Below.refl _ _)⟩
  · go_enter Try.func61, Try.ntmps61
    go_wp2_with (first | (go_at_call 84; refine (register_any _ _ _ _ _ _ _ _ _).mono ?_; rintro e w' ⟨rfl, rfl⟩) | (go_at_call 86; refine (slot_any _ _ _ _ _ _ _ _ _).mono ?_; rintro e w' ⟨rfl, rfl⟩) | (go_at_call 85; refine (octet_any _ _).mono ?_; rintro e w' ⟨rfl, rfl⟩))
    go_ret
    exact ⟨by simp [opGood, h1, h2, int_beq_z], (by (repeat refine Below.al ?_ (Nat.le_refl _)); exact Below.refl _ _)⟩

set_option maxRecDepth 100000 in
set_option maxHeartbeats 2000000 in
theorem gOp3 (args regs data slots : Int) (bo : Option Addr) (bn bc : Nat) (a b c : Int) (w : World) :
    Calls Try.prog 61 #[.agg #[.int .i64 args, .int .i64 regs, .int .i64 data, .int .i64 slots, .slice bo bn bc], .agg #[.int .i64 3, .int .i64 a, .int .i64 b, .int .i64 c]] w fun e w' => e = .returned (.bool (opGood regs slots ⟨3, a, b, c⟩)) ∧ Below w.heap.size w w' := by
  cases h1 : below a regs
  · go_enter Try.func61, Try.ntmps61
    go_wp2_with (first | (go_at_call 84; refine (register_any _ _ _ _ _ _ _ _ _).mono ?_; rintro e w' ⟨rfl, rfl⟩) | (go_at_call 86; refine (slot_any _ _ _ _ _ _ _ _ _).mono ?_; rintro e w' ⟨rfl, rfl⟩) | (go_at_call 85; refine (octet_any _ _).mono ?_; rintro e w' ⟨rfl, rfl⟩))
    go_ret
    exact ⟨by simp [opGood, h1], (by (repeat refine Below.al ?_ (Nat.le_refl _)); exact Below.refl _ _)⟩
  cases h2 : below b regs
  · go_enter Try.func61, Try.ntmps61
    go_wp2_with (first | (go_at_call 84; refine (register_any _ _ _ _ _ _ _ _ _).mono ?_; rintro e w' ⟨rfl, rfl⟩) | (go_at_call 86; refine (slot_any _ _ _ _ _ _ _ _ _).mono ?_; rintro e w' ⟨rfl, rfl⟩) | (go_at_call 85; refine (octet_any _ _).mono ?_; rintro e w' ⟨rfl, rfl⟩))
    go_ret
    exact ⟨by simp [opGood, h1, h2], (by (repeat refine Below.al ?_ (Nat.le_refl _)); exact Below.refl _ _)⟩
  · go_enter Try.func61, Try.ntmps61
    go_wp2_with (first | (go_at_call 84; refine (register_any _ _ _ _ _ _ _ _ _).mono ?_; rintro e w' ⟨rfl, rfl⟩) | (go_at_call 86; refine (slot_any _ _ _ _ _ _ _ _ _).mono ?_; rintro e w' ⟨rfl, rfl⟩) | (go_at_call 85; refine (octet_any _ _).mono ?_; rintro e w' ⟨rfl, rfl⟩))
    go_ret
    exact ⟨by simp [opGood, h1, h2, int_beq_z], (by (repeat refine Below.al ?_ (Nat.le_refl _)); exact Below.refl _ _)⟩

set_option maxRecDepth 100000 in
set_option maxHeartbeats 2000000 in
theorem gOp4 (args regs data slots : Int) (bo : Option Addr) (bn bc : Nat) (a b c : Int) (w : World) :
    Calls Try.prog 61 #[.agg #[.int .i64 args, .int .i64 regs, .int .i64 data, .int .i64 slots, .slice bo bn bc], .agg #[.int .i64 4, .int .i64 a, .int .i64 b, .int .i64 c]] w fun e w' => e = .returned (.bool (opGood regs slots ⟨4, a, b, c⟩)) ∧ Below w.heap.size w w' := by
  cases h1 : below a regs
  · go_enter Try.func61, Try.ntmps61
    go_wp2_with (first | (go_at_call 84; refine (register_any _ _ _ _ _ _ _ _ _).mono ?_; rintro e w' ⟨rfl, rfl⟩) | (go_at_call 86; refine (slot_any _ _ _ _ _ _ _ _ _).mono ?_; rintro e w' ⟨rfl, rfl⟩) | (go_at_call 85; refine (octet_any _ _).mono ?_; rintro e w' ⟨rfl, rfl⟩))
    go_ret
    exact ⟨by simp [opGood, h1], (by (repeat refine Below.al ?_ (Nat.le_refl _)); exact Below.refl _ _)⟩
  cases h2 : below b regs
  · go_enter Try.func61, Try.ntmps61
    go_wp2_with (first | (go_at_call 84; refine (register_any _ _ _ _ _ _ _ _ _).mono ?_; rintro e w' ⟨rfl, rfl⟩) | (go_at_call 86; refine (slot_any _ _ _ _ _ _ _ _ _).mono ?_; rintro e w' ⟨rfl, rfl⟩) | (go_at_call 85; refine (octet_any _ _).mono ?_; rintro e w' ⟨rfl, rfl⟩))
    go_ret
    exact ⟨by simp [opGood, h1, h2], (by (repeat refine Below.al ?_ (Nat.le_refl _)); exact Below.refl _ _)⟩
  · go_enter Try.func61, Try.ntmps61
    go_wp2_with (first | (go_at_call 84; refine (register_any _ _ _ _ _ _ _ _ _).mono ?_; rintro e w' ⟨rfl, rfl⟩) | (go_at_call 86; refine (slot_any _ _ _ _ _ _ _ _ _).mono ?_; rintro e w' ⟨rfl, rfl⟩) | (go_at_call 85; refine (octet_any _ _).mono ?_; rintro e w' ⟨rfl, rfl⟩))
    go_ret
    exact ⟨by simp [opGood, h1, h2, int_beq_z], (by (repeat refine Below.al ?_ (Nat.le_refl _)); exact Below.refl _ _)⟩

set_option maxRecDepth 100000 in
set_option maxHeartbeats 2000000 in
theorem gOp5 (args regs data slots : Int) (bo : Option Addr) (bn bc : Nat) (a b c : Int) (w : World) :
    Calls Try.prog 61 #[.agg #[.int .i64 args, .int .i64 regs, .int .i64 data, .int .i64 slots, .slice bo bn bc], .agg #[.int .i64 5, .int .i64 a, .int .i64 b, .int .i64 c]] w fun e w' => e = .returned (.bool (opGood regs slots ⟨5, a, b, c⟩)) ∧ Below w.heap.size w w' := by
  cases h1 : below a regs
  · go_enter Try.func61, Try.ntmps61
    go_wp2_with (first | (go_at_call 84; refine (register_any _ _ _ _ _ _ _ _ _).mono ?_; rintro e w' ⟨rfl, rfl⟩) | (go_at_call 86; refine (slot_any _ _ _ _ _ _ _ _ _).mono ?_; rintro e w' ⟨rfl, rfl⟩) | (go_at_call 85; refine (octet_any _ _).mono ?_; rintro e w' ⟨rfl, rfl⟩))
    go_ret
    exact ⟨by simp [opGood, h1], (by (repeat refine Below.al ?_ (Nat.le_refl _)); exact Below.refl _ _)⟩
  cases h2 : below b regs
  · go_enter Try.func61, Try.ntmps61
    go_wp2_with (first | (go_at_call 84; refine (register_any _ _ _ _ _ _ _ _ _).mono ?_; rintro e w' ⟨rfl, rfl⟩) | (go_at_call 86; refine (slot_any _ _ _ _ _ _ _ _ _).mono ?_; rintro e w' ⟨rfl, rfl⟩) | (go_at_call 85; refine (octet_any _ _).mono ?_; rintro e w' ⟨rfl, rfl⟩))
    go_ret
    exact ⟨by simp [opGood, h1, h2], (by (repeat refine Below.al ?_ (Nat.le_refl _)); exact Below.refl _ _)⟩
  · go_enter Try.func61, Try.ntmps61
    go_wp2_with (first | (go_at_call 84; refine (register_any _ _ _ _ _ _ _ _ _).mono ?_; rintro e w' ⟨rfl, rfl⟩) | (go_at_call 86; refine (slot_any _ _ _ _ _ _ _ _ _).mono ?_; rintro e w' ⟨rfl, rfl⟩) | (go_at_call 85; refine (octet_any _ _).mono ?_; rintro e w' ⟨rfl, rfl⟩))
    go_ret
    exact ⟨by simp [opGood, h1, h2, int_beq_z], (by (repeat refine Below.al ?_ (Nat.le_refl _)); exact Below.refl _ _)⟩

set_option maxRecDepth 100000 in
set_option maxHeartbeats 2000000 in
theorem gOp6 (args regs data slots : Int) (bo : Option Addr) (bn bc : Nat) (a b c : Int) (w : World) :
    Calls Try.prog 61 #[.agg #[.int .i64 args, .int .i64 regs, .int .i64 data, .int .i64 slots, .slice bo bn bc], .agg #[.int .i64 6, .int .i64 a, .int .i64 b, .int .i64 c]] w fun e w' => e = .returned (.bool (opGood regs slots ⟨6, a, b, c⟩)) ∧ Below w.heap.size w w' := by
  cases h1 : below a regs
  · go_enter Try.func61, Try.ntmps61
    go_wp2_with (first | (go_at_call 84; refine (register_any _ _ _ _ _ _ _ _ _).mono ?_; rintro e w' ⟨rfl, rfl⟩) | (go_at_call 86; refine (slot_any _ _ _ _ _ _ _ _ _).mono ?_; rintro e w' ⟨rfl, rfl⟩) | (go_at_call 85; refine (octet_any _ _).mono ?_; rintro e w' ⟨rfl, rfl⟩))
    go_ret
    exact ⟨by simp [opGood, h1], (by (repeat refine Below.al ?_ (Nat.le_refl _)); exact Below.refl _ _)⟩
  cases h2 : below b regs
  · go_enter Try.func61, Try.ntmps61
    go_wp2_with (first | (go_at_call 84; refine (register_any _ _ _ _ _ _ _ _ _).mono ?_; rintro e w' ⟨rfl, rfl⟩) | (go_at_call 86; refine (slot_any _ _ _ _ _ _ _ _ _).mono ?_; rintro e w' ⟨rfl, rfl⟩) | (go_at_call 85; refine (octet_any _ _).mono ?_; rintro e w' ⟨rfl, rfl⟩))
    go_ret
    exact ⟨by simp [opGood, h1, h2], (by (repeat refine Below.al ?_ (Nat.le_refl _)); exact Below.refl _ _)⟩
  · go_enter Try.func61, Try.ntmps61
    go_wp2_with (first | (go_at_call 84; refine (register_any _ _ _ _ _ _ _ _ _).mono ?_; rintro e w' ⟨rfl, rfl⟩) | (go_at_call 86; refine (slot_any _ _ _ _ _ _ _ _ _).mono ?_; rintro e w' ⟨rfl, rfl⟩) | (go_at_call 85; refine (octet_any _ _).mono ?_; rintro e w' ⟨rfl, rfl⟩))
    go_ret
    exact ⟨by simp [opGood, h1, h2, int_beq_z], (by (repeat refine Below.al ?_ (Nat.le_refl _)); exact Below.refl _ _)⟩

set_option maxRecDepth 100000 in
set_option maxHeartbeats 2000000 in
theorem gOp7 (args regs data slots : Int) (bo : Option Addr) (bn bc : Nat) (a b c : Int) (w : World) :
    Calls Try.prog 61 #[.agg #[.int .i64 args, .int .i64 regs, .int .i64 data, .int .i64 slots, .slice bo bn bc], .agg #[.int .i64 7, .int .i64 a, .int .i64 b, .int .i64 c]] w fun e w' => e = .returned (.bool (opGood regs slots ⟨7, a, b, c⟩)) ∧ Below w.heap.size w w' := by
  cases h1 : below a regs
  · go_enter Try.func61, Try.ntmps61
    go_wp2_with (first | (go_at_call 84; refine (register_any _ _ _ _ _ _ _ _ _).mono ?_; rintro e w' ⟨rfl, rfl⟩) | (go_at_call 86; refine (slot_any _ _ _ _ _ _ _ _ _).mono ?_; rintro e w' ⟨rfl, rfl⟩) | (go_at_call 85; refine (octet_any _ _).mono ?_; rintro e w' ⟨rfl, rfl⟩))
    go_ret
    exact ⟨by simp [opGood, h1], (by (repeat refine Below.al ?_ (Nat.le_refl _)); exact Below.refl _ _)⟩
  cases h2 : below b regs
  · go_enter Try.func61, Try.ntmps61
    go_wp2_with (first | (go_at_call 84; refine (register_any _ _ _ _ _ _ _ _ _).mono ?_; rintro e w' ⟨rfl, rfl⟩) | (go_at_call 86; refine (slot_any _ _ _ _ _ _ _ _ _).mono ?_; rintro e w' ⟨rfl, rfl⟩) | (go_at_call 85; refine (octet_any _ _).mono ?_; rintro e w' ⟨rfl, rfl⟩))
    go_ret
    exact ⟨by simp [opGood, h1, h2], (by (repeat refine Below.al ?_ (Nat.le_refl _)); exact Below.refl _ _)⟩
  · go_enter Try.func61, Try.ntmps61
    go_wp2_with (first | (go_at_call 84; refine (register_any _ _ _ _ _ _ _ _ _).mono ?_; rintro e w' ⟨rfl, rfl⟩) | (go_at_call 86; refine (slot_any _ _ _ _ _ _ _ _ _).mono ?_; rintro e w' ⟨rfl, rfl⟩) | (go_at_call 85; refine (octet_any _ _).mono ?_; rintro e w' ⟨rfl, rfl⟩))
    go_ret
    exact ⟨by simp [opGood, h1, h2, int_beq_z], (by (repeat refine Below.al ?_ (Nat.le_refl _)); exact Below.refl _ _)⟩

set_option maxRecDepth 100000 in
set_option maxHeartbeats 2000000 in
theorem gOp8 (args regs data slots : Int) (bo : Option Addr) (bn bc : Nat) (a b c : Int) (w : World) :
    Calls Try.prog 61 #[.agg #[.int .i64 args, .int .i64 regs, .int .i64 data, .int .i64 slots, .slice bo bn bc], .agg #[.int .i64 8, .int .i64 a, .int .i64 b, .int .i64 c]] w fun e w' => e = .returned (.bool (opGood regs slots ⟨8, a, b, c⟩)) ∧ Below w.heap.size w w' := by
  cases h1 : below a regs
  · go_enter Try.func61, Try.ntmps61
    go_wp2_with (first | (go_at_call 84; refine (register_any _ _ _ _ _ _ _ _ _).mono ?_; rintro e w' ⟨rfl, rfl⟩) | (go_at_call 86; refine (slot_any _ _ _ _ _ _ _ _ _).mono ?_; rintro e w' ⟨rfl, rfl⟩) | (go_at_call 85; refine (octet_any _ _).mono ?_; rintro e w' ⟨rfl, rfl⟩))
    go_ret
    exact ⟨by simp [opGood, h1], (by (repeat refine Below.al ?_ (Nat.le_refl _)); exact Below.refl _ _)⟩
  cases h2 : below b regs
  · go_enter Try.func61, Try.ntmps61
    go_wp2_with (first | (go_at_call 84; refine (register_any _ _ _ _ _ _ _ _ _).mono ?_; rintro e w' ⟨rfl, rfl⟩) | (go_at_call 86; refine (slot_any _ _ _ _ _ _ _ _ _).mono ?_; rintro e w' ⟨rfl, rfl⟩) | (go_at_call 85; refine (octet_any _ _).mono ?_; rintro e w' ⟨rfl, rfl⟩))
    go_ret
    exact ⟨by simp [opGood, h1, h2], (by (repeat refine Below.al ?_ (Nat.le_refl _)); exact Below.refl _ _)⟩
  · go_enter Try.func61, Try.ntmps61
    go_wp2_with (first | (go_at_call 84; refine (register_any _ _ _ _ _ _ _ _ _).mono ?_; rintro e w' ⟨rfl, rfl⟩) | (go_at_call 86; refine (slot_any _ _ _ _ _ _ _ _ _).mono ?_; rintro e w' ⟨rfl, rfl⟩) | (go_at_call 85; refine (octet_any _ _).mono ?_; rintro e w' ⟨rfl, rfl⟩))
    go_ret
    exact ⟨by simp [opGood, h1, h2, int_beq_z], (by (repeat refine Below.al ?_ (Nat.le_refl _)); exact Below.refl _ _)⟩

end Go.Proofs.Ytblhmeidbjigaaa

/- Well made operations, in the document's answer. -/
set_option linter.unusedSimpArgs false
set_option linter.unusedVariables false
namespace Go.Proofs.Ytblhmeidbjigaaa
open Go.RowKit

set_option maxRecDepth 100000 in
set_option maxHeartbeats 2000000 in
theorem gOp9 (args regs data slots : Int) (bo : Option Addr) (bn bc : Nat) (a b c : Int) (w : World) :
    Calls Try.prog 61 #[.agg #[.int .i64 args, .int .i64 regs, .int .i64 data, .int .i64 slots, .slice bo bn bc], .agg #[.int .i64 9, .int .i64 a, .int .i64 b, .int .i64 c]] w fun e w' => e = .returned (.bool (opGood regs slots ⟨9, a, b, c⟩)) ∧ Below w.heap.size w w' := by
  cases h1 : below a regs
  · go_enter Try.func61, Try.ntmps61
    go_wp2_with (first | (go_at_call 84; refine (register_any _ _ _ _ _ _ _ _ _).mono ?_; rintro e w' ⟨rfl, rfl⟩) | (go_at_call 86; refine (slot_any _ _ _ _ _ _ _ _ _).mono ?_; rintro e w' ⟨rfl, rfl⟩) | (go_at_call 85; refine (octet_any _ _).mono ?_; rintro e w' ⟨rfl, rfl⟩))
    go_ret
    exact ⟨by simp [opGood, h1], (by (repeat refine Below.al ?_ (Nat.le_refl _)); exact Below.refl _ _)⟩
  cases h2 : below b regs
  · go_enter Try.func61, Try.ntmps61
    go_wp2_with (first | (go_at_call 84; refine (register_any _ _ _ _ _ _ _ _ _).mono ?_; rintro e w' ⟨rfl, rfl⟩) | (go_at_call 86; refine (slot_any _ _ _ _ _ _ _ _ _).mono ?_; rintro e w' ⟨rfl, rfl⟩) | (go_at_call 85; refine (octet_any _ _).mono ?_; rintro e w' ⟨rfl, rfl⟩))
    go_ret
    exact ⟨by simp [opGood, h1, h2], (by (repeat refine Below.al ?_ (Nat.le_refl _)); exact Below.refl _ _)⟩
  · go_enter Try.func61, Try.ntmps61
    go_wp2_with (first | (go_at_call 84; refine (register_any _ _ _ _ _ _ _ _ _).mono ?_; rintro e w' ⟨rfl, rfl⟩) | (go_at_call 86; refine (slot_any _ _ _ _ _ _ _ _ _).mono ?_; rintro e w' ⟨rfl, rfl⟩) | (go_at_call 85; refine (octet_any _ _).mono ?_; rintro e w' ⟨rfl, rfl⟩))
    go_ret
    exact ⟨by simp [opGood, h1, h2, int_beq_z], (by (repeat refine Below.al ?_ (Nat.le_refl _)); exact Below.refl _ _)⟩

set_option maxRecDepth 100000 in
set_option maxHeartbeats 2000000 in
theorem gOp10 (args regs data slots : Int) (bo : Option Addr) (bn bc : Nat) (a b c : Int) (w : World) :
    Calls Try.prog 61 #[.agg #[.int .i64 args, .int .i64 regs, .int .i64 data, .int .i64 slots, .slice bo bn bc], .agg #[.int .i64 10, .int .i64 a, .int .i64 b, .int .i64 c]] w fun e w' => e = .returned (.bool (opGood regs slots ⟨10, a, b, c⟩)) ∧ Below w.heap.size w w' := by
  cases h1 : below a regs
  · go_enter Try.func61, Try.ntmps61
    go_wp2_with (first | (go_at_call 84; refine (register_any _ _ _ _ _ _ _ _ _).mono ?_; rintro e w' ⟨rfl, rfl⟩) | (go_at_call 86; refine (slot_any _ _ _ _ _ _ _ _ _).mono ?_; rintro e w' ⟨rfl, rfl⟩) | (go_at_call 85; refine (octet_any _ _).mono ?_; rintro e w' ⟨rfl, rfl⟩))
    go_ret
    exact ⟨by simp [opGood, h1], (by (repeat refine Below.al ?_ (Nat.le_refl _)); exact Below.refl _ _)⟩
  cases h2 : below b regs
  · go_enter Try.func61, Try.ntmps61
    go_wp2_with (first | (go_at_call 84; refine (register_any _ _ _ _ _ _ _ _ _).mono ?_; rintro e w' ⟨rfl, rfl⟩) | (go_at_call 86; refine (slot_any _ _ _ _ _ _ _ _ _).mono ?_; rintro e w' ⟨rfl, rfl⟩) | (go_at_call 85; refine (octet_any _ _).mono ?_; rintro e w' ⟨rfl, rfl⟩))
    go_ret
    exact ⟨by simp [opGood, h1, h2], (by (repeat refine Below.al ?_ (Nat.le_refl _)); exact Below.refl _ _)⟩
  · go_enter Try.func61, Try.ntmps61
    go_wp2_with (first | (go_at_call 84; refine (register_any _ _ _ _ _ _ _ _ _).mono ?_; rintro e w' ⟨rfl, rfl⟩) | (go_at_call 86; refine (slot_any _ _ _ _ _ _ _ _ _).mono ?_; rintro e w' ⟨rfl, rfl⟩) | (go_at_call 85; refine (octet_any _ _).mono ?_; rintro e w' ⟨rfl, rfl⟩))
    go_ret
    exact ⟨by simp [opGood, h1, h2, int_beq_z], (by (repeat refine Below.al ?_ (Nat.le_refl _)); exact Below.refl _ _)⟩

set_option maxRecDepth 100000 in
set_option maxHeartbeats 2000000 in
theorem gOp11 (args regs data slots : Int) (bo : Option Addr) (bn bc : Nat) (a b c : Int) (w : World) :
    Calls Try.prog 61 #[.agg #[.int .i64 args, .int .i64 regs, .int .i64 data, .int .i64 slots, .slice bo bn bc], .agg #[.int .i64 11, .int .i64 a, .int .i64 b, .int .i64 c]] w fun e w' => e = .returned (.bool (opGood regs slots ⟨11, a, b, c⟩)) ∧ Below w.heap.size w w' := by
  cases h1 : below a regs
  · go_enter Try.func61, Try.ntmps61
    go_wp2_with (first | (go_at_call 84; refine (register_any _ _ _ _ _ _ _ _ _).mono ?_; rintro e w' ⟨rfl, rfl⟩) | (go_at_call 86; refine (slot_any _ _ _ _ _ _ _ _ _).mono ?_; rintro e w' ⟨rfl, rfl⟩) | (go_at_call 85; refine (octet_any _ _).mono ?_; rintro e w' ⟨rfl, rfl⟩))
    go_ret
    exact ⟨by simp [opGood, h1], (by (repeat refine Below.al ?_ (Nat.le_refl _)); exact Below.refl _ _)⟩
  cases h2 : below b regs
  · go_enter Try.func61, Try.ntmps61
    go_wp2_with (first | (go_at_call 84; refine (register_any _ _ _ _ _ _ _ _ _).mono ?_; rintro e w' ⟨rfl, rfl⟩) | (go_at_call 86; refine (slot_any _ _ _ _ _ _ _ _ _).mono ?_; rintro e w' ⟨rfl, rfl⟩) | (go_at_call 85; refine (octet_any _ _).mono ?_; rintro e w' ⟨rfl, rfl⟩))
    go_ret
    exact ⟨by simp [opGood, h1, h2], (by (repeat refine Below.al ?_ (Nat.le_refl _)); exact Below.refl _ _)⟩
  · go_enter Try.func61, Try.ntmps61
    go_wp2_with (first | (go_at_call 84; refine (register_any _ _ _ _ _ _ _ _ _).mono ?_; rintro e w' ⟨rfl, rfl⟩) | (go_at_call 86; refine (slot_any _ _ _ _ _ _ _ _ _).mono ?_; rintro e w' ⟨rfl, rfl⟩) | (go_at_call 85; refine (octet_any _ _).mono ?_; rintro e w' ⟨rfl, rfl⟩))
    go_ret
    exact ⟨by simp [opGood, h1, h2, int_beq_z], (by (repeat refine Below.al ?_ (Nat.le_refl _)); exact Below.refl _ _)⟩

set_option maxRecDepth 100000 in
set_option maxHeartbeats 2000000 in
theorem gOp12 (args regs data slots : Int) (bo : Option Addr) (bn bc : Nat) (a b c : Int) (w : World) :
    Calls Try.prog 61 #[.agg #[.int .i64 args, .int .i64 regs, .int .i64 data, .int .i64 slots, .slice bo bn bc], .agg #[.int .i64 12, .int .i64 a, .int .i64 b, .int .i64 c]] w fun e w' => e = .returned (.bool (opGood regs slots ⟨12, a, b, c⟩)) ∧ Below w.heap.size w w' := by
  cases h1 : below a regs
  · go_enter Try.func61, Try.ntmps61
    go_wp2_with (first | (go_at_call 84; refine (register_any _ _ _ _ _ _ _ _ _).mono ?_; rintro e w' ⟨rfl, rfl⟩) | (go_at_call 86; refine (slot_any _ _ _ _ _ _ _ _ _).mono ?_; rintro e w' ⟨rfl, rfl⟩) | (go_at_call 85; refine (octet_any _ _).mono ?_; rintro e w' ⟨rfl, rfl⟩))
    go_ret
    exact ⟨by simp [opGood, h1], (by (repeat refine Below.al ?_ (Nat.le_refl _)); exact Below.refl _ _)⟩
  cases h2 : below b regs
  · go_enter Try.func61, Try.ntmps61
    go_wp2_with (first | (go_at_call 84; refine (register_any _ _ _ _ _ _ _ _ _).mono ?_; rintro e w' ⟨rfl, rfl⟩) | (go_at_call 86; refine (slot_any _ _ _ _ _ _ _ _ _).mono ?_; rintro e w' ⟨rfl, rfl⟩) | (go_at_call 85; refine (octet_any _ _).mono ?_; rintro e w' ⟨rfl, rfl⟩))
    go_ret
    exact ⟨by simp [opGood, h1, h2], (by (repeat refine Below.al ?_ (Nat.le_refl _)); exact Below.refl _ _)⟩
  · go_enter Try.func61, Try.ntmps61
    go_wp2_with (first | (go_at_call 84; refine (register_any _ _ _ _ _ _ _ _ _).mono ?_; rintro e w' ⟨rfl, rfl⟩) | (go_at_call 86; refine (slot_any _ _ _ _ _ _ _ _ _).mono ?_; rintro e w' ⟨rfl, rfl⟩) | (go_at_call 85; refine (octet_any _ _).mono ?_; rintro e w' ⟨rfl, rfl⟩))
    go_ret
    exact ⟨by simp [opGood, h1, h2, int_beq_z], (by (repeat refine Below.al ?_ (Nat.le_refl _)); exact Below.refl _ _)⟩

set_option maxRecDepth 100000 in
set_option maxHeartbeats 2000000 in
theorem gOp13 (args regs data slots : Int) (bo : Option Addr) (bn bc : Nat) (a b c : Int) (w : World) :
    Calls Try.prog 61 #[.agg #[.int .i64 args, .int .i64 regs, .int .i64 data, .int .i64 slots, .slice bo bn bc], .agg #[.int .i64 13, .int .i64 a, .int .i64 b, .int .i64 c]] w fun e w' => e = .returned (.bool (opGood regs slots ⟨13, a, b, c⟩)) ∧ Below w.heap.size w w' := by
  cases h1 : below a regs
  · go_enter Try.func61, Try.ntmps61
    go_wp2_with (first | (go_at_call 84; refine (register_any _ _ _ _ _ _ _ _ _).mono ?_; rintro e w' ⟨rfl, rfl⟩) | (go_at_call 86; refine (slot_any _ _ _ _ _ _ _ _ _).mono ?_; rintro e w' ⟨rfl, rfl⟩) | (go_at_call 85; refine (octet_any _ _).mono ?_; rintro e w' ⟨rfl, rfl⟩))
    go_ret
    exact ⟨by simp [opGood, h1], (by (repeat refine Below.al ?_ (Nat.le_refl _)); exact Below.refl _ _)⟩
  cases h2 : below b regs
  · go_enter Try.func61, Try.ntmps61
    go_wp2_with (first | (go_at_call 84; refine (register_any _ _ _ _ _ _ _ _ _).mono ?_; rintro e w' ⟨rfl, rfl⟩) | (go_at_call 86; refine (slot_any _ _ _ _ _ _ _ _ _).mono ?_; rintro e w' ⟨rfl, rfl⟩) | (go_at_call 85; refine (octet_any _ _).mono ?_; rintro e w' ⟨rfl, rfl⟩))
    go_ret
    exact ⟨by simp [opGood, h1, h2], (by (repeat refine Below.al ?_ (Nat.le_refl _)); exact Below.refl _ _)⟩
  · go_enter Try.func61, Try.ntmps61
    go_wp2_with (first | (go_at_call 84; refine (register_any _ _ _ _ _ _ _ _ _).mono ?_; rintro e w' ⟨rfl, rfl⟩) | (go_at_call 86; refine (slot_any _ _ _ _ _ _ _ _ _).mono ?_; rintro e w' ⟨rfl, rfl⟩) | (go_at_call 85; refine (octet_any _ _).mono ?_; rintro e w' ⟨rfl, rfl⟩))
    go_ret
    exact ⟨by simp [opGood, h1, h2, int_beq_z], (by (repeat refine Below.al ?_ (Nat.le_refl _)); exact Below.refl _ _)⟩

set_option maxRecDepth 100000 in
set_option maxHeartbeats 2000000 in
theorem gOp14 (args regs data slots : Int) (bo : Option Addr) (bn bc : Nat) (a b c : Int) (w : World) :
    Calls Try.prog 61 #[.agg #[.int .i64 args, .int .i64 regs, .int .i64 data, .int .i64 slots, .slice bo bn bc], .agg #[.int .i64 14, .int .i64 a, .int .i64 b, .int .i64 c]] w fun e w' => e = .returned (.bool (opGood regs slots ⟨14, a, b, c⟩)) ∧ Below w.heap.size w w' := by
  cases h1 : below a slots
  · go_enter Try.func61, Try.ntmps61
    go_wp2_with (first | (go_at_call 84; refine (register_any _ _ _ _ _ _ _ _ _).mono ?_; rintro e w' ⟨rfl, rfl⟩) | (go_at_call 86; refine (slot_any _ _ _ _ _ _ _ _ _).mono ?_; rintro e w' ⟨rfl, rfl⟩) | (go_at_call 85; refine (octet_any _ _).mono ?_; rintro e w' ⟨rfl, rfl⟩))
    go_ret
    exact ⟨by simp [opGood, h1], (by (repeat refine Below.al ?_ (Nat.le_refl _)); exact Below.refl _ _)⟩
  cases h2 : below b regs
  · go_enter Try.func61, Try.ntmps61
    go_wp2_with (first | (go_at_call 84; refine (register_any _ _ _ _ _ _ _ _ _).mono ?_; rintro e w' ⟨rfl, rfl⟩) | (go_at_call 86; refine (slot_any _ _ _ _ _ _ _ _ _).mono ?_; rintro e w' ⟨rfl, rfl⟩) | (go_at_call 85; refine (octet_any _ _).mono ?_; rintro e w' ⟨rfl, rfl⟩))
    go_ret
    exact ⟨by simp [opGood, h1, h2], (by (repeat refine Below.al ?_ (Nat.le_refl _)); exact Below.refl _ _)⟩
  · go_enter Try.func61, Try.ntmps61
    go_wp2_with (first | (go_at_call 84; refine (register_any _ _ _ _ _ _ _ _ _).mono ?_; rintro e w' ⟨rfl, rfl⟩) | (go_at_call 86; refine (slot_any _ _ _ _ _ _ _ _ _).mono ?_; rintro e w' ⟨rfl, rfl⟩) | (go_at_call 85; refine (octet_any _ _).mono ?_; rintro e w' ⟨rfl, rfl⟩))
    go_ret
    exact ⟨by simp [opGood, h1, h2, int_beq_z], (by (repeat refine Below.al ?_ (Nat.le_refl _)); exact Below.refl _ _)⟩

set_option maxRecDepth 100000 in
set_option maxHeartbeats 2000000 in
theorem gOp15 (args regs data slots : Int) (bo : Option Addr) (bn bc : Nat) (a b c : Int) (w : World) :
    Calls Try.prog 61 #[.agg #[.int .i64 args, .int .i64 regs, .int .i64 data, .int .i64 slots, .slice bo bn bc], .agg #[.int .i64 15, .int .i64 a, .int .i64 b, .int .i64 c]] w fun e w' => e = .returned (.bool (opGood regs slots ⟨15, a, b, c⟩)) ∧ Below w.heap.size w w' := by
  cases h1 : below a regs
  · go_enter Try.func61, Try.ntmps61
    go_wp2_with (first | (go_at_call 84; refine (register_any _ _ _ _ _ _ _ _ _).mono ?_; rintro e w' ⟨rfl, rfl⟩) | (go_at_call 86; refine (slot_any _ _ _ _ _ _ _ _ _).mono ?_; rintro e w' ⟨rfl, rfl⟩) | (go_at_call 85; refine (octet_any _ _).mono ?_; rintro e w' ⟨rfl, rfl⟩))
    go_ret
    exact ⟨by simp [opGood, h1], (by (repeat refine Below.al ?_ (Nat.le_refl _)); exact Below.refl _ _)⟩
  cases h2 : below b slots
  · go_enter Try.func61, Try.ntmps61
    go_wp2_with (first | (go_at_call 84; refine (register_any _ _ _ _ _ _ _ _ _).mono ?_; rintro e w' ⟨rfl, rfl⟩) | (go_at_call 86; refine (slot_any _ _ _ _ _ _ _ _ _).mono ?_; rintro e w' ⟨rfl, rfl⟩) | (go_at_call 85; refine (octet_any _ _).mono ?_; rintro e w' ⟨rfl, rfl⟩))
    go_ret
    exact ⟨by simp [opGood, h1, h2], (by (repeat refine Below.al ?_ (Nat.le_refl _)); exact Below.refl _ _)⟩
  · go_enter Try.func61, Try.ntmps61
    go_wp2_with (first | (go_at_call 84; refine (register_any _ _ _ _ _ _ _ _ _).mono ?_; rintro e w' ⟨rfl, rfl⟩) | (go_at_call 86; refine (slot_any _ _ _ _ _ _ _ _ _).mono ?_; rintro e w' ⟨rfl, rfl⟩) | (go_at_call 85; refine (octet_any _ _).mono ?_; rintro e w' ⟨rfl, rfl⟩))
    go_ret
    exact ⟨by simp [opGood, h1, h2, int_beq_z], (by (repeat refine Below.al ?_ (Nat.le_refl _)); exact Below.refl _ _)⟩

set_option maxRecDepth 100000 in
set_option maxHeartbeats 2000000 in
theorem gOpNo (args regs data slots : Int) (bo : Option Addr) (bn bc : Nat) (k a b c : Int) (w : World) (hk : k < 1 ∨ 15 < k) :
    Calls Try.prog 61 #[.agg #[.int .i64 args, .int .i64 regs, .int .i64 data, .int .i64 slots, .slice bo bn bc], .agg #[.int .i64 k, .int .i64 a, .int .i64 b, .int .i64 c]] w fun e w' => e = .returned (.bool (opGood regs slots ⟨k, a, b, c⟩)) ∧ Below w.heap.size w w' := by
  have hg : opGood regs slots ⟨k, a, b, c⟩ = false := by
    unfold opGood
    rw [if_neg (by simp only []; omega), if_neg (by simp only []; omega), if_neg (by simp only []; omega), if_neg (by simp only []; omega), if_neg (by simp only []; omega)]
  have n1 : (k == 1) = false := by rw [beq_eq_false_iff_ne]; omega
  have n2 : (k == 2) = false := by rw [beq_eq_false_iff_ne]; omega
  have n12 : (k == 12) = false := by rw [beq_eq_false_iff_ne]; omega
  have n13 : (k == 13) = false := by rw [beq_eq_false_iff_ne]; omega
  have n14 : (k == 14) = false := by rw [beq_eq_false_iff_ne]; omega
  have n15 : (k == 15) = false := by rw [beq_eq_false_iff_ne]; omega
  rcases hk with hk | hk
  · have m1 : ¬ (3 ≤ k) := by omega
    go_enter Try.func61, Try.ntmps61
    go_wp2_with (first | (go_at_call 84; refine (register_any _ _ _ _ _ _ _ _ _).mono ?_; rintro e w' ⟨rfl, rfl⟩) | (go_at_call 86; refine (slot_any _ _ _ _ _ _ _ _ _).mono ?_; rintro e w' ⟨rfl, rfl⟩) | (go_at_call 85; refine (octet_any _ _).mono ?_; rintro e w' ⟨rfl, rfl⟩))
    go_ret
    exact ⟨by simp [hg], (by (repeat refine Below.al ?_ (Nat.le_refl _)); exact Below.refl _ _)⟩
  · have m1 : 3 ≤ k := by omega
    have m2 : ¬ (k ≤ 11) := by omega
    go_enter Try.func61, Try.ntmps61
    go_wp2_with (first | (go_at_call 84; refine (register_any _ _ _ _ _ _ _ _ _).mono ?_; rintro e w' ⟨rfl, rfl⟩) | (go_at_call 86; refine (slot_any _ _ _ _ _ _ _ _ _).mono ?_; rintro e w' ⟨rfl, rfl⟩) | (go_at_call 85; refine (octet_any _ _).mono ?_; rintro e w' ⟨rfl, rfl⟩))
    go_ret
    exact ⟨by simp [hg], (by (repeat refine Below.al ?_ (Nat.le_refl _)); exact Below.refl _ _)⟩

theorem gOp_any (args regs data slots : Int) (bo : Option Addr) (bn bc : Nat) (k a b c : Int) (w : World) :
    Calls Try.prog 61 #[.agg #[.int .i64 args, .int .i64 regs, .int .i64 data, .int .i64 slots, .slice bo bn bc], .agg #[.int .i64 k, .int .i64 a, .int .i64 b, .int .i64 c]] w fun e w' => e = .returned (.bool (opGood regs slots ⟨k, a, b, c⟩)) ∧ Below w.heap.size w w' := by
  by_cases hk : 1 ≤ k ∧ k ≤ 15
  · have : k = 1 ∨ k = 2 ∨ k = 3 ∨ k = 4 ∨ k = 5 ∨ k = 6 ∨ k = 7 ∨ k = 8 ∨ k = 9 ∨ k = 10 ∨ k = 11 ∨ k = 12 ∨ k = 13 ∨ k = 14 ∨ k = 15 := by omega
    rcases this with rfl | rfl | rfl | rfl | rfl | rfl | rfl | rfl | rfl | rfl | rfl | rfl | rfl | rfl | rfl
    · exact gOp1 args regs data slots bo bn bc a b c w
    · exact gOp2 args regs data slots bo bn bc a b c w
    · exact gOp3 args regs data slots bo bn bc a b c w
    · exact gOp4 args regs data slots bo bn bc a b c w
    · exact gOp5 args regs data slots bo bn bc a b c w
    · exact gOp6 args regs data slots bo bn bc a b c w
    · exact gOp7 args regs data slots bo bn bc a b c w
    · exact gOp8 args regs data slots bo bn bc a b c w
    · exact gOp9 args regs data slots bo bn bc a b c w
    · exact gOp10 args regs data slots bo bn bc a b c w
    · exact gOp11 args regs data slots bo bn bc a b c w
    · exact gOp12 args regs data slots bo bn bc a b c w
    · exact gOp13 args regs data slots bo bn bc a b c w
    · exact gOp14 args regs data slots bo bn bc a b c w
    · exact gOp15 args regs data slots bo bn bc a b c w
  · exact gOpNo args regs data slots bo bn bc k a b c w (by omega)

end Go.Proofs.Ytblhmeidbjigaaa

/- Well made ends, in the document's answer. -/
set_option linter.unusedSimpArgs false
set_option linter.unusedVariables false
namespace Go.Proofs.Ytblhmeidbjigaaa
open Go.RowKit

theorem below_nonneg {x n : Int} (h : 0 ≤ x) : below x n = decide (x < n) := by simp [below, h]

set_option maxRecDepth 100000 in
set_option maxHeartbeats 4000000 in
theorem gEnd1 (args regs data slots : Int) (bo : Option Addr) (bn bc : Nat) (r x y : Int) (w : World) :
    Calls Try.prog 60 #[.agg #[.int .i64 args, .int .i64 regs, .int .i64 data, .int .i64 slots, .slice bo bn bc], .agg #[.int .i64 1, .int .i64 r, .int .i64 x, .int .i64 y]] w fun e w' => e = .returned (.bool (endGood regs bn ⟨1, r, x, y⟩)) ∧ Below w.heap.size w w' := by
  have tx : (x < 0 ∧ below x bn = false) ∨ (0 ≤ x ∧ x < bn ∧ below x bn = true) ∨ (0 ≤ x ∧ ¬ x < bn ∧ below x bn = false) := by
    by_cases h1 : x < 0
    · exact .inl ⟨h1, below_lo h1⟩
    · by_cases h2 : x < bn
      · exact .inr (.inl ⟨by omega, h2, below_true (by omega) h2⟩)
      · exact .inr (.inr ⟨by omega, h2, below_hi (by omega)⟩)
  have ty : (y < 0 ∧ below y bn = false) ∨ (0 ≤ y ∧ below y bn = decide (y < bn)) := by
    by_cases h1 : y < 0
    · exact .inl ⟨h1, below_lo h1⟩
    · exact .inr ⟨by omega, below_nonneg (by omega)⟩
  by_cases hr : r = 0
  case neg =>
    have hr1 : (r == 0) = false := by simp [hr]
    rcases tx with ⟨x1, x2⟩ | ⟨x1, x3, x2⟩ | ⟨x1, x3, x2⟩ <;> rcases ty with ⟨y1, y2⟩ | ⟨y1, y2⟩
    all_goals
      go_enter Try.func60, Try.ntmps60
      go_wp2_with (go_at_call 84; refine (register_any _ _ _ _ _ _ _ _ _).mono ?_; rintro e w' ⟨rfl, rfl⟩)
      go_ret
      exact ⟨by simp [endGood, hr], (by (repeat refine Below.al ?_ (Nat.le_refl _)); exact Below.refl _ _)⟩
  subst hr
  rcases tx with ⟨x1, x2⟩ | ⟨x1, x3, x2⟩ | ⟨x1, x3, x2⟩ <;> rcases ty with ⟨y1, y2⟩ | ⟨y1, y2⟩
  all_goals
    go_enter Try.func60, Try.ntmps60
    go_wp2_with (go_at_call 84; refine (register_any _ _ _ _ _ _ _ _ _).mono ?_; rintro e w' ⟨rfl, rfl⟩)
    go_ret
    exact ⟨by simp [endGood, x2, int_beq_z], (by (repeat refine Below.al ?_ (Nat.le_refl _)); exact Below.refl _ _)⟩

set_option maxRecDepth 100000 in
set_option maxHeartbeats 4000000 in
theorem gEnd2 (args regs data slots : Int) (bo : Option Addr) (bn bc : Nat) (r x y : Int) (w : World) :
    Calls Try.prog 60 #[.agg #[.int .i64 args, .int .i64 regs, .int .i64 data, .int .i64 slots, .slice bo bn bc], .agg #[.int .i64 2, .int .i64 r, .int .i64 x, .int .i64 y]] w fun e w' => e = .returned (.bool (endGood regs bn ⟨2, r, x, y⟩)) ∧ Below w.heap.size w w' := by
  have tx : (x < 0 ∧ below x bn = false) ∨ (0 ≤ x ∧ x < bn ∧ below x bn = true) ∨ (0 ≤ x ∧ ¬ x < bn ∧ below x bn = false) := by
    by_cases h1 : x < 0
    · exact .inl ⟨h1, below_lo h1⟩
    · by_cases h2 : x < bn
      · exact .inr (.inl ⟨by omega, h2, below_true (by omega) h2⟩)
      · exact .inr (.inr ⟨by omega, h2, below_hi (by omega)⟩)
  have ty : (y < 0 ∧ below y bn = false) ∨ (0 ≤ y ∧ below y bn = decide (y < bn)) := by
    by_cases h1 : y < 0
    · exact .inl ⟨h1, below_lo h1⟩
    · exact .inr ⟨by omega, below_nonneg (by omega)⟩
  cases hr : below r regs <;> rcases tx with ⟨x1, x2⟩ | ⟨x1, x3, x2⟩ | ⟨x1, x3, x2⟩ <;> rcases ty with ⟨y1, y2⟩ | ⟨y1, y2⟩
  all_goals
    go_enter Try.func60, Try.ntmps60
    go_wp2_with (go_at_call 84; refine (register_any _ _ _ _ _ _ _ _ _).mono ?_; rintro e w' ⟨rfl, rfl⟩)
    go_ret
    exact ⟨by simp [endGood, hr, x2, y2], (by (repeat refine Below.al ?_ (Nat.le_refl _)); exact Below.refl _ _)⟩

set_option maxRecDepth 100000 in
set_option maxHeartbeats 4000000 in
theorem gEnd3 (args regs data slots : Int) (bo : Option Addr) (bn bc : Nat) (r x y : Int) (w : World) :
    Calls Try.prog 60 #[.agg #[.int .i64 args, .int .i64 regs, .int .i64 data, .int .i64 slots, .slice bo bn bc], .agg #[.int .i64 3, .int .i64 r, .int .i64 x, .int .i64 y]] w fun e w' => e = .returned (.bool (endGood regs bn ⟨3, r, x, y⟩)) ∧ Below w.heap.size w w' := by
  have tx : (x < 0 ∧ below x bn = false) ∨ (0 ≤ x ∧ x < bn ∧ below x bn = true) ∨ (0 ≤ x ∧ ¬ x < bn ∧ below x bn = false) := by
    by_cases h1 : x < 0
    · exact .inl ⟨h1, below_lo h1⟩
    · by_cases h2 : x < bn
      · exact .inr (.inl ⟨by omega, h2, below_true (by omega) h2⟩)
      · exact .inr (.inr ⟨by omega, h2, below_hi (by omega)⟩)
  have ty : (y < 0 ∧ below y bn = false) ∨ (0 ≤ y ∧ below y bn = decide (y < bn)) := by
    by_cases h1 : y < 0
    · exact .inl ⟨h1, below_lo h1⟩
    · exact .inr ⟨by omega, below_nonneg (by omega)⟩
  by_cases hx : x = 0
  · have hx1 : (x == 0) = true := by simp [hx]
    cases hr : below r regs <;> rcases tx with ⟨x1, x2⟩ | ⟨x1, x3, x2⟩ | ⟨x1, x3, x2⟩ <;> rcases ty with ⟨y1, y2⟩ | ⟨y1, y2⟩
    all_goals
      clear hx
      go_enter Try.func60, Try.ntmps60
      go_wp2_with (go_at_call 84; refine (register_any _ _ _ _ _ _ _ _ _).mono ?_; rintro e w' ⟨rfl, rfl⟩)
      go_ret
      exact ⟨by have hx : x = 0 := by simpa using hx1
                simp [endGood, hr, hx, int_beq_z], (by (repeat refine Below.al ?_ (Nat.le_refl _)); exact Below.refl _ _)⟩
  · have hx1 : (x == 0) = false := by simp [hx]
    cases hr : below r regs <;> rcases tx with ⟨x1, x2⟩ | ⟨x1, x3, x2⟩ | ⟨x1, x3, x2⟩ <;> rcases ty with ⟨y1, y2⟩ | ⟨y1, y2⟩
    all_goals
      go_enter Try.func60, Try.ntmps60
      go_wp2_with (go_at_call 84; refine (register_any _ _ _ _ _ _ _ _ _).mono ?_; rintro e w' ⟨rfl, rfl⟩)
      go_ret
      exact ⟨by simp [endGood, hr, hx], (by (repeat refine Below.al ?_ (Nat.le_refl _)); exact Below.refl _ _)⟩

set_option maxRecDepth 100000 in
set_option maxHeartbeats 4000000 in
theorem gEndNo (args regs data slots : Int) (bo : Option Addr) (bn bc : Nat) (k r x y : Int) (w : World) (hk : ¬ (1 ≤ k ∧ k ≤ 3)) :
    Calls Try.prog 60 #[.agg #[.int .i64 args, .int .i64 regs, .int .i64 data, .int .i64 slots, .slice bo bn bc], .agg #[.int .i64 k, .int .i64 r, .int .i64 x, .int .i64 y]] w fun e w' => e = .returned (.bool (endGood regs bn ⟨k, r, x, y⟩)) ∧ Below w.heap.size w w' := by
  have hg : endGood regs bn ⟨k, r, x, y⟩ = false := by
    unfold endGood
    rw [if_neg (by simp only []; omega), if_neg (by simp only []; omega), if_neg (by simp only []; omega)]
  have n1 : (k == 1) = false := by rw [beq_eq_false_iff_ne]; omega
  have n2 : (k == 2) = false := by rw [beq_eq_false_iff_ne]; omega
  have n3 : (k == 3) = false := by rw [beq_eq_false_iff_ne]; omega
  by_cases x1 : 0 ≤ x <;> by_cases y1 : 0 ≤ y
  all_goals
    go_enter Try.func60, Try.ntmps60
    go_wp2_with (go_at_call 84; refine (register_any _ _ _ _ _ _ _ _ _).mono ?_; rintro e w' ⟨rfl, rfl⟩)
    go_ret
    exact ⟨by simp [hg], (by (repeat refine Below.al ?_ (Nat.le_refl _)); exact Below.refl _ _)⟩

theorem gEnd_any (args regs data slots : Int) (bo : Option Addr) (bn bc : Nat) (k r x y : Int) (w : World) :
    Calls Try.prog 60 #[.agg #[.int .i64 args, .int .i64 regs, .int .i64 data, .int .i64 slots, .slice bo bn bc], .agg #[.int .i64 k, .int .i64 r, .int .i64 x, .int .i64 y]] w fun e w' => e = .returned (.bool (endGood regs bn ⟨k, r, x, y⟩)) ∧ Below w.heap.size w w' := by
  by_cases hk : 1 ≤ k ∧ k ≤ 3
  · have : k = 1 ∨ k = 2 ∨ k = 3 := by omega
    rcases this with rfl | rfl | rfl
    · exact gEnd1 args regs data slots bo bn bc r x y w
    · exact gEnd2 args regs data slots bo bn bc r x y w
    · exact gEnd3 args regs data slots bo bn bc r x y w
  · exact gEndNo args regs data slots bo bn bc k r x y w hk

end Go.Proofs.Ytblhmeidbjigaaa

/- Well made programs, in the document's answer. -/
set_option linter.unusedSimpArgs false
set_option linter.unusedVariables false
namespace Go.Proofs.Ytblhmeidbjigaaa
open Go.RowKit

set_option maxRecDepth 100000 in
set_option maxHeartbeats 4000000 in
theorem rGood_any (args regs data slots : Int) (v : Value) (l : List BlockD) (w : World) (hr : RdBlocks w v l) :
    Calls Try.prog 30 #[.agg #[.int .i64 args, .int .i64 regs, .int .i64 data, .int .i64 slots, v]] w fun e w' => e = .returned (.bool (progGood ⟨args, regs, data, slots, l⟩)) ∧ Below w.heap.size w w' := by
  obtain ⟨ao, cap, rfl, hl, hc⟩ := hr
  obtain ⟨G, hG⟩ : ∃ G, progGood ⟨args, regs, data, slots, l⟩ = G := ⟨_, rfl⟩
  rw [hG]
  have hno : ¬ (1 ≤ regs ∧ regs ≤ 8 ∧ 0 ≤ args ∧ args ≤ regs ∧ 0 ≤ data ∧ data ≤ 8 ∧ 0 ≤ slots ∧ slots ≤ 8 ∧ 1 ≤ l.length ∧ l.length ≤ 6) → G = false := by
    intro h
    rw [← hG]
    apply Bool.eq_false_iff.2
    intro hh
    simp [progGood] at hh
    exact h (by omega)
  have HB : Hid (Below w.heap.size w (w.alloc (.cells #[.int .i64 args, .int .i64 regs, .int .i64 data, .int .i64 slots, .slice ao l.length cap] 24))) := (Below.refl _ _).alloc (Nat.le_refl _) _
  by_cases t0 : regs < 1
  · have hGf : G = false := hno (by omega)
    subst hGf
    clear hG hno
    go_enter Try.func30, Try.ntmps30
    go_wp2
    go_ret
    exact ⟨rfl, HB.out⟩
  by_cases t1 : 8 < regs
  · have hGf : G = false := hno (by omega)
    subst hGf
    clear hG hno
    go_enter Try.func30, Try.ntmps30
    go_wp2
    go_ret
    exact ⟨rfl, HB.out⟩
  by_cases t2 : args < 0
  · have hGf : G = false := hno (by omega)
    subst hGf
    clear hG hno
    go_enter Try.func30, Try.ntmps30
    go_wp2
    go_ret
    exact ⟨rfl, HB.out⟩
  by_cases t3 : regs < args
  · have hGf : G = false := hno (by omega)
    subst hGf
    clear hG hno
    go_enter Try.func30, Try.ntmps30
    go_wp2
    go_ret
    exact ⟨rfl, HB.out⟩
  by_cases t4 : data < 0
  · have hGf : G = false := hno (by omega)
    subst hGf
    clear hG hno
    go_enter Try.func30, Try.ntmps30
    go_wp2
    go_ret
    exact ⟨rfl, HB.out⟩
  by_cases t5 : 8 < data
  · have hGf : G = false := hno (by omega)
    subst hGf
    clear hG hno
    go_enter Try.func30, Try.ntmps30
    go_wp2
    go_ret
    exact ⟨rfl, HB.out⟩
  by_cases t6 : slots < 0
  · have hGf : G = false := hno (by omega)
    subst hGf
    clear hG hno
    go_enter Try.func30, Try.ntmps30
    go_wp2
    go_ret
    exact ⟨rfl, HB.out⟩
  by_cases t7 : 8 < slots
  · have hGf : G = false := hno (by omega)
    subst hGf
    clear hG hno
    go_enter Try.func30, Try.ntmps30
    go_wp2
    go_ret
    exact ⟨rfl, HB.out⟩
  by_cases t8 : (l.length : Int) < 1
  · have hGf : G = false := hno (by omega)
    subst hGf
    clear hG hno
    go_enter Try.func30, Try.ntmps30
    go_wp2
    go_ret
    exact ⟨rfl, HB.out⟩
  by_cases t9 : (6 : Int) < l.length
  · have hGf : G = false := hno (by omega)
    subst hGf
    clear hG hno
    go_enter Try.func30, Try.ntmps30
    go_wp2
    go_ret
    exact ⟨rfl, HB.out⟩
  have HG : Hid (G = bgFrom regs slots l.length l 0) := by
    show G = _
    rw [← hG]
    simp only [progGood, bgFrom, List.drop_zero]
    rw [show decide (1 ≤ regs ∧ regs ≤ 8) = true by simp; omega, show decide (0 ≤ args ∧ args ≤ regs) = true by simp; omega, show decide (0 ≤ data ∧ data ≤ 8) = true by simp; omega, show decide (0 ≤ slots ∧ slots ≤ 8) = true by simp; omega, show decide (1 ≤ l.length ∧ l.length ≤ 6) = true by simp; omega]
    rfl
  clear hG hno HB
  go_enter Try.func30, Try.ntmps30
  go_wp2
  go_loopw [3] (fun i wr => ∃ (k : Nat), k ≤ l.length ∧ i = .int .i64 k ∧ Hid (G = bgFrom regs slots l.length l k) ∧ Below (w.heap.size + 1) (w.alloc (.cells #[.int .i64 args, .int .i64 regs, .int .i64 data, .int .i64 slots, .slice ao l.length cap] 24)) wr)
    (fun i _ => l.length - (intOf i).toNat)
  case atStart => exact ⟨0, Nat.zero_le _, rfl, HG, Below.refl _ _⟩
  case round =>
    obtain ⟨k, hk, rfl, hg, hbel⟩ := hrel
    clear HG
    have hb0 := Below.under hbel
    have p0 : wr.cell? ⟨w.heap.size, 0, none⟩ = some (.int .i64 args) := (hbel.cell (by simp)).trans (by simp)
    have p1 : wr.cell? ⟨w.heap.size, 1, none⟩ = some (.int .i64 regs) := (hbel.cell (by simp)).trans (by simp)
    have p2 : wr.cell? ⟨w.heap.size, 2, none⟩ = some (.int .i64 data) := (hbel.cell (by simp)).trans (by simp)
    have p3 : wr.cell? ⟨w.heap.size, 3, none⟩ = some (.int .i64 slots) := (hbel.cell (by simp)).trans (by simp)
    have p4 : wr.cell? ⟨w.heap.size, 4, none⟩ = some (.slice ao l.length cap) := (hbel.cell (by simp)).trans (by simp)
    have hz := hbel.size
    simp at hz
    by_cases hlt : k < l.length
    case neg =>
      have hGt : G = true := by rw [hg.out, bgFrom_end (by omega)]
      subst hGt
      clear hg
      go_wp2
      go_ret
      exact ⟨rfl, hb0⟩
    obtain ⟨b, off, sv, rfl, c1, c2, c3, c4, c5, c6⟩ := hc k hlt
    have e1 := cell_keep hb0 c1
    have e2 := cell_keep hb0 c2
    have e3 := cell_keep hb0 c3
    have e4 := cell_keep hb0 c4
    have e5 := cell_keep hb0 c5
    have e6 := c6.keep hb0
    obtain ⟨so, sc, es, _, hops⟩ := id e6
    subst es
    have u0 := fun z : Past wr.heap.size wr => z.cell p0
    have u1 := fun z : Past wr.heap.size wr => z.cell p1
    have u2 := fun z : Past wr.heap.size wr => z.cell p2
    have u3 := fun z : Past wr.heap.size wr => z.cell p3
    have u4 := fun z : Past wr.heap.size wr => z.cell p4
    have f2 := fun z : Past wr.heap.size wr => z.cell e2
    have f3 := fun z : Past wr.heap.size wr => z.cell e3
    have f4 := fun z : Past wr.heap.size wr => z.cell e4
    have f5 := fun z : Past wr.heap.size wr => z.cell e5
    have np := Past.any wr.heap.size wr
    have HS : Hid (bgFrom regs slots l.length l k = (blockGood regs slots l.length ⟨bops l k, ⟨bek l k, ber l k, bex l k, bey l k⟩⟩ && bgFrom regs slots l.length l (k + 1))) := bgFrom_step hlt
    obtain ⟨wo, hwo⟩ : ∃ wo, wo = wr := ⟨_, rfl⟩
    subst hwo
    go_wp2
    refine wp_region_past wo.heap.size (by kernel_rfl) (by kernel_rfl) ?_
    repeat (go_big_quiet_step (exact Calls.past_of (Nat.le_refl _) (gEnd_any _ _ _ _ _ _ _ _ _ _ _ _)))
    refine wpQuiet_nil ?_
    rintro _ ⟨z, rfl⟩
    have hb1 := hbel.trans (z.ok.mono (by omega))
    have hb01 := hb0.trans (z.ok.mono (by omega))
    have hzz := z.ok.size
    have g1 := z.cell e1
    have r0 := z.cell p0
    have r1 := z.cell p1
    have r2 := z.cell p2
    have r3 := z.cell p3
    have r4 := z.cell p4
    have hops1 := e6.keep z.ok
    generalize z.wd = w1 at *
    clear u0 u1 u2 u3 u4 f2 f3 f4 f5 np p0 p1 p2 p3 p4 e1 e2 e3 e4 e5 hops hbel e6 hb0
    cases h3 : endGood regs l.length ⟨bek l k, ber l k, bex l k, bey l k⟩
    · have hGf : G = false := by rw [hg.out, HS.out]; simp [blockGood, h3]
      subst hGf
      clear hg HS
      go_wp2
      go_ret
      exact ⟨rfl, hb01⟩
    by_cases h4 : (12 : Int) < (bops l k).length
    · have hGf : G = false := by rw [hg.out, HS.out]; simp [blockGood, show ¬ (bops l k).length ≤ 12 by omega]
      subst hGf
      clear hg HS
      go_wp2
      go_ret
      exact ⟨rfl, hb01⟩
    have HP : Hid (G = (ogFrom regs slots (bops l k) 0 && bgFrom regs slots l.length l (k + 1))) := by
      show G = _
      rw [hg.out, HS.out]; simp [blockGood, h3, show (bops l k).length ≤ 12 by omega, ogFrom]
    clear hg HS h3
    generalize bops l k = os at *
    go_wp2
    go_loopw [4, 5] (fun ok i w2 => ∃ (j : Nat), j ≤ os.length ∧ i = .int .i64 j ∧ ok = .bool true ∧ Hid (G = (ogFrom regs slots os j && bgFrom regs slots l.length l (k + 1))) ∧ Below w1.heap.size w1 w2)
      (fun _ i _ => os.length - (intOf i).toNat)
    case atStart => exact ⟨0, Nat.zero_le _, rfl, rfl, HP, Below.refl _ _⟩
    case round =>
      obtain ⟨j, hj, rfl, rfl, hg, hbin⟩ := hrel
      clear HP
      have q0 := cell_keep hbin r0
      have q1 := cell_keep hbin r1
      have q2 := cell_keep hbin r2
      have q3 := cell_keep hbin r3
      have q4 := cell_keep hbin r4
      have h1 := cell_keep hbin g1
      have hzi := hbin.size
      by_cases hjl : j < os.length
      case neg =>
        have hG' : Hid (G = bgFrom regs slots l.length l (k + 1)) := by show G = _; rw [hg.out, ogFrom_end (by omega)]; rfl
        have hb' := hb1.trans (hbin.mono (by omega))
        clear hg
        go_wp2
        go_roundw
        case rel => exact ⟨k + 1, by omega, by go_num, hG', hb'⟩
        case measure => simp [intOf]; omega
      obtain ⟨so', sc', es, _, hops⟩ := hops1.keep hbin
      simp only [Value.slice.injEq, true_and] at es
      obtain ⟨rfl, rfl⟩ := es
      obtain ⟨b2, off2, rfl, d1, d2, d3, d4⟩ := hops j hjl
      have u0 := fun z : Past wr.heap.size wr => z.cell q0
      have u1 := fun z : Past wr.heap.size wr => z.cell q1
      have u2 := fun z : Past wr.heap.size wr => z.cell q2
      have u3 := fun z : Past wr.heap.size wr => z.cell q3
      have u4 := fun z : Past wr.heap.size wr => z.cell q4
      have v1 := fun z : Past wr.heap.size wr => z.cell h1
      have f1 := fun z : Past wr.heap.size wr => z.cell d1
      have f2 := fun z : Past wr.heap.size wr => z.cell d2
      have f3 := fun z : Past wr.heap.size wr => z.cell d3
      have f4 := fun z : Past wr.heap.size wr => z.cell d4
      have np := Past.any wr.heap.size wr
      have HS : Hid (ogFrom regs slots os j = (opGood regs slots ⟨okind os j, oa os j, ob os j, oc os j⟩ && ogFrom regs slots os (j + 1))) := ogFrom_step hjl
      go_wp2
      refine wp_region_past wr.heap.size (by kernel_rfl) (by kernel_rfl) ?_
      repeat (go_big_quiet_step (exact Calls.past_of (Nat.le_refl _) (gOp_any _ _ _ _ _ _ _ _ _ _ _ _)))
      refine wpQuiet_nil ?_
      rintro _ ⟨z, rfl⟩
      have hb2 := hbin.trans (z.ok.mono (by omega))
      have hb02 := hb01.trans (hb2.mono (by omega))
      generalize z.wd = w2 at *
      clear u0 u1 u2 u3 u4 v1 f1 f2 f3 f4 np q0 q1 q2 q3 q4 h1 d1 d2 d3 d4
      cases h5 : opGood regs slots ⟨okind os j, oa os j, ob os j, oc os j⟩
      · have hGf : G = false := by rw [hg.out, HS.out, h5]; rfl
        subst hGf
        clear hg HS
        go_wp2
        go_ret
        exact ⟨rfl, hb02⟩
      · have hG' : Hid (G = (ogFrom regs slots os (j + 1) && bgFrom regs slots l.length l (k + 1))) := by show G = _; rw [hg.out, HS.out, h5]; rfl
        clear hg HS
        go_wp2
        go_roundw
        case rel => exact ⟨j + 1, by omega, by go_num, rfl, hG', hb2⟩
        case measure => simp [intOf]; omega

end Go.Proofs.Ytblhmeidbjigaaa
