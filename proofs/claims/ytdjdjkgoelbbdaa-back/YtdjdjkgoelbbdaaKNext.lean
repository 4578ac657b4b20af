/- Raw numbers, read one after the other. -/
import Derived.Test.YtdjdjkgoelbbdaaKTxt
set_option linter.unusedSimpArgs false
set_option linter.unusedVariables false
namespace Go.Proofs.Ytdjdjkgoelbbdaa
open Go.RowKit

set_option maxHeartbeats 400000 in
theorem pick_any (c n : Int) (w : World) (hc : -9223372036854775808 ≤ c ∧ c ≤ 9223372036854775807) (hn : 1 ≤ n ∧ n ≤ 1000) (Post : Ending → World → Prop)
    (hp : ∀ x, 0 ≤ x → x < n → Post (.returned (.int .i64 x)) w) : Calls Try.prog 25 #[.int .i64 c, .int .i64 n] w Post := by
  by_cases h0 : c < 0
  · have hx := hp ((-(c + 1)).tmod n) (Int.tmod_nonneg _ (by omega)) (by rw [Int.tmod_eq_emod_of_nonneg (by omega)]; exact Int.emod_lt_of_pos _ (by omega))
    rw [Int.neg_tmod] at hx
    clear hp
    go_enter Try.func25, Try.ntmps25
    go_wp2
    exact hx
  · have hx := hp (c % n) (Int.emod_nonneg _ (by omega)) (Int.emod_lt_of_pos _ (by omega))
    clear hp
    go_enter Try.func25, Try.ntmps25
    go_wp2
    exact hx

/-- A list of numbers that is read. -/
def RdInts (w : World) (v : Value) (n : Nat) : Prop :=
  ∃ ao cap, v = .slice ao n cap ∧ n ≤ 9223372036854775807 ∧ ∀ i, i < n → ∃ b off x, ao = some ⟨b, off, none⟩ ∧ -9223372036854775808 ≤ x ∧ x ≤ 9223372036854775807 ∧ w.cell? ⟨b, off + i, none⟩ = some (.int .i64 x)

/-- The rolls at block R, over a list of n numbers that lies elsewhere. -/
structure Rolls (w : World) (R : Nat) (ao : Option Addr) (n cap k : Nat) : Prop where
  row : Row w R 103 [.slice ao n cap, .int .i64 k]
  le : k ≤ n
  rd : RdInts w (.slice ao n cap) n
  off : 0 < n → ∀ b o, ao = some ⟨b, o, none⟩ → b ≠ R

theorem Rolls.keep {w w' : World} {R : Nat} {ao : Option Addr} {n cap k : Nat} (h : Rolls w R ao n cap k) (hb : Below w.heap.size w w') : Rolls w' R ao n cap k := by
  refine ⟨h.row.keep hb, h.le, ?_, h.off⟩
  obtain ⟨ao', cap', e, hn, hc⟩ := h.rd
  exact ⟨ao', cap', e, hn, fun i hi => let ⟨b, off, x, e1, h1, h2, h3⟩ := hc i hi; ⟨b, off, x, e1, h1, h2, cell_keep hb h3⟩⟩

theorem rd_away {w : World} {R : Nat} {ao : Option Addr} {n cap i : Nat} (h : RdInts w (.slice ao n cap) n) (hoff : 0 < n → ∀ b o, ao = some ⟨b, o, none⟩ → b ≠ R) (u : Value) : RdInts (w.setCell ⟨R, i, none⟩ u) (.slice ao n cap) n := by
  obtain ⟨ao', cap', e, hn, hc⟩ := h
  simp only [Value.slice.injEq, true_and] at e
  obtain ⟨rfl, rfl⟩ := e
  refine ⟨ao, cap, rfl, hn, fun i hi => ?_⟩
  obtain ⟨b, off, x, e1, h1, h2, h3⟩ := hc i hi
  exact ⟨b, off, x, e1, h1, h2, cell_unset (fun e => hoff (by omega) b off e1 (by simp at e; exact e.1.symm)) h3⟩

set_option maxRecDepth 100000 in
set_option maxHeartbeats 2000000 in
theorem next_cps (R : Nat) (ao : Option Addr) (n cap k : Nat) (m : Int) (w : World) (h : Rolls w R ao n cap k) (hm : 1 ≤ m ∧ m ≤ 1000) (Post : Ending → World → Prop)
    (hp : ∀ x k' w', 0 ≤ x → x < m → Rolls w' R ao n cap k' → Keep (fun g => g = R) w w' → w'.heap.size = w.heap.size → Post (.returned (.int .i64 x)) w') :
    Calls Try.prog 52 #[.pointer (some ⟨R, 0, none⟩), .int .i64 m] w Post := by
  have hle := h.le
  have hrow := h.row
  have x0 := hrow.cell (i := 0) rfl
  have x1 := hrow.cell (i := 1) rfl
  have xf := hrow.frozen 1
  obtain ⟨ao', cap', e, hn, hc⟩ := h.rd
  simp only [Value.slice.injEq, true_and] at e
  obtain ⟨rfl, rfl⟩ := e
  have hd : ∀ d, Rolls (w.drewN d) R ao n cap k := fun d => h.keep (below_drewN (Below.refl _ _) d)
  have hkd : ∀ d, Keep (fun g => g = R) w (w.drewN d) := fun d => (Keep.refl _ _).below (below_drewN (Below.refl w.heap.size w) d) (Nat.le_refl _)
  by_cases hlt : k < n
  · obtain ⟨b, off, x, rfl, hx1, hx2, hx3⟩ := hc k hlt
    have hbR := h.off (by omega) b off rfl
    have hp' : Hid (∀ y d, 0 ≤ y → y < m → Post (.returned (.int .i64 y)) ((w.drewN d).setCell ⟨R, 1, none⟩ (.int .i64 ((k : Int) + 1)))) := by
      intro y d h1 h2
      refine hp y (k + 1) _ h1 h2 ⟨?_, by omega, ?_, (hd d).off⟩ ((hkd d).setCell (.inl rfl) _) (by simp)
      · have := (hd d).row.set 1 (.int .i64 ((k + 1 : Nat) : Int))
        simpa using this
      · exact rd_away (hd d).rd (hd d).off _
    clear hp hd hkd hc
    go_enter Try.func52, Try.ntmps52
    go_wp2
    go_quiet (fail)
    go_wp2
    go_quiet (fail)
    go_wp2_with fail
    refine pick_any _ _ _ ⟨hx1, hx2⟩ hm _ ?_
    intro y h1 h2
    go_wp2
    exact hp'.out y _ h1 h2
  · have hp' : Hid (∀ y d, 0 ≤ y → y < m → Post (.returned (.int .i64 y)) (w.drewN d)) := fun y d h1 h2 => hp y k _ h1 h2 (hd d) (hkd d) (by simp)
    clear hp hd hkd hc
    go_enter Try.func52, Try.ntmps52
    go_wp2
    go_quiet (fail)
    go_wp2_with fail
    refine pick_any _ _ _ (by omega) hm _ ?_
    intro y h1 h2
    go_wp2
    exact hp'.out y _ h1 h2

end Go.Proofs.Ytdjdjkgoelbbdaa
