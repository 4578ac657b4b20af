/- Comparing programs, in twinkeep. -/
import Derived.Test.YtdjdjkgoelbbdaaPLawL
set_option linter.unusedSimpArgs false
set_option linter.unusedVariables false
namespace Go.Proofs.Ytdjdjkgoelbbdaa
open Go.RowKit

set_option maxRecDepth 100000 in
set_option maxHeartbeats 1000000 in
theorem kSameOps_any (v u : Value) (ps : List OpD) (w : World) (hv : RdOps w v ps) (hu : RdOps w u ps) :
    Calls Try.prog 78 #[v, u] w fun e w' => e = .returned (.bool true) ∧ Below w.heap.size w w' := by
  obtain ⟨ao, cap, rfl, hl, hc⟩ := hv
  obtain ⟨bo, cap2, rfl, _, hd⟩ := hu
  go_enter Try.func78, Try.ntmps78
  go_wp2
  go_loopw [5] (fun i wr => ∃ (k : Nat), k ≤ ps.length ∧ i = .int .i64 k ∧ Below w.heap.size w wr)
    (fun i _ => ps.length - (intOf i).toNat)
  case atStart => exact ⟨0, Nat.zero_le _, rfl, Below.refl _ _⟩
  case round =>
    obtain ⟨k, hk, rfl, hbel⟩ := hrel
    by_cases hlt : k < ps.length
    · obtain ⟨b, off, rfl, c1, c2, c3, c4⟩ := hc k hlt
      obtain ⟨b', off', rfl, d1, d2, d3, d4⟩ := hd k hlt
      have e1 := cell_keep hbel c1
      have e2 := cell_keep hbel c2
      have e3 := cell_keep hbel c3
      have e4 := cell_keep hbel c4
      have f1 := cell_keep hbel d1
      have f2 := cell_keep hbel d2
      have f3 := cell_keep hbel d3
      have f4 := cell_keep hbel d4
      go_wp2
      go_quiet (fail)
      go_wp2
      go_roundw
      case rel => exact ⟨k + 1, by omega, by go_num, below_drewN hbel _⟩
      case measure => simp [intOf]; omega
    · go_wp2
      go_ret
      exact ⟨rfl, hbel⟩

set_option maxRecDepth 100000 in
set_option maxHeartbeats 2000000 in
theorem kSameProg_any (a0 a1 a2 a3 : Int) (v u : Value) (l : List BlockD) (w : World) (hv : RdBlocks w v l) (hu : RdBlocks w u l) :
    Calls Try.prog 54 #[.agg #[.int .i64 a0, .int .i64 a1, .int .i64 a2, .int .i64 a3, v], .agg #[.int .i64 a0, .int .i64 a1, .int .i64 a2, .int .i64 a3, u]] w fun e w' => e = .returned (.bool true) ∧ Below w.heap.size w w' := by
  obtain ⟨ao, cap, rfl, hl, hc⟩ := hv
  obtain ⟨bo, cap2, rfl, _, hd⟩ := hu
  go_enter Try.func54, Try.ntmps54
  go_wp2
  go_loopw [5] (fun i wr => ∃ (k : Nat), k ≤ l.length ∧ i = .int .i64 k ∧ Below (w.heap.size + 2) ((w.alloc (.cells #[.int .i64 a0, .int .i64 a1, .int .i64 a2, .int .i64 a3, .slice ao l.length cap] 24)).alloc (.cells #[.int .i64 a0, .int .i64 a1, .int .i64 a2, .int .i64 a3, .slice bo l.length cap2] 24)) wr)
    (fun i _ => l.length - (intOf i).toNat)
  case atStart => exact ⟨0, Nat.zero_le _, rfl, Below.refl _ _⟩
  case round =>
    obtain ⟨k, hk, rfl, hbel⟩ := hrel
    have hb0 : Below w.heap.size w wr := (((Below.refl w.heap.size w).alloc (Nat.le_refl _) _).alloc (by simp) _).trans (hbel.mono (by omega))
    have x0 : wr.cell? ⟨w.heap.size, 4, none⟩ = some (.slice ao l.length cap) := (hbel.cell (by simp)).trans (by simp)
    have x1 : wr.cell? ⟨w.heap.size + 1, 4, none⟩ = some (.slice bo l.length cap2) := (hbel.cell (by simp)).trans (by simp)
    have hzz := hbel.size
    simp at hzz
    by_cases hlt : k < l.length
    · obtain ⟨b, off, sv, rfl, c1, c2, c3, c4, c5, c6⟩ := hc k hlt
      obtain ⟨b', off', tv, rfl, d1, d2, d3, d4, d5, d6⟩ := hd k hlt
      have e1 := cell_keep hb0 c1
      have e2 := cell_keep hb0 c2
      have e3 := cell_keep hb0 c3
      have e4 := cell_keep hb0 c4
      have e5 := cell_keep hb0 c5
      have f1 := cell_keep hb0 d1
      have f2 := cell_keep hb0 d2
      have f3 := cell_keep hb0 d3
      have f4 := cell_keep hb0 d4
      have f5 := cell_keep hb0 d5
      have r1 := c6.keep hb0
      have r2 := d6.keep hb0
      have q0 := fun x : Past wr.heap.size wr => x.cell x0
      have q1 := fun x : Past wr.heap.size wr => x.cell x1
      have q2 := fun x : Past wr.heap.size wr => x.cell e1
      have q3 := fun x : Past wr.heap.size wr => x.cell f1
      have np := Past.any wr.heap.size wr
      go_wp2
      refine wp_region_past wr.heap.size (by kernel_rfl) (by kernel_rfl) ?_
      repeat (go_big_quiet_step (exact Calls.past_of (Nat.le_refl _) (kSameOps_any _ _ _ _ (r1.keep (Past.ok _)) (r2.keep (Past.ok _)))))
      refine wpQuiet_nil ?_
      rintro _ ⟨x, rfl⟩
      have y0 := x.cell x0
      have y1 := x.cell x1
      have g2 := x.cell e2
      have g3 := x.cell e3
      have g4 := x.cell e4
      have g5 := x.cell e5
      have h2 := x.cell f2
      have h3 := x.cell f3
      have h4 := x.cell f4
      have h5 := x.cell f5
      have hb1 := hbel.trans (x.ok.mono (by omega))
      generalize x.wd = w1 at *
      clear q0 q1 q2 q3 np
      go_wp2
      go_quiet (fail)
      go_wp2
      go_roundw
      case rel => exact ⟨k + 1, by omega, by go_num, below_drewN hb1 _⟩
      case measure => simp [intOf]; omega
    · go_wp2
      go_ret
      exact ⟨rfl, hb0⟩

end Go.Proofs.Ytdjdjkgoelbbdaa
