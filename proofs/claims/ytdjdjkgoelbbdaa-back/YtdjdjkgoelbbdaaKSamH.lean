/- Comparing hints, in twinkeep. -/
import Derived.Test.YtdjdjkgoelbbdaaKSam
set_option linter.unusedSimpArgs false
set_option linter.unusedVariables false
namespace Go.Proofs.Ytdjdjkgoelbbdaa
open Go.RowKit

set_option maxRecDepth 100000 in
set_option maxHeartbeats 2000000 in
theorem kSameHint_any (v u : Value) (h : List PingD) (w : World) (hv : RdHint w v h) (hu : RdHint w u h) :
    Calls Try.prog 55 #[.agg #[v], .agg #[u]] w fun e w' => e = .returned (.bool true) ∧ Below w.heap.size w w' := by
  obtain ⟨ao, cap, rfl, hl, hc⟩ := hv
  obtain ⟨bo, cap2, rfl, _, hd⟩ := hu
  go_enter Try.func55, Try.ntmps55
  go_wp2
  go_loopw [5] (fun i wr => ∃ (k : Nat), k ≤ h.length ∧ i = .int .i64 k ∧ Below (w.heap.size + 2) ((w.alloc (.cells #[.slice ao h.length cap] 31)).alloc (.cells #[.slice bo h.length cap2] 31)) wr)
    (fun i _ => h.length - (intOf i).toNat)
  case atStart => exact ⟨0, Nat.zero_le _, rfl, Below.refl _ _⟩
  case round =>
    obtain ⟨k, hk, rfl, hbel⟩ := hrel
    have hb0 : Below w.heap.size w wr := (((Below.refl w.heap.size w).alloc (Nat.le_refl _) _).alloc (by simp) _).trans (hbel.mono (by omega))
    have x0 : wr.cell? ⟨w.heap.size, 0, none⟩ = some (.slice ao h.length cap) := (hbel.cell (by simp)).trans (by simp)
    have x1 : wr.cell? ⟨w.heap.size + 1, 0, none⟩ = some (.slice bo h.length cap2) := (hbel.cell (by simp)).trans (by simp)
    by_cases hlt : k < h.length
    · obtain ⟨b, off, sv, rfl, c1, c2, c3⟩ := hc k hlt
      obtain ⟨b', off', tv, rfl, d1, d2, d3⟩ := hd k hlt
      have e1 := cell_keep hb0 c1
      have e2 := cell_keep hb0 c2
      have e3 := cell_keep hb0 d1
      have e4 := cell_keep hb0 d2
      obtain ⟨so, sc, es, hsl, hps⟩ := c3.keep hb0
      obtain ⟨to, tc, et, _, hpt⟩ := d3.keep hb0
      subst es
      subst et
      obtain ⟨wo, hwo⟩ : ∃ wo, wo = wr := ⟨_, rfl⟩
      subst hwo
      go_wp2
      go_quiet (fail)
      go_wp2
      go_loopw [8] (fun i w2 => ∃ (j : Nat), j ≤ (hpairs h k).length ∧ i = .int .i64 j ∧ Below wo.heap.size wo w2)
        (fun i _ => (hpairs h k).length - (intOf i).toNat)
      case atStart => exact ⟨0, Nat.zero_le _, rfl, below_drewN (Below.refl _ _) _⟩
      case round =>
        obtain ⟨j, hj, rfl, hbin⟩ := hrel
        by_cases hjl : j < (hpairs h k).length
        · obtain ⟨b2, off2, rfl, f1, f2⟩ := hps j hjl
          obtain ⟨b3, off3, rfl, g1, g2⟩ := hpt j hjl
          have k1 := cell_keep hbin f1
          have k2 := cell_keep hbin f2
          have k3 := cell_keep hbin g1
          have k4 := cell_keep hbin g2
          clear x0 x1 e1 e2 e3 e4
          go_wp2
          go_quiet (fail)
          go_wp2
          go_roundw
          case rel => exact ⟨j + 1, by omega, by go_num, below_drewN hbin _⟩
          case measure => simp [intOf]; omega
        · have hzz := hbel.size
          simp at hzz
          have hb2 := hbel.trans (hbin.mono (by omega))
          clear x0 x1 e1 e2 e3 e4
          go_wp2
          go_roundw
          case rel => exact ⟨k + 1, by omega, by go_num, hb2⟩
          case measure => simp [intOf]; omega
    · go_wp2
      go_ret
      exact ⟨rfl, hb0⟩

end Go.Proofs.Ytdjdjkgoelbbdaa
