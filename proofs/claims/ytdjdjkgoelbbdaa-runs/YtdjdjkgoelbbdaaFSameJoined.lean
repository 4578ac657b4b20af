/- Lists of words held against each other. -/
import Derived.Test.YtdjdjkgoelbbdaaMTopToMTwin
set_option linter.unusedSimpArgs false
set_option linter.unusedVariables false
namespace Go.Proofs.Ytdjdjkgoelbbdaa
open Go.RowKit

/-- What lies in memory of one's own is read. -/
theorem owns_rd {w : World} {B : Nat} {v : Value} {l : List Int} (h : w.ownsRow B 3 1 v l.length (ints l)) : RdWords w v l := by
  obtain ⟨ao, cap, rfl⟩ := owns_slice h
  refine ⟨ao, cap, rfl, owns_le h, fun i hi => ?_⟩
  obtain ⟨b, rfl, _, hb, hc⟩ := owns_cell h rfl (i := i) (by rw [ints_length]; exact hi)
  refine ⟨b, 0, rfl, ?_⟩
  rw [Nat.zero_add, hc]
  simp [ints, List.getD, hi]

set_option maxRecDepth 100000 in
set_option maxHeartbeats 1000000 in
theorem kSameInts_any (v u : Value) (l : List Int) (w : World) (hv : RdWords w v l) (hu : RdWords w u l) :
    Calls Try.prog 27 #[v, u] w fun e w' => e = .returned (.bool true) ∧ Below w.heap.size w w' := by
  obtain ⟨ao, cap, rfl, hl, hc⟩ := hv
  obtain ⟨bo, cap2, rfl, _, hd⟩ := hu
  go_enter Try.func27, Try.ntmps27
  go_wp2
  go_loopw [5] (fun i wr => ∃ (k : Nat), k ≤ l.length ∧ i = .int .i64 k ∧ Below w.heap.size w wr)
    (fun i _ => l.length - (intOf i).toNat)
  case atStart => exact ⟨0, Nat.zero_le _, rfl, Below.refl _ _⟩
  case round =>
    obtain ⟨k, hk, rfl, hbel⟩ := hrel
    by_cases hlt : k < l.length
    · obtain ⟨b, off, rfl, h1⟩ := hc k hlt
      obtain ⟨b2, off2, rfl, h2⟩ := hd k hlt
      have g1 := cell_keep hbel h1
      have g2 := cell_keep hbel h2
      have hki : (k : Int) < (l.length : Int) := by omega
      have hbd : ∀ d, Below w.heap.size w (wr.drewN d) := fun d => below_drewN hbel d
      clear h1 h2 hc hd
      generalize l.getD k 0 = x at *
      go_wp2
      go_quiet (fail)
      go_wp2
      go_roundw
      case rel => exact ⟨k + 1, by omega, by go_num, hbd _⟩
      case measure => simp [intOf]; omega
    · go_wp2
      go_ret
      exact ⟨rfl, hbel⟩

set_option maxRecDepth 100000 in
set_option maxHeartbeats 1000000 in
theorem lSameInts_any (v u : Value) (l : List Int) (w : World) (hv : RdWords w v l) (hu : RdWords w u l) :
    Calls Try.prog 64 #[v, u] w fun e w' => e = .returned (.bool true) ∧ Below w.heap.size w w' := by
  obtain ⟨ao, cap, rfl, hl, hc⟩ := hv
  obtain ⟨bo, cap2, rfl, _, hd⟩ := hu
  go_enter Try.func64, Try.ntmps64
  go_wp2
  go_loopw [5] (fun i wr => ∃ (k : Nat), k ≤ l.length ∧ i = .int .i64 k ∧ Below w.heap.size w wr)
    (fun i _ => l.length - (intOf i).toNat)
  case atStart => exact ⟨0, Nat.zero_le _, rfl, Below.refl _ _⟩
  case round =>
    obtain ⟨k, hk, rfl, hbel⟩ := hrel
    by_cases hlt : k < l.length
    · obtain ⟨b, off, rfl, h1⟩ := hc k hlt
      obtain ⟨b2, off2, rfl, h2⟩ := hd k hlt
      have g1 := cell_keep hbel h1
      have g2 := cell_keep hbel h2
      have hki : (k : Int) < (l.length : Int) := by omega
      have hbd : ∀ d, Below w.heap.size w (wr.drewN d) := fun d => below_drewN hbel d
      clear h1 h2 hc hd
      generalize l.getD k 0 = x at *
      go_wp2
      go_quiet (fail)
      go_wp2
      go_roundw
      case rel => exact ⟨k + 1, by omega, by go_num, hbd _⟩
      case measure => simp [intOf]; omega
    · go_wp2
      go_ret
      exact ⟨rfl, hbel⟩

set_option maxRecDepth 100000 in
set_option maxHeartbeats 1000000 in
theorem kSameOutcome_any (k r : Int) (mv lv mv2 lv2 : Value) (m l : List Int) (w : World) (hm : RdWords w mv m) (hl : RdWords w lv l) (hm2 : RdWords w mv2 m) (hl2 : RdWords w lv2 l) :
    Calls Try.prog 28 #[.agg #[.int .i64 k, .int .i64 r, mv, lv], .agg #[.int .i64 k, .int .i64 r, mv2, lv2]] w fun e w' => e = .returned (.bool true) ∧ Below w.heap.size w w' := by
  obtain ⟨mo, mc, rfl, _, _⟩ := id hm
  obtain ⟨lo, lc, rfl, _, _⟩ := id hl
  obtain ⟨mo2, mc2, rfl, _, _⟩ := id hm2
  obtain ⟨lo2, lc2, rfl, _, _⟩ := id hl2
  have rA : Row ((w.alloc (.cells #[.int .i64 k, .int .i64 r, .slice mo m.length mc, .slice lo l.length lc] 54)).alloc (.cells #[.int .i64 k, .int .i64 r, .slice mo2 m.length mc2, .slice lo2 l.length lc2] 54)) w.heap.size 54 [.int .i64 k, .int .i64 r, .slice mo m.length mc, .slice lo l.length lc] := by
    have q : Row (w.alloc (.cells #[.int .i64 k, .int .i64 r, .slice mo m.length mc, .slice lo l.length lc] 54)) w.heap.size 54 [.int .i64 k, .int .i64 r, .slice mo m.length mc, .slice lo l.length lc] := heap_alloc_new w _
    exact q.alloc _
  have rB : Row ((w.alloc (.cells #[.int .i64 k, .int .i64 r, .slice mo m.length mc, .slice lo l.length lc] 54)).alloc (.cells #[.int .i64 k, .int .i64 r, .slice mo2 m.length mc2, .slice lo2 l.length lc2] 54)) (w.heap.size + 1) 54 [.int .i64 k, .int .i64 r, .slice mo2 m.length mc2, .slice lo2 l.length lc2] := heap_alloc2_new w _ _
  have hbW : Below w.heap.size w ((w.alloc (.cells #[.int .i64 k, .int .i64 r, .slice mo m.length mc, .slice lo l.length lc] 54)).alloc (.cells #[.int .i64 k, .int .i64 r, .slice mo2 m.length mc2, .slice lo2 l.length lc2] 54)) := ((Below.refl w.heap.size w).alloc (Nat.le_refl _) _).alloc (by simp) _
  have a2 := rA.cell (i := 2) rfl
  have b2 := rB.cell (i := 2) rfl
  go_enter Try.func28, Try.ntmps28
  go_wp2_with fail
  refine (kSameInts_any _ _ m _ (hm.keep hbW) (hm2.keep hbW)).mono ?_
  rintro e w1 ⟨rfl, hb1⟩
  have hb01 := hbW.trans (hb1.mono (by simp; omega))
  have a3 := (rA.keep hb1).cell (i := 3) rfl
  have b3 := (rB.keep hb1).cell (i := 3) rfl
  have rA1 := rA.keep hb1
  have rB1 := rB.keep hb1
  clear rA rB a2 b2 hb1 hbW
  go_wp2_with fail
  refine (kSameInts_any _ _ l _ (hl.keep hb01) (hl2.keep hb01)).mono ?_
  rintro e w2 ⟨rfl, hb2⟩
  have hb02 := hb01.trans (hb2.mono hb01.size)
  have a0 := (rA1.keep hb2).cell (i := 0) rfl
  have b0 := (rB1.keep hb2).cell (i := 0) rfl
  have a1 := (rA1.keep hb2).cell (i := 1) rfl
  have b1 := (rB1.keep hb2).cell (i := 1) rfl
  go_wp2
  go_ret
  exact ⟨by simp, hb02⟩

set_option maxRecDepth 100000 in
set_option maxHeartbeats 1000000 in
theorem lSameOutcome_any (k r : Int) (mv lv mv2 lv2 : Value) (m l : List Int) (w : World) (hm : RdWords w mv m) (hl : RdWords w lv l) (hm2 : RdWords w mv2 m) (hl2 : RdWords w lv2 l) :
    Calls Try.prog 62 #[.agg #[.int .i64 k, .int .i64 r, mv, lv], .agg #[.int .i64 k, .int .i64 r, mv2, lv2]] w fun e w' => e = .returned (.bool true) ∧ Below w.heap.size w w' := by
  obtain ⟨mo, mc, rfl, _, _⟩ := id hm
  obtain ⟨lo, lc, rfl, _, _⟩ := id hl
  obtain ⟨mo2, mc2, rfl, _, _⟩ := id hm2
  obtain ⟨lo2, lc2, rfl, _, _⟩ := id hl2
  have rA : Row ((w.alloc (.cells #[.int .i64 k, .int .i64 r, .slice mo m.length mc, .slice lo l.length lc] 54)).alloc (.cells #[.int .i64 k, .int .i64 r, .slice mo2 m.length mc2, .slice lo2 l.length lc2] 54)) w.heap.size 54 [.int .i64 k, .int .i64 r, .slice mo m.length mc, .slice lo l.length lc] := by
    have q : Row (w.alloc (.cells #[.int .i64 k, .int .i64 r, .slice mo m.length mc, .slice lo l.length lc] 54)) w.heap.size 54 [.int .i64 k, .int .i64 r, .slice mo m.length mc, .slice lo l.length lc] := heap_alloc_new w _
    exact q.alloc _
  have rB : Row ((w.alloc (.cells #[.int .i64 k, .int .i64 r, .slice mo m.length mc, .slice lo l.length lc] 54)).alloc (.cells #[.int .i64 k, .int .i64 r, .slice mo2 m.length mc2, .slice lo2 l.length lc2] 54)) (w.heap.size + 1) 54 [.int .i64 k, .int .i64 r, .slice mo2 m.length mc2, .slice lo2 l.length lc2] := heap_alloc2_new w _ _
  have hbW : Below w.heap.size w ((w.alloc (.cells #[.int .i64 k, .int .i64 r, .slice mo m.length mc, .slice lo l.length lc] 54)).alloc (.cells #[.int .i64 k, .int .i64 r, .slice mo2 m.length mc2, .slice lo2 l.length lc2] 54)) := ((Below.refl w.heap.size w).alloc (Nat.le_refl _) _).alloc (by simp) _
  have a2 := rA.cell (i := 2) rfl
  have b2 := rB.cell (i := 2) rfl
  go_enter Try.func62, Try.ntmps62
  go_wp2_with fail
  refine (lSameInts_any _ _ m _ (hm.keep hbW) (hm2.keep hbW)).mono ?_
  rintro e w1 ⟨rfl, hb1⟩
  have hb01 := hbW.trans (hb1.mono (by simp; omega))
  have a3 := (rA.keep hb1).cell (i := 3) rfl
  have b3 := (rB.keep hb1).cell (i := 3) rfl
  have rA1 := rA.keep hb1
  have rB1 := rB.keep hb1
  clear rA rB a2 b2 hb1 hbW
  go_wp2_with fail
  refine (lSameInts_any _ _ l _ (hl.keep hb01) (hl2.keep hb01)).mono ?_
  rintro e w2 ⟨rfl, hb2⟩
  have hb02 := hb01.trans (hb2.mono hb01.size)
  have a0 := (rA1.keep hb2).cell (i := 0) rfl
  have b0 := (rB1.keep hb2).cell (i := 0) rfl
  have a1 := (rA1.keep hb2).cell (i := 1) rfl
  have b1 := (rB1.keep hb2).cell (i := 1) rfl
  go_wp2
  go_ret
  exact ⟨by simp, hb02⟩

theorem prefix_get {a b : List Int} (h : a <+: b) {k : Nat} (hk : k < a.length) : b.getD k 0 = a.getD k 0 := by
  obtain ⟨t, rfl⟩ := h
  simp [List.getD, hk, List.getElem?_append_left hk]

set_option maxRecDepth 100000 in
set_option maxHeartbeats 1000000 in
theorem prefix_any (v u : Value) (l m : List Int) (w : World) (hv : RdWords w v l) (hu : RdWords w u m) (hp : l <+: m) :
    Calls Try.prog 29 #[v, u] w fun e w' => e = .returned (.bool true) ∧ Below w.heap.size w w' := by
  obtain ⟨ao, cap, rfl, hl, hc⟩ := hv
  obtain ⟨bo, cap2, rfl, _, hd⟩ := hu
  have hlm := hp.length_le
  have hle : (l.length : Int) ≤ (m.length : Int) := by omega
  go_enter Try.func29, Try.ntmps29
  go_wp2
  go_loopw [5] (fun i wr => ∃ (k : Nat), k ≤ l.length ∧ i = .int .i64 k ∧ Below w.heap.size w wr)
    (fun i _ => l.length - (intOf i).toNat)
  case atStart => exact ⟨0, Nat.zero_le _, rfl, Below.refl _ _⟩
  case round =>
    obtain ⟨k, hk, rfl, hbel⟩ := hrel
    by_cases hlt : k < l.length
    · obtain ⟨b, off, rfl, h1⟩ := hc k hlt
      obtain ⟨b2, off2, rfl, h2⟩ := hd k (by omega)
      rw [prefix_get hp hlt] at h2
      have g1 := cell_keep hbel h1
      have g2 := cell_keep hbel h2
      have hki : (k : Int) < (l.length : Int) := by omega
      have hkj : (k : Int) < (m.length : Int) := by omega
      have hbd : ∀ d, Below w.heap.size w (wr.drewN d) := fun d => below_drewN hbel d
      clear h1 h2 hc hd
      generalize l.getD k 0 = x at *
      go_wp2
      go_quiet (fail)
      go_wp2
      go_roundw
      case rel => exact ⟨k + 1, by omega, by go_num, hbd _⟩
      case measure => simp [intOf]; omega
    · go_wp2
      go_ret
      exact ⟨rfl, hbel⟩

end Go.Proofs.Ytdjdjkgoelbbdaa
