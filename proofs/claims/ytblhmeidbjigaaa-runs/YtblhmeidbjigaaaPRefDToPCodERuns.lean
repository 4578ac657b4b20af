/- Well made programs, in the document's answer. -/
import Derived.Test.YtblhmeidbjigaaaRows
import Derived.WalkKit
import Derived.WalkSpells
import Derived.WalkLawsBesides
import Derived.Laws.BytesArg
import Derived.Deep.QuietTactic
import Derived.BigQuiet
import Derived.Deep.RegionHeld3
import Derived.Test.YtblhmeidbjigaaaMDatToPRefCRuns

set_option linter.unusedSimpArgs false
set_option linter.unusedVariables false
namespace Go.Proofs.Ytblhmeidbjigaaa
open Go.RowKit

set_option maxRecDepth 100000 in
set_option maxHeartbeats 4000000 in
theorem rGood_any (args regs data slots : Int) (v : Value) (l : List BlockD) (w : World) (hr : RdBlocks w v l) :
    Calls Try.prog 30 #[.agg #[.int .i64 args, .int .i64 regs, .int .i64 data, .int .i64 slots, v]] w fun e w' => e = .returned (.bool (progGood ⟨args, regs, data, slots, l⟩)) ∧ Below w.heap.size w w' := by
  obtain ⟨ao, cap, rfl, hl, hc⟩ := hr
  obtain ⟨G, hG⟩ : ∃ G, progGood ⟨args, regs, data, slots, l⟩ = G := ⟨_, rfl⟩
  rw [hG]
  have hno : ¬ (1 ≤ regs ∧ regs ≤ 8 ∧ 0 ≤ args ∧ args ≤ regs ∧ 0 ≤ data ∧ data ≤ 8 ∧ 0 ≤ slots ∧ slots ≤ 8 ∧ 1 ≤ l.length ∧ l.length ≤ 6) → G = false := by
    intro h
    rw [← hG]
    apply Bool.eq_false_iff.2
    intro hh
    simp [progGood] at hh
    exact h (by omega)
  have HB : Hid (Below w.heap.size w (w.alloc (.cells #[.int .i64 args, .int .i64 regs, .int .i64 data, .int .i64 slots, .slice ao l.length cap] 24))) := (Below.refl _ _).alloc (Nat.le_refl _) _
  by_cases t0 : regs < 1
  · have hGf : G = false := hno (by omega)
    subst hGf
    clear hG hno
    go_enter Try.func30, Try.ntmps30
    go_wp2
    go_ret
    exact ⟨rfl, HB.out⟩
  by_cases t1 : 8 < regs
  · have hGf : G = false := hno (by omega)
    subst hGf
    clear hG hno
    go_enter Try.func30, Try.ntmps30
    go_wp2
    go_ret
    exact ⟨rfl, HB.out⟩
  by_cases t2 : args < 0
  · have hGf : G = false := hno (by omega)
    subst hGf
    clear hG hno
    go_enter Try.func30, Try.ntmps30
    go_wp2
    go_ret
    exact ⟨rfl, HB.out⟩
  by_cases t3 : regs < args
  · have hGf : G = false := hno (by omega)
    subst hGf
    clear hG hno
    go_enter Try.func30, Try.ntmps30
    go_wp2
    go_ret
    exact ⟨rfl, HB.out⟩
  by_cases t4 : data < 0
  · have hGf : G = false := hno (by omega)
    subst hGf
    clear hG hno
    go_enter Try.func30, Try.ntmps30
    go_wp2
    go_ret
    exact ⟨rfl, HB.out⟩
  by_cases t5 : 8 < data
  · have hGf : G = false := hno (by omega)
    subst hGf
    clear hG hno
    go_enter Try.func30, Try.ntmps30
    go_wp2
    go_ret
    exact ⟨rfl, HB.out⟩
  by_cases t6 : slots < 0
  · have hGf : G = false := hno (by omega)
    subst hGf
    clear hG hno
    go_enter Try.func30, Try.ntmps30
    go_wp2
    go_ret
    exact ⟨rfl, HB.out⟩
  by_cases t7 : 8 < slots
  · have hGf : G = false := hno (by omega)
    subst hGf
    clear hG hno
    go_enter Try.func30, Try.ntmps30
    go_wp2
    go_ret
    exact ⟨rfl, HB.out⟩
  by_cases t8 : (l.length : Int) < 1
  · have hGf : G = false := hno (by omega)
    subst hGf
    clear hG hno
    go_enter Try.func30, Try.ntmps30
    go_wp2
    go_ret
    exact ⟨rfl, HB.out⟩
  by_cases t9 : (6 : Int) < l.length
  · have hGf : G = false := hno (by omega)
    subst hGf
    clear hG hno
    go_enter Try.func30, Try.ntmps30
    go_wp2
    go_ret
    exact ⟨rfl, HB.out⟩
  have HG : Hid (G = bgFrom regs slots l.length l 0) := by
    show G = _
    rw [← hG]
    simp only [progGood, bgFrom, List.drop_zero]
    rw [show decide (1 ≤ regs ∧ regs ≤ 8) = true by simp; omega, show decide (0 ≤ args ∧ args ≤ regs) = true by simp; omega, show decide (0 ≤ data ∧ data ≤ 8) = true by simp; omega, show decide (0 ≤ slots ∧ slots ≤ 8) = true by simp; omega, show decide (1 ≤ l.length ∧ l.length ≤ 6) = true by simp; omega]
    rfl
  clear hG hno HB
  go_enter Try.func30, Try.ntmps30
  go_wp2
  go_loopw [3] (fun i wr => ∃ (k : Nat), k ≤ l.length ∧ i = .int .i64 k ∧ Hid (G = bgFrom regs slots l.length l k) ∧ Below (w.heap.size + 1) (w.alloc (.cells #[.int .i64 args, .int .i64 regs, .int .i64 data, .int .i64 slots, .slice ao l.length cap] 24)) wr)
    (fun i _ => l.length - (intOf i).toNat)
  case atStart => exact ⟨0, Nat.zero_le _, rfl, HG, Below.refl _ _⟩
  case round =>
    obtain ⟨k, hk, rfl, hg, hbel⟩ := hrel
    clear HG
    have hb0 := Below.under hbel
    have p0 : wr.cell? ⟨w.heap.size, 0, none⟩ = some (.int .i64 args) := (hbel.cell (by simp)).trans (by simp)
    have p1 : wr.cell? ⟨w.heap.size, 1, none⟩ = some (.int .i64 regs) := (hbel.cell (by simp)).trans (by simp)
    have p2 : wr.cell? ⟨w.heap.size, 2, none⟩ = some (.int .i64 data) := (hbel.cell (by simp)).trans (by simp)
    have p3 : wr.cell? ⟨w.heap.size, 3, none⟩ = some (.int .i64 slots) := (hbel.cell (by simp)).trans (by simp)
    have p4 : wr.cell? ⟨w.heap.size, 4, none⟩ = some (.slice ao l.length cap) := (hbel.cell (by simp)).trans (by simp)
    have hz := hbel.size
    simp at hz
    by_cases hlt : k < l.length
    case neg =>
      have hGt : G = true := by rw [hg.out, bgFrom_end (by omega)]
      subst hGt
      clear hg
      go_wp2
      go_ret
      exact ⟨rfl, hb0⟩
    obtain ⟨b, off, sv, rfl, c1, c2, c3, c4, c5, c6⟩ := hc k hlt
    have e1 := cell_keep hb0 c1
    have e2 := cell_keep hb0 c2
    have e3 := cell_keep hb0 c3
    have e4 := cell_keep hb0 c4
    have e5 := cell_keep hb0 c5
    have e6 := c6.keep hb0
    obtain ⟨so, sc, es, _, hops⟩ := id e6
    subst es
    have u0 := fun z : Past wr.heap.size wr => z.cell p0
    have u1 := fun z : Past wr.heap.size wr => z.cell p1
    have u2 := fun z : Past wr.heap.size wr => z.cell p2
    have u3 := fun z : Past wr.heap.size wr => z.cell p3
    have u4 := fun z : Past wr.heap.size wr => z.cell p4
    have f2 := fun z : Past wr.heap.size wr => z.cell e2
    have f3 := fun z : Past wr.heap.size wr => z.cell e3
    have f4 := fun z : Past wr.heap.size wr => z.cell e4
    have f5 := fun z : Past wr.heap.size wr => z.cell e5
    have np := Past.any wr.heap.size wr
    have HS : Hid (bgFrom regs slots l.length l k = (blockGood regs slots l.length ⟨bops l k, ⟨bek l k, ber l k, bex l k, bey l k⟩⟩ && bgFrom regs slots l.length l (k + 1))) := bgFrom_step hlt
    obtain ⟨wo, hwo⟩ : ∃ wo, wo = wr := ⟨_, rfl⟩
    subst hwo
    go_wp2
    refine wp_region_past wo.heap.size (by kernel_rfl) (by kernel_rfl) ?_
    repeat (go_big_quiet_step (exact Calls.past_of (Nat.le_refl _) (gEnd_any _ _ _ _ _ _ _ _ _ _ _ _)))
    refine wpQuiet_nil ?_
    rintro _ ⟨z, rfl⟩
    have hb1 := hbel.trans (z.ok.mono (by omega))
    have hb01 := hb0.trans (z.ok.mono (by omega))
    have hzz := z.ok.size
    have g1 := z.cell e1
    have r0 := z.cell p0
    have r1 := z.cell p1
    have r2 := z.cell p2
    have r3 := z.cell p3
    have r4 := z.cell p4
    have hops1 := e6.keep z.ok
    generalize z.wd = w1 at *
    clear u0 u1 u2 u3 u4 f2 f3 f4 f5 np p0 p1 p2 p3 p4 e1 e2 e3 e4 e5 hops hbel e6 hb0
    cases h3 : endGood regs l.length ⟨bek l k, ber l k, bex l k, bey l k⟩
    · have hGf : G = false := by rw [hg.out, HS.out]; simp [blockGood, h3]
      subst hGf
      clear hg HS
      go_wp2
      go_ret
      exact ⟨rfl, hb01⟩
    by_cases h4 : (12 : Int) < (bops l k).length
    · have hGf : G = false := by rw [hg.out, HS.out]; simp [blockGood, show ¬ (bops l k).length ≤ 12 by omega]
      subst hGf
      clear hg HS
      go_wp2
      go_ret
      exact ⟨rfl, hb01⟩
    have HP : Hid (G = (ogFrom regs slots (bops l k) 0 && bgFrom regs slots l.length l (k + 1))) := by
      show G = _
      rw [hg.out, HS.out]; simp [blockGood, h3, show (bops l k).length ≤ 12 by omega, ogFrom]
    clear hg HS h3
    generalize bops l k = os at *
    go_wp2
    go_loopw [4, 5] (fun ok i w2 => ∃ (j : Nat), j ≤ os.length ∧ i = .int .i64 j ∧ ok = .bool true ∧ Hid (G = (ogFrom regs slots os j && bgFrom regs slots l.length l (k + 1))) ∧ Below w1.heap.size w1 w2)
      (fun _ i _ => os.length - (intOf i).toNat)
    case atStart => exact ⟨0, Nat.zero_le _, rfl, rfl, HP, Below.refl _ _⟩
    case round =>
      obtain ⟨j, hj, rfl, rfl, hg, hbin⟩ := hrel
      clear HP
      have q0 := cell_keep hbin r0
      have q1 := cell_keep hbin r1
      have q2 := cell_keep hbin r2
      have q3 := cell_keep hbin r3
      have q4 := cell_keep hbin r4
      have h1 := cell_keep hbin g1
      have hzi := hbin.size
      by_cases hjl : j < os.length
      case neg =>
        have hG' : Hid (G = bgFrom regs slots l.length l (k + 1)) := by show G = _; rw [hg.out, ogFrom_end (by omega)]; rfl
        have hb' := hb1.trans (hbin.mono (by omega))
        clear hg
        go_wp2
        go_roundw
        case rel => exact ⟨k + 1, by omega, by go_num, hG', hb'⟩
        case measure => simp [intOf]; omega
      obtain ⟨so', sc', es, _, hops⟩ := hops1.keep hbin
      simp only [Value.slice.injEq, true_and] at es
      obtain ⟨rfl, rfl⟩ := es
      obtain ⟨b2, off2, rfl, d1, d2, d3, d4⟩ := hops j hjl
      have u0 := fun z : Past wr.heap.size wr => z.cell q0
      have u1 := fun z : Past wr.heap.size wr => z.cell q1
      have u2 := fun z : Past wr.heap.size wr => z.cell q2
      have u3 := fun z : Past wr.heap.size wr => z.cell q3
      have u4 := fun z : Past wr.heap.size wr => z.cell q4
      have v1 := fun z : Past wr.heap.size wr => z.cell h1
      have f1 := fun z : Past wr.heap.size wr => z.cell d1
      have f2 := fun z : Past wr.heap.size wr => z.cell d2
      have f3 := fun z : Past wr.heap.size wr => z.cell d3
      have f4 := fun z : Past wr.heap.size wr => z.cell d4
      have np := Past.any wr.heap.size wr
      have HS : Hid (ogFrom regs slots os j = (opGood regs slots ⟨okind os j, oa os j, ob os j, oc os j⟩ && ogFrom regs slots os (j + 1))) := ogFrom_step hjl
      go_wp2
      refine wp_region_past wr.heap.size (by kernel_rfl) (by kernel_rfl) ?_
      repeat (go_big_quiet_step (exact Calls.past_of (Nat.le_refl _) (gOp_any _ _ _ _ _ _ _ _ _ _ _ _)))
      refine wpQuiet_nil ?_
      rintro _ ⟨z, rfl⟩
      have hb2 := hbin.trans (z.ok.mono (by omega))
      have hb02 := hb01.trans (hb2.mono (by omega))
      generalize z.wd = w2 at *
      clear u0 u1 u2 u3 u4 v1 f1 f2 f3 f4 np q0 q1 q2 q3 q4 h1 d1 d2 d3 d4
      cases h5 : opGood regs slots ⟨okind os j, oa os j, ob os j, oc os j⟩
      · have hGf : G = false := by rw [hg.out, HS.out, h5]; rfl
        subst hGf
        clear hg HS
        go_wp2
        go_ret
        exact ⟨rfl, hb02⟩
      · have hG' : Hid (G = (ogFrom regs slots os (j + 1) && bgFrom regs slots l.length l (k + 1))) := by show G = _; rw [hg.out, HS.out, h5]; rfl
        clear hg HS
        go_wp2
        go_roundw
        case rel => exact ⟨j + 1, by omega, by go_num, rfl, hG', hb2⟩
        case measure => simp [intOf]; omega

end Go.Proofs.Ytblhmeidbjigaaa

/- The text of a program, in the document's answer. -/
set_option linter.unusedSimpArgs false
set_option linter.unusedVariables false
namespace Go.Proofs.Ytblhmeidbjigaaa
open Go.RowKit

theorem bytes4 (x y z u : Int) (w : World) : Calls Try.prog 62 #[.slice (some ⟨w.heap.size, 0, none⟩) 4 4] (w.alloc (.cells #[.int .i64 x, .int .i64 y, .int .i64 z, .int .i64 u] 3)) fun e w' => e = .returned (.string ⟨#[byt x, byt y, byt z, byt u]⟩) ∧ Below w.heap.size w w' := by
  have h := bytes_any w.heap.size 0 4 [x, y, z, u] (w.alloc (.cells #[.int .i64 x, .int .i64 y, .int .i64 z, .int .i64 u] 3)) (by simp) (by simp) (by
    intro i hi
    obtain rfl | rfl | rfl | rfl : i = 0 ∨ i = 1 ∨ i = 2 ∨ i = 3 := by simp at hi; omega
    all_goals simp [el])
  refine h.mono ?_
  rintro e w' ⟨rfl, hb⟩
  exact ⟨rfl, ((Below.refl _ _).alloc (Nat.le_refl _) _).trans (hb.mono (by simp))⟩

theorem bytes5 (x y z u v : Int) (w : World) : Calls Try.prog 62 #[.slice (some ⟨w.heap.size, 0, none⟩) 5 5] (w.alloc (.cells #[.int .i64 x, .int .i64 y, .int .i64 z, .int .i64 u, .int .i64 v] 3)) fun e w' => e = .returned (.string ⟨#[byt x, byt y, byt z, byt u, byt v]⟩) ∧ Below w.heap.size w w' := by
  have h := bytes_any w.heap.size 0 5 [x, y, z, u, v] (w.alloc (.cells #[.int .i64 x, .int .i64 y, .int .i64 z, .int .i64 u, .int .i64 v] 3)) (by simp) (by simp) (by
    intro i hi
    obtain rfl | rfl | rfl | rfl | rfl : i = 0 ∨ i = 1 ∨ i = 2 ∨ i = 3 ∨ i = 4 := by simp at hi; omega
    all_goals simp [el])
  refine h.mono ?_
  rintro e w' ⟨rfl, hb⟩
  exact ⟨rfl, ((Below.refl _ _).alloc (Nat.le_refl _) _).trans (hb.mono (by simp))⟩

/-- The text as far as the first k blocks, the k-th begun, and j of its operations. -/
def progAt (p : ProgD) (k j : Nat) : ByteArray := progTo p k ++ blockTo (bops p.blocks k) j

theorem progAt_start (p : ProgD) (k : Nat) : progAt p k 0 = progTo p k ++ ⟨#[byt (bops p.blocks k).length]⟩ := rfl

theorem progAt_step {p : ProgD} {k j : Nat} (hj : j < (bops p.blocks k).length) : progAt p k (j + 1) = progAt p k j ++ ⟨#[byt (okind (bops p.blocks k) j), byt (oa (bops p.blocks k) j), byt (ob (bops p.blocks k) j), byt (oc (bops p.blocks k) j)]⟩ := by
  unfold progAt; rw [blockTo_step hj, bappend_assoc]

theorem progAt_end {p : ProgD} {k j : Nat} (hk : k < p.blocks.length) (hj : (bops p.blocks k).length ≤ j) : progAt p k j ++ ⟨#[byt (bek p.blocks k), byt (ber p.blocks k), byt (bex p.blocks k), byt (bey p.blocks k)]⟩ = progTo p (k + 1) := by
  unfold progAt
  rw [bappend_assoc, blockTo_end ⟨bek p.blocks k, ber p.blocks k, bex p.blocks k, bey p.blocks k⟩ hj, progTo_step hk]

theorem progAt_size {p : ProgD} (hg : progGood p = true) {k j : Nat} (hk : k < p.blocks.length) (hj : j ≤ (bops p.blocks k).length) : (progAt p k j).size ≤ 400 := by
  have h1 := progTo_size hg k
  have h2 := progGood_ops hg hk
  have h3 := blockTo_size (bops p.blocks k) j hj
  unfold progAt
  rw [ByteArray.size_append]
  omega

set_option maxRecDepth 100000 in
set_option maxHeartbeats 4000000 in
theorem rText_any (p : ProgD) (v : Value) (w : World) (hr : RdBlocks w v p.blocks) (hg : progGood p = true) :
    Calls Try.prog 31 #[.agg #[.int .i64 p.args, .int .i64 p.regs, .int .i64 p.data, .int .i64 p.slots, v]] w fun e w' => e = .returned (.string (str (progText p))) ∧ Below w.heap.size w w' := by
  obtain ⟨ao, cap, rfl, hl, hc⟩ := hr
  obtain ⟨G, hG⟩ : ∃ G, str (progText p) = G := ⟨_, rfl⟩
  rw [hG]
  have HG : Hid (str (progText p) = G) := hG
  clear hG
  have hlen := (progGood_len hg).2
  have h0 : (⟨#[84, 87]⟩ : ByteArray) ++ ⟨#[byt p.args, byt p.regs, byt p.data, byt p.slots, byt p.blocks.length]⟩ = progTo p 0 := by
    show str [84, 87] ++ str [_, _, _, _, _] = _
    rw [str_append]; rfl
  have hb := bytes5 p.args p.regs p.data p.slots p.blocks.length (w.alloc (.cells #[.int .i64 p.args, .int .i64 p.regs, .int .i64 p.data, .int .i64 p.slots, .slice ao p.blocks.length cap] 24))
  simp only [World.size_alloc] at hb
  have HST : Hid (∀ k, k < p.blocks.length → progAt p k 0 = progTo p k ++ ⟨#[byt (bops p.blocks k).length]⟩) := fun k _ => progAt_start p k
  have HOP : Hid (∀ k, k < p.blocks.length → (bops p.blocks k).length ≤ 12) := fun k hk => progGood_ops hg hk
  have HSZ : Hid (∀ k, (progTo p k).size ≤ 330) := fun k => progTo_size hg k
  have HSA : Hid (∀ k j, k < p.blocks.length → j ≤ (bops p.blocks k).length → (progAt p k j).size ≤ 400) := fun k j h1 h2 => progAt_size hg h1 h2
  have HSS : Hid (∀ k j, j < (bops p.blocks k).length → progAt p k (j + 1) = progAt p k j ++ ⟨#[byt (okind (bops p.blocks k) j), byt (oa (bops p.blocks k) j), byt (ob (bops p.blocks k) j), byt (oc (bops p.blocks k) j)]⟩) := fun k j h => progAt_step h
  have HSE : Hid (∀ k j, k < p.blocks.length → (bops p.blocks k).length ≤ j → progAt p k j ++ ⟨#[byt (bek p.blocks k), byt (ber p.blocks k), byt (bex p.blocks k), byt (bey p.blocks k)]⟩ = progTo p (k + 1)) := fun k j h1 h2 => progAt_end h1 h2
  have HEN : Hid (progTo p p.blocks.length = G) := (progTo_end (Nat.le_refl _)).trans HG.out
  obtain ⟨T, hT⟩ : ∃ T : Nat → ByteArray, T = progTo p := ⟨_, rfl⟩
  obtain ⟨U, hU⟩ : ∃ U : Nat → Nat → ByteArray, U = progAt p := ⟨_, rfl⟩
  rw [← hT] at h0 HEN
  rw [← hT] at HST HSZ HSE
  rw [← hU] at HST HSA HSS HSE
  clear hT hU HG
  generalize p.blocks = l at *
  generalize p.args = a0 at *
  generalize p.regs = a1 at *
  generalize p.data = a2 at *
  generalize p.slots = a3 at *
  clear hg
  go_enter Try.func31, Try.ntmps31
  go_wp2_with fail
  refine hb.mono ?_
  clear hb
  rintro e w1 ⟨rfl, hb1⟩
  go_wp2
  go_loopw [3, 4] (fun s i wr => ∃ (k : Nat), k ≤ l.length ∧ i = .int .i64 k ∧ s = .string (T k) ∧ Below (w.heap.size + 1) (w.alloc (.cells #[.int .i64 a0, .int .i64 a1, .int .i64 a2, .int .i64 a3, .slice ao l.length cap] 24)) wr)
      (fun _ i _ => l.length - (intOf i).toNat)
  case atStart => exact ⟨0, Nat.zero_le _, rfl, by first | rfl | rw [← h0], by simpa using hb1⟩
  case round =>
    clear h0 hb1 w1
    obtain ⟨k, hk, rfl, rfl, hbel⟩ := hrel
    have hb0 := Below.under hbel
    have p4 : wr.cell? ⟨w.heap.size, 4, none⟩ = some (.slice ao l.length cap) := (hbel.cell (by simp)).trans (by simp)
    have hz := hbel.size
    simp at hz
    by_cases hlt : k < l.length
    case neg =>
      obtain rfl : k = l.length := by omega
      have he := HEN.out
      go_wp2
      go_ret
      exact ⟨by simp [he], hb0⟩
    obtain ⟨b, off, sv, rfl, c1, c2, c3, c4, c5, c6⟩ := hc k hlt
    have e1 := cell_keep hb0 c1
    have e6 := c6.keep hb0
    obtain ⟨so, sc, es, _, _⟩ := id e6
    subst es
    have hol := HOP.out k hlt
    have hsz := HSZ.out k
    have hb2 := bytes1 (bops l k).length wr
    have HA : Hid (U k 0 = T k ++ ⟨#[byt (bops l k).length]⟩) := HST.out k hlt
    obtain ⟨wo, hwo⟩ : ∃ wo, wo = wr := ⟨_, rfl⟩
    subst hwo
    go_wp2_with fail
    refine hb2.mono ?_
    clear hb2
    rintro e w1 ⟨rfl, hb3⟩
    clear p4 e1
    go_wp2
    go_loopw [3, 5] (fun s i w2 => ∃ (j : Nat), j ≤ (bops l k).length ∧ i = .int .i64 j ∧ s = .string (U k j) ∧ Below wo.heap.size wo w2)
      (fun _ i _ => (bops l k).length - (intOf i).toNat)
    case atStart => exact ⟨0, Nat.zero_le _, rfl, by rw [HA.out], hb3⟩
    case round =>
      clear hb3 w1
      obtain ⟨j, hj, rfl, rfl, hbin⟩ := hrel
      have hb1 := hbel.trans (hbin.mono (by omega))
      have hb01 := Below.under hb1
      have p4 : wr.cell? ⟨w.heap.size, 4, none⟩ = some (.slice (some ⟨b, off, none⟩) l.length cap) := (hb1.cell (by simp)).trans (by simp)
      have e1 := cell_keep hb01 c1
      have e2 := cell_keep hb01 c2
      have e3 := cell_keep hb01 c3
      have e4 := cell_keep hb01 c4
      have e5 := cell_keep hb01 c5
      have hsz2 := HSA.out k j hlt hj
      have hzi := hbin.size
      by_cases hjl : j < (bops l k).length
      case neg =>
        have HE : Hid (U k j ++ ⟨#[byt (bek l k), byt (ber l k), byt (bex l k), byt (bey l k)]⟩ = T (k + 1)) := HSE.out k j hlt (by omega)
        have hb4 := bytes4 (bek l k) (ber l k) (bex l k) (bey l k) (wr.alloc (.cells #[.int .i64 (bek l k), .int .i64 (ber l k), .int .i64 (bex l k), .int .i64 (bey l k)] 88))
        simp only [World.size_alloc] at hb4
        go_wp2_with fail
        refine hb4.mono ?_
        clear hb4
        rintro e w1 ⟨rfl, hb5⟩
        have hb6 := (hb1.alloc (by omega) (.cells #[.int .i64 (bek l k), .int .i64 (ber l k), .int .i64 (bex l k), .int .i64 (bey l k)] 88)).trans (hb5.mono (by first | omega | (simp; omega)))
        clear p4 e1 e2 e3 e4 e5 hb5
        go_wp2
        go_roundw
        case rel => exact ⟨k + 1, by omega, by go_num, by rw [HE.out], hb6⟩
        case measure => simp [intOf]; omega
      obtain ⟨so', sc', es, _, hops⟩ := e6.keep hbin
      simp only [Value.slice.injEq, true_and] at es
      obtain ⟨rfl, rfl⟩ := es
      obtain ⟨b2, off2, rfl, d1, d2, d3, d4⟩ := hops j hjl
      have HS : Hid (U k (j + 1) = U k j ++ ⟨#[byt (okind (bops l k) j), byt (oa (bops l k) j), byt (ob (bops l k) j), byt (oc (bops l k) j)]⟩) := HSS.out k j hjl
      have hb4 := bytes4 (okind (bops l k) j) (oa (bops l k) j) (ob (bops l k) j) (oc (bops l k) j) (wr.alloc (.cells #[.int .i64 (okind (bops l k) j), .int .i64 (oa (bops l k) j), .int .i64 (ob (bops l k) j), .int .i64 (oc (bops l k) j)] 101))
      simp only [World.size_alloc] at hb4
      go_wp2_with fail
      refine hb4.mono ?_
      clear hb4
      rintro e w1 ⟨rfl, hb5⟩
      have hb6 := (hbin.alloc (by omega) (.cells #[.int .i64 (okind (bops l k) j), .int .i64 (oa (bops l k) j), .int .i64 (ob (bops l k) j), .int .i64 (oc (bops l k) j)] 101)).trans (hb5.mono (by first | omega | (simp; omega)))
      clear p4 e1 e2 e3 e4 e5 hb5 d1 d2 d3 d4
      go_wp2
      go_roundw
      case rel => exact ⟨j + 1, by omega, by go_num, by rw [HS.out], hb6⟩
      case measure => simp [intOf]; omega

end Go.Proofs.Ytblhmeidbjigaaa

/- Well made programs, in the codec. -/
set_option linter.unusedSimpArgs false
set_option linter.unusedVariables false
namespace Go.Proofs.Ytblhmeidbjigaaa
open Go.RowKit

theorem int_beq0 (c : Int) : (c == 0) = decide (c = 0) := by by_cases h : c = 0 <;> simp [h]

set_option maxRecDepth 100000 in
set_option maxHeartbeats 2000000 in
theorem wmOp1 (args regs data slots : Int) (bo : Option Addr) (bn bc : Nat) (a b c : Int) (w : World) :
    Calls Try.prog 96 #[.agg #[.int .i64 args, .int .i64 regs, .int .i64 data, .int .i64 slots, .slice bo bn bc], .agg #[.int .i64 1, .int .i64 a, .int .i64 b, .int .i64 c]] w fun e w' => e = .returned (.bool (opGood regs slots ⟨1, a, b, c⟩)) ∧ Below w.heap.size w w' := by
  cases h1 : below a regs
  · go_enter Try.func96, Try.ntmps96
    go_wp2_with (go_at_call 87; refine (isBelow_any _ _ _).mono ?_; rintro e w' ⟨rfl, rfl⟩)
    go_ret
    exact ⟨by simp [opGood, h1], ((Below.refl _ _).alloc (Nat.le_refl _) _).alloc (by simp) _⟩
  cases h2 : below b 256
  · go_enter Try.func96, Try.ntmps96
    go_wp2_with (go_at_call 87; refine (isBelow_any _ _ _).mono ?_; rintro e w' ⟨rfl, rfl⟩)
    go_ret
    exact ⟨by simp [opGood, h1, h2, int_beq0], ((Below.refl _ _).alloc (Nat.le_refl _) _).alloc (by simp) _⟩
  · go_enter Try.func96, Try.ntmps96
    go_wp2_with (go_at_call 87; refine (isBelow_any _ _ _).mono ?_; rintro e w' ⟨rfl, rfl⟩)
    go_ret
    exact ⟨by simp [opGood, h1, h2, int_beq0], ((Below.refl _ _).alloc (Nat.le_refl _) _).alloc (by simp) _⟩

set_option maxRecDepth 100000 in
set_option maxHeartbeats 2000000 in
theorem wmOp2 (args regs data slots : Int) (bo : Option Addr) (bn bc : Nat) (a b c : Int) (w : World) :
    Calls Try.prog 96 #[.agg #[.int .i64 args, .int .i64 regs, .int .i64 data, .int .i64 slots, .slice bo bn bc], .agg #[.int .i64 2, .int .i64 a, .int .i64 b, .int .i64 c]] w fun e w' => e = .returned (.bool (opGood regs slots ⟨2, a, b, c⟩)) ∧ Below w.heap.size w w' := by
  cases h1 : below a regs
  · go_enter Try.func96, Try.ntmps96
    go_wp2_with (go_at_call 87; refine (isBelow_any _ _ _).mono ?_; rintro e w' ⟨rfl, rfl⟩)
    go_ret
    exact ⟨by simp [opGood, h1], ((Below.refl _ _).alloc (Nat.le_refl _) _).alloc (by simp) _⟩
  cases h2 : below b regs
  · go_enter Try.func96, Try.ntmps96
    go_wp2_with (go_at_call 87; refine (isBelow_any _ _ _).mono ?_; rintro e w' ⟨rfl, rfl⟩)
    go_ret
    exact ⟨by simp [opGood, h1, h2, int_beq0], ((Below.refl _ _).alloc (Nat.le_refl _) _).alloc (by simp) _⟩
  · go_enter Try.func96, Try.ntmps96
    go_wp2_with (go_at_call 87; refine (isBelow_any _ _ _).mono ?_; rintro e w' ⟨rfl, rfl⟩)
    go_ret
    exact ⟨by simp [opGood, h1, h2, int_beq0], ((Below.refl _ _).alloc (Nat.le_refl _) _).alloc (by simp) _⟩

set_option maxRecDepth 100000 in
set_option maxHeartbeats 2000000 in
theorem wmOp3 (args regs data slots : Int) (bo : Option Addr) (bn bc : Nat) (a b c : Int) (w : World) :
    Calls Try.prog 96 #[.agg #[.int .i64 args, .int .i64 regs, .int .i64 data, .int .i64 slots, .slice bo bn bc], .agg #[.int .i64 3, .int .i64 a, .int .i64 b, .int .i64 c]] w fun e w' => e = .returned (.bool (opGood regs slots ⟨3, a, b, c⟩)) ∧ Below w.heap.size w w' := by
  cases h1 : below a regs
  · go_enter Try.func96, Try.ntmps96
    go_wp2_with (go_at_call 87; refine (isBelow_any _ _ _).mono ?_; rintro e w' ⟨rfl, rfl⟩)
    go_ret
    exact ⟨by simp [opGood, h1], ((Below.refl _ _).alloc (Nat.le_refl _) _).alloc (by simp) _⟩
  cases h2 : below b regs
  · go_enter Try.func96, Try.ntmps96
    go_wp2_with (go_at_call 87; refine (isBelow_any _ _ _).mono ?_; rintro e w' ⟨rfl, rfl⟩)
    go_ret
    exact ⟨by simp [opGood, h1, h2, int_beq0], ((Below.refl _ _).alloc (Nat.le_refl _) _).alloc (by simp) _⟩
  · go_enter Try.func96, Try.ntmps96
    go_wp2_with (go_at_call 87; refine (isBelow_any _ _ _).mono ?_; rintro e w' ⟨rfl, rfl⟩)
    go_ret
    exact ⟨by simp [opGood, h1, h2, int_beq0], ((Below.refl _ _).alloc (Nat.le_refl _) _).alloc (by simp) _⟩

set_option maxRecDepth 100000 in
set_option maxHeartbeats 2000000 in
theorem wmOp4 (args regs data slots : Int) (bo : Option Addr) (bn bc : Nat) (a b c : Int) (w : World) :
    Calls Try.prog 96 #[.agg #[.int .i64 args, .int .i64 regs, .int .i64 data, .int .i64 slots, .slice bo bn bc], .agg #[.int .i64 4, .int .i64 a, .int .i64 b, .int .i64 c]] w fun e w' => e = .returned (.bool (opGood regs slots ⟨4, a, b, c⟩)) ∧ Below w.heap.size w w' := by
  cases h1 : below a regs
  · go_enter Try.func96, Try.ntmps96
    go_wp2_with (go_at_call 87; refine (isBelow_any _ _ _).mono ?_; rintro e w' ⟨rfl, rfl⟩)
    go_ret
    exact ⟨by simp [opGood, h1], ((Below.refl _ _).alloc (Nat.le_refl _) _).alloc (by simp) _⟩
  cases h2 : below b regs
  · go_enter Try.func96, Try.ntmps96
    go_wp2_with (go_at_call 87; refine (isBelow_any _ _ _).mono ?_; rintro e w' ⟨rfl, rfl⟩)
    go_ret
    exact ⟨by simp [opGood, h1, h2, int_beq0], ((Below.refl _ _).alloc (Nat.le_refl _) _).alloc (by simp) _⟩
  · go_enter Try.func96, Try.ntmps96
    go_wp2_with (go_at_call 87; refine (isBelow_any _ _ _).mono ?_; rintro e w' ⟨rfl, rfl⟩)
    go_ret
    exact ⟨by simp [opGood, h1, h2, int_beq0], ((Below.refl _ _).alloc (Nat.le_refl _) _).alloc (by simp) _⟩

set_option maxRecDepth 100000 in
set_option maxHeartbeats 2000000 in
theorem wmOp5 (args regs data slots : Int) (bo : Option Addr) (bn bc : Nat) (a b c : Int) (w : World) :
    Calls Try.prog 96 #[.agg #[.int .i64 args, .int .i64 regs, .int .i64 data, .int .i64 slots, .slice bo bn bc], .agg #[.int .i64 5, .int .i64 a, .int .i64 b, .int .i64 c]] w fun e w' => e = .returned (.bool (opGood regs slots ⟨5, a, b, c⟩)) ∧ Below w.heap.size w w' := by
  cases h1 : below a regs
  · go_enter Try.func96, Try.ntmps96
    go_wp2_with (go_at_call 87; refine (isBelow_any _ _ _).mono ?_; rintro e w' ⟨rfl, rfl⟩)
    go_ret
    exact ⟨by simp [opGood, h1], ((Below.refl _ _).alloc (Nat.le_refl _) _).alloc (by simp) _⟩
  cases h2 : below b regs
  · go_enter Try.func96, Try.ntmps96
    go_wp2_with (go_at_call 87; refine (isBelow_any _ _ _).mono ?_; rintro e w' ⟨rfl, rfl⟩)
    go_ret
    exact ⟨by simp [opGood, h1, h2, int_beq0], ((Below.refl _ _).alloc (Nat.le_refl _) _).alloc (by simp) _⟩
  · go_enter Try.func96, Try.ntmps96
    go_wp2_with (go_at_call 87; refine (isBelow_any _ _ _).mono ?_; rintro e w' ⟨rfl, rfl⟩)
    go_ret
    exact ⟨by simp [opGood, h1, h2, int_beq0], ((Below.refl _ _).alloc (Nat.le_refl _) _).alloc (by simp) _⟩

set_option maxRecDepth 100000 in
set_option maxHeartbeats 2000000 in
theorem wmOp6 (args regs data slots : Int) (bo : Option Addr) (bn bc : Nat) (a b c : Int) (w : World) :
    Calls Try.prog 96 #[.agg #[.int .i64 args, .int .i64 regs, .int .i64 data, .int .i64 slots, .slice bo bn bc], .agg #[.int .i64 6, .int .i64 a, .int .i64 b, .int .i64 c]] w fun e w' => e = .returned (.bool (opGood regs slots ⟨6, a, b, c⟩)) ∧ Below w.heap.size w w' := by
  cases h1 : below a regs
  · go_enter Try.func96, Try.ntmps96
    go_wp2_with (go_at_call 87; refine (isBelow_any _ _ _).mono ?_; rintro e w' ⟨rfl, rfl⟩)
    go_ret
    exact ⟨by simp [opGood, h1], ((Below.refl _ _).alloc (Nat.le_refl _) _).alloc (by simp) _⟩
  cases h2 : below b regs
  · go_enter Try.func96, Try.ntmps96
    go_wp2_with (go_at_call 87; refine (isBelow_any _ _ _).mono ?_; rintro e w' ⟨rfl, rfl⟩)
    go_ret
    exact ⟨by simp [opGood, h1, h2, int_beq0], ((Below.refl _ _).alloc (Nat.le_refl _) _).alloc (by simp) _⟩
  · go_enter Try.func96, Try.ntmps96
    go_wp2_with (go_at_call 87; refine (isBelow_any _ _ _).mono ?_; rintro e w' ⟨rfl, rfl⟩)
    go_ret
    exact ⟨by simp [opGood, h1, h2, int_beq0], ((Below.refl _ _).alloc (Nat.le_refl _) _).alloc (by simp) _⟩

set_option maxRecDepth 100000 in
set_option maxHeartbeats 2000000 in
theorem wmOp7 (args regs data slots : Int) (bo : Option Addr) (bn bc : Nat) (a b c : Int) (w : World) :
    Calls Try.prog 96 #[.agg #[.int .i64 args, .int .i64 regs, .int .i64 data, .int .i64 slots, .slice bo bn bc], .agg #[.int .i64 7, .int .i64 a, .int .i64 b, .int .i64 c]] w fun e w' => e = .returned (.bool (opGood regs slots ⟨7, a, b, c⟩)) ∧ Below w.heap.size w w' := by
  cases h1 : below a regs
  · go_enter Try.func96, Try.ntmps96
    go_wp2_with (go_at_call 87; refine (isBelow_any _ _ _).mono ?_; rintro e w' ⟨rfl, rfl⟩)
    go_ret
    exact ⟨by simp [opGood, h1], ((Below.refl _ _).alloc (Nat.le_refl _) _).alloc (by simp) _⟩
  cases h2 : below b regs
  · go_enter Try.func96, Try.ntmps96
    go_wp2_with (go_at_call 87; refine (isBelow_any _ _ _).mono ?_; rintro e w' ⟨rfl, rfl⟩)
    go_ret
    exact ⟨by simp [opGood, h1, h2, int_beq0], ((Below.refl _ _).alloc (Nat.le_refl _) _).alloc (by simp) _⟩
  · go_enter Try.func96, Try.ntmps96
    go_wp2_with (go_at_call 87; refine (isBelow_any _ _ _).mono ?_; rintro e w' ⟨rfl, rfl⟩)
    go_ret
    exact ⟨by simp [opGood, h1, h2, int_beq0], ((Below.refl _ _).alloc (Nat.le_refl _) _).alloc (by simp) _⟩

set_option maxRecDepth 100000 in
set_option maxHeartbeats 2000000 in
theorem wmOp8 (args regs data slots : Int) (bo : Option Addr) (bn bc : Nat) (a b c : Int) (w : World) :
    Calls Try.prog 96 #[.agg #[.int .i64 args, .int .i64 regs, .int .i64 data, .int .i64 slots, .slice bo bn bc], .agg #[.int .i64 8, .int .i64 a, .int .i64 b, .int .i64 c]] w fun e w' => e = .returned (.bool (opGood regs slots ⟨8, a, b, c⟩)) ∧ Below w.heap.size w w' := by
  cases h1 : below a regs
  · go_enter Try.func96, Try.ntmps96
    go_wp2_with (go_at_call 87; refine (isBelow_any _ _ _).mono ?_; rintro e w' ⟨rfl, rfl⟩)
    go_ret
    exact ⟨by simp [opGood, h1], ((Below.refl _ _).alloc (Nat.le_refl _) _).alloc (by simp) _⟩
  cases h2 : below b regs
  · go_enter Try.func96, Try.ntmps96
    go_wp2_with (go_at_call 87; refine (isBelow_any _ _ _).mono ?_; rintro e w' ⟨rfl, rfl⟩)
    go_ret
    exact ⟨by simp [opGood, h1, h2, int_beq0], ((Below.refl _ _).alloc (Nat.le_refl _) _).alloc (by simp) _⟩
  · go_enter Try.func96, Try.ntmps96
    go_wp2_with (go_at_call 87; refine (isBelow_any _ _ _).mono ?_; rintro e w' ⟨rfl, rfl⟩)
    go_ret
    exact ⟨by simp [opGood, h1, h2, int_beq0], ((Below.refl _ _).alloc (Nat.le_refl _) _).alloc (by simp) _⟩

set_option maxRecDepth 100000 in
set_option maxHeartbeats 2000000 in
theorem wmOp9 (args regs data slots : Int) (bo : Option Addr) (bn bc : Nat) (a b c : Int) (w : World) :
    Calls Try.prog 96 #[.agg #[.int .i64 args, .int .i64 regs, .int .i64 data, .int .i64 slots, .slice bo bn bc], .agg #[.int .i64 9, .int .i64 a, .int .i64 b, .int .i64 c]] w fun e w' => e = .returned (.bool (opGood regs slots ⟨9, a, b, c⟩)) ∧ Below w.heap.size w w' := by
  cases h1 : below a regs
  · go_enter Try.func96, Try.ntmps96
    go_wp2_with (go_at_call 87; refine (isBelow_any _ _ _).mono ?_; rintro e w' ⟨rfl, rfl⟩)
    go_ret
    exact ⟨by simp [opGood, h1], ((Below.refl _ _).alloc (Nat.le_refl _) _).alloc (by simp) _⟩
  cases h2 : below b regs
  · go_enter Try.func96, Try.ntmps96
    go_wp2_with (go_at_call 87; refine (isBelow_any _ _ _).mono ?_; rintro e w' ⟨rfl, rfl⟩)
    go_ret
    exact ⟨by simp [opGood, h1, h2, int_beq0], ((Below.refl _ _).alloc (Nat.le_refl _) _).alloc (by simp) _⟩
  · go_enter Try.func96, Try.ntmps96
    go_wp2_with (go_at_call 87; refine (isBelow_any _ _ _).mono ?_; rintro e w' ⟨rfl, rfl⟩)
    go_ret
    exact ⟨by simp [opGood, h1, h2, int_beq0], ((Below.refl _ _).alloc (Nat.le_refl _) _).alloc (by simp) _⟩

set_option maxRecDepth 100000 in
set_option maxHeartbeats 2000000 in
theorem wmOp10 (args regs data slots : Int) (bo : Option Addr) (bn bc : Nat) (a b c : Int) (w : World) :
    Calls Try.prog 96 #[.agg #[.int .i64 args, .int .i64 regs, .int .i64 data, .int .i64 slots, .slice bo bn bc], .agg #[.int .i64 10, .int .i64 a, .int .i64 b, .int .i64 c]] w fun e w' => e = .returned (.bool (opGood regs slots ⟨10, a, b, c⟩)) ∧ Below w.heap.size w w' := by
  cases h1 : below a regs
  · go_enter Try.func96, Try.ntmps96
    go_wp2_with (go_at_call 87; refine (isBelow_any _ _ _).mono ?_; rintro e w' ⟨rfl, rfl⟩)
    go_ret
    exact ⟨by simp [opGood, h1], ((Below.refl _ _).alloc (Nat.le_refl _) _).alloc (by simp) _⟩
  cases h2 : below b regs
  · go_enter Try.func96, Try.ntmps96
    go_wp2_with (go_at_call 87; refine (isBelow_any _ _ _).mono ?_; rintro e w' ⟨rfl, rfl⟩)
    go_ret
    exact ⟨by simp [opGood, h1, h2, int_beq0], ((Below.refl _ _).alloc (Nat.le_refl _) _).alloc (by simp) _⟩
  · go_enter Try.func96, Try.ntmps96
    go_wp2_with (go_at_call 87; refine (isBelow_any _ _ _).mono ?_; rintro e w' ⟨rfl, rfl⟩)
    go_ret
    exact ⟨by simp [opGood, h1, h2, int_beq0], ((Below.refl _ _).alloc (Nat.le_refl _) _).alloc (by simp) _⟩

set_option maxRecDepth 100000 in
set_option maxHeartbeats 2000000 in
theorem wmOp11 (args regs data slots : Int) (bo : Option Addr) (bn bc : Nat) (a b c : Int) (w : World) :
    Calls Try.prog 96 #[.agg #[.int .i64 args, .int .i64 regs, .int .i64 data, .int .i64 slots, .slice bo bn bc], .agg #[.int .i64 11, .int .i64 a, .int .i64 b, .int .i64 c]] w fun e w' => e = .returned (.bool (opGood regs slots ⟨11, a, b, c⟩)) ∧ Below w.heap.size w w' := by
  cases h1 : below a regs
  · go_enter Try.func96, Try.ntmps96
    go_wp2_with (go_at_call 87; refine (isBelow_any _ _ _).mono ?_; rintro e w' ⟨rfl, rfl⟩)
    go_ret
    exact ⟨by simp [opGood, h1], ((Below.refl _ _).alloc (Nat.le_refl _) _).alloc (by simp) _⟩
  cases h2 : below b regs
  · go_enter Try.func96, Try.ntmps96
    go_wp2_with (go_at_call 87; refine (isBelow_any _ _ _).mono ?_; rintro e w' ⟨rfl, rfl⟩)
    go_ret
    exact ⟨by simp [opGood, h1, h2, int_beq0], ((Below.refl _ _).alloc (Nat.le_refl _) _).alloc (by simp) _⟩
  · go_enter Try.func96, Try.ntmps96
    go_wp2_with (go_at_call 87; refine (isBelow_any _ _ _).mono ?_; rintro e w' ⟨rfl, rfl⟩)
    go_ret
    exact ⟨by simp [opGood, h1, h2, int_beq0], ((Below.refl _ _).alloc (Nat.le_refl _) _).alloc (by simp) _⟩

set_option maxRecDepth 100000 in
set_option maxHeartbeats 2000000 in
theorem wmOp12 (args regs data slots : Int) (bo : Option Addr) (bn bc : Nat) (a b c : Int) (w : World) :
    Calls Try.prog 96 #[.agg #[.int .i64 args, .int .i64 regs, .int .i64 data, .int .i64 slots, .slice bo bn bc], .agg #[.int .i64 12, .int .i64 a, .int .i64 b, .int .i64 c]] w fun e w' => e = .returned (.bool (opGood regs slots ⟨12, a, b, c⟩)) ∧ Below w.heap.size w w' := by
  cases h1 : below a regs
  · go_enter Try.func96, Try.ntmps96
    go_wp2_with (go_at_call 87; refine (isBelow_any _ _ _).mono ?_; rintro e w' ⟨rfl, rfl⟩)
    go_ret
    exact ⟨by simp [opGood, h1], ((Below.refl _ _).alloc (Nat.le_refl _) _).alloc (by simp) _⟩
  cases h2 : below b regs
  · go_enter Try.func96, Try.ntmps96
    go_wp2_with (go_at_call 87; refine (isBelow_any _ _ _).mono ?_; rintro e w' ⟨rfl, rfl⟩)
    go_ret
    exact ⟨by simp [opGood, h1, h2, int_beq0], ((Below.refl _ _).alloc (Nat.le_refl _) _).alloc (by simp) _⟩
  · go_enter Try.func96, Try.ntmps96
    go_wp2_with (go_at_call 87; refine (isBelow_any _ _ _).mono ?_; rintro e w' ⟨rfl, rfl⟩)
    go_ret
    exact ⟨by simp [opGood, h1, h2, int_beq0], ((Below.refl _ _).alloc (Nat.le_refl _) _).alloc (by simp) _⟩

set_option maxRecDepth 100000 in
set_option maxHeartbeats 2000000 in
theorem wmOp13 (args regs data slots : Int) (bo : Option Addr) (bn bc : Nat) (a b c : Int) (w : World) :
    Calls Try.prog 96 #[.agg #[.int .i64 args, .int .i64 regs, .int .i64 data, .int .i64 slots, .slice bo bn bc], .agg #[.int .i64 13, .int .i64 a, .int .i64 b, .int .i64 c]] w fun e w' => e = .returned (.bool (opGood regs slots ⟨13, a, b, c⟩)) ∧ Below w.heap.size w w' := by
  cases h1 : below a regs
  · go_enter Try.func96, Try.ntmps96
    go_wp2_with (go_at_call 87; refine (isBelow_any _ _ _).mono ?_; rintro e w' ⟨rfl, rfl⟩)
    go_ret
    exact ⟨by simp [opGood, h1], ((Below.refl _ _).alloc (Nat.le_refl _) _).alloc (by simp) _⟩
  cases h2 : below b regs
  · go_enter Try.func96, Try.ntmps96
    go_wp2_with (go_at_call 87; refine (isBelow_any _ _ _).mono ?_; rintro e w' ⟨rfl, rfl⟩)
    go_ret
    exact ⟨by simp [opGood, h1, h2, int_beq0], ((Below.refl _ _).alloc (Nat.le_refl _) _).alloc (by simp) _⟩
  · go_enter Try.func96, Try.ntmps96
    go_wp2_with (go_at_call 87; refine (isBelow_any _ _ _).mono ?_; rintro e w' ⟨rfl, rfl⟩)
    go_ret
    exact ⟨by simp [opGood, h1, h2, int_beq0], ((Below.refl _ _).alloc (Nat.le_refl _) _).alloc (by simp) _⟩

set_option maxRecDepth 100000 in
set_option maxHeartbeats 2000000 in
theorem wmOp14 (args regs data slots : Int) (bo : Option Addr) (bn bc : Nat) (a b c : Int) (w : World) :
    Calls Try.prog 96 #[.agg #[.int .i64 args, .int .i64 regs, .int .i64 data, .int .i64 slots, .slice bo bn bc], .agg #[.int .i64 14, .int .i64 a, .int .i64 b, .int .i64 c]] w fun e w' => e = .returned (.bool (opGood regs slots ⟨14, a, b, c⟩)) ∧ Below w.heap.size w w' := by
  cases h1 : below a slots
  · go_enter Try.func96, Try.ntmps96
    go_wp2_with (go_at_call 87; refine (isBelow_any _ _ _).mono ?_; rintro e w' ⟨rfl, rfl⟩)
    go_ret
    exact ⟨by simp [opGood, h1], ((Below.refl _ _).alloc (Nat.le_refl _) _).alloc (by simp) _⟩
  cases h2 : below b regs
  · go_enter Try.func96, Try.ntmps96
    go_wp2_with (go_at_call 87; refine (isBelow_any _ _ _).mono ?_; rintro e w' ⟨rfl, rfl⟩)
    go_ret
    exact ⟨by simp [opGood, h1, h2, int_beq0], ((Below.refl _ _).alloc (Nat.le_refl _) _).alloc (by simp) _⟩
  · go_enter Try.func96, Try.ntmps96
    go_wp2_with (go_at_call 87; refine (isBelow_any _ _ _).mono ?_; rintro e w' ⟨rfl, rfl⟩)
    go_ret
    exact ⟨by simp [opGood, h1, h2, int_beq0], ((Below.refl _ _).alloc (Nat.le_refl _) _).alloc (by simp) _⟩

set_option maxRecDepth 100000 in
set_option maxHeartbeats 2000000 in
theorem wmOp15 (args regs data slots : Int) (bo : Option Addr) (bn bc : Nat) (a b c : Int) (w : World) :
    Calls Try.prog 96 #[.agg #[.int .i64 args, .int .i64 regs, .int .i64 data, .int .i64 slots, .slice bo bn bc], .agg #[.int .i64 15, .int .i64 a, .int .i64 b, .int .i64 c]] w fun e w' => e = .returned (.bool (opGood regs slots ⟨15, a, b, c⟩)) ∧ Below w.heap.size w w' := by
  cases h1 : below a regs
  · go_enter Try.func96, Try.ntmps96
    go_wp2_with (go_at_call 87; refine (isBelow_any _ _ _).mono ?_; rintro e w' ⟨rfl, rfl⟩)
    go_ret
    exact ⟨by simp [opGood, h1], ((Below.refl _ _).alloc (Nat.le_refl _) _).alloc (by simp) _⟩
  cases h2 : below b slots
  · go_enter Try.func96, Try.ntmps96
    go_wp2_with (go_at_call 87; refine (isBelow_any _ _ _).mono ?_; rintro e w' ⟨rfl, rfl⟩)
    go_ret
    exact ⟨by simp [opGood, h1, h2, int_beq0], ((Below.refl _ _).alloc (Nat.le_refl _) _).alloc (by simp) _⟩
  · go_enter Try.func96, Try.ntmps96
    go_wp2_with (go_at_call 87; refine (isBelow_any _ _ _).mono ?_; rintro e w' ⟨rfl, rfl⟩)
    go_ret
    exact ⟨by simp [opGood, h1, h2, int_beq0], ((Below.refl _ _).alloc (Nat.le_refl _) _).alloc (by simp) _⟩

set_option maxRecDepth 100000 in
set_option maxHeartbeats 2000000 in
theorem wmOpNo (args regs data slots : Int) (bo : Option Addr) (bn bc : Nat) (k a b c : Int) (w : World) (hk : ¬ (1 ≤ k ∧ k ≤ 15)) :
    Calls Try.prog 96 #[.agg #[.int .i64 args, .int .i64 regs, .int .i64 data, .int .i64 slots, .slice bo bn bc], .agg #[.int .i64 k, .int .i64 a, .int .i64 b, .int .i64 c]] w fun e w' => e = .returned (.bool (opGood regs slots ⟨k, a, b, c⟩)) ∧ Below w.heap.size w w' := by
  have hg : opGood regs slots ⟨k, a, b, c⟩ = false := by
    unfold opGood
    rw [if_neg (by simp only []; omega), if_neg (by simp only []; omega), if_neg (by simp only []; omega), if_neg (by simp only []; omega), if_neg (by simp only []; omega)]
  have n1 : (k == 1) = false := by rw [beq_eq_false_iff_ne]; omega
  have n2 : (k == 2) = false := by rw [beq_eq_false_iff_ne]; omega
  have n3 : (k == 3) = false := by rw [beq_eq_false_iff_ne]; omega
  have n4 : (k == 4) = false := by rw [beq_eq_false_iff_ne]; omega
  have n5 : (k == 5) = false := by rw [beq_eq_false_iff_ne]; omega
  have n6 : (k == 6) = false := by rw [beq_eq_false_iff_ne]; omega
  have n7 : (k == 7) = false := by rw [beq_eq_false_iff_ne]; omega
  have n8 : (k == 8) = false := by rw [beq_eq_false_iff_ne]; omega
  have n9 : (k == 9) = false := by rw [beq_eq_false_iff_ne]; omega
  have n10 : (k == 10) = false := by rw [beq_eq_false_iff_ne]; omega
  have n11 : (k == 11) = false := by rw [beq_eq_false_iff_ne]; omega
  have n12 : (k == 12) = false := by rw [beq_eq_false_iff_ne]; omega
  have n13 : (k == 13) = false := by rw [beq_eq_false_iff_ne]; omega
  have n14 : (k == 14) = false := by rw [beq_eq_false_iff_ne]; omega
  have n15 : (k == 15) = false := by rw [beq_eq_false_iff_ne]; omega
  go_enter Try.func96, Try.ntmps96
  go_wp2
  go_ret
  exact ⟨by simp [hg], ((Below.refl _ _).alloc (Nat.le_refl _) _).alloc (by simp) _⟩

theorem wmOp_any (args regs data slots : Int) (bo : Option Addr) (bn bc : Nat) (k a b c : Int) (w : World) :
    Calls Try.prog 96 #[.agg #[.int .i64 args, .int .i64 regs, .int .i64 data, .int .i64 slots, .slice bo bn bc], .agg #[.int .i64 k, .int .i64 a, .int .i64 b, .int .i64 c]] w fun e w' => e = .returned (.bool (opGood regs slots ⟨k, a, b, c⟩)) ∧ Below w.heap.size w w' := by
  by_cases hk : 1 ≤ k ∧ k ≤ 15
  · have : k = 1 ∨ k = 2 ∨ k = 3 ∨ k = 4 ∨ k = 5 ∨ k = 6 ∨ k = 7 ∨ k = 8 ∨ k = 9 ∨ k = 10 ∨ k = 11 ∨ k = 12 ∨ k = 13 ∨ k = 14 ∨ k = 15 := by omega
    rcases this with rfl | rfl | rfl | rfl | rfl | rfl | rfl | rfl | rfl | rfl | rfl | rfl | rfl | rfl | rfl
    · exact wmOp1 args regs data slots bo bn bc a b c w
    · exact wmOp2 args regs data slots bo bn bc a b c w
    · exact wmOp3 args regs data slots bo bn bc a b c w
    · exact wmOp4 args regs data slots bo bn bc a b c w
    · exact wmOp5 args regs data slots bo bn bc a b c w
    · exact wmOp6 args regs data slots bo bn bc a b c w
    · exact wmOp7 args regs data slots bo bn bc a b c w
    · exact wmOp8 args regs data slots bo bn bc a b c w
    · exact wmOp9 args regs data slots bo bn bc a b c w
    · exact wmOp10 args regs data slots bo bn bc a b c w
    · exact wmOp11 args regs data slots bo bn bc a b c w
    · exact wmOp12 args regs data slots bo bn bc a b c w
    · exact wmOp13 args regs data slots bo bn bc a b c w
    · exact wmOp14 args regs data slots bo bn bc a b c w
    · exact wmOp15 args regs data slots bo bn bc a b c w
  · exact wmOpNo args regs data slots bo bn bc k a b c w hk

end Go.Proofs.Ytblhmeidbjigaaa

/- Well made ends, in the codec. -/
set_option linter.unusedSimpArgs false
set_option linter.unusedVariables false
namespace Go.Proofs.Ytblhmeidbjigaaa
open Go.RowKit

theorem int_beqz (c : Int) : (c == 0) = decide (c = 0) := by by_cases h : c = 0 <;> simp [h]

set_option maxRecDepth 100000 in
set_option maxHeartbeats 2000000 in
theorem wmEnd1 (args regs data slots : Int) (bo : Option Addr) (bn bc : Nat) (r x y : Int) (w : World) :
    Calls Try.prog 97 #[.agg #[.int .i64 args, .int .i64 regs, .int .i64 data, .int .i64 slots, .slice bo bn bc], .agg #[.int .i64 1, .int .i64 r, .int .i64 x, .int .i64 y]] w fun e w' => e = .returned (.bool (endGood regs bn ⟨1, r, x, y⟩)) ∧ Below w.heap.size w w' := by
  by_cases h0 : r = 0
  case neg =>
    have h1 : (r == 0) = false := by simp [h0]
    go_enter Try.func97, Try.ntmps97
    go_wp2_with (go_at_call 87; refine (isBelow_any _ _ _).mono ?_; rintro e w' ⟨rfl, rfl⟩)
    go_ret
    exact ⟨by simp [endGood, int_beqz, h0, h1], ((Below.refl _ _).alloc (Nat.le_refl _) _).alloc (by simp) _⟩
  subst h0
  cases h2 : below x bn
  · go_enter Try.func97, Try.ntmps97
    go_wp2_with (go_at_call 87; refine (isBelow_any _ _ _).mono ?_; rintro e w' ⟨rfl, rfl⟩)
    go_ret
    exact ⟨by simp [endGood, int_beqz, h2], ((Below.refl _ _).alloc (Nat.le_refl _) _).alloc (by simp) _⟩
  · go_enter Try.func97, Try.ntmps97
    go_wp2_with (go_at_call 87; refine (isBelow_any _ _ _).mono ?_; rintro e w' ⟨rfl, rfl⟩)
    go_ret
    exact ⟨by simp [endGood, int_beqz, h2], ((Below.refl _ _).alloc (Nat.le_refl _) _).alloc (by simp) _⟩

set_option maxRecDepth 100000 in
set_option maxHeartbeats 2000000 in
theorem wmEnd2 (args regs data slots : Int) (bo : Option Addr) (bn bc : Nat) (r x y : Int) (w : World) :
    Calls Try.prog 97 #[.agg #[.int .i64 args, .int .i64 regs, .int .i64 data, .int .i64 slots, .slice bo bn bc], .agg #[.int .i64 2, .int .i64 r, .int .i64 x, .int .i64 y]] w fun e w' => e = .returned (.bool (endGood regs bn ⟨2, r, x, y⟩)) ∧ Below w.heap.size w w' := by
  cases h1 : below r regs
  · go_enter Try.func97, Try.ntmps97
    go_wp2_with (go_at_call 87; refine (isBelow_any _ _ _).mono ?_; rintro e w' ⟨rfl, rfl⟩)
    go_ret
    exact ⟨by simp [endGood, int_beqz, h1], ((Below.refl _ _).alloc (Nat.le_refl _) _).alloc (by simp) _⟩
  cases h2 : below x bn
  · go_enter Try.func97, Try.ntmps97
    go_wp2_with (go_at_call 87; refine (isBelow_any _ _ _).mono ?_; rintro e w' ⟨rfl, rfl⟩)
    go_ret
    exact ⟨by simp [endGood, int_beqz, h1, h2], ((Below.refl _ _).alloc (Nat.le_refl _) _).alloc (by simp) _⟩
  · go_enter Try.func97, Try.ntmps97
    go_wp2_with (go_at_call 87; refine (isBelow_any _ _ _).mono ?_; rintro e w' ⟨rfl, rfl⟩)
    go_ret
    exact ⟨by simp [endGood, int_beqz, h1, h2], ((Below.refl _ _).alloc (Nat.le_refl _) _).alloc (by simp) _⟩

set_option maxRecDepth 100000 in
set_option maxHeartbeats 2000000 in
theorem wmEnd3 (args regs data slots : Int) (bo : Option Addr) (bn bc : Nat) (r x y : Int) (w : World) :
    Calls Try.prog 97 #[.agg #[.int .i64 args, .int .i64 regs, .int .i64 data, .int .i64 slots, .slice bo bn bc], .agg #[.int .i64 3, .int .i64 r, .int .i64 x, .int .i64 y]] w fun e w' => e = .returned (.bool (endGood regs bn ⟨3, r, x, y⟩)) ∧ Below w.heap.size w w' := by
  cases h1 : below r regs
  · go_enter Try.func97, Try.ntmps97
    go_wp2_with (go_at_call 87; refine (isBelow_any _ _ _).mono ?_; rintro e w' ⟨rfl, rfl⟩)
    go_ret
    exact ⟨by simp [endGood, int_beqz, h1], ((Below.refl _ _).alloc (Nat.le_refl _) _).alloc (by simp) _⟩
  by_cases h0 : x = 0
  case neg =>
    have h2 : (x == 0) = false := by simp [h0]
    go_enter Try.func97, Try.ntmps97
    go_wp2_with (go_at_call 87; refine (isBelow_any _ _ _).mono ?_; rintro e w' ⟨rfl, rfl⟩)
    go_ret
    exact ⟨by simp [endGood, int_beqz, h1, h0, h2], ((Below.refl _ _).alloc (Nat.le_refl _) _).alloc (by simp) _⟩
  subst h0
  · go_enter Try.func97, Try.ntmps97
    go_wp2_with (go_at_call 87; refine (isBelow_any _ _ _).mono ?_; rintro e w' ⟨rfl, rfl⟩)
    go_ret
    exact ⟨by simp [endGood, int_beqz, h1], ((Below.refl _ _).alloc (Nat.le_refl _) _).alloc (by simp) _⟩

set_option maxRecDepth 100000 in
set_option maxHeartbeats 2000000 in
theorem wmEndNo (args regs data slots : Int) (bo : Option Addr) (bn bc : Nat) (k r x y : Int) (w : World) (hk : ¬ (1 ≤ k ∧ k ≤ 3)) :
    Calls Try.prog 97 #[.agg #[.int .i64 args, .int .i64 regs, .int .i64 data, .int .i64 slots, .slice bo bn bc], .agg #[.int .i64 k, .int .i64 r, .int .i64 x, .int .i64 y]] w fun e w' => e = .returned (.bool (endGood regs bn ⟨k, r, x, y⟩)) ∧ Below w.heap.size w w' := by
  have hg : endGood regs bn ⟨k, r, x, y⟩ = false := by
    unfold endGood
    rw [if_neg (by simp only []; omega), if_neg (by simp only []; omega), if_neg (by simp only []; omega)]
  have n1 : (k == 1) = false := by rw [beq_eq_false_iff_ne]; omega
  have n2 : (k == 2) = false := by rw [beq_eq_false_iff_ne]; omega
  have n3 : (k == 3) = false := by rw [beq_eq_false_iff_ne]; omega
  go_enter Try.func97, Try.ntmps97
  go_wp2
  go_ret
  exact ⟨by simp [hg], ((Below.refl _ _).alloc (Nat.le_refl _) _).alloc (by simp) _⟩

theorem wmEnd_any (args regs data slots : Int) (bo : Option Addr) (bn bc : Nat) (k r x y : Int) (w : World) :
    Calls Try.prog 97 #[.agg #[.int .i64 args, .int .i64 regs, .int .i64 data, .int .i64 slots, .slice bo bn bc], .agg #[.int .i64 k, .int .i64 r, .int .i64 x, .int .i64 y]] w fun e w' => e = .returned (.bool (endGood regs bn ⟨k, r, x, y⟩)) ∧ Below w.heap.size w w' := by
  by_cases hk : 1 ≤ k ∧ k ≤ 3
  · have : k = 1 ∨ k = 2 ∨ k = 3 := by omega
    rcases this with rfl | rfl | rfl
    · exact wmEnd1 args regs data slots bo bn bc r x y w
    · exact wmEnd2 args regs data slots bo bn bc r x y w
    · exact wmEnd3 args regs data slots bo bn bc r x y w
  · exact wmEndNo args regs data slots bo bn bc k r x y w hk

end Go.Proofs.Ytblhmeidbjigaaa
