/- Lists of words held against each other. -/
import Derived.Test.YtblhmeidbjigaaaRows
import Derived.WalkKit
import Derived.WalkSpells
import Derived.WalkLawsBesides
import Derived.Laws.BytesArg
import Derived.Deep.QuietTactic
import Derived.BigQuiet
import Derived.Deep.RegionHeld3
import Derived.Maps.AppendAt
import Derived.StillTailTactics
import Derived.Test.YtblhmeidbjigaaaRLeaToMTwinRuns

set_option linter.unusedSimpArgs false
set_option linter.unusedVariables false
namespace Go.Proofs.Ytblhmeidbjigaaa
open Go.RowKit

/-- What lies in memory of one's own is read. -/
theorem owns_rd {w : World} {B : Nat} {v : Value} {l : List Int} (h : w.ownsRow B 3 1 v l.length (ints l)) : RdWords w v l := by
  obtain ⟨ao, cap, rfl⟩ := owns_slice h
  refine ⟨ao, cap, rfl, owns_le h, fun i hi => ?_⟩
  obtain ⟨b, rfl, _, hb, hc⟩ := owns_cell h rfl (i := i) (by rw [ints_length]; exact hi)
  refine ⟨b, 0, rfl, ?_⟩
  rw [Nat.zero_add, hc]
  simp [ints, List.getD, hi]

set_option maxRecDepth 100000 in
set_option maxHeartbeats 1000000 in
theorem lSameInts_any (v u : Value) (l : List Int) (w : World) (hv : RdWords w v l) (hu : RdWords w u l) :
    Calls Try.prog 56 #[v, u] w fun e w' => e = .returned (.bool true) ∧ Below w.heap.size w w' := by
  obtain ⟨ao, cap, rfl, hl, hc⟩ := hv
  obtain ⟨bo, cap2, rfl, _, hd⟩ := hu
  go_enter Try.func56, Try.ntmps56
  go_wp2
  go_loopw [5] (fun i wr => ∃ (k : Nat), k ≤ l.length ∧ i = .int .i64 k ∧ Below w.heap.size w wr)
    (fun i _ => l.length - (intOf i).toNat)
  case atStart => exact ⟨0, Nat.zero_le _, rfl, Below.refl _ _⟩
  case round =>
    obtain ⟨k, hk, rfl, hbel⟩ := hrel
    by_cases hlt : k < l.length
    · obtain ⟨b, off, rfl, h1⟩ := hc k hlt
      obtain ⟨b2, off2, rfl, h2⟩ := hd k hlt
      have g1 := cell_keep hbel h1
      have g2 := cell_keep hbel h2
      have hki : (k : Int) < (l.length : Int) := by omega
      have hbd : ∀ d, Below w.heap.size w (wr.drewN d) := fun d => below_drewN hbel d
      clear h1 h2 hc hd
      generalize l.getD k 0 = x at *
      go_wp2
      go_quiet (fail)
      go_wp2
      go_roundw
      case rel => exact ⟨k + 1, by omega, by go_num, hbd _⟩
      case measure => simp [intOf]; omega
    · go_wp2
      go_ret
      exact ⟨rfl, hbel⟩

set_option maxRecDepth 100000 in
set_option maxHeartbeats 1000000 in
theorem lSameOutcome_any (k r : Int) (mv lv mv2 lv2 : Value) (m l : List Int) (w : World) (hm : RdWords w mv m) (hl : RdWords w lv l) (hm2 : RdWords w mv2 m) (hl2 : RdWords w lv2 l) :
    Calls Try.prog 54 #[.agg #[.int .i64 k, .int .i64 r, mv, lv], .agg #[.int .i64 k, .int .i64 r, mv2, lv2]] w fun e w' => e = .returned (.bool true) ∧ Below w.heap.size w w' := by
  obtain ⟨mo, mc, rfl, _, _⟩ := id hm
  obtain ⟨lo, lc, rfl, _, _⟩ := id hl
  obtain ⟨mo2, mc2, rfl, _, _⟩ := id hm2
  obtain ⟨lo2, lc2, rfl, _, _⟩ := id hl2
  have rA : Row ((w.alloc (.cells #[.int .i64 k, .int .i64 r, .slice mo m.length mc, .slice lo l.length lc] 54)).alloc (.cells #[.int .i64 k, .int .i64 r, .slice mo2 m.length mc2, .slice lo2 l.length lc2] 54)) w.heap.size 54 [.int .i64 k, .int .i64 r, .slice mo m.length mc, .slice lo l.length lc] := by
    have q : Row (w.alloc (.cells #[.int .i64 k, .int .i64 r, .slice mo m.length mc, .slice lo l.length lc] 54)) w.heap.size 54 [.int .i64 k, .int .i64 r, .slice mo m.length mc, .slice lo l.length lc] := heap_alloc_new w _
    exact q.alloc _
  have rB : Row ((w.alloc (.cells #[.int .i64 k, .int .i64 r, .slice mo m.length mc, .slice lo l.length lc] 54)).alloc (.cells #[.int .i64 k, .int .i64 r, .slice mo2 m.length mc2, .slice lo2 l.length lc2] 54)) (w.heap.size + 1) 54 [.int .i64 k, .int .i64 r, .slice mo2 m.length mc2, .slice lo2 l.length lc2] := heap_alloc2_new w _ _
  have hbW : Below w.heap.size w ((w.alloc (.cells #[.int .i64 k, .int .i64 r, .slice mo m.length mc, .slice lo l.length lc] 54)).alloc (.cells #[.int .i64 k, .int .i64 r, .slice mo2 m.length mc2, .slice lo2 l.length lc2] 54)) := ((Below.refl w.heap.size w).alloc (Nat.le_refl _) _).alloc (by simp) _
  have a2 := rA.cell (i := 2) rfl
  have b2 := rB.cell (i := 2) rfl
  go_enter Try.func54, Try.ntmps54
  go_wp2_with fail
  refine (lSameInts_any _ _ m _ (hm.keep hbW) (hm2.keep hbW)).mono ?_
  rintro e w1 ⟨rfl, hb1⟩
  have hb01 := hbW.trans (hb1.mono (by simp; omega))
  have a3 := (rA.keep hb1).cell (i := 3) rfl
  have b3 := (rB.keep hb1).cell (i := 3) rfl
  have rA1 := rA.keep hb1
  have rB1 := rB.keep hb1
  clear rA rB a2 b2 hb1 hbW
  go_wp2_with fail
  refine (lSameInts_any _ _ l _ (hl.keep hb01) (hl2.keep hb01)).mono ?_
  rintro e w2 ⟨rfl, hb2⟩
  have hb02 := hb01.trans (hb2.mono hb01.size)
  have a0 := (rA1.keep hb2).cell (i := 0) rfl
  have b0 := (rB1.keep hb2).cell (i := 0) rfl
  have a1 := (rA1.keep hb2).cell (i := 1) rfl
  have b1 := (rB1.keep hb2).cell (i := 1) rfl
  go_wp2
  go_ret
  exact ⟨by simp, hb02⟩

end Go.Proofs.Ytblhmeidbjigaaa

/- Lists cut or filled up to a length; an input for a program. -/
set_option linter.unusedSimpArgs false
set_option linter.unusedVariables false
namespace Go.Proofs.Ytblhmeidbjigaaa
open Go.RowKit

def padTo (l : List Int) (n : Nat) : List Int := (List.range n).map fun i => l.getD i 0

theorem padTo_length (l : List Int) (n : Nat) : (padTo l n).length = n := by simp [padTo]

theorem padTo_snoc (l : List Int) (n : Nat) : ints (padTo l (n + 1)) = ints (padTo l n) ++ [.int .i64 (l.getD n 0)] := by
  rw [← ints_snoc]
  simp [padTo, List.range_succ]

set_option maxRecDepth 100000 in
set_option maxHeartbeats 2000000 in
theorem rList_cps (v : Value) (l : List Int) (n : Nat) (w : World) (hr : RdWords w v l) (hn : n ≤ 1000) (Post : Ending → World → Prop)
    (hp : ∀ v' w', w'.ownsRow w.heap.size 3 1 v' (padTo l n).length (ints (padTo l n)) → Below w.heap.size w w' → Post (.returned v') w') :
    Calls Try.prog 80 #[v, .int .i64 n] w Post := by
  obtain ⟨ao, cap, rfl, hll, hc⟩ := hr
  obtain ⟨i0, ii, iz0, iz1, iz2⟩ := info_parts Try.infoInt
  go_enter Try.func80, Try.ntmps80
  go_wp2
  go_loopw [5, 6] (fun o i wr => ∃ (k : Nat), k ≤ n ∧ i = .int .i64 k ∧ wr.ownsRow w.heap.size 3 1 o k (ints (padTo l k)) ∧ Below w.heap.size w wr)
    (fun _ i _ => n - (intOf i).toNat)
  case atStart => exact ⟨0, Nat.zero_le _, rfl, World.ownsRow_nil _ _ _ _, Below.refl _ _⟩
  case round =>
    obtain ⟨k, hk, rfl, hown, hbel⟩ := hrel
    obtain ⟨lo, lc, rfl⟩ := owns_slice hown
    have hz := hbel.size
    by_cases hlt : k < n
    · have HT : Hid (ints (padTo l (k + 1)) = ints (padTo l k) ++ [.int .i64 (l.getD k 0)]) := padTo_snoc l k
      by_cases hin : k < l.length
      · obtain ⟨b, off, rfl, h1⟩ := hc k hin
        have h2 := cell_keep hbel h1
        clear h1
        generalize l.getD k 0 = x at *
        go_wp2_with (at_builtin; refine wpList_append_own _ rfl _ _ 36 rfl w.heap.size 3 i0 (.int .i64 0) 1 8 Try.underlying36 ii iz0 iz1 iz2 rfl (by decide) _ _ _ rfl (hown.alloc _) ⟨wr.heap.size, 0, none⟩ 1 1 [.int .i64 x] rfl rfl ?c1 (int_one _) ?c3 ?c4 ?c5 ?_)
        case c1 => exact one_new wr _ _
        case c3 => unfold maxLen; omega
        case c4 => omega
        case c5 => simp; omega
        intro v' w3 hown' hgrow _
        rw [← HT.out] at hown'
        have hb3 := (hbel.alloc hz (.cells #[.int .i64 x] 3)).grown hgrow (by simp; omega) (fun g hg => (hown.lt g hg).1)
        obtain ⟨lo', lc', rfl⟩ := owns_slice hown'
        clear hgrow hown h2 hbel HT
        go_wp2
        go_roundw
        case rel => exact ⟨k + 1, by omega, by go_num, hown', hb3⟩
        case measure => simp [intOf]; omega
      · have hx : l.getD k 0 = 0 := by simp [List.getD, hin]
        rw [hx] at HT
        go_wp2_with (at_builtin; refine wpList_append_own _ rfl _ _ 36 rfl w.heap.size 3 i0 (.int .i64 0) 1 8 Try.underlying36 ii iz0 iz1 iz2 rfl (by decide) _ _ _ rfl (hown.alloc _) ⟨wr.heap.size, 0, none⟩ 1 1 [.int .i64 0] rfl rfl ?d1 (int_one _) ?d3 ?d4 ?d5 ?_)
        case d1 => exact one_new wr _ _
        case d3 => unfold maxLen; omega
        case d4 => omega
        case d5 => simp; omega
        intro v' w3 hown' hgrow _
        rw [← HT.out] at hown'
        have hb3 := (hbel.alloc hz (.cells #[.int .i64 0] 3)).grown hgrow (by simp; omega) (fun g hg => (hown.lt g hg).1)
        obtain ⟨lo', lc', rfl⟩ := owns_slice hown'
        clear hgrow hown hbel HT
        go_wp2
        go_roundw
        case rel => exact ⟨k + 1, by omega, by go_num, hown', hb3⟩
        case measure => simp [intOf]; omega
    · obtain rfl : k = n := by omega
      have HF : Hid (Post (.returned (.slice lo k lc)) wr) := hp _ _ (by rw [padTo_length]; exact hown) hbel
      clear hp hown hbel hc
      go_wp2
      exact HF.out

end Go.Proofs.Ytblhmeidbjigaaa

/- Runs with more fuel, pure. -/
set_option linter.unusedSimpArgs false
set_option linter.unusedVariables false
namespace Go.Proofs.Ytblhmeidbjigaaa
open Go.RowKit

theorem step_trap {s : RunD} (o : OpD) (h : s.trap = 0) : (stepOp s o).trap = 0 ∨ (stepOp s o).trap = 2 ∨ (stepOp s o).trap = 3 := by
  unfold stepOp
  repeat' split
  all_goals simp [RunD.reg, RunD.out, RunD.die, RunD.cell, RunD.slot, h]

theorem doOps_kinds (l : List OpD) {s : RunD} (h : s.trap = 0) : (doOps l s).trap = 0 ∨ (doOps l s).trap = 2 ∨ (doOps l s).trap = 3 := by
  induction l generalizing s with
  | nil => exact .inl h
  | cons o r ih =>
    simp only [doOps, h, if_true]
    rcases step_trap o h with q | q | q
    · exact ih q
    · rw [doOps_trap r (by omega)]; exact .inr (.inl q)
    · rw [doOps_trap r (by omega)]; exact .inr (.inr q)

end Go.Proofs.Ytblhmeidbjigaaa

/- Run in the reference. -/
set_option linter.unusedSimpArgs false
set_option linter.unusedVariables false
namespace Go.Proofs.Ytblhmeidbjigaaa
open Go.RowKit

theorem padTo_regs (l : List Int) (n : Nat) : padTo l (l.length + n) = regs0 l n := by
  apply List.ext_getElem
  · simp [padTo_length, regs0_length]
  · intro i h1 h2
    simp only [padTo, regs0, List.getElem_map, List.getElem_range, List.getD]
    by_cases hi : i < l.length
    · simp [hi, List.getElem_append_left hi]
    · simp [hi, List.getElem_append_right (show l.length ≤ i by omega)]

theorem padTo_self (l : List Int) : padTo l l.length = l := by
  have := padTo_regs l 0
  simpa [regs0] using this

/-- How a run of the reference has ended. -/
def outOf (s : RunD) (res : Int) : OutD := ⟨s.trap, res, if s.trap = 1 ∨ s.trap = 4 then s.cells else [], s.leak⟩

/-- Where a run of the reference is. -/
def Under (bs : List BlockD) (fuel k : Nat) (regs data slots : Int) (G : OutD) (t res : Int) (s : RunD) : Prop :=
  (s.trap = 0 ∧ res = 0 ∧ (∃ n : Nat, t = n ∧ n < bs.length ∧ runN bs (fuel - k) n s = G) ∧ Sized s regs data slots ∧ s.leak.length ≤ 25 * k) ∨ ((s.trap = 1 ∨ s.trap = 2 ∨ s.trap = 3) ∧ outOf s res = G)

set_option maxRecDepth 100000 in
set_option maxHeartbeats 2000000 in
theorem rRun_cps (s : ByteArray) (av mv sv : Value) (args mem spill : List Int) (fuel : Int) (w : World) (ha : RdWords w av args) (hm : RdWords w mv mem) (hsp : RdWords w sv spill) (hs : s.size ≤ maxLen) (Post : Ending → World → Prop)
    (hp : ∀ o e mv lv w', RunAns s args mem spill fuel o e → RunOut w w' o mv lv → Post (.returned (.tuple #[.agg #[.int .i64 o.kind, .int .i64 o.result, mv, lv], .int .i64 e])) w') :
    Calls Try.prog 53 #[.string s, .agg #[av, mv, sv], .int .i64 fuel] w Post := by
  obtain ⟨ao, ac, rfl, hal, _⟩ := id ha
  obtain ⟨mo, mc, rfl, hml, _⟩ := id hm
  obtain ⟨so, sc, rfl, hsl, _⟩ := id hsp
  have hc := rDecode_any s ((w.alloc (.cells #[.slice ao args.length ac, .slice mo mem.length mc, .slice so spill.length sc] 52)).alloc (.cells #[.int .i64 0, .int .i64 0, .slice none 0 0, .slice none 0 0] 54)) hs
  have rI : Row ((w.alloc (.cells #[.slice ao args.length ac, .slice mo mem.length mc, .slice so spill.length sc] 52)).alloc (.cells #[.int .i64 0, .int .i64 0, .slice none 0 0, .slice none 0 0] 54)) w.heap.size 52 [.slice ao args.length ac, .slice mo mem.length mc, .slice so spill.length sc] := by
    have q : Row (w.alloc (.cells #[.slice ao args.length ac, .slice mo mem.length mc, .slice so spill.length sc] 52)) w.heap.size 52 [.slice ao args.length ac, .slice mo mem.length mc, .slice so spill.length sc] := heap_alloc_new w _
    exact q.alloc _
  have rO : Row ((w.alloc (.cells #[.slice ao args.length ac, .slice mo mem.length mc, .slice so spill.length sc] 52)).alloc (.cells #[.int .i64 0, .int .i64 0, .slice none 0 0, .slice none 0 0] 54)) (w.heap.size + 1) 54 zOut := heap_alloc2_new w _ _
  have hbW : Below w.heap.size w ((w.alloc (.cells #[.slice ao args.length ac, .slice mo mem.length mc, .slice so spill.length sc] 52)).alloc (.cells #[.int .i64 0, .int .i64 0, .slice none 0 0, .slice none 0 0] 54)) := ((Below.refl w.heap.size w).alloc (Nat.le_refl _) _).alloc (by simp) _
  go_enter Try.func53, Try.ntmps53
  go_wp2_with fail
  refine hc.mono ?_
  clear hc
  rintro e w1 ⟨hor, hb1⟩
  have rI1 := rI.keep hb1
  have rO1 := rO.keep hb1
  have hb01 := hbW.trans (hb1.mono (by simp; omega))
  have hz1 : w.heap.size + 2 ≤ w1.heap.size := by have := hb1.size; simp at this; omega
  clear rI rO hbW
  rcases hor with ⟨⟨a0, a1, a2, a3, l⟩, v, bv, rfl, ho, hd, hg, ht⟩ | ⟨hn, rfl⟩
  · simp only at hd
    obtain ⟨bo, bc, rfl⟩ := owns_slice ho.row
    unfold progV
    simp only
    have ho2 := ho.alloc (.cells #[.int .i64 a0, .int .i64 a1, .int .i64 a2, .int .i64 a3, .slice bo bv.length bc] 24)
    have rI2 := rI1.alloc (.cells #[.int .i64 a0, .int .i64 a1, .int .i64 a2, .int .i64 a3, .slice bo bv.length bc] 24)
    have rO2 := rO1.alloc (.cells #[.int .i64 a0, .int .i64 a1, .int .i64 a2, .int .i64 a3, .slice bo bv.length bc] 24)
    have rP2 : Row (w1.alloc (.cells #[.int .i64 a0, .int .i64 a1, .int .i64 a2, .int .i64 a3, .slice bo bv.length bc] 24)) w1.heap.size 24 [.int .i64 a0, .int .i64 a1, .int .i64 a2, .int .i64 a3, .slice bo bv.length bc] := heap_alloc_new w1 _
    have hb02 := hb01.alloc (show w.heap.size ≤ w1.heap.size by omega) (.cells #[.int .i64 a0, .int .i64 a1, .int .i64 a2, .int .i64 a3, .slice bo bv.length bc] 24)
    clear ho rI1 rO1 hb01 hb1
    have i0 := rI2.cell (i := 0) rfl
    have i1 := rI2.cell (i := 1) rfl
    have i2 := rI2.cell (i := 2) rfl
    have p0 := rP2.cell (i := 0) rfl
    have p1 := rP2.cell (i := 1) rfl
    have p2 := rP2.cell (i := 2) rfl
    have p3 := rP2.cell (i := 3) rfl
    have p4 := rP2.cell (i := 4) rfl
    have y0 := rO2.cell (i := 0) rfl
    have y1 := rO2.cell (i := 1) rfl
    have y2 := rO2.cell (i := 2) rfl
    have y3 := rO2.cell (i := 3) rfl
    have f0 := rO2.frozen 0
    have f1 := rO2.frozen 1
    have f2 := rO2.frozen 2
    have f3 := rO2.frozen 3
    by_cases h0 : (args.length : Int) = a0
    case neg =>
      have e0 : ((args.length : Int) == a0) = false := by simp [h0]
      have hfin := hp outZ 3 (.slice none 0 0) (.slice none 0 0) (out4 (w1.alloc (.cells #[.int .i64 a0, .int .i64 a1, .int .i64 a2, .int .i64 a3, .slice bo bv.length bc] 24)) (w.heap.size + 1) 0 0 (.slice none 0 0) (.slice none 0 0)) (.inr ⟨⟨a0, a1, a2, a3, l⟩, hg, ht, .inl ⟨rfl, rfl, fun c => h0 c.1⟩⟩) (runOut_nil (out4_below hb02 (by omega) _ _ _ _))
      have HF : Hid (Post (.returned (.tuple #[.agg #[.int .i64 0, .int .i64 0, .slice none 0 0, .slice none 0 0], .int .i64 3])) (out4 (w1.alloc (.cells #[.int .i64 a0, .int .i64 a1, .int .i64 a2, .int .i64 a3, .slice bo bv.length bc] 24)) (w.heap.size + 1) 0 0 (.slice none 0 0) (.slice none 0 0))) := hfin
      clear hfin hp ho2 rI2 rO2 rP2 hb02
      unfold out4 at HF
      go_wp2
      (try simp only [Exit.inBlock, Exit.then])
      refine bodyPost_ret (v := .tuple #[.agg #[.int .i64 0, .int .i64 0, .slice none 0 0, .slice none 0 0], .int .i64 3]) ?_ rfl ?_
      · simp [results, Try.results53, go_sem, y0, y1, y2, y3]
      · exact HF.out
    by_cases h2 : (mem.length : Int) = a2
    case neg =>
      have e0 : ((args.length : Int) == a0) = true := by simp [h0]
      have e2 : ((mem.length : Int) == a2) = false := by simp [h2]
      have hfin := hp outZ 3 (.slice none 0 0) (.slice none 0 0) (out4 (w1.alloc (.cells #[.int .i64 a0, .int .i64 a1, .int .i64 a2, .int .i64 a3, .slice bo bv.length bc] 24)) (w.heap.size + 1) 0 0 (.slice none 0 0) (.slice none 0 0)) (.inr ⟨⟨a0, a1, a2, a3, l⟩, hg, ht, .inl ⟨rfl, rfl, fun c => h2 c.2.1⟩⟩) (runOut_nil (out4_below hb02 (by omega) _ _ _ _))
      have HF : Hid (Post (.returned (.tuple #[.agg #[.int .i64 0, .int .i64 0, .slice none 0 0, .slice none 0 0], .int .i64 3])) (out4 (w1.alloc (.cells #[.int .i64 a0, .int .i64 a1, .int .i64 a2, .int .i64 a3, .slice bo bv.length bc] 24)) (w.heap.size + 1) 0 0 (.slice none 0 0) (.slice none 0 0))) := hfin
      clear hfin hp ho2 rI2 rO2 rP2 hb02
      unfold out4 at HF
      go_wp2
      (try simp only [Exit.inBlock, Exit.then])
      refine bodyPost_ret (v := .tuple #[.agg #[.int .i64 0, .int .i64 0, .slice none 0 0, .slice none 0 0], .int .i64 3]) ?_ rfl ?_
      · simp [results, Try.results53, go_sem, y0, y1, y2, y3]
      · exact HF.out
    by_cases h3 : (spill.length : Int) = a3
    case neg =>
      have e0 : ((args.length : Int) == a0) = true := by simp [h0]
      have e2 : ((mem.length : Int) == a2) = true := by simp [h2]
      have e3 : ((spill.length : Int) == a3) = false := by simp [h3]
      have hfin := hp outZ 3 (.slice none 0 0) (.slice none 0 0) (out4 (w1.alloc (.cells #[.int .i64 a0, .int .i64 a1, .int .i64 a2, .int .i64 a3, .slice bo bv.length bc] 24)) (w.heap.size + 1) 0 0 (.slice none 0 0) (.slice none 0 0)) (.inr ⟨⟨a0, a1, a2, a3, l⟩, hg, ht, .inl ⟨rfl, rfl, fun c => h3 c.2.2⟩⟩) (runOut_nil (out4_below hb02 (by omega) _ _ _ _))
      have HF : Hid (Post (.returned (.tuple #[.agg #[.int .i64 0, .int .i64 0, .slice none 0 0, .slice none 0 0], .int .i64 3])) (out4 (w1.alloc (.cells #[.int .i64 a0, .int .i64 a1, .int .i64 a2, .int .i64 a3, .slice bo bv.length bc] 24)) (w.heap.size + 1) 0 0 (.slice none 0 0) (.slice none 0 0))) := hfin
      clear hfin hp ho2 rI2 rO2 rP2 hb02
      unfold out4 at HF
      go_wp2
      (try simp only [Exit.inBlock, Exit.then])
      refine bodyPost_ret (v := .tuple #[.agg #[.int .i64 0, .int .i64 0, .slice none 0 0, .slice none 0 0], .int .i64 3]) ?_ rfl ?_
      · simp [results, Try.results53, go_sem, y0, y1, y2, y3]
      · exact HF.out
    subst h0 h2 h3
    by_cases hf0 : fuel < 0
    · have hfin := hp outZ 4 (.slice none 0 0) (.slice none 0 0) (out4 (w1.alloc (.cells #[.int .i64 args.length, .int .i64 a1, .int .i64 mem.length, .int .i64 spill.length, .slice bo bv.length bc] 24)) (w.heap.size + 1) 0 0 (.slice none 0 0) (.slice none 0 0)) (.inr ⟨⟨args.length, a1, mem.length, spill.length, l⟩, hg, ht, .inr (.inl ⟨rfl, rfl, ⟨rfl, rfl, rfl⟩, fun c => by omega⟩)⟩) (runOut_nil (out4_below hb02 (by omega) _ _ _ _))
      have HF : Hid (Post (.returned (.tuple #[.agg #[.int .i64 0, .int .i64 0, .slice none 0 0, .slice none 0 0], .int .i64 4])) (out4 (w1.alloc (.cells #[.int .i64 args.length, .int .i64 a1, .int .i64 mem.length, .int .i64 spill.length, .slice bo bv.length bc] 24)) (w.heap.size + 1) 0 0 (.slice none 0 0) (.slice none 0 0))) := hfin
      clear hfin hp ho2 rI2 rO2 rP2 hb02
      unfold out4 at HF
      go_wp2
      (try simp only [Exit.inBlock, Exit.then])
      refine bodyPost_ret (v := .tuple #[.agg #[.int .i64 0, .int .i64 0, .slice none 0 0, .slice none 0 0], .int .i64 4]) ?_ rfl ?_
      · simp [results, Try.results53, go_sem, y0, y1, y2, y3]
      · exact HF.out
    by_cases hf1 : 300 < fuel
    · have hfin := hp outZ 4 (.slice none 0 0) (.slice none 0 0) (out4 (w1.alloc (.cells #[.int .i64 args.length, .int .i64 a1, .int .i64 mem.length, .int .i64 spill.length, .slice bo bv.length bc] 24)) (w.heap.size + 1) 0 0 (.slice none 0 0) (.slice none 0 0)) (.inr ⟨⟨args.length, a1, mem.length, spill.length, l⟩, hg, ht, .inr (.inl ⟨rfl, rfl, ⟨rfl, rfl, rfl⟩, fun c => by omega⟩)⟩) (runOut_nil (out4_below hb02 (by omega) _ _ _ _))
      have HF : Hid (Post (.returned (.tuple #[.agg #[.int .i64 0, .int .i64 0, .slice none 0 0, .slice none 0 0], .int .i64 4])) (out4 (w1.alloc (.cells #[.int .i64 args.length, .int .i64 a1, .int .i64 mem.length, .int .i64 spill.length, .slice bo bv.length bc] 24)) (w.heap.size + 1) 0 0 (.slice none 0 0) (.slice none 0 0))) := hfin
      clear hfin hp ho2 rI2 rO2 rP2 hb02
      unfold out4 at HF
      go_wp2
      (try simp only [Exit.inBlock, Exit.then])
      refine bodyPost_ret (v := .tuple #[.agg #[.int .i64 0, .int .i64 0, .slice none 0 0, .slice none 0 0], .int .i64 4]) ?_ rfl ?_
      · simp [results, Try.results53, go_sem, y0, y1, y2, y3]
      · exact HF.out
    obtain ⟨fu, rfl⟩ := Int.eq_ofNat_of_zero_le (show 0 ≤ fuel by omega)
    have hgg := hg
    simp only [progGood, Bool.and_eq_true, decide_eq_true_eq] at hgg
    obtain ⟨⟨⟨⟨⟨g1, g2⟩, g3⟩, g4⟩, g5⟩, g6⟩ := hgg
    obtain ⟨a1, rfl⟩ := Int.eq_ofNat_of_zero_le (show 0 ≤ a1 by omega)
    have hans : RunAns s args mem spill fu (runN l fu 0 (begins ⟨args.length, a1, mem.length, spill.length, l⟩ args mem spill)) 0 := .inr ⟨⟨args.length, a1, mem.length, spill.length, l⟩, hg, ht, .inr (.inr ⟨rfl, ⟨rfl, rfl, rfl⟩, by omega, by simp⟩)⟩
    have hsz := begins_sized (args := args) (mem := mem) (spill := spill) hg ⟨rfl, rfl, rfl⟩
    simp only at hsz
    have hrd := OwnBlocks.rd ho2
    rw [hd] at hrd
    obtain ⟨W2, hW2⟩ : ∃ W2, W2 = w1.alloc (.cells #[.int .i64 args.length, .int .i64 a1, .int .i64 mem.length, .int .i64 spill.length, .slice bo bv.length bc] 24) := ⟨_, rfl⟩
    rw [← hW2] at hrd hb02 rI2 rO2 rP2
    have hz2 : w.heap.size + 3 ≤ W2.heap.size := by rw [hW2]; simp; omega
    have hz2e : W2.heap.size = w1.heap.size + 1 := by rw [hW2]; simp
    have hz2b : W2.heap.size ≤ w1.heap.size + 1 := by omega
    have hz2c : w1.heap.size + 1 ≤ W2.heap.size := by omega
    obtain ⟨W3, hW3⟩ : ∃ W3, W3 = W2.alloc (.cells #[.int .i64 0, .slice none 0 0, .slice none 0 0, .slice none 0 0, .slice none 0 0, .int .i64 0, .int .i64 0] 120) := ⟨_, rfl⟩
    have hb23 : Below W2.heap.size W2 W3 := by rw [hW3]; exact (Below.refl W2.heap.size W2).alloc (Nat.le_refl _) _
    have rS : Row W3 (w1.heap.size + 1) 120 [.int .i64 0, .slice none 0 0, .slice none 0 0, .slice none 0 0, .slice none 0 0, .int .i64 0, .int .i64 0] := by rw [hW3, ← hz2e]; exact heap_alloc_new W2 _
    clear hz2e
    have hz3 : W2.heap.size < W3.heap.size := by have := rS.lt; omega
    have hb03 := hb02.trans (hb23.mono (by omega))
    have rI3 := rI2.keep hb23
    have rP3 := rP2.keep hb23
    have ii0 := rI3.cell (i := 0) rfl
    have pp1 := rP3.cell (i := 1) rfl
    rw [hW3, hW2] at ii0 pp1
    clear hg ht ho2
    go_wp2_with fail
    rw [← hW2, ← hW3]
    clear hW2 hW3 i0 i1 i2 p0 p1 p2 p3 p4 y0 y1 y2 y3 f0 f1 f2 f3 ii0 pp1
    refine rList_cps _ args a1 W3 (ha.keep hb03) (by omega) _ ?_
    intro x1 w1a own1 hb1
    have hz1a : W3.heap.size ≤ w1a.heap.size := by have := hb1.size; (try simp at this); omega
    have rT1 := rS.keep hb1
    have z1 := rT1.cell (i := 1) rfl
    have zf1 := rT1.frozen 1
    have rS1 := rT1.set 1 x1
    have hbL1 : Below W2.heap.size W2 (w1a.setCell ⟨w1.heap.size + 1, 1, none⟩ x1) := (hb23.trans (hb1.mono (by (try simp); omega))).setCell (p := ⟨w1.heap.size + 1, 1, none⟩) hz2b x1
    have hbM1 := hb02.trans (hbL1.mono (by omega))
    have ow11 := ownsRow_setCell_below (owns_base own1 (show W3.heap.size ≤ _ by first | exact Nat.le_refl _ | (simp; omega))) (a := ⟨w1.heap.size + 1, 1, none⟩) (by show w1.heap.size + 1 < W3.heap.size; omega) x1
    have ii1 := (rI2.below hbL1 rI2.lt).cell (i := 1) rfl
    have pp1 := (rP2.below hbL1 rP2.lt).cell (i := 2) rfl
    obtain ⟨xo1, xc1, hx1⟩ := owns_slice own1
    rw [padTo_length] at hx1
    subst hx1
    go_wp2_with fail
    refine rList_cps _ mem mem.length _ (hm.keep hbM1) (by omega) _ ?_
    clear ii1 pp1 z1 zf1 rT1
    intro x2 w2a own2 hb2
    have hz2a : W3.heap.size ≤ w2a.heap.size := by have := hb2.size; (try simp at this); omega
    have rT2 := rS1.keep hb2
    have z2 := rT2.cell (i := 2) rfl
    have zf2 := rT2.frozen 2
    have rS2 := rT2.set 2 x2
    have hbL2 : Below W2.heap.size W2 (w2a.setCell ⟨w1.heap.size + 1, 2, none⟩ x2) := (hbL1.trans (hb2.mono (by (try simp); omega))).setCell (p := ⟨w1.heap.size + 1, 2, none⟩) hz2b x2
    have hbM2 := hb02.trans (hbL2.mono (by omega))
    have ow12 := ownsRow_setCell_below (owns_below ow11 hb2 (Nat.le_refl _)) (a := ⟨w1.heap.size + 1, 2, none⟩) (by show w1.heap.size + 1 < W3.heap.size; omega) x2
    have ow22 := ownsRow_setCell_below (owns_base own2 (show W3.heap.size ≤ _ by first | exact Nat.le_refl _ | (simp; omega))) (a := ⟨w1.heap.size + 1, 2, none⟩) (by show w1.heap.size + 1 < W3.heap.size; omega) x2
    have ap12 : ∀ g, (Value.slice xo1 a1 xc1).ownBlock = some g → x2.ownBlock ≠ some g := fun g e e2 => by have q1 := (ow11.lt g e).2; have q2 := (own2.lt g e2).1; (try simp at q1 q2); omega
    have ii2 := (rI2.below hbL2 rI2.lt).cell (i := 2) rfl
    have pp2 := (rP2.below hbL2 rP2.lt).cell (i := 3) rfl
    obtain ⟨xo2, xc2, hx2⟩ := owns_slice own2
    rw [padTo_length] at hx2
    subst hx2
    go_wp2_with fail
    refine rList_cps _ spill spill.length _ (hsp.keep hbM2) (by omega) _ ?_
    clear ii2 pp2 z2 zf2 rT2
    intro x3 w3a own3 hb3
    have hz3a : W3.heap.size ≤ w3a.heap.size := by have := hb3.size; (try simp at this); omega
    have rT3 := rS2.keep hb3
    have z3 := rT3.cell (i := 3) rfl
    have zf3 := rT3.frozen 3
    have rS3 := rT3.set 3 x3
    have hbL3 : Below W2.heap.size W2 (w3a.setCell ⟨w1.heap.size + 1, 3, none⟩ x3) := (hbL2.trans (hb3.mono (by (try simp); omega))).setCell (p := ⟨w1.heap.size + 1, 3, none⟩) hz2b x3
    have hbM3 := hb02.trans (hbL3.mono (by omega))
    have ow13 := ownsRow_setCell_below (owns_below ow12 hb3 (Nat.le_refl _)) (a := ⟨w1.heap.size + 1, 3, none⟩) (by show w1.heap.size + 1 < W3.heap.size; omega) x3
    have ow23 := ownsRow_setCell_below (owns_below ow22 hb3 (Nat.le_refl _)) (a := ⟨w1.heap.size + 1, 3, none⟩) (by show w1.heap.size + 1 < W3.heap.size; omega) x3
    have ow33 := ownsRow_setCell_below (owns_base own3 (show W3.heap.size ≤ _ by first | exact Nat.le_refl _ | (simp; omega))) (a := ⟨w1.heap.size + 1, 3, none⟩) (by show w1.heap.size + 1 < W3.heap.size; omega) x3
    have ap13 : ∀ g, (Value.slice xo1 a1 xc1).ownBlock = some g → x3.ownBlock ≠ some g := fun g e e2 => by have q1 := (ow12.lt g e).2; have q2 := (own3.lt g e2).1; (try simp at q1 q2); omega
    have ap23 : ∀ g, (Value.slice xo2 mem.length xc2).ownBlock = some g → x3.ownBlock ≠ some g := fun g e e2 => by have q1 := (ow22.lt g e).2; have q2 := (own3.lt g e2).1; (try simp at q1 q2); omega
    obtain ⟨xo3, xc3, hx3⟩ := owns_slice own3
    rw [padTo_length] at hx3
    subst hx3
    have hpa : padTo args a1 = regs0 args ((a1 : Int) - args.length).toNat := by
      have := padTo_regs args (a1 - args.length)
      rw [show args.length + (a1 - args.length) = a1 by omega] at this
      rw [this]
      congr 1
      omega
    have hW4 : RefS (fun g => g < W2.heap.size) 0 0 (w3a.setCell ⟨w1.heap.size + 1, 3, none⟩ (.slice xo3 spill.length xc3)) (w1.heap.size + 1) (begins ⟨args.length, a1, mem.length, spill.length, l⟩ args mem spill) := by
      refine ⟨_, _, _, _, rS3, ?_, fun c => by omega⟩
      have q1 := owns_base ow13 (Nat.zero_le _)
      have q2 := owns_base ow23 (Nat.zero_le _)
      have q3 := owns_base ow33 (Nat.zero_le _)
      rw [hpa] at q1
      rw [padTo_self] at q2 q3
      exact ⟨q1, q2, q3, World.ownsRow_nil _ _ _ _, ap12, ap13, (fun g _ e2 => by simp [Value.ownBlock] at e2), ap23, (fun g _ e2 => by simp [Value.ownBlock] at e2), (fun g _ e2 => by simp [Value.ownBlock] at e2),
        (fun g e c => by have := (ow13.lt g e).1; omega), (fun g e c => by have := (ow23.lt g e).1; omega), (fun g e c => by have := (ow33.lt g e).1; omega), (fun g e c => by simp [Value.ownBlock] at e), (fun g c => Nat.lt_of_lt_of_le c hbL3.size)⟩
    have hU : Under l fu 0 a1 mem.length spill.length (runN l fu 0 (begins ⟨args.length, a1, mem.length, spill.length, l⟩ args mem spill)) 0 0 (begins ⟨args.length, a1, mem.length, spill.length, l⟩ args mem spill) := .inl ⟨rfl, rfl, ⟨0, rfl, by omega, rfl⟩, hsz, by simp [begins]⟩
    generalize begins ⟨args.length, a1, mem.length, spill.length, l⟩ args mem spill = S0 at *
    generalize runN l fu 0 S0 = G at *
    have HU : Hid (Under l fu 0 a1 mem.length spill.length G 0 0 S0) := hU
    have hbz := hbL3
    clear hU hsz hpa ap12 ap13 ap23 ow11 ow12 ow22 ow13 ow23 ow33 own1 own2 own3 rS rS1 rS2 rS3 hbL1 hbL2 hbL3 hbM1 hbM2 hbM3 hb1 hb2 hb3 hb03 hb23 rI3 rP3
    go_wp2
    go_loopw [11] (fun i wr => ∃ (k : Nat) (t res : Int) (s1 : RunD), k ≤ fu ∧ i = .int .i64 k ∧ RefS (fun g => g < W2.heap.size) t res wr (w1.heap.size + 1) s1 ∧ Below W2.heap.size W2 wr ∧ Hid (Under l fu k a1 mem.length spill.length G t res s1))
      (fun i _ => fu - (intOf i).toNat)
    case atStart => exact ⟨0, 0, 0, S0, Nat.zero_le _, rfl, hW4, hbz, HU⟩
    case round =>
      clear hW4 hbz HU rT3 z3 zf3
      obtain ⟨k, t, res, s1, hk, rfl, hR, hbr, HU⟩ := hrel
      obtain ⟨rv, cv, sv, lv, hrow, hbu, hKM⟩ := id hR
      have m5 := hrow.cell (i := 5) rfl
      have hzr := hbr.size
      by_cases htr : s1.trap = 0
      · rw [htr] at m5
        rcases HU.out with hleft | ⟨hc, _⟩
        case inr => exfalso; omega
        obtain ⟨_, hres, ⟨tn, htn, htl, hrun⟩, hsz, hlk⟩ := hleft
        subst hres
        subst htn
        by_cases hlt : k < fu
        · obtain ⟨f, hfk⟩ : ∃ f, fu - k = f + 1 := ⟨fu - k - 1, by omega⟩
          rw [hfk] at hrun
          have HE2 : Hid ((if (doOps (bops l tn) s1).trap ≠ 0 then OutD.mk (doOps (bops l tn) s1).trap 0 [] (doOps (bops l tn) s1).leak
              else if bek l tn = 3 then OutD.mk 1 (rg (doOps (bops l tn) s1).regs (ber l tn)) (doOps (bops l tn) s1).cells (doOps (bops l tn) s1).leak
              else runN l f (goesTo (doOps (bops l tn) s1) (bfin l tn)) (goesOn (doOps (bops l tn) s1) (bfin l tn))) = G) := hrun
          have q0 := (rP2.below hbr rP2.lt).cell (i := 0) rfl
          have q1 := (rP2.below hbr rP2.lt).cell (i := 1) rfl
          have q2 := (rP2.below hbr rP2.lt).cell (i := 2) rfl
          have q3 := (rP2.below hbr rP2.lt).cell (i := 3) rfl
          have q4 := (rP2.below hbr rP2.lt).cell (i := 4) rfl
          obtain ⟨g12, gops, gend⟩ := blocksGood_at g6 htl
          have hz2 : Sized (doOps (bops l tn) s1) a1 mem.length spill.length := hsz.doOps _
          have hl2 := doOps_leak (bops l tn) s1
          have hkd := doOps_kinds (bops l tn) htr
          clear hrow hbu HU hrun
          go_wp2_with fail
          refine rBlock_cps (fun g => g < W2.heap.size) 0 (w1.heap.size + 1) s1 tn l args.length a1 mem.length spill.length _ a1 mem.length spill.length W2 wr hR (by omega) htr hsz g6 htl hrd (fun g h => h) hbr _ ?_ ?_ ?_
          · intro hT w5 hR5 hk5
            have hb5 := hbr.trans (hk5.toBelow hzr (fun g hn => by omega))
            have HU5 : Hid (Under l fu (k + 1) a1 mem.length spill.length G tn 0 (doOps (bops l tn) s1)) := by
              have := HE2.out
              rw [if_pos hT] at this
              refine .inr ⟨by omega, ?_⟩
              rw [← this]
              unfold outOf
              rw [if_neg (by omega)]
            clear HE2 hR hk5 m5 q0 q1 q2 q3 q4
            go_wp2
            go_roundw
            case rel => exact ⟨k + 1, _, _, _, by omega, by go_num, hR5, hb5, HU5⟩
            case measure => simp [intOf]; omega
          · intro hT h3 w5 hR5 hk5
            have hb5 := hbr.trans (hk5.toBelow hzr (fun g hn => by omega))
            have HU5 : Hid (Under l fu (k + 1) a1 mem.length spill.length G tn (rg (doOps (bops l tn) s1).regs (ber l tn)) ((doOps (bops l tn) s1).die 1)) := by
              have := HE2.out
              rw [if_neg (by omega), if_pos h3] at this
              refine .inr ⟨.inl rfl, ?_⟩
              rw [← this]
              rfl
            clear HE2 hR hk5 m5 q0 q1 q2 q3 q4
            go_wp2
            go_roundw
            case rel => exact ⟨k + 1, _, _, _, by omega, by go_num, hR5, hb5, HU5⟩
            case measure => simp [intOf]; omega
          · intro hT h3 w5 hR5 hk5
            have hb5 := hbr.trans (hk5.toBelow hzr (fun g hn => by omega))
            have HU5 : Hid (Under l fu (k + 1) a1 mem.length spill.length G (goesTo (doOps (bops l tn) s1) (bfin l tn)) 0 (goesOn (doOps (bops l tn) s1) (bfin l tn))) := by
              have := HE2.out
              rw [if_neg (by omega), if_neg h3] at this
              obtain ⟨gt0, gt1⟩ := goesTo_in (s := doOps (bops l tn) s1) gend h3
              have hl3 := goesOn_leak (doOps (bops l tn) s1) (bfin l tn)
              obtain ⟨t3, ht3⟩ := Int.eq_ofNat_of_zero_le gt0
              refine .inl ⟨by rw [goesOn_trap]; exact hT, rfl, ⟨t3, ht3, by omega, ?_⟩, hz2.on _, by omega⟩
              rw [show fu - (k + 1) = f by omega, ← ht3]
              exact this
            clear HE2 hR hk5 m5 q0 q1 q2 q3 q4
            go_wp2
            go_roundw
            case rel => exact ⟨k + 1, _, _, _, by omega, by go_num, hR5, hb5, HU5⟩
            case measure => simp [intOf]; omega
        · have HG3 : Hid (OutD.mk 4 0 s1.cells s1.leak = G) := by
            have := hrun
            rw [show fu - k = 0 by omega] at this
            exact this
          clear HU hrun hR
          have m6 := hrow.cell (i := 6) rfl
          have m4 := hrow.cell (i := 4) rfl
          have m2 := hrow.cell (i := 2) rfl
          have f5 := hrow.frozen 5
          have hb5 : Below W2.heap.size W2 (wr.setCell ⟨w1.heap.size + 1, 5, none⟩ (.int .i64 4)) := hbr.setCell (p := ⟨w1.heap.size + 1, 5, none⟩) hz2b _
          have r5 := hrow.set 5 (.int .i64 4)
          have oc := OwnW.far hbu.cells hrow (by decide) 5 (.int .i64 4)
          have ol := OwnW.far hbu.leak hrow (by decide) 5 (.int .i64 4)
          have n6 := r5.cell (i := 6) rfl
          have n5 := r5.cell (i := 5) rfl
          have n4 := r5.cell (i := 4) rfl
          have n2 := r5.cell (i := 2) rfl
          obtain ⟨co, cc, rfl⟩ := owns_slice hbu.cells
          obtain ⟨lo, lc, rfl⟩ := owns_slice hbu.leak
          have hz5 := hb5.size
          have hal := (Below.refl (wr.setCell ⟨w1.heap.size + 1, 5, none⟩ (.int .i64 4)).heap.size (wr.setCell ⟨w1.heap.size + 1, 5, none⟩ (.int .i64 4))).alloc (Nat.le_refl _) (.cells #[.int .i64 4, .int .i64 0, (.slice co s1.cells.length cc), .slice lo s1.leak.length lc] 54)
          have rO5 := (rO2.below hb5 rO2.lt)
          have rO6 := rO5.keep hal
          have hb6 := hb5.trans (hal.mono hz5)
          have hb06 := hb02.trans (hb6.mono (by omega))
          have y0' := rO5.cell (i := 0) rfl
          have y1' := rO5.cell (i := 1) rfl
          have y2' := rO5.cell (i := 2) rfl
          have y3' := rO5.cell (i := 3) rfl
          have y0 := rO6.cell (i := 0) rfl
          have y1 := rO6.cell (i := 1) rfl
          have y2 := rO6.cell (i := 2) rfl
          have y3 := rO6.cell (i := 3) rfl
          have f0 := rO6.frozen 0
          have f1 := rO6.frozen 1
          have f2 := rO6.frozen 2
          have f3 := rO6.frozen 3
          have e0 := rO5.frozen 0
          have e1 := rO5.frozen 1
          have e2 := rO5.frozen 2
          have e3 := rO5.frozen 3
          have u6 : ∀ o, ((wr.setCell ⟨w1.heap.size + 1, 5, none⟩ (.int .i64 4)).alloc o).cell? ⟨w1.heap.size + 1, 6, none⟩ = some (.int .i64 0) := fun o => (r5.alloc o).cell (i := 6) rfl
          have u5 : ∀ o, ((wr.setCell ⟨w1.heap.size + 1, 5, none⟩ (.int .i64 4)).alloc o).cell? ⟨w1.heap.size + 1, 5, none⟩ = some (.int .i64 4) := fun o => (r5.alloc o).cell (i := 5) rfl
          have u4 : ∀ o, ((wr.setCell ⟨w1.heap.size + 1, 5, none⟩ (.int .i64 4)).alloc o).cell? ⟨w1.heap.size + 1, 4, none⟩ = some (.slice lo s1.leak.length lc) := fun o => (r5.alloc o).cell (i := 4) rfl
          have u2 : ∀ o, ((wr.setCell ⟨w1.heap.size + 1, 5, none⟩ (.int .i64 4)).alloc o).cell? ⟨w1.heap.size + 1, 2, none⟩ = some (.slice co s1.cells.length cc) := fun o => (r5.alloc o).cell (i := 2) rfl
          have v0 : ∀ o, ((wr.setCell ⟨w1.heap.size + 1, 5, none⟩ (.int .i64 4)).alloc o).frozen? ⟨w.heap.size + 1, 0, none⟩ = false := fun o => (rO5.alloc o).frozen 0
          have v1 : ∀ o, ((wr.setCell ⟨w1.heap.size + 1, 5, none⟩ (.int .i64 4)).alloc o).frozen? ⟨w.heap.size + 1, 1, none⟩ = false := fun o => (rO5.alloc o).frozen 1
          have v2 : ∀ o, ((wr.setCell ⟨w1.heap.size + 1, 5, none⟩ (.int .i64 4)).alloc o).frozen? ⟨w.heap.size + 1, 2, none⟩ = false := fun o => (rO5.alloc o).frozen 2
          have v3 : ∀ o, ((wr.setCell ⟨w1.heap.size + 1, 5, none⟩ (.int .i64 4)).alloc o).frozen? ⟨w.heap.size + 1, 3, none⟩ = false := fun o => (rO5.alloc o).frozen 3
          have t0 : ∀ o, ((wr.setCell ⟨w1.heap.size + 1, 5, none⟩ (.int .i64 4)).alloc o).cell? ⟨w.heap.size + 1, 0, none⟩ = some (.int .i64 0) := fun o => (rO5.alloc o).cell (i := 0) rfl
          have t1 : ∀ o, ((wr.setCell ⟨w1.heap.size + 1, 5, none⟩ (.int .i64 4)).alloc o).cell? ⟨w.heap.size + 1, 1, none⟩ = some (.int .i64 0) := fun o => (rO5.alloc o).cell (i := 1) rfl
          have t2 : ∀ o, ((wr.setCell ⟨w1.heap.size + 1, 5, none⟩ (.int .i64 4)).alloc o).cell? ⟨w.heap.size + 1, 2, none⟩ = some (.slice none 0 0) := fun o => (rO5.alloc o).cell (i := 2) rfl
          have t3 : ∀ o, ((wr.setCell ⟨w1.heap.size + 1, 5, none⟩ (.int .i64 4)).alloc o).cell? ⟨w.heap.size + 1, 3, none⟩ = some (.slice none 0 0) := fun o => (rO5.alloc o).cell (i := 3) rfl
          have hfin := hp G 0 (.slice co s1.cells.length cc) (.slice lo s1.leak.length lc) (out4 ((wr.setCell ⟨w1.heap.size + 1, 5, none⟩ (.int .i64 4)).alloc (.cells #[.int .i64 4, .int .i64 0, (.slice co s1.cells.length cc), .slice lo s1.leak.length lc] 54)) (w.heap.size + 1) 4 0 (.slice co s1.cells.length cc) (.slice lo s1.leak.length lc)) hans
            (by rw [← HG3.out]; exact ⟨owns_rebase (OwnW.out4 (owns_below oc hal (Nat.le_refl _)) rO6 _ _ _ _) (fun g e => by have := hbu.kc g e; omega), owns_rebase (OwnW.out4 (owns_below ol hal (Nat.le_refl _)) rO6 _ _ _ _) (fun g e => by have := hbu.kl g e; omega), hbu.cl, out4_below hb06 (by omega) _ _ _ _⟩)
          rw [← HG3.out] at hfin
          have HF : Hid (Post (.returned (.tuple #[.agg #[.int .i64 4, .int .i64 0, (.slice co s1.cells.length cc), .slice lo s1.leak.length lc], .int .i64 0])) (out4 ((wr.setCell ⟨w1.heap.size + 1, 5, none⟩ (.int .i64 4)).alloc (.cells #[.int .i64 4, .int .i64 0, (.slice co s1.cells.length cc), .slice lo s1.leak.length lc] 54)) (w.heap.size + 1) 4 0 (.slice co s1.cells.length cc) (.slice lo s1.leak.length lc))) := hfin
          clear hfin hp hbu hrow r5 oc ol hal rO5 rO6 hb6 hb06 hb5 HG3 hans rO2 rP2 rI2 hrd hb02 hbr
          unfold out4 at HF
          go_wp2
          (try simp only [Exit.inBlock, Exit.then])
          refine bodyPost_ret (v := .tuple #[.agg #[.int .i64 4, .int .i64 0, (.slice co s1.cells.length cc), .slice lo s1.leak.length lc], .int .i64 0]) ?_ rfl ?_
          · simp [results, Try.results53, go_sem, t0, t1, t2, t3]
          · exact HF.out
      · rcases HU.out with hleft | ⟨hc, hG⟩
        case inl => exact absurd hleft.1 htr
        have htn : (s1.trap == 0) = false := by simp [htr]
        clear HU hR
        by_cases h1 : s1.trap = 1
        · have HG3 : Hid (OutD.mk 1 res s1.cells s1.leak = G) := by
            show _ = _
            rw [← hG]
            simp [outOf, h1]
          rw [h1] at m5 hrow
          clear hG
          by_cases hlt : k < fu
          · have m6 := hrow.cell (i := 6) rfl
            have m4 := hrow.cell (i := 4) rfl
            have m2 := hrow.cell (i := 2) rfl
            have hb5 := hbr
            have r5 := hrow
            have oc := hbu.cells
            have ol := hbu.leak
            obtain ⟨co, cc, rfl⟩ := owns_slice hbu.cells
            obtain ⟨lo, lc, rfl⟩ := owns_slice hbu.leak
            have hz5 := hb5.size
            have hal := (Below.refl wr.heap.size wr).alloc (Nat.le_refl _) (.cells #[.int .i64 1, .int .i64 res, (.slice co s1.cells.length cc), .slice lo s1.leak.length lc] 54)
            have rO5 := (rO2.below hb5 rO2.lt)
            have rO6 := rO5.keep hal
            have hb6 := hb5.trans (hal.mono hz5)
            have hb06 := hb02.trans (hb6.mono (by omega))
            have y0' := rO5.cell (i := 0) rfl
            have y1' := rO5.cell (i := 1) rfl
            have y2' := rO5.cell (i := 2) rfl
            have y3' := rO5.cell (i := 3) rfl
            have y0 := rO6.cell (i := 0) rfl
            have y1 := rO6.cell (i := 1) rfl
            have y2 := rO6.cell (i := 2) rfl
            have y3 := rO6.cell (i := 3) rfl
            have f0 := rO6.frozen 0
            have f1 := rO6.frozen 1
            have f2 := rO6.frozen 2
            have f3 := rO6.frozen 3
            have e0 := rO5.frozen 0
            have e1 := rO5.frozen 1
            have e2 := rO5.frozen 2
            have e3 := rO5.frozen 3
            have u6 : ∀ o, (wr.alloc o).cell? ⟨w1.heap.size + 1, 6, none⟩ = some (.int .i64 res) := fun o => (r5.alloc o).cell (i := 6) rfl
            have u5 : ∀ o, (wr.alloc o).cell? ⟨w1.heap.size + 1, 5, none⟩ = some (.int .i64 1) := fun o => (r5.alloc o).cell (i := 5) rfl
            have u4 : ∀ o, (wr.alloc o).cell? ⟨w1.heap.size + 1, 4, none⟩ = some (.slice lo s1.leak.length lc) := fun o => (r5.alloc o).cell (i := 4) rfl
            have u2 : ∀ o, (wr.alloc o).cell? ⟨w1.heap.size + 1, 2, none⟩ = some (.slice co s1.cells.length cc) := fun o => (r5.alloc o).cell (i := 2) rfl
            have v0 : ∀ o, (wr.alloc o).frozen? ⟨w.heap.size + 1, 0, none⟩ = false := fun o => (rO5.alloc o).frozen 0
            have v1 : ∀ o, (wr.alloc o).frozen? ⟨w.heap.size + 1, 1, none⟩ = false := fun o => (rO5.alloc o).frozen 1
            have v2 : ∀ o, (wr.alloc o).frozen? ⟨w.heap.size + 1, 2, none⟩ = false := fun o => (rO5.alloc o).frozen 2
            have v3 : ∀ o, (wr.alloc o).frozen? ⟨w.heap.size + 1, 3, none⟩ = false := fun o => (rO5.alloc o).frozen 3
            have t0 : ∀ o, (wr.alloc o).cell? ⟨w.heap.size + 1, 0, none⟩ = some (.int .i64 0) := fun o => (rO5.alloc o).cell (i := 0) rfl
            have t1 : ∀ o, (wr.alloc o).cell? ⟨w.heap.size + 1, 1, none⟩ = some (.int .i64 0) := fun o => (rO5.alloc o).cell (i := 1) rfl
            have t2 : ∀ o, (wr.alloc o).cell? ⟨w.heap.size + 1, 2, none⟩ = some (.slice none 0 0) := fun o => (rO5.alloc o).cell (i := 2) rfl
            have t3 : ∀ o, (wr.alloc o).cell? ⟨w.heap.size + 1, 3, none⟩ = some (.slice none 0 0) := fun o => (rO5.alloc o).cell (i := 3) rfl
            have hfin := hp G 0 (.slice co s1.cells.length cc) (.slice lo s1.leak.length lc) (out4 (wr.alloc (.cells #[.int .i64 1, .int .i64 res, (.slice co s1.cells.length cc), .slice lo s1.leak.length lc] 54)) (w.heap.size + 1) 1 res (.slice co s1.cells.length cc) (.slice lo s1.leak.length lc)) hans
              (by rw [← HG3.out]; exact ⟨owns_rebase (OwnW.out4 (owns_below oc hal (Nat.le_refl _)) rO6 _ _ _ _) (fun g e => by have := hbu.kc g e; omega), owns_rebase (OwnW.out4 (owns_below ol hal (Nat.le_refl _)) rO6 _ _ _ _) (fun g e => by have := hbu.kl g e; omega), hbu.cl, out4_below hb06 (by omega) _ _ _ _⟩)
            rw [← HG3.out] at hfin
            have HF : Hid (Post (.returned (.tuple #[.agg #[.int .i64 1, .int .i64 res, (.slice co s1.cells.length cc), .slice lo s1.leak.length lc], .int .i64 0])) (out4 (wr.alloc (.cells #[.int .i64 1, .int .i64 res, (.slice co s1.cells.length cc), .slice lo s1.leak.length lc] 54)) (w.heap.size + 1) 1 res (.slice co s1.cells.length cc) (.slice lo s1.leak.length lc))) := hfin
            clear hfin hp hbu hrow r5 oc ol hal rO5 rO6 hb6 hb06 hb5 HG3 hans rO2 rP2 rI2 hrd hb02 hbr
            unfold out4 at HF
            go_wp2
            (try simp only [Exit.inBlock, Exit.then])
            refine bodyPost_ret (v := .tuple #[.agg #[.int .i64 1, .int .i64 res, (.slice co s1.cells.length cc), .slice lo s1.leak.length lc], .int .i64 0]) ?_ rfl ?_
            · simp [results, Try.results53, go_sem, t0, t1, t2, t3]
            · exact HF.out
          · have m6 := hrow.cell (i := 6) rfl
            have m4 := hrow.cell (i := 4) rfl
            have m2 := hrow.cell (i := 2) rfl
            have hb5 := hbr
            have r5 := hrow
            have oc := hbu.cells
            have ol := hbu.leak
            obtain ⟨co, cc, rfl⟩ := owns_slice hbu.cells
            obtain ⟨lo, lc, rfl⟩ := owns_slice hbu.leak
            have hz5 := hb5.size
            have hal := (Below.refl wr.heap.size wr).alloc (Nat.le_refl _) (.cells #[.int .i64 1, .int .i64 res, (.slice co s1.cells.length cc), .slice lo s1.leak.length lc] 54)
            have rO5 := (rO2.below hb5 rO2.lt)
            have rO6 := rO5.keep hal
            have hb6 := hb5.trans (hal.mono hz5)
            have hb06 := hb02.trans (hb6.mono (by omega))
            have y0' := rO5.cell (i := 0) rfl
            have y1' := rO5.cell (i := 1) rfl
            have y2' := rO5.cell (i := 2) rfl
            have y3' := rO5.cell (i := 3) rfl
            have y0 := rO6.cell (i := 0) rfl
            have y1 := rO6.cell (i := 1) rfl
            have y2 := rO6.cell (i := 2) rfl
            have y3 := rO6.cell (i := 3) rfl
            have f0 := rO6.frozen 0
            have f1 := rO6.frozen 1
            have f2 := rO6.frozen 2
            have f3 := rO6.frozen 3
            have e0 := rO5.frozen 0
            have e1 := rO5.frozen 1
            have e2 := rO5.frozen 2
            have e3 := rO5.frozen 3
            have u6 : ∀ o, (wr.alloc o).cell? ⟨w1.heap.size + 1, 6, none⟩ = some (.int .i64 res) := fun o => (r5.alloc o).cell (i := 6) rfl
            have u5 : ∀ o, (wr.alloc o).cell? ⟨w1.heap.size + 1, 5, none⟩ = some (.int .i64 1) := fun o => (r5.alloc o).cell (i := 5) rfl
            have u4 : ∀ o, (wr.alloc o).cell? ⟨w1.heap.size + 1, 4, none⟩ = some (.slice lo s1.leak.length lc) := fun o => (r5.alloc o).cell (i := 4) rfl
            have u2 : ∀ o, (wr.alloc o).cell? ⟨w1.heap.size + 1, 2, none⟩ = some (.slice co s1.cells.length cc) := fun o => (r5.alloc o).cell (i := 2) rfl
            have v0 : ∀ o, (wr.alloc o).frozen? ⟨w.heap.size + 1, 0, none⟩ = false := fun o => (rO5.alloc o).frozen 0
            have v1 : ∀ o, (wr.alloc o).frozen? ⟨w.heap.size + 1, 1, none⟩ = false := fun o => (rO5.alloc o).frozen 1
            have v2 : ∀ o, (wr.alloc o).frozen? ⟨w.heap.size + 1, 2, none⟩ = false := fun o => (rO5.alloc o).frozen 2
            have v3 : ∀ o, (wr.alloc o).frozen? ⟨w.heap.size + 1, 3, none⟩ = false := fun o => (rO5.alloc o).frozen 3
            have t0 : ∀ o, (wr.alloc o).cell? ⟨w.heap.size + 1, 0, none⟩ = some (.int .i64 0) := fun o => (rO5.alloc o).cell (i := 0) rfl
            have t1 : ∀ o, (wr.alloc o).cell? ⟨w.heap.size + 1, 1, none⟩ = some (.int .i64 0) := fun o => (rO5.alloc o).cell (i := 1) rfl
            have t2 : ∀ o, (wr.alloc o).cell? ⟨w.heap.size + 1, 2, none⟩ = some (.slice none 0 0) := fun o => (rO5.alloc o).cell (i := 2) rfl
            have t3 : ∀ o, (wr.alloc o).cell? ⟨w.heap.size + 1, 3, none⟩ = some (.slice none 0 0) := fun o => (rO5.alloc o).cell (i := 3) rfl
            have hfin := hp G 0 (.slice co s1.cells.length cc) (.slice lo s1.leak.length lc) (out4 (wr.alloc (.cells #[.int .i64 1, .int .i64 res, (.slice co s1.cells.length cc), .slice lo s1.leak.length lc] 54)) (w.heap.size + 1) 1 res (.slice co s1.cells.length cc) (.slice lo s1.leak.length lc)) hans
              (by rw [← HG3.out]; exact ⟨owns_rebase (OwnW.out4 (owns_below oc hal (Nat.le_refl _)) rO6 _ _ _ _) (fun g e => by have := hbu.kc g e; omega), owns_rebase (OwnW.out4 (owns_below ol hal (Nat.le_refl _)) rO6 _ _ _ _) (fun g e => by have := hbu.kl g e; omega), hbu.cl, out4_below hb06 (by omega) _ _ _ _⟩)
            rw [← HG3.out] at hfin
            have HF : Hid (Post (.returned (.tuple #[.agg #[.int .i64 1, .int .i64 res, (.slice co s1.cells.length cc), .slice lo s1.leak.length lc], .int .i64 0])) (out4 (wr.alloc (.cells #[.int .i64 1, .int .i64 res, (.slice co s1.cells.length cc), .slice lo s1.leak.length lc] 54)) (w.heap.size + 1) 1 res (.slice co s1.cells.length cc) (.slice lo s1.leak.length lc))) := hfin
            clear hfin hp hbu hrow r5 oc ol hal rO5 rO6 hb6 hb06 hb5 HG3 hans rO2 rP2 rI2 hrd hb02 hbr
            unfold out4 at HF
            go_wp2
            (try simp only [Exit.inBlock, Exit.then])
            refine bodyPost_ret (v := .tuple #[.agg #[.int .i64 1, .int .i64 res, (.slice co s1.cells.length cc), .slice lo s1.leak.length lc], .int .i64 0]) ?_ rfl ?_
            · simp [results, Try.results53, go_sem, t0, t1, t2, t3]
            · exact HF.out
        · have HG3 : Hid (OutD.mk s1.trap res [] s1.leak = G) := by
            show _ = _
            rw [← hG]
            unfold outOf
            rw [if_neg (by omega)]
          have h1' : (s1.trap == 1) = false := by simp [h1]
          have h4' : (s1.trap == 4) = false := by simp; omega
          clear hG
          by_cases hlt : k < fu
          · have m6 := hrow.cell (i := 6) rfl
            have m4 := hrow.cell (i := 4) rfl
            have m2 := hrow.cell (i := 2) rfl
            have hb5 := hbr
            have r5 := hrow
            have oc := hbu.cells
            have ol := hbu.leak
            obtain ⟨co, cc, rfl⟩ := owns_slice hbu.cells
            obtain ⟨lo, lc, rfl⟩ := owns_slice hbu.leak
            have hz5 := hb5.size
            have hal := (Below.refl wr.heap.size wr).alloc (Nat.le_refl _) (.cells #[.int .i64 s1.trap, .int .i64 res, (.slice none 0 0), .slice lo s1.leak.length lc] 54)
            have rO5 := (rO2.below hb5 rO2.lt)
            have rO6 := rO5.keep hal
            have hb6 := hb5.trans (hal.mono hz5)
            have hb06 := hb02.trans (hb6.mono (by omega))
            have y0' := rO5.cell (i := 0) rfl
            have y1' := rO5.cell (i := 1) rfl
            have y2' := rO5.cell (i := 2) rfl
            have y3' := rO5.cell (i := 3) rfl
            have y0 := rO6.cell (i := 0) rfl
            have y1 := rO6.cell (i := 1) rfl
            have y2 := rO6.cell (i := 2) rfl
            have y3 := rO6.cell (i := 3) rfl
            have f0 := rO6.frozen 0
            have f1 := rO6.frozen 1
            have f2 := rO6.frozen 2
            have f3 := rO6.frozen 3
            have e0 := rO5.frozen 0
            have e1 := rO5.frozen 1
            have e2 := rO5.frozen 2
            have e3 := rO5.frozen 3
            have u6 : ∀ o, (wr.alloc o).cell? ⟨w1.heap.size + 1, 6, none⟩ = some (.int .i64 res) := fun o => (r5.alloc o).cell (i := 6) rfl
            have u5 : ∀ o, (wr.alloc o).cell? ⟨w1.heap.size + 1, 5, none⟩ = some (.int .i64 s1.trap) := fun o => (r5.alloc o).cell (i := 5) rfl
            have u4 : ∀ o, (wr.alloc o).cell? ⟨w1.heap.size + 1, 4, none⟩ = some (.slice lo s1.leak.length lc) := fun o => (r5.alloc o).cell (i := 4) rfl
            have u2 : ∀ o, (wr.alloc o).cell? ⟨w1.heap.size + 1, 2, none⟩ = some (.slice co s1.cells.length cc) := fun o => (r5.alloc o).cell (i := 2) rfl
            have v0 : ∀ o, (wr.alloc o).frozen? ⟨w.heap.size + 1, 0, none⟩ = false := fun o => (rO5.alloc o).frozen 0
            have v1 : ∀ o, (wr.alloc o).frozen? ⟨w.heap.size + 1, 1, none⟩ = false := fun o => (rO5.alloc o).frozen 1
            have v2 : ∀ o, (wr.alloc o).frozen? ⟨w.heap.size + 1, 2, none⟩ = false := fun o => (rO5.alloc o).frozen 2
            have v3 : ∀ o, (wr.alloc o).frozen? ⟨w.heap.size + 1, 3, none⟩ = false := fun o => (rO5.alloc o).frozen 3
            have t0 : ∀ o, (wr.alloc o).cell? ⟨w.heap.size + 1, 0, none⟩ = some (.int .i64 0) := fun o => (rO5.alloc o).cell (i := 0) rfl
            have t1 : ∀ o, (wr.alloc o).cell? ⟨w.heap.size + 1, 1, none⟩ = some (.int .i64 0) := fun o => (rO5.alloc o).cell (i := 1) rfl
            have t2 : ∀ o, (wr.alloc o).cell? ⟨w.heap.size + 1, 2, none⟩ = some (.slice none 0 0) := fun o => (rO5.alloc o).cell (i := 2) rfl
            have t3 : ∀ o, (wr.alloc o).cell? ⟨w.heap.size + 1, 3, none⟩ = some (.slice none 0 0) := fun o => (rO5.alloc o).cell (i := 3) rfl
            have hfin := hp G 0 (.slice none 0 0) (.slice lo s1.leak.length lc) (out4 (wr.alloc (.cells #[.int .i64 s1.trap, .int .i64 res, (.slice none 0 0), .slice lo s1.leak.length lc] 54)) (w.heap.size + 1) s1.trap res (.slice none 0 0) (.slice lo s1.leak.length lc)) hans
              (by rw [← HG3.out]; exact ⟨World.ownsRow_nil _ _ _ _, owns_rebase (OwnW.out4 (owns_below ol hal (Nat.le_refl _)) rO6 _ _ _ _) (fun g e => by have := hbu.kl g e; omega), (fun g e => by simp [Value.ownBlock] at e), out4_below hb06 (by omega) _ _ _ _⟩)
            rw [← HG3.out] at hfin
            have HF : Hid (Post (.returned (.tuple #[.agg #[.int .i64 s1.trap, .int .i64 res, (.slice none 0 0), .slice lo s1.leak.length lc], .int .i64 0])) (out4 (wr.alloc (.cells #[.int .i64 s1.trap, .int .i64 res, (.slice none 0 0), .slice lo s1.leak.length lc] 54)) (w.heap.size + 1) s1.trap res (.slice none 0 0) (.slice lo s1.leak.length lc))) := hfin
            clear hfin hp hbu hrow r5 oc ol hal rO5 rO6 hb6 hb06 hb5 HG3 hans rO2 rP2 rI2 hrd hb02 hbr
            unfold out4 at HF
            generalize s1.trap = tr at *
            go_wp2
            (try simp only [Exit.inBlock, Exit.then])
            refine bodyPost_ret (v := .tuple #[.agg #[.int .i64 tr, .int .i64 res, (.slice none 0 0), .slice lo s1.leak.length lc], .int .i64 0]) ?_ rfl ?_
            · simp [results, Try.results53, go_sem, t0, t1, t2, t3]
            · exact HF.out
          · have m6 := hrow.cell (i := 6) rfl
            have m4 := hrow.cell (i := 4) rfl
            have m2 := hrow.cell (i := 2) rfl
            have hb5 := hbr
            have r5 := hrow
            have oc := hbu.cells
            have ol := hbu.leak
            obtain ⟨co, cc, rfl⟩ := owns_slice hbu.cells
            obtain ⟨lo, lc, rfl⟩ := owns_slice hbu.leak
            have hz5 := hb5.size
            have hal := (Below.refl wr.heap.size wr).alloc (Nat.le_refl _) (.cells #[.int .i64 s1.trap, .int .i64 res, (.slice none 0 0), .slice lo s1.leak.length lc] 54)
            have rO5 := (rO2.below hb5 rO2.lt)
            have rO6 := rO5.keep hal
            have hb6 := hb5.trans (hal.mono hz5)
            have hb06 := hb02.trans (hb6.mono (by omega))
            have y0' := rO5.cell (i := 0) rfl
            have y1' := rO5.cell (i := 1) rfl
            have y2' := rO5.cell (i := 2) rfl
            have y3' := rO5.cell (i := 3) rfl
            have y0 := rO6.cell (i := 0) rfl
            have y1 := rO6.cell (i := 1) rfl
            have y2 := rO6.cell (i := 2) rfl
            have y3 := rO6.cell (i := 3) rfl
            have f0 := rO6.frozen 0
            have f1 := rO6.frozen 1
            have f2 := rO6.frozen 2
            have f3 := rO6.frozen 3
            have e0 := rO5.frozen 0
            have e1 := rO5.frozen 1
            have e2 := rO5.frozen 2
            have e3 := rO5.frozen 3
            have u6 : ∀ o, (wr.alloc o).cell? ⟨w1.heap.size + 1, 6, none⟩ = some (.int .i64 res) := fun o => (r5.alloc o).cell (i := 6) rfl
            have u5 : ∀ o, (wr.alloc o).cell? ⟨w1.heap.size + 1, 5, none⟩ = some (.int .i64 s1.trap) := fun o => (r5.alloc o).cell (i := 5) rfl
            have u4 : ∀ o, (wr.alloc o).cell? ⟨w1.heap.size + 1, 4, none⟩ = some (.slice lo s1.leak.length lc) := fun o => (r5.alloc o).cell (i := 4) rfl
            have u2 : ∀ o, (wr.alloc o).cell? ⟨w1.heap.size + 1, 2, none⟩ = some (.slice co s1.cells.length cc) := fun o => (r5.alloc o).cell (i := 2) rfl
            have v0 : ∀ o, (wr.alloc o).frozen? ⟨w.heap.size + 1, 0, none⟩ = false := fun o => (rO5.alloc o).frozen 0
            have v1 : ∀ o, (wr.alloc o).frozen? ⟨w.heap.size + 1, 1, none⟩ = false := fun o => (rO5.alloc o).frozen 1
            have v2 : ∀ o, (wr.alloc o).frozen? ⟨w.heap.size + 1, 2, none⟩ = false := fun o => (rO5.alloc o).frozen 2
            have v3 : ∀ o, (wr.alloc o).frozen? ⟨w.heap.size + 1, 3, none⟩ = false := fun o => (rO5.alloc o).frozen 3
            have t0 : ∀ o, (wr.alloc o).cell? ⟨w.heap.size + 1, 0, none⟩ = some (.int .i64 0) := fun o => (rO5.alloc o).cell (i := 0) rfl
            have t1 : ∀ o, (wr.alloc o).cell? ⟨w.heap.size + 1, 1, none⟩ = some (.int .i64 0) := fun o => (rO5.alloc o).cell (i := 1) rfl
            have t2 : ∀ o, (wr.alloc o).cell? ⟨w.heap.size + 1, 2, none⟩ = some (.slice none 0 0) := fun o => (rO5.alloc o).cell (i := 2) rfl
            have t3 : ∀ o, (wr.alloc o).cell? ⟨w.heap.size + 1, 3, none⟩ = some (.slice none 0 0) := fun o => (rO5.alloc o).cell (i := 3) rfl
            have hfin := hp G 0 (.slice none 0 0) (.slice lo s1.leak.length lc) (out4 (wr.alloc (.cells #[.int .i64 s1.trap, .int .i64 res, (.slice none 0 0), .slice lo s1.leak.length lc] 54)) (w.heap.size + 1) s1.trap res (.slice none 0 0) (.slice lo s1.leak.length lc)) hans
              (by rw [← HG3.out]; exact ⟨World.ownsRow_nil _ _ _ _, owns_rebase (OwnW.out4 (owns_below ol hal (Nat.le_refl _)) rO6 _ _ _ _) (fun g e => by have := hbu.kl g e; omega), (fun g e => by simp [Value.ownBlock] at e), out4_below hb06 (by omega) _ _ _ _⟩)
            rw [← HG3.out] at hfin
            have HF : Hid (Post (.returned (.tuple #[.agg #[.int .i64 s1.trap, .int .i64 res, (.slice none 0 0), .slice lo s1.leak.length lc], .int .i64 0])) (out4 (wr.alloc (.cells #[.int .i64 s1.trap, .int .i64 res, (.slice none 0 0), .slice lo s1.leak.length lc] 54)) (w.heap.size + 1) s1.trap res (.slice none 0 0) (.slice lo s1.leak.length lc))) := hfin
            clear hfin hp hbu hrow r5 oc ol hal rO5 rO6 hb6 hb06 hb5 HG3 hans rO2 rP2 rI2 hrd hb02 hbr
            unfold out4 at HF
            generalize s1.trap = tr at *
            go_wp2
            (try simp only [Exit.inBlock, Exit.then])
            refine bodyPost_ret (v := .tuple #[.agg #[.int .i64 tr, .int .i64 res, (.slice none 0 0), .slice lo s1.leak.length lc], .int .i64 0]) ?_ rfl ?_
            · simp [results, Try.results53, go_sem, t0, t1, t2, t3]
            · exact HF.out
  · clear hs
    have rO2 := rO1.alloc (.cells #[.int .i64 0, .int .i64 0, .int .i64 0, .int .i64 0, .slice none 0 0] 24)
    have hb02 := hb01.alloc (show w.heap.size ≤ w1.heap.size by omega) (.cells #[.int .i64 0, .int .i64 0, .int .i64 0, .int .i64 0, .slice none 0 0] 24)
    have y0 := rO2.cell (i := 0) rfl
    have y1 := rO2.cell (i := 1) rfl
    have y2 := rO2.cell (i := 2) rfl
    have y3 := rO2.cell (i := 3) rfl
    have f0 := rO2.frozen 0
    have f1 := rO2.frozen 1
    have f2 := rO2.frozen 2
    have f3 := rO2.frozen 3
    have hfin := hp outZ 1 (.slice none 0 0) (.slice none 0 0) (out4 (w1.alloc (.cells #[.int .i64 0, .int .i64 0, .int .i64 0, .int .i64 0, .slice none 0 0] 24)) (w.heap.size + 1) 0 0 (.slice none 0 0) (.slice none 0 0)) (.inl ⟨rfl, rfl, hn⟩) (runOut_nil (out4_below hb02 (by omega) _ _ _ _))
    have HF : Hid (Post (.returned (.tuple #[.agg #[.int .i64 0, .int .i64 0, .slice none 0 0, .slice none 0 0], .int .i64 1])) (out4 (w1.alloc (.cells #[.int .i64 0, .int .i64 0, .int .i64 0, .int .i64 0, .slice none 0 0] 24)) (w.heap.size + 1) 0 0 (.slice none 0 0) (.slice none 0 0))) := hfin
    clear hfin hp rI1 rO1 rO2 hb01 hb02 hb1 hn
    unfold out4 at HF
    go_wp2
    (try simp only [Exit.inBlock, Exit.then])
    refine bodyPost_ret (v := .tuple #[.agg #[.int .i64 0, .int .i64 0, .slice none 0 0, .slice none 0 0], .int .i64 1]) ?_ rfl ?_
    · simp [results, Try.results53, go_sem, y0, y1, y2, y3]
    · exact HF.out

end Go.Proofs.Ytblhmeidbjigaaa
