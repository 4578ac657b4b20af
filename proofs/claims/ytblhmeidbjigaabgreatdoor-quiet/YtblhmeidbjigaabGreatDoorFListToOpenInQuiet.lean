/- Lists cut or filled up to a length; an input for a program. -/
import Derived.Test.YtblhmeidbjigaabGreatDoorRows
import Derived.WalkKit
import Derived.WalkSpells
import Derived.WalkLawsBesides
import Derived.Laws.BytesArg
import Derived.Deep.QuietTactic
import Derived.BigQuiet
import Derived.Deep.RegionHeld3
import Derived.Maps.AppendAt
import Derived.StillTailTactics
import Derived.Deep.RegionLaw
import Derived.Deep.AppendLies
import Derived.Lib.ItoaNum
import Derived.Lib.ItoaLen
import Derived.OpenShut
import Derived.Shelf.Strconv.Itoa3
import Derived.Shelf.Lay
import Derived.Ground.NamesProg
import Derived.Lib.SmallJoins
import Derived.Lib.Hide
import Derived.ProofKit
import Derived.SizedLaws
import Derived.Deep.Slices
import Derived.ShutString
import Derived.ChangeOld
import Derived.Deep.Strs
import Derived.Test.YtblhmeidbjigaabGreatDoorVCmHToFSameQuiet

set_option linter.unusedSimpArgs false
set_option linter.unusedVariables false
namespace Go.Proofs.YtblhmeidbjigaabGreatDoor
open Go.RowKit

def padTo (l : List Int) (n : Nat) : List Int := (List.range n).map fun i => l.getD i 0

theorem padTo_length (l : List Int) (n : Nat) : (padTo l n).length = n := by simp [padTo]

theorem padTo_snoc (l : List Int) (n : Nat) : ints (padTo l (n + 1)) = ints (padTo l n) ++ [.int .i64 (l.getD n 0)] := by
  rw [← ints_snoc]
  simp [padTo, List.range_succ]

set_option maxRecDepth 100000 in
set_option maxHeartbeats 2000000 in
theorem kList_cps (v : Value) (l : List Int) (n : Nat) (w : World) (hr : RdWords w v l) (hn : n ≤ 1000) (Post : Ending → World → Prop)
    (hp : ∀ v' w', w'.ownsRow w.heap.size 3 1 v' (padTo l n).length (ints (padTo l n)) → Below w.heap.size w w' → Post (.returned v') w') :
    Calls Tryz.prog 37 #[v, .int .i64 n] w Post := by
  obtain ⟨ao, cap, rfl, hll, hc⟩ := hr
  obtain ⟨i0, ii, iz0, iz1, iz2⟩ := info_parts Tryz.infoInt
  go_enter Tryz.func37, Tryz.ntmps37
  go_wp2
  go_loopw [5, 6] (fun o i wr => ∃ (k : Nat), k ≤ n ∧ i = .int .i64 k ∧ wr.ownsRow w.heap.size 3 1 o k (ints (padTo l k)) ∧ Below w.heap.size w wr)
    (fun _ i _ => n - (intOf i).toNat)
  case atStart => exact ⟨0, Nat.zero_le _, rfl, World.ownsRow_nil _ _ _ _, Below.refl _ _⟩
  case round =>
    obtain ⟨k, hk, rfl, hown, hbel⟩ := hrel
    obtain ⟨lo, lc, rfl⟩ := owns_slice hown
    have hz := hbel.size
    by_cases hlt : k < n
    · have HT : Hid (ints (padTo l (k + 1)) = ints (padTo l k) ++ [.int .i64 (l.getD k 0)]) := padTo_snoc l k
      by_cases hin : k < l.length
      · obtain ⟨b, off, rfl, h1⟩ := hc k hin
        have h2 := cell_keep hbel h1
        clear h1
        generalize l.getD k 0 = x at *
        go_wp2_with (at_builtin; refine wpList_append_own _ rfl _ _ 22 rfl w.heap.size 3 i0 (.int .i64 0) 1 8 Tryz.underlying22 ii iz0 iz1 iz2 rfl (by decide) _ _ _ rfl (hown.alloc _) ⟨wr.heap.size, 0, none⟩ 1 1 [.int .i64 x] rfl rfl ?c1 (int_one _) ?c3 ?c4 ?c5 ?_)
        case c1 => exact one_new wr _ _
        case c3 => unfold maxLen; omega
        case c4 => omega
        case c5 => simp; omega
        intro v' w3 hown' hgrow _
        rw [← HT.out] at hown'
        have hb3 := (hbel.alloc hz (.cells #[.int .i64 x] 3)).grown hgrow (by simp; omega) (fun g hg => (hown.lt g hg).1)
        obtain ⟨lo', lc', rfl⟩ := owns_slice hown'
        clear hgrow hown h2 hbel HT
        go_wp2
        go_roundw
        case rel => exact ⟨k + 1, by omega, by go_num, hown', hb3⟩
        case measure => simp [intOf]; omega
      · have hx : l.getD k 0 = 0 := by simp [List.getD, hin]
        rw [hx] at HT
        go_wp2_with (at_builtin; refine wpList_append_own _ rfl _ _ 22 rfl w.heap.size 3 i0 (.int .i64 0) 1 8 Tryz.underlying22 ii iz0 iz1 iz2 rfl (by decide) _ _ _ rfl (hown.alloc _) ⟨wr.heap.size, 0, none⟩ 1 1 [.int .i64 0] rfl rfl ?d1 (int_one _) ?d3 ?d4 ?d5 ?_)
        case d1 => exact one_new wr _ _
        case d3 => unfold maxLen; omega
        case d4 => omega
        case d5 => simp; omega
        intro v' w3 hown' hgrow _
        rw [← HT.out] at hown'
        have hb3 := (hbel.alloc hz (.cells #[.int .i64 0] 3)).grown hgrow (by simp; omega) (fun g hg => (hown.lt g hg).1)
        obtain ⟨lo', lc', rfl⟩ := owns_slice hown'
        clear hgrow hown hbel HT
        go_wp2
        go_roundw
        case rel => exact ⟨k + 1, by omega, by go_num, hown', hb3⟩
        case measure => simp [intOf]; omega
    · obtain rfl : k = n := by omega
      have HF : Hid (Post (.returned (.slice lo k lc)) wr) := hp _ _ (by rw [padTo_length]; exact hown) hbel
      clear hp hown hbel hc
      go_wp2
      exact HF.out

/-- An input in memory of its own. -/
structure OwnIn (w w' : World) (av mv sv : Value) (a m s : List Int) : Prop where
  args : RdWords w' av a
  mem : RdWords w' mv m
  spill : RdWords w' sv s
  below : Below w.heap.size w w'

set_option maxRecDepth 100000 in
set_option maxHeartbeats 2000000 in
theorem suited_cps (a1 : Int) (a0 a2 a3 : Nat) (pv v0 v1 v2 : Value) (l0 l1 l2 : List Int) (w : World) (h0 : RdWords w v0 l0) (h1 : RdWords w v1 l1) (h2 : RdWords w v2 l2) (hn0 : a0 ≤ 8) (hn2 : a2 ≤ 8) (hn3 : a3 ≤ 8) (hpv : ∃ po pn pc, pv = .slice po pn pc) (Post : Ending → World → Prop)
    (hp : ∀ av mv sv w', OwnIn w w' av mv sv (padTo l0 a0) (padTo l1 a2) (padTo l2 a3) → Post (.returned (.agg #[av, mv, sv])) w') :
    Calls Tryz.prog 25 #[.agg #[.int .i64 a0, .int .i64 a1, .int .i64 a2, .int .i64 a3, pv], v0, v1, v2] w Post := by
  obtain ⟨po, pn, pc, rfl⟩ := hpv
  obtain ⟨o0, c0, rfl, _, _⟩ := id h0
  obtain ⟨o1, c1, rfl, _, _⟩ := id h1
  obtain ⟨o2, c2, rfl, _, _⟩ := id h2
  obtain ⟨W, hW⟩ : ∃ W, W = ((w.alloc (.cells #[.int .i64 a0, .int .i64 a1, .int .i64 a2, .int .i64 a3, .slice po pn pc] 25)).alloc (.cells #[.slice none 0 0, .slice none 0 0, .slice none 0 0] 67)).alloc (.cells #[.slice none 0 0, .slice none 0 0, .slice none 0 0] 67) := ⟨_, rfl⟩
  have hzW : w.heap.size + 3 ≤ W.heap.size := by rw [hW]; simp
  have rP : Row W w.heap.size 25 [.int .i64 a0, .int .i64 a1, .int .i64 a2, .int .i64 a3, .slice po pn pc] := by
    rw [hW]
    have q : Row (w.alloc (.cells #[.int .i64 a0, .int .i64 a1, .int .i64 a2, .int .i64 a3, .slice po pn pc] 25)) w.heap.size 25 [.int .i64 a0, .int .i64 a1, .int .i64 a2, .int .i64 a3, .slice po pn pc] := heap_alloc_new w _
    exact (q.alloc _).alloc _
  have rA : Row W (w.heap.size + 1) 67 [.slice none 0 0, .slice none 0 0, .slice none 0 0] := by
    rw [hW]
    have q : Row ((w.alloc (.cells #[.int .i64 a0, .int .i64 a1, .int .i64 a2, .int .i64 a3, .slice po pn pc] 25)).alloc (.cells #[.slice none 0 0, .slice none 0 0, .slice none 0 0] 67)) (w.heap.size + 1) 67 [.slice none 0 0, .slice none 0 0, .slice none 0 0] := heap_alloc2_new w _ _
    exact q.alloc _
  have rI : Row W (w.heap.size + 2) 67 [.slice none 0 0, .slice none 0 0, .slice none 0 0] := by
    rw [hW]
    have q := heap_alloc2_new (w.alloc (.cells #[.int .i64 a0, .int .i64 a1, .int .i64 a2, .int .i64 a3, .slice po pn pc] 25)) (.cells #[.slice none 0 0, .slice none 0 0, .slice none 0 0] 67) (.cells #[.slice none 0 0, .slice none 0 0, .slice none 0 0] 67)
    simp only [World.size_alloc] at q
    exact q
  have hbW : Below w.heap.size w W := by rw [hW]; exact (((Below.refl w.heap.size w).alloc (Nat.le_refl _) _).alloc (by simp) _).alloc (by simp; omega) _
  have p0 := rP.cell (i := 0) rfl
  rw [hW] at p0
  go_enter Tryz.func25, Tryz.ntmps25
  go_wp2_with fail
  rw [← hW]
  clear hW p0
  refine kList_cps _ l0 a0 W (h0.keep hbW) (by omega) _ ?_
  intro x1 w1 own1 hb1
  have hz1 : W.heap.size ≤ w1.heap.size := by have := hb1.size; (try simp at this); omega
  have rP1 := (rP.keep hb1).unset (a := ⟨w.heap.size + 2, 0, none⟩) (by show w.heap.size ≠ w.heap.size + 2; omega) x1
  have rA1 := (rA.keep hb1).unset (a := ⟨w.heap.size + 2, 0, none⟩) (by show w.heap.size + 1 ≠ w.heap.size + 2; omega) x1
  have rJ1 := rI.keep hb1
  have rI1 := rJ1.set 0 x1
  have hb01 := (hbW.trans (hb1.mono (by first | omega | (simp; omega)))).setCell (p := ⟨w.heap.size + 2, 0, none⟩) (by show w.heap.size ≤ w.heap.size + 2; omega) x1
  have own1t1 := ownsRow_setCell_below (owns_base own1 (show W.heap.size ≤ _ by first | exact Nat.le_refl _ | (simp; omega))) (a := ⟨w.heap.size + 2, 0, none⟩) (by show w.heap.size + 2 < W.heap.size; omega) x1
  have z1 := rJ1.cell (i := 0) rfl
  have zf1 := rJ1.frozen 0
  obtain ⟨xo1, xc1, hx1⟩ := owns_slice own1
  rw [padTo_length] at hx1
  subst hx1
  have p2 := rP1.cell (i := 2) rfl
  clear own1
  go_wp2_with fail
  refine kList_cps _ l1 a2 _ (h1.keep hb01) (by omega) _ ?_
  clear p2 z1 zf1 rJ1
  intro x2 w2 own2 hb2
  have hz2 : W.heap.size ≤ w2.heap.size := by have := hb2.size; (try simp at this); omega
  have rP2 := (rP1.keep hb2).unset (a := ⟨w.heap.size + 2, 1, none⟩) (by show w.heap.size ≠ w.heap.size + 2; omega) x2
  have rA2 := (rA1.keep hb2).unset (a := ⟨w.heap.size + 2, 1, none⟩) (by show w.heap.size + 1 ≠ w.heap.size + 2; omega) x2
  have rJ2 := rI1.keep hb2
  have rI2 := rJ2.set 1 x2
  have hb02 := (hb01.trans (hb2.mono (by first | omega | (simp; omega)))).setCell (p := ⟨w.heap.size + 2, 1, none⟩) (by show w.heap.size ≤ w.heap.size + 2; omega) x2
  have own1t2 := ownsRow_setCell_below (owns_below own1t1 hb2 (Nat.le_refl _)) (a := ⟨w.heap.size + 2, 1, none⟩) (by show w.heap.size + 2 < W.heap.size; omega) x2
  have own2t2 := ownsRow_setCell_below (owns_base own2 (show W.heap.size ≤ _ by first | exact Nat.le_refl _ | (simp; omega))) (a := ⟨w.heap.size + 2, 1, none⟩) (by show w.heap.size + 2 < W.heap.size; omega) x2
  have z2 := rJ2.cell (i := 1) rfl
  have zf2 := rJ2.frozen 1
  obtain ⟨xo2, xc2, hx2⟩ := owns_slice own2
  rw [padTo_length] at hx2
  subst hx2
  have p3 := rP2.cell (i := 3) rfl
  clear own2
  go_wp2_with fail
  refine kList_cps _ l2 a3 _ (h2.keep hb02) (by omega) _ ?_
  clear p3 z2 zf2 rJ2
  intro x3 w3 own3 hb3
  have hz3 : W.heap.size ≤ w3.heap.size := by have := hb3.size; (try simp at this); omega
  have rP3 := (rP2.keep hb3).unset (a := ⟨w.heap.size + 2, 2, none⟩) (by show w.heap.size ≠ w.heap.size + 2; omega) x3
  have rA3 := (rA2.keep hb3).unset (a := ⟨w.heap.size + 2, 2, none⟩) (by show w.heap.size + 1 ≠ w.heap.size + 2; omega) x3
  have rJ3 := rI2.keep hb3
  have rI3 := rJ3.set 2 x3
  have hb03 := (hb02.trans (hb3.mono (by first | omega | (simp; omega)))).setCell (p := ⟨w.heap.size + 2, 2, none⟩) (by show w.heap.size ≤ w.heap.size + 2; omega) x3
  have own1t3 := ownsRow_setCell_below (owns_below own1t2 hb3 (Nat.le_refl _)) (a := ⟨w.heap.size + 2, 2, none⟩) (by show w.heap.size + 2 < W.heap.size; omega) x3
  have own2t3 := ownsRow_setCell_below (owns_below own2t2 hb3 (Nat.le_refl _)) (a := ⟨w.heap.size + 2, 2, none⟩) (by show w.heap.size + 2 < W.heap.size; omega) x3
  have own3t3 := ownsRow_setCell_below (owns_base own3 (show W.heap.size ≤ _ by first | exact Nat.le_refl _ | (simp; omega))) (a := ⟨w.heap.size + 2, 2, none⟩) (by show w.heap.size + 2 < W.heap.size; omega) x3
  have z3 := rJ3.cell (i := 2) rfl
  have zf3 := rJ3.frozen 2
  obtain ⟨xo3, xc3, hx3⟩ := owns_slice own3
  rw [padTo_length] at hx3
  subst hx3
  have i0 := rI3.cell (i := 0) rfl
  have i1 := rI3.cell (i := 1) rfl
  have i2 := rI3.cell (i := 2) rfl
  have y0 := rA3.cell (i := 0) rfl
  have y1 := rA3.cell (i := 1) rfl
  have y2 := rA3.cell (i := 2) rfl
  have f0 := rA3.frozen 0
  have f1 := rA3.frozen 1
  have f2 := rA3.frozen 2
  have fin : ∀ {v : Value} {l : List Int} {W3 : World}, W3.ownsRow W.heap.size 3 1 v l.length (ints l) → RdWords (((W3.setCell ⟨w.heap.size + 1, 0, none⟩ (.slice xo1 a0 xc1)).setCell ⟨w.heap.size + 1, 1, none⟩ (.slice xo2 a2 xc2)).setCell ⟨w.heap.size + 1, 2, none⟩ (.slice xo3 a3 xc3)) v l := fun ho =>
    owns_rd (ownsRow_setCell_below (ownsRow_setCell_below (ownsRow_setCell_below ho (by show w.heap.size + 1 < W.heap.size; omega) _) (by show w.heap.size + 1 < W.heap.size; omega) _) (by show w.heap.size + 1 < W.heap.size; omega) _)
  have HF : Hid _ := hp _ _ _ _ ⟨fin own1t3, fin own2t3, fin own3t3, ((hb03.setCell (p := ⟨w.heap.size + 1, 0, none⟩) (by show w.heap.size ≤ w.heap.size + 1; omega) _).setCell (p := ⟨w.heap.size + 1, 1, none⟩) (by show w.heap.size ≤ w.heap.size + 1; omega) _).setCell (p := ⟨w.heap.size + 1, 2, none⟩) (by show w.heap.size ≤ w.heap.size + 1; omega) _⟩
  clear hp fin own1t1 own1t2 own2t2 own1t3 own2t3 own3t3 own3 rP rA rI rP1 rA1 rI1 rP2 rA2 rI2 rP3 rA3 rI3 hb01 hb02 hb03 hbW hb1 hb2 hb3 h0 h1 h2
  go_wp2
  (try simp only [Exit.inBlock, Exit.then])
  refine bodyPost_ret (v := .agg #[.slice xo1 a0 xc1, .slice xo2 a2 xc2, .slice xo3 a3 xc3]) ?_ rfl ?_
  · simp [results, Tryz.results25, go_sem, y0, y1, y2]
  · simp only [show w.heap.size + 1 + 1 = w.heap.size + 2 from rfl]
    with_reducible exact HF.out

end Go.Proofs.YtblhmeidbjigaabGreatDoor

/- A run that the document fixes. -/
set_option linter.unusedSimpArgs false
set_option linter.unusedVariables false
namespace Go.Proofs.YtblhmeidbjigaabGreatDoor
open Go.RowKit

def pWorks : ProgD := ⟨1, 2, 0, 0, [⟨[⟨3, 1, 0, 0⟩], ⟨3, 1, 0, 0⟩⟩]⟩
def sWorks : ByteArray := ⟨#[84, 87, 1, 2, 0, 0, 1, 1, 3, 1, 0, 0, 3, 1, 0, 0]⟩

theorem works_wrap : wrap64 42 = 42 := by unfold wrap64; omega

theorem works_run : runN pWorks.blocks (Int.toNat 1) 0 (begins pWorks [21] [] []) = ⟨1, 42, [], []⟩ := by
  simp [runN, pWorks, begins, regs0, doOps, stepOp, bops, bek, ber, bfin, rg, stI, calcW, RunD.reg, works_wrap]

theorem works_ans : RunAns sWorks [21] [] [] 1 ⟨1, 42, [], []⟩ 0 :=
  .inr ⟨pWorks, by decide, by rfl, .inr (.inr ⟨rfl, ⟨rfl, rfl, rfl⟩, by omega, works_run.symm⟩)⟩

set_option maxRecDepth 100000 in
set_option maxHeartbeats 1000000 in
theorem works_any (w : World) : Calls Tryz.prog 21 #[] w fun e w' => e = .returned (.bool true) ∧ Below w.heap.size w w' := by
  have hal := (Below.refl w.heap.size w).alloc (Nat.le_refl _) (.cells #[.int .i64 21] 3)
  have r0 : RdWords (w.alloc (.cells #[.int .i64 21] 3)) (.slice (some ⟨w.heap.size, 0, none⟩) 1 1) [21] := by
    refine ⟨_, _, rfl, by simp, fun i hi => ⟨w.heap.size, 0, rfl, ?_⟩⟩
    obtain rfl : i = 0 := by simp at hi; omega
    simp
  go_enter Tryz.func21, Tryz.ntmps21
  go_wp2_with fail
  refine tRun_cps sWorks _ _ _ [21] [] [] 1 _ r0 (rdWords_nil _) (rdWords_nil _) (by decide) _ ?_
  intro o e mv lv w1 ha ho
  obtain ⟨rfl, rfl⟩ := ha.one works_ans
  obtain ⟨mo, mc, rfl⟩ := owns_slice ho.mem
  obtain ⟨lo, lc, rfl⟩ := owns_slice ho.leak
  have hz := ho.below.size
  simp at hz
  have hb1 : Below w.heap.size w w1 := hal.trans (ho.below.mono (by simp))
  have hb2 := hb1.alloc (show w.heap.size ≤ w1.heap.size by omega) (.cells #[.int .i64 1, .int .i64 42, .slice mo 0 mc, .slice lo 0 lc] 63)
  clear ha ho hal r0 hb1
  go_wp2
  go_ret
  exact ⟨by simp, hb2⟩

end Go.Proofs.YtblhmeidbjigaabGreatDoor

/- twinkeep.Sound: what is taken for twins ends alike. -/
set_option linter.unusedSimpArgs false
set_option linter.unusedVariables false
namespace Go.Proofs.YtblhmeidbjigaabGreatDoor
open Go.RowKit

/-- What Run answers where the text is a program's and the input fits. -/
theorem ans_at {p : ProgD} (hg : progGood p = true) {s : ByteArray} (hs : str (progText p) = s) {args mem spill : List Int} (hf : fits p args mem spill) {n : Nat} (hn : n ≤ 300) {o : OutD} {e : Int} (h : RunAns s args mem spill n o e) : o = runN p.blocks n 0 (begins p args mem spill) ∧ e = 0 :=
  h.one (.inr ⟨p, hg, hs, .inr (.inr ⟨rfl, hf, by omega, by simp⟩)⟩)

theorem padTo_wide {l : List Int} (h : Wide l) (n : Nat) : ∀ x ∈ padTo l n, W64 x := by
  intro x hx
  simp only [padTo, List.mem_map, List.mem_range] at hx
  obtain ⟨i, _, rfl⟩ := hx
  by_cases hi : i < l.length
  · exact h _ (getD_mem' hi)
  · have e : l.getD i 0 = 0 := by simp [List.getD, hi]
    rw [e]
    exact w64_small (by omega)

end Go.Proofs.YtblhmeidbjigaabGreatDoor

/- twinkeep.leaks, twinkeep.Quiet: what is taken for twins lets out alike. -/
set_option linter.unusedSimpArgs false
set_option linter.unusedVariables false
namespace Go.Proofs.YtblhmeidbjigaabGreatDoor
open Go.RowKit

set_option maxRecDepth 100000 in
set_option maxHeartbeats 1000000 in
theorem kSameInts_two (u v : Value) (l m : List Int) (w : World) (hu : RdWords w u l) (hv : RdWords w v m) :
    Calls Tryz.prog 26 #[u, v] w fun e w' => e = .returned (.bool (decide (l = m))) ∧ Below w.heap.size w w' := by
  obtain ⟨uo, uc, rfl, hul, hucs⟩ := hu
  obtain ⟨vo, vc, rfl, hvl, hvcs⟩ := hv
  by_cases hlen : l.length = m.length
  · obtain ⟨n, hn⟩ : ∃ n, l.length = n := ⟨_, rfl⟩
    have hm : m.length = n := by rw [← hlen, hn]
    have HLEN := Lib.hid hlen
    have HN := Lib.hid hn
    rw [hn] at hucs hul ⊢
    rw [hm] at hvcs hvl ⊢
    clear hlen hn hm
    go_enter Tryz.func26, Tryz.ntmps26
    go_wp2
    go_loopw [5] (fun i wr => ∃ (k : Nat), k ≤ n ∧ i = .int .i64 k ∧ Below w.heap.size w wr ∧ Hid (∀ j, j < k → l.getD j 0 = m.getD j 0))
      (fun i _ => n - (intOf i).toNat)
    case atStart => exact ⟨0, Nat.zero_le _, rfl, Below.refl _ _, fun j hj => by omega⟩
    case round =>
      obtain ⟨k, hk, rfl, hbel, hall⟩ := hrel
      by_cases hlt : k < n
      · obtain ⟨b, off, rfl, h1⟩ := hucs k hlt
        obtain ⟨b', off', rfl, h2⟩ := hvcs k hlt
        have g1 := cell_keep hbel h1
        have g2 := cell_keep hbel h2
        have hki : (k : Int) < (n : Int) := by omega
        have hbd := Lib.hid (fun d => below_drewN hbel d)
        clear h1 h2 hucs hvcs
        by_cases he : l.getD k 0 = m.getD k 0
        · have hq : (l.getD k 0 != m.getD k 0) = false := by simpa using he
          have hall2 : Hid (∀ j, j < k + 1 → l.getD j 0 = m.getD j 0) := fun j hj => by
            by_cases q : j = k
            · rw [q]; exact he
            · exact hall.out j (by omega)
          clear he hall
          generalize l.getD k 0 = x at *
          generalize m.getD k 0 = y at *
          go_wp2
          go_quiet (fail)
          go_wp2
          go_roundw
          case rel => exact ⟨k + 1, by omega, by go_num, hbd.out _, hall2⟩
          case measure => simp [intOf]; omega
        · have hq : (l.getD k 0 != m.getD k 0) = true := by simpa using he
          have HD : Hid (decide (l = m) = false) := by
            show _ = _
            rw [decide_eq_false_iff_not]
            intro q
            rw [q] at he
            exact he rfl
          clear he hall
          generalize l.getD k 0 = x at *
          generalize m.getD k 0 = y at *
          go_wp2
          go_quiet (fail)
          go_wp2
          (try simp only [Exit.inBlock, Exit.then])
          refine bodyPost_ret (v := .bool false) ?_ rfl ?_
          · simp [results, Tryz.results26, go_sem]
          · exact ⟨by rw [HD.out], hbd.out _⟩
      · obtain rfl : k = n := by omega
        have HD : Hid (decide (l = m) = true) := by
          show _ = _
          rw [decide_eq_true_eq]
          apply List.ext_getElem (by rw [HLEN.out])
          intro j h1 h2
          have := hall.out j (by rw [← HN.out]; exact h1)
          simpa [List.getD, h1, h2] using this
        clear hucs hvcs hall
        go_wp2
        go_ret
        exact ⟨by rw [HD.out]; rfl, hbel⟩
  · have hq : ((l.length : Int) == (m.length : Int)) = false := by simp; omega
    have HD : Hid (decide (l = m) = false) := by
      show _ = _
      rw [decide_eq_false_iff_not]
      intro q; exact hlen (by rw [q])
    clear hucs hvcs hlen
    go_enter Tryz.func26, Tryz.ntmps26
    go_wp2
    go_ret
    exact ⟨by rw [HD.out]; rfl, Below.refl _ _⟩

set_option maxRecDepth 100000 in
set_option maxHeartbeats 2000000 in
theorem leaks_cps (s : ByteArray) (a0 a2 a3 : Nat) (a1 : Int) (l : List BlockD) (gp : progGood ⟨a0, a1, a2, a3, l⟩ = true) (tp : str (progText ⟨a0, a1, a2, a3, l⟩) = s) (hs : s.size ≤ maxLen) (va vm vs : Value) (la lm ls : List Int) (n : Nat) (hn : n ≤ 300) (w : World) (ha : RdWords w va la) (hm : RdWords w vm lm) (hsp : RdWords w vs ls) (Post : Ending → World → Prop)
    (hp : ∀ v w', w'.ownsRow w.heap.size 3 1 v (runN l n 0 (begins ⟨(a0 : Int), a1, (a2 : Int), (a3 : Int), l⟩ (padTo la a0) (padTo lm a2) (padTo ls a3))).leak.length (ints (runN l n 0 (begins ⟨(a0 : Int), a1, (a2 : Int), (a3 : Int), l⟩ (padTo la a0) (padTo lm a2) (padTo ls a3))).leak) → Below w.heap.size w w' → Post (.returned (.tuple #[v, .bool true])) w') :
    Calls Tryz.prog 27 #[.string s, .agg #[va, vm, vs], .int .i64 n] w Post := by
  obtain ⟨o1, c1, rfl, _, _⟩ := id ha
  obtain ⟨o2, c2, rfl, _, _⟩ := id hm
  obtain ⟨o3, c3, rfl, _, _⟩ := id hsp
  obtain ⟨A, hA⟩ : ∃ x, x = w.alloc (.cells #[.slice o1 la.length c1, .slice o2 lm.length c2, .slice o3 ls.length c3] 67) := ⟨_, rfl⟩
  have bA : Below w.heap.size w A := by subst hA; exact (Below.refl _ _).alloc (Nat.le_refl _) _
  have rI : Row A w.heap.size 67 [.slice o1 la.length c1, .slice o2 lm.length c2, .slice o3 ls.length c3] := by subst hA; exact heap_alloc_new w _
  have q1 := fun P' => tDecode_cps s A hs P'
  rw [hA] at q1
  have HP := Lib.hid hp
  have HA := Lib.hid hA
  have HRI := Lib.hid rI
  have HBA := Lib.hid bA
  clear hA hp rI bA
  go_enter Tryz.func27, Tryz.ntmps27
  go_wp2_with fail
  refine q1 _ ?y1 ?n1
  case n1 => intro w1 hn1 _; exact absurd tp (hn1 _ gp)
  intro x0 x1 x2 x3 l' v bv w1 ho hd hgp htp b1
  have hone := prog_one gp hgp (tp.trans htp.symm)
  simp only [ProgD.mk.injEq] at hone
  obtain ⟨rfl, rfl, rfl, rfl, rfl⟩ := hone
  subst hd
  obtain ⟨bo, bc, rfl⟩ := owns_slice ho.row
  rw [← HA.out] at b1
  have bw1 := HBA.out.trans (b1.mono HBA.out.size)
  obtain ⟨w2, hw2⟩ : ∃ x, x = w1.alloc (.cells #[.int .i64 a0, .int .i64 a1, .int .i64 a2, .int .i64 a3, .slice bo bv.length bc] 25) := ⟨_, rfl⟩
  have b12 : Below w1.heap.size w1 w2 := by subst hw2; exact (Below.refl _ _).alloc (Nat.le_refl _) _
  have b02 := bw1.trans (b12.mono bw1.size)
  have rP : Row w2 w1.heap.size 25 [.int .i64 a0, .int .i64 a1, .int .i64 a2, .int .i64 a3, .slice bo bv.length bc] := by subst hw2; exact heap_alloc_new w1 _
  have rI2 := (HRI.out.keep b1).keep b12
  obtain ⟨hpr, hpa, hpd, hpsl⟩ := good_shape gp
  simp only at hpr hpa hpd hpsl
  have q2 := fun P' => suited_cps a1 a0 a2 a3 (.slice bo bv.length bc) (.slice o1 la.length c1) (.slice o2 lm.length c2) (.slice o3 ls.length c3) la lm ls w2 (ha.keep b02) (hm.keep b02) (hsp.keep b02) (by omega) (by omega) (by omega) ⟨_, _, _, rfl⟩ P'
  have x0 := rP.cell (i := 0) rfl
  have x1 := rP.cell (i := 1) rfl
  have x2 := rP.cell (i := 2) rfl
  have x3 := rP.cell (i := 3) rfl
  have x4 := rP.cell (i := 4) rfl
  have i0 := rI2.cell (i := 0) rfl
  have i1 := rI2.cell (i := 1) rfl
  have i2 := rI2.cell (i := 2) rfl
  rw [hw2] at q2 x0 x1 x2 x3 x4 i0 i1 i2
  have HB02 := Lib.hid b02
  have HW2 := Lib.hid hw2
  have HGP := Lib.hid gp
  have HTP := Lib.hid tp
  clear q1 ho hgp htp b1 bw1 hw2 b12 b02 rP rI2 ha hm hsp gp tp HRI HBA HA
  go_wp2_with fail
  refine q2 _ ?_
  intro av mv sv w3 hin
  rw [← HW2.out] at hin
  have b23 := hin.below
  obtain ⟨args, hAE⟩ : ∃ x, x = padTo la a0 := ⟨_, rfl⟩
  obtain ⟨mem, hME⟩ : ∃ x, x = padTo lm a2 := ⟨_, rfl⟩
  obtain ⟨sp, hSE⟩ : ∃ x, x = padTo ls a3 := ⟨_, rfl⟩
  have fp : fits ⟨(a0 : Int), a1, (a2 : Int), (a3 : Int), bdat bv⟩ args mem sp := ⟨by show (args.length : Int) = a0; rw [hAE, padTo_length], by show (mem.length : Int) = a2; rw [hME, padTo_length], by show (sp.length : Int) = a3; rw [hSE, padTo_length]⟩
  rw [← hAE, ← hME, ← hSE] at hin
  rw [← hAE, ← hME, ← hSE] at HP
  obtain ⟨ap, acp, rfl, _, _⟩ := id hin.args
  obtain ⟨mp, mcp, rfl, _, _⟩ := id hin.mem
  obtain ⟨sop, scp, rfl, _, _⟩ := id hin.spill
  have q3 := fun P' => tRun_cps s _ _ _ args mem sp (n : Int) w3 hin.args hin.mem hin.spill hs P'
  have HB03 := Lib.hid (HB02.out.trans (b23.mono HB02.out.size))
  have HFP := Lib.hid fp
  clear q2 hin b23 fp hAE hME hSE x0 x1 x2 x3 x4 i0 i1 i2 HB02 HW2
  go_wp2_with fail
  refine q3 _ ?_
  intro o e8 mv8 lv8 w4 hao hoo
  obtain ⟨ho, rfl⟩ := ans_at HGP.out HTP.out HFP.out (n := n) hn hao
  have hkind := runN_kind (bdat bv) n 0 (s := begins ⟨(a0 : Int), a1, (a2 : Int), (a3 : Int), bdat bv⟩ args mem sp) rfl
  have hob : o = runN (bdat bv) n 0 (begins ⟨(a0 : Int), a1, (a2 : Int), (a3 : Int), bdat bv⟩ args mem sp) := ho
  rw [← hob] at hkind HP
  clear ho hob hao q3
  obtain ⟨ok, res, omem, oleak⟩ := o
  obtain ⟨om, omc, rfl⟩ := owns_slice hoo.mem
  obtain ⟨ol, olc, rfl⟩ := owns_slice hoo.leak
  have b34 := hoo.below
  have b04 := HB03.out.trans (b34.mono HB03.out.size)
  dsimp only at hkind HP ⊢
  obtain ⟨w5, hw5⟩ : ∃ x, x = w4.alloc (.cells #[.int .i64 ok, .int .i64 res, .slice om omem.length omc, .slice ol oleak.length olc] 63) := ⟨_, rfl⟩
  have b45 : Below w4.heap.size w4 w5 := by subst hw5; exact (Below.refl _ _).alloc (Nat.le_refl _) _
  have b05 := b04.trans (b45.mono b04.size)
  have rO : Row w5 w4.heap.size 63 [.int .i64 ok, .int .i64 res, .slice om omem.length omc, .slice ol oleak.length olc] := by subst hw5; exact heap_alloc_new w4 _
  have own5 := owns_base (owns_below hoo.leak b45 (Nat.le_refl _)) HB03.out.size
  have HF := Lib.hid (fun m => HP.out (.slice ol oleak.length olc) (w5.drewN m) (owns_below own5 (below_drewN (Below.refl _ _) m) (Nat.le_refl _)) (below_drewN b05 m))
  have z0 := rO.cell (i := 0) rfl
  have z3 := rO.cell (i := 3) rfl
  have D1 : decide (1 ≤ ok) = true := by simp; omega
  have D2 : decide (ok ≤ 4) = true := by simp; omega
  rw [hw5] at z0 z3
  have HW5 := Lib.hid hw5
  clear hoo b34 b04 hw5 b45 b05 rO own5 hkind HP HB03
  go_wp2
  go_quiet (fail)
  go_wp2
  rw [← HW5.out]
  exact HF.out _

theorem rdInts_keep {w w' : World} {v : Value} {n : Nat} (h : RdInts w v n) (hb : Below w.heap.size w w') : RdInts w' v n := by
  obtain ⟨ao, cap, rfl, hl, hc⟩ := h
  exact ⟨ao, cap, rfl, hl, fun i hi => by obtain ⟨b, off, x, e, h1, h2, h3⟩ := hc i hi; exact ⟨b, off, x, e, h1, h2, cell_keep hb h3⟩⟩

theorem vw_rdo {w : World} {B : Nat} {v : Value} {l : List Int} (h : w.ownsRow B 3 1 v l.length (ints l)) : RdWords w v l := owns_rd h

/-- What Quiet holds beside each other. -/
structure QtW (w W : World) (c1 c2 : List Value) : Prop where
  r1 : Row W w.heap.size 67 c1
  r2 : Row W (w.heap.size + 1) 67 c2
  low : Below w.heap.size w W

theorem QtW.next {w W W' : World} {c1 c2 : List Value} (h : QtW w W c1 c2) (hb : Below W.heap.size W W') : QtW w W' c1 c2 :=
  ⟨h.r1.keep hb, h.r2.keep hb, h.low.trans (hb.mono h.low.size)⟩

set_option maxRecDepth 100000 in
set_option maxHeartbeats 4000000 in
theorem quiet_cps (ao : Option Addr) (n cap : Nat) (s t g : ByteArray) (v1 v2 v3 u1 u2 u3 : Value) (l1a l1m l1s l2a l2m l2s : List Int) (fuel : Int) (w : World) (hraw : RdInts w (.slice ao n cap) n) (htab : TabW w)
    (hs : s.size ≤ maxLen) (ht : t.size ≤ maxLen) (hg : g.size ≤ maxLen) (h1a : RdWords w v1 l1a) (h1m : RdWords w v2 l1m) (h1s : RdWords w v3 l1s) (h2a : RdWords w u1 l2a) (h2m : RdWords w u2 l2m) (h2s : RdWords w u3 l2s)
    (w1a : Wide l1a) (w1m : Wide l1m) (w1s : Wide l1s) (w2a : Wide l2a) (w2m : Wide l2m) (w2s : Wide l2s) (hfu : -9223372036854775808 ≤ fuel ∧ fuel ≤ 9223372036854775807) (Post : Ending → World → Prop)
    (hp : ∀ w', Below w.heap.size w w' → Post (.returned (.bool true)) w') :
    Calls Tryz.prog 8 #[.slice ao n cap, .string s, .string t, .string g, .agg #[v1, v2, v3], .agg #[u1, u2, u3], .int .i64 fuel] w Post := by
  obtain ⟨p1o, p1c, rfl, _, _⟩ := id h1a
  obtain ⟨q1o, q1c, rfl, _, _⟩ := id h1m
  obtain ⟨r1o, r1c, rfl, _, _⟩ := id h1s
  obtain ⟨p2o, p2c, rfl, _, _⟩ := id h2a
  obtain ⟨q2o, q2c, rfl, _, _⟩ := id h2m
  obtain ⟨r2o, r2c, rfl, _, _⟩ := id h2s
  obtain ⟨A, hA⟩ : ∃ A, A = (w.alloc (.cells #[.slice p1o l1a.length p1c, .slice q1o l1m.length q1c, .slice r1o l1s.length r1c] 67)).alloc (.cells #[.slice p2o l2a.length p2c, .slice q2o l2m.length q2c, .slice r2o l2s.length r2c] 67) := ⟨_, rfl⟩
  have S0 : QtW w A [.slice p1o l1a.length p1c, .slice q1o l1m.length q1c, .slice r1o l1s.length r1c] [.slice p2o l2a.length p2c, .slice q2o l2m.length q2c, .slice r2o l2s.length r2c] := by
    subst hA
    exact ⟨Row.alloc (heap_alloc_new w _) _, heap_alloc2_new w _ _, ((Below.refl w.heap.size w).alloc (Nat.le_refl _) _).alloc (by simp) _⟩
  have hraw2 : RdInts A (.slice ao n cap) n := rdInts_keep hraw S0.low
  have c1 := fun P' => same_cps ao n cap A hraw2 (htab.keep S0.low) P'
  rw [hA] at c1
  have HP := Lib.hid hp
  have HS0 := Lib.hid S0
  rw [hA] at HS0
  have H1a := Lib.hid h1a
  have H1m := Lib.hid h1m
  have H1s := Lib.hid h1s
  have H2a := Lib.hid h2a
  have H2m := Lib.hid h2m
  have H2s := Lib.hid h2s
  have HW1 := Lib.hid (fun k => And.intro (padTo_wide w1a k) (And.intro (padTo_wide w1m k) (padTo_wide w1s k)))
  have HW2 := Lib.hid (fun k => And.intro (padTo_wide w2a k) (And.intro (padTo_wide w2m k) (padTo_wide w2s k)))
  clear hp S0 hA A hraw2 hraw h1a h1m h1s h2a h2m h2s w1a w1m w1s w2a w2m w2s
  go_enter Tryz.func8, Tryz.ntmps8
  go_wp2_with fail
  refine c1 _ ?_
  intro w1 b1
  have S1 := HS0.out.next b1
  clear c1 b1 HS0
  have c2 := works_any w1
  have HS := Lib.hid S1
  clear S1
  go_wp2_with fail
  refine c2.mono ?_
  rintro e w2 ⟨rfl, b2⟩
  have S2 := HS.out.next b2
  clear c2 b2 HS
  have c3 := fun P' => tVal_cps s t g w2 hs ht hg (htab.keep S2.low) P'
  have HS := Lib.hid S2
  clear S2
  go_wp2_with fail
  refine c3 _ ?_
  intro e k w3 hv b3
  have S3 := HS.out.next b3
  clear c3 b3 HS
  by_cases he : e = 0
  case neg =>
    have hq : (e == 0) = false := by rw [beq_eq_false_iff_ne]; exact he
    have HF := Lib.hid (HP.out w3 S3.low)
    clear hv he HP S3
    go_wp2
    exact HF.out
  subst he
  obtain ⟨p, q, h, gp, tp, gq, tq, gh, th, hp0, hargs, hdata, hok, hs0, hst⟩ := hv.ok
  have HSIL : Hid (∀ {args mem spill args' mem' spill' : List Int}, fits p args mem [] → fits q args mem spill → (∀ x ∈ args, W64 x) → (∀ x ∈ mem, W64 x) → (∀ x ∈ spill, W64 x) → fits p args' mem' [] → fits q args' mem' spill' → (∀ x ∈ args', W64 x) → (∀ x ∈ mem', W64 x) → (∀ x ∈ spill', W64 x) → ∀ f : Nat,
      (runN p.blocks f 0 (begins p args mem [])).leak = (runN p.blocks f 0 (begins p args' mem' [])).leak → (runN q.blocks f 0 (begins q args mem spill)).leak = (runN q.blocks f 0 (begins q args' mem' spill')).leak) :=
    fun fp fq ha hm hs fp' fq' ha' hm' hs' f e => twins_silent gp gq hp0 hdata hok hs0 hst fp fq ha hm hs fp' fq' ha' hm' hs' f e
  obtain ⟨hpr, hpa, hpd, hpsl⟩ := good_shape gp
  obtain ⟨hqr, hqa, hqd, hqsl⟩ := good_shape gq
  obtain ⟨a0, a1, a2, a3, pb⟩ := p
  obtain ⟨d0, d1, d2, d3, qb⟩ := q
  dsimp only at hp0 hargs hdata hpr hpa hpd hpsl hqr hqa hqd hqsl
  subst hp0 hargs hdata
  obtain ⟨a0, rfl⟩ := Int.eq_ofNat_of_zero_le hpa.1
  obtain ⟨a2, rfl⟩ := Int.eq_ofNat_of_zero_le hpd.1
  obtain ⟨d3, rfl⟩ := Int.eq_ofNat_of_zero_le hqsl.1
  have hz0 : ((0 : Nat) : Int) = 0 := rfl
  have LS := fun (n : Nat) (hn : n ≤ 300) (va vm vs : Value) (la lm ls : List Int) (W : World) (h1 : RdWords W va la) (h2 : RdWords W vm lm) (h3 : RdWords W vs ls) P' => leaks_cps s a0 a2 0 a1 pb gp tp hs va vm vs la lm ls n hn W h1 h2 h3 P'
  have LT := fun (n : Nat) (hn : n ≤ 300) (va vm vs : Value) (la lm ls : List Int) (W : World) (h1 : RdWords W va la) (h2 : RdWords W vm lm) (h3 : RdWords W vs ls) P' => leaks_cps t a0 a2 d3 d1 qb gq tq ht va vm vs la lm ls n hn W h1 h2 h3 P'
  have c4 := fun P' => pick_any fuel 301 w3 hfu (by omega) P'
  have HS := Lib.hid S3
  clear hv gh th hok hs0 hst S3 gp gq tp tq hz0
  go_wp2_with fail
  refine c4 _ ?_
  intro f hf0 hf1
  obtain ⟨f, rfl⟩ := Int.eq_ofNat_of_zero_le hf0
  have hf3 : f ≤ 300 := by omega
  clear c4 hf0 hf1
  have kA := fun P' => LS f hf3 _ _ _ l1a l1m l1s w3 (H1a.out.keep HS.out.low) (H1m.out.keep HS.out.low) (H1s.out.keep HS.out.low) P'
  have x0 := HS.out.r1.cell (i := 0) rfl
  have x1 := HS.out.r1.cell (i := 1) rfl
  have x2 := HS.out.r1.cell (i := 2) rfl
  go_wp2_with fail
  refine kA _ ?_
  intro zA w4 oA bA
  obtain ⟨LA, hLA⟩ : ∃ x, x = (runN pb f 0 (begins ⟨(a0 : Int), a1, (a2 : Int), ((0 : Nat) : Int), pb⟩ (padTo l1a a0) (padTo l1m a2) (padTo l1s 0))).leak := ⟨_, rfl⟩
  rw [← hLA] at oA
  have HLA := Lib.hid hLA
  obtain ⟨sAo, sAc, rfl⟩ := owns_slice oA
  have HDA := Lib.hid (vw_rdo oA)
  have HX := Lib.hid (HS.out.next bA)
  clear HS kA x0 x1 x2 oA bA hLA
  have HS := HX
  clear HX
  have kB := fun P' => LS f hf3 _ _ _ l2a l2m l2s w4 (H2a.out.keep HS.out.low) (H2m.out.keep HS.out.low) (H2s.out.keep HS.out.low) P'
  have x0 := HS.out.r2.cell (i := 0) rfl
  have x1 := HS.out.r2.cell (i := 1) rfl
  have x2 := HS.out.r2.cell (i := 2) rfl
  go_wp2_with fail
  refine kB _ ?_
  intro zB w5 oB bB
  obtain ⟨LB, hLB⟩ : ∃ x, x = (runN pb f 0 (begins ⟨(a0 : Int), a1, (a2 : Int), ((0 : Nat) : Int), pb⟩ (padTo l2a a0) (padTo l2m a2) (padTo l2s 0))).leak := ⟨_, rfl⟩
  rw [← hLB] at oB
  have HLB := Lib.hid hLB
  obtain ⟨sBo, sBc, rfl⟩ := owns_slice oB
  have HDB := Lib.hid (vw_rdo oB)
  have HX := Lib.hid (HS.out.next bB)
  have HDA2 := Lib.hid (HDA.out.keep bB)
  clear HDA
  have HDA := HDA2
  clear HDA2
  clear HS kB x0 x1 x2 oB bB hLB
  have HS := HX
  clear HX
  have kC := fun P' => LT f hf3 _ _ _ l1a l1m l1s w5 (H1a.out.keep HS.out.low) (H1m.out.keep HS.out.low) (H1s.out.keep HS.out.low) P'
  have x0 := HS.out.r1.cell (i := 0) rfl
  have x1 := HS.out.r1.cell (i := 1) rfl
  have x2 := HS.out.r1.cell (i := 2) rfl
  go_wp2_with fail
  refine kC _ ?_
  intro zC w6 oC bC
  obtain ⟨LC, hLC⟩ : ∃ x, x = (runN qb f 0 (begins ⟨(a0 : Int), d1, (a2 : Int), (d3 : Int), qb⟩ (padTo l1a a0) (padTo l1m a2) (padTo l1s d3))).leak := ⟨_, rfl⟩
  rw [← hLC] at oC
  have HLC := Lib.hid hLC
  obtain ⟨sCo, sCc, rfl⟩ := owns_slice oC
  have HDC := Lib.hid (vw_rdo oC)
  have HX := Lib.hid (HS.out.next bC)
  have HDA2 := Lib.hid (HDA.out.keep bC)
  clear HDA
  have HDA := HDA2
  clear HDA2
  have HDB2 := Lib.hid (HDB.out.keep bC)
  clear HDB
  have HDB := HDB2
  clear HDB2
  clear HS kC x0 x1 x2 oC bC hLC
  have HS := HX
  clear HX
  have kD := fun P' => LT f hf3 _ _ _ l2a l2m l2s w6 (H2a.out.keep HS.out.low) (H2m.out.keep HS.out.low) (H2s.out.keep HS.out.low) P'
  have x0 := HS.out.r2.cell (i := 0) rfl
  have x1 := HS.out.r2.cell (i := 1) rfl
  have x2 := HS.out.r2.cell (i := 2) rfl
  go_wp2_with fail
  refine kD _ ?_
  intro zD w7 oD bD
  obtain ⟨LD, hLD⟩ : ∃ x, x = (runN qb f 0 (begins ⟨(a0 : Int), d1, (a2 : Int), (d3 : Int), qb⟩ (padTo l2a a0) (padTo l2m a2) (padTo l2s d3))).leak := ⟨_, rfl⟩
  rw [← hLD] at oD
  have HLD := Lib.hid hLD
  obtain ⟨sDo, sDc, rfl⟩ := owns_slice oD
  have HDD := Lib.hid (vw_rdo oD)
  have HX := Lib.hid (HS.out.next bD)
  have HDA2 := Lib.hid (HDA.out.keep bD)
  clear HDA
  have HDA := HDA2
  clear HDA2
  have HDB2 := Lib.hid (HDB.out.keep bD)
  clear HDB
  have HDB := HDB2
  clear HDB2
  have HDC2 := Lib.hid (HDC.out.keep bD)
  clear HDC
  have HDC := HDC2
  clear HDC2
  clear HS kD x0 x1 x2 oD bD hLD
  have HS := HX
  clear HX
  have m1 := kSameInts_two _ _ LA LB w7 HDA.out HDB.out
  go_wp2_with fail
  refine m1.mono ?_
  rintro e w8 ⟨rfl, b8⟩
  have m2 := kSameInts_two _ _ LC LD w8 (HDC.out.keep b8) (HDD.out.keep b8)
  have S8 := HS.out.next b8
  clear m1 b8 HS HDA HDB HDC HDD
  go_wp2_with fail
  refine m2.mono ?_
  rintro e w9 ⟨rfl, b9⟩
  have S9 := S8.next b9
  have HF := Lib.hid (HP.out w9 S9.low)
  have HI : Hid (LA = LB → LC = LD) := fun e => by
    rw [HLA.out, HLB.out] at e
    rw [HLC.out, HLD.out]
    exact HSIL.out ⟨by simp [padTo_length], by simp [padTo_length], rfl⟩ ⟨by simp [padTo_length], by simp [padTo_length], by simp [padTo_length]⟩ (HW1.out _).1 (HW1.out _).2.1 (HW1.out _).2.2 ⟨by simp [padTo_length], by simp [padTo_length], rfl⟩ ⟨by simp [padTo_length], by simp [padTo_length], by simp [padTo_length]⟩ (HW2.out _).1 (HW2.out _).2.1 (HW2.out _).2.2 f e
  clear m2 b9 S8 S9 HLA HLB HLC HLD HSIL HP
  by_cases hAB : LA = LB
  · have hCD := HI.out hAB
    have e1 : decide (LC = LD) = true := by simp [hCD]
    rw [e1]
    clear HI hAB hCD e1
    generalize decide (LA = LB) = zz at *
    go_wp2
    exact HF.out
  · have e1 : decide (LA = LB) = false := by simp [hAB]
    rw [e1]
    clear HI hAB e1
    cases hz : decide (LC = LD) with
    | true =>
      clear hz
      go_wp2
      exact HF.out
    | false =>
      clear hz
      go_wp2
      exact HF.out

end Go.Proofs.YtblhmeidbjigaabGreatDoor

/- An input that came in. -/
set_option linter.unusedSimpArgs false
set_option linter.unusedVariables false
namespace Go.Proofs.YtblhmeidbjigaabGreatDoor
open Go.RowKit Go.ChangeShapes Go.WideShapes Go.ChangeAt Go.Deep

theorem Tryz.cellsInputQ : Tryz.prog.cellsOf 67 = 3 := by kernel_rfl
theorem Tryz.cellsIntsQ : Tryz.prog.cellsOf 22 = 1 := by kernel_rfl

section
variable {H : Type} {enc : TypeId × Value → H} {w : World} {spare : Nat → Bool} {held : Bool}

theorem three_cellsQ (cs : Array Value) (h : cs.size = 3) : ∃ a b c, cs = #[a, b, c] := by
  rcases cs with ⟨l⟩
  match l, h with
  | [a, b, c], _ => exact ⟨a, b, c, rfl⟩

set_option maxRecDepth 100000 in
theorem open_input_wide {v : Value} {d : DataW H} {p : List MemPlace} {r : Reach} {b0 : Nat} (hv : Value.okWide Tryz.prog w r b0 67 v) (h : DataW.Trod enc Tryz.prog w 0 spare held 67 v d p) (hs : ∀ n ∈ d.weights Tryz.prog 67, n ≤ reachBytes) :
    ∃ a m s la lm ls, v = .agg #[a, m, s] ∧ RdWords w a la ∧ RdWords w m lm ∧ RdWords w s ls ∧ Wide la ∧ Wide lm ∧ Wide ls := by
  obtain ⟨cs, rfl, hcs⟩ := okWide_struct Tryz.underlying67 hv
  rw [Tryz.cellsInputQ] at hcs
  obtain ⟨c0, c1, c2, rfl⟩ := three_cellsQ cs hcs
  obtain ⟨fuel, hf⟩ := h
  obtain ⟨y0, y1, y2, n, hx, _, h0, h1, h2⟩ := trod_struct3 Tryz.underlying67 hf
  simp only [Tryz.cellsIntsQ] at h0 h1 h2
  simp only [Prod.mk.injEq] at hx
  obtain ⟨l0, r0, _, n0⟩ := open_words (v := c0) (x := y0) (by simpa [Value.cells] using h0) (fun n hn => hs n (by
    rw [hx.1]
    simp [DataW.weights, Tryz.underlying67, DataW.weightsEach]
    exact .inl hn))
  obtain ⟨l1, r1, _, n1⟩ := open_words (v := c1) (x := y1) (by simpa [Value.cells] using h1) (fun n hn => hs n (by
    rw [hx.1]
    simp [DataW.weights, Tryz.underlying67, DataW.weightsEach]
    exact .inr (.inl hn)))
  obtain ⟨l2, r2, _, n2⟩ := open_words (v := c2) (x := y2) (by simpa [Value.cells] using h2) (fun n hn => hs n (by
    rw [hx.1]
    simp [DataW.weights, Tryz.underlying67, DataW.weightsEach]
    exact .inr (.inr hn)))
  exact ⟨c0, c1, c2, l0, l1, l2, rfl, r0, r1, r2, n0, n1, n2⟩
end


end Go.Proofs.YtblhmeidbjigaabGreatDoor
