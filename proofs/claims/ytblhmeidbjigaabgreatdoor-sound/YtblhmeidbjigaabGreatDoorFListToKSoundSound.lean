/- Lists cut or filled up to a length; an input for a program. -/
import Derived.Test.YtblhmeidbjigaabGreatDoorRows
import Derived.WalkKit
import Derived.WalkSpells
import Derived.WalkLawsBesides
import Derived.Laws.BytesArg
import Derived.Deep.QuietTactic
import Derived.BigQuiet
import Derived.Deep.RegionHeld3
import Derived.Maps.AppendAt
import Derived.StillTailTactics
import Derived.Deep.RegionLaw
import Derived.Deep.AppendLies
import Derived.Lib.ItoaNum
import Derived.Lib.ItoaLen
import Derived.OpenShut
import Derived.Shelf.Strconv.Itoa3
import Derived.Shelf.Lay
import Derived.Ground.NamesProg
import Derived.Lib.SmallJoins
import Derived.Lib.Hide
import Derived.ProofKit
import Derived.SizedLaws
import Derived.Deep.Slices
import Derived.Test.YtblhmeidbjigaabGreatDoorVCmHToFSameSound

set_option linter.unusedSimpArgs false
set_option linter.unusedVariables false
namespace Go.Proofs.YtblhmeidbjigaabGreatDoor
open Go.RowKit

def padTo (l : List Int) (n : Nat) : List Int := (List.range n).map fun i => l.getD i 0

theorem padTo_length (l : List Int) (n : Nat) : (padTo l n).length = n := by simp [padTo]

theorem padTo_snoc (l : List Int) (n : Nat) : ints (padTo l (n + 1)) = ints (padTo l n) ++ [.int .i64 (l.getD n 0)] := by
  rw [← ints_snoc]
  simp [padTo, List.range_succ]

set_option maxRecDepth 100000 in
set_option maxHeartbeats 2000000 in
theorem kList_cps (v : Value) (l : List Int) (n : Nat) (w : World) (hr : RdWords w v l) (hn : n ≤ 1000) (Post : Ending → World → Prop)
    (hp : ∀ v' w', w'.ownsRow w.heap.size 3 1 v' (padTo l n).length (ints (padTo l n)) → Below w.heap.size w w' → Post (.returned v') w') :
    Calls Tryz.prog 37 #[v, .int .i64 n] w Post := by
  obtain ⟨ao, cap, rfl, hll, hc⟩ := hr
  obtain ⟨i0, ii, iz0, iz1, iz2⟩ := info_parts Tryz.infoInt
  go_enter Tryz.func37, Tryz.ntmps37
  go_wp2
  go_loopw [5, 6] (fun o i wr => ∃ (k : Nat), k ≤ n ∧ i = .int .i64 k ∧ wr.ownsRow w.heap.size 3 1 o k (ints (padTo l k)) ∧ Below w.heap.size w wr)
    (fun _ i _ => n - (intOf i).toNat)
  case atStart => exact ⟨0, Nat.zero_le _, rfl, World.ownsRow_nil _ _ _ _, Below.refl _ _⟩
  case round =>
    obtain ⟨k, hk, rfl, hown, hbel⟩ := hrel
    obtain ⟨lo, lc, rfl⟩ := owns_slice hown
    have hz := hbel.size
    by_cases hlt : k < n
    · have HT : Hid (ints (padTo l (k + 1)) = ints (padTo l k) ++ [.int .i64 (l.getD k 0)]) := padTo_snoc l k
      by_cases hin : k < l.length
      · obtain ⟨b, off, rfl, h1⟩ := hc k hin
        have h2 := cell_keep hbel h1
        clear h1
        generalize l.getD k 0 = x at *
        go_wp2_with (at_builtin; refine wpList_append_own _ rfl _ _ 22 rfl w.heap.size 3 i0 (.int .i64 0) 1 8 Tryz.underlying22 ii iz0 iz1 iz2 rfl (by decide) _ _ _ rfl (hown.alloc _) ⟨wr.heap.size, 0, none⟩ 1 1 [.int .i64 x] rfl rfl ?c1 (int_one _) ?c3 ?c4 ?c5 ?_)
        case c1 => exact one_new wr _ _
        case c3 => unfold maxLen; omega
        case c4 => omega
        case c5 => simp; omega
        intro v' w3 hown' hgrow _
        rw [← HT.out] at hown'
        have hb3 := (hbel.alloc hz (.cells #[.int .i64 x] 3)).grown hgrow (by simp; omega) (fun g hg => (hown.lt g hg).1)
        obtain ⟨lo', lc', rfl⟩ := owns_slice hown'
        clear hgrow hown h2 hbel HT
        go_wp2
        go_roundw
        case rel => exact ⟨k + 1, by omega, by go_num, hown', hb3⟩
        case measure => simp [intOf]; omega
      · have hx : l.getD k 0 = 0 := by simp [List.getD, hin]
        rw [hx] at HT
        go_wp2_with (at_builtin; refine wpList_append_own _ rfl _ _ 22 rfl w.heap.size 3 i0 (.int .i64 0) 1 8 Tryz.underlying22 ii iz0 iz1 iz2 rfl (by decide) _ _ _ rfl (hown.alloc _) ⟨wr.heap.size, 0, none⟩ 1 1 [.int .i64 0] rfl rfl ?d1 (int_one _) ?d3 ?d4 ?d5 ?_)
        case d1 => exact one_new wr _ _
        case d3 => unfold maxLen; omega
        case d4 => omega
        case d5 => simp; omega
        intro v' w3 hown' hgrow _
        rw [← HT.out] at hown'
        have hb3 := (hbel.alloc hz (.cells #[.int .i64 0] 3)).grown hgrow (by simp; omega) (fun g hg => (hown.lt g hg).1)
        obtain ⟨lo', lc', rfl⟩ := owns_slice hown'
        clear hgrow hown hbel HT
        go_wp2
        go_roundw
        case rel => exact ⟨k + 1, by omega, by go_num, hown', hb3⟩
        case measure => simp [intOf]; omega
    · obtain rfl : k = n := by omega
      have HF : Hid (Post (.returned (.slice lo k lc)) wr) := hp _ _ (by rw [padTo_length]; exact hown) hbel
      clear hp hown hbel hc
      go_wp2
      exact HF.out

/-- An input in memory of its own. -/
structure OwnIn (w w' : World) (av mv sv : Value) (a m s : List Int) : Prop where
  args : RdWords w' av a
  mem : RdWords w' mv m
  spill : RdWords w' sv s
  below : Below w.heap.size w w'

set_option maxRecDepth 100000 in
set_option maxHeartbeats 2000000 in
theorem suited_cps (a1 : Int) (a0 a2 a3 : Nat) (pv v0 v1 v2 : Value) (l0 l1 l2 : List Int) (w : World) (h0 : RdWords w v0 l0) (h1 : RdWords w v1 l1) (h2 : RdWords w v2 l2) (hn0 : a0 ≤ 8) (hn2 : a2 ≤ 8) (hn3 : a3 ≤ 8) (hpv : ∃ po pn pc, pv = .slice po pn pc) (Post : Ending → World → Prop)
    (hp : ∀ av mv sv w', OwnIn w w' av mv sv (padTo l0 a0) (padTo l1 a2) (padTo l2 a3) → Post (.returned (.agg #[av, mv, sv])) w') :
    Calls Tryz.prog 25 #[.agg #[.int .i64 a0, .int .i64 a1, .int .i64 a2, .int .i64 a3, pv], v0, v1, v2] w Post := by
  obtain ⟨po, pn, pc, rfl⟩ := hpv
  obtain ⟨o0, c0, rfl, _, _⟩ := id h0
  obtain ⟨o1, c1, rfl, _, _⟩ := id h1
  obtain ⟨o2, c2, rfl, _, _⟩ := id h2
  obtain ⟨W, hW⟩ : ∃ W, W = ((w.alloc (.cells #[.int .i64 a0, .int .i64 a1, .int .i64 a2, .int .i64 a3, .slice po pn pc] 25)).alloc (.cells #[.slice none 0 0, .slice none 0 0, .slice none 0 0] 67)).alloc (.cells #[.slice none 0 0, .slice none 0 0, .slice none 0 0] 67) := ⟨_, rfl⟩
  have hzW : w.heap.size + 3 ≤ W.heap.size := by rw [hW]; simp
  have rP : Row W w.heap.size 25 [.int .i64 a0, .int .i64 a1, .int .i64 a2, .int .i64 a3, .slice po pn pc] := by
    rw [hW]
    have q : Row (w.alloc (.cells #[.int .i64 a0, .int .i64 a1, .int .i64 a2, .int .i64 a3, .slice po pn pc] 25)) w.heap.size 25 [.int .i64 a0, .int .i64 a1, .int .i64 a2, .int .i64 a3, .slice po pn pc] := heap_alloc_new w _
    exact (q.alloc _).alloc _
  have rA : Row W (w.heap.size + 1) 67 [.slice none 0 0, .slice none 0 0, .slice none 0 0] := by
    rw [hW]
    have q : Row ((w.alloc (.cells #[.int .i64 a0, .int .i64 a1, .int .i64 a2, .int .i64 a3, .slice po pn pc] 25)).alloc (.cells #[.slice none 0 0, .slice none 0 0, .slice none 0 0] 67)) (w.heap.size + 1) 67 [.slice none 0 0, .slice none 0 0, .slice none 0 0] := heap_alloc2_new w _ _
    exact q.alloc _
  have rI : Row W (w.heap.size + 2) 67 [.slice none 0 0, .slice none 0 0, .slice none 0 0] := by
    rw [hW]
    have q := heap_alloc2_new (w.alloc (.cells #[.int .i64 a0, .int .i64 a1, .int .i64 a2, .int .i64 a3, .slice po pn pc] 25)) (.cells #[.slice none 0 0, .slice none 0 0, .slice none 0 0] 67) (.cells #[.slice none 0 0, .slice none 0 0, .slice none 0 0] 67)
    simp only [World.size_alloc] at q
    exact q
  have hbW : Below w.heap.size w W := by rw [hW]; exact (((Below.refl w.heap.size w).alloc (Nat.le_refl _) _).alloc (by simp) _).alloc (by simp; omega) _
  have p0 := rP.cell (i := 0) rfl
  rw [hW] at p0
  go_enter Tryz.func25, Tryz.ntmps25
  go_wp2_with fail
  rw [← hW]
  clear hW p0
  refine kList_cps _ l0 a0 W (h0.keep hbW) (by omega) _ ?_
  intro x1 w1 own1 hb1
  have hz1 : W.heap.size ≤ w1.heap.size := by have := hb1.size; (try simp at this); omega
  have rP1 := (rP.keep hb1).unset (a := ⟨w.heap.size + 2, 0, none⟩) (by show w.heap.size ≠ w.heap.size + 2; omega) x1
  have rA1 := (rA.keep hb1).unset (a := ⟨w.heap.size + 2, 0, none⟩) (by show w.heap.size + 1 ≠ w.heap.size + 2; omega) x1
  have rJ1 := rI.keep hb1
  have rI1 := rJ1.set 0 x1
  have hb01 := (hbW.trans (hb1.mono (by first | omega | (simp; omega)))).setCell (p := ⟨w.heap.size + 2, 0, none⟩) (by show w.heap.size ≤ w.heap.size + 2; omega) x1
  have own1t1 := ownsRow_setCell_below (owns_base own1 (show W.heap.size ≤ _ by first | exact Nat.le_refl _ | (simp; omega))) (a := ⟨w.heap.size + 2, 0, none⟩) (by show w.heap.size + 2 < W.heap.size; omega) x1
  have z1 := rJ1.cell (i := 0) rfl
  have zf1 := rJ1.frozen 0
  obtain ⟨xo1, xc1, hx1⟩ := owns_slice own1
  rw [padTo_length] at hx1
  subst hx1
  have p2 := rP1.cell (i := 2) rfl
  clear own1
  go_wp2_with fail
  refine kList_cps _ l1 a2 _ (h1.keep hb01) (by omega) _ ?_
  clear p2 z1 zf1 rJ1
  intro x2 w2 own2 hb2
  have hz2 : W.heap.size ≤ w2.heap.size := by have := hb2.size; (try simp at this); omega
  have rP2 := (rP1.keep hb2).unset (a := ⟨w.heap.size + 2, 1, none⟩) (by show w.heap.size ≠ w.heap.size + 2; omega) x2
  have rA2 := (rA1.keep hb2).unset (a := ⟨w.heap.size + 2, 1, none⟩) (by show w.heap.size + 1 ≠ w.heap.size + 2; omega) x2
  have rJ2 := rI1.keep hb2
  have rI2 := rJ2.set 1 x2
  have hb02 := (hb01.trans (hb2.mono (by first | omega | (simp; omega)))).setCell (p := ⟨w.heap.size + 2, 1, none⟩) (by show w.heap.size ≤ w.heap.size + 2; omega) x2
  have own1t2 := ownsRow_setCell_below (owns_below own1t1 hb2 (Nat.le_refl _)) (a := ⟨w.heap.size + 2, 1, none⟩) (by show w.heap.size + 2 < W.heap.size; omega) x2
  have own2t2 := ownsRow_setCell_below (owns_base own2 (show W.heap.size ≤ _ by first | exact Nat.le_refl _ | (simp; omega))) (a := ⟨w.heap.size + 2, 1, none⟩) (by show w.heap.size + 2 < W.heap.size; omega) x2
  have z2 := rJ2.cell (i := 1) rfl
  have zf2 := rJ2.frozen 1
  obtain ⟨xo2, xc2, hx2⟩ := owns_slice own2
  rw [padTo_length] at hx2
  subst hx2
  have p3 := rP2.cell (i := 3) rfl
  clear own2
  go_wp2_with fail
  refine kList_cps _ l2 a3 _ (h2.keep hb02) (by omega) _ ?_
  clear p3 z2 zf2 rJ2
  intro x3 w3 own3 hb3
  have hz3 : W.heap.size ≤ w3.heap.size := by have := hb3.size; (try simp at this); omega
  have rP3 := (rP2.keep hb3).unset (a := ⟨w.heap.size + 2, 2, none⟩) (by show w.heap.size ≠ w.heap.size + 2; omega) x3
  have rA3 := (rA2.keep hb3).unset (a := ⟨w.heap.size + 2, 2, none⟩) (by show w.heap.size + 1 ≠ w.heap.size + 2; omega) x3
  have rJ3 := rI2.keep hb3
  have rI3 := rJ3.set 2 x3
  have hb03 := (hb02.trans (hb3.mono (by first | omega | (simp; omega)))).setCell (p := ⟨w.heap.size + 2, 2, none⟩) (by show w.heap.size ≤ w.heap.size + 2; omega) x3
  have own1t3 := ownsRow_setCell_below (owns_below own1t2 hb3 (Nat.le_refl _)) (a := ⟨w.heap.size + 2, 2, none⟩) (by show w.heap.size + 2 < W.heap.size; omega) x3
  have own2t3 := ownsRow_setCell_below (owns_below own2t2 hb3 (Nat.le_refl _)) (a := ⟨w.heap.size + 2, 2, none⟩) (by show w.heap.size + 2 < W.heap.size; omega) x3
  have own3t3 := ownsRow_setCell_below (owns_base own3 (show W.heap.size ≤ _ by first | exact Nat.le_refl _ | (simp; omega))) (a := ⟨w.heap.size + 2, 2, none⟩) (by show w.heap.size + 2 < W.heap.size; omega) x3
  have z3 := rJ3.cell (i := 2) rfl
  have zf3 := rJ3.frozen 2
  obtain ⟨xo3, xc3, hx3⟩ := owns_slice own3
  rw [padTo_length] at hx3
  subst hx3
  have i0 := rI3.cell (i := 0) rfl
  have i1 := rI3.cell (i := 1) rfl
  have i2 := rI3.cell (i := 2) rfl
  have y0 := rA3.cell (i := 0) rfl
  have y1 := rA3.cell (i := 1) rfl
  have y2 := rA3.cell (i := 2) rfl
  have f0 := rA3.frozen 0
  have f1 := rA3.frozen 1
  have f2 := rA3.frozen 2
  have fin : ∀ {v : Value} {l : List Int} {W3 : World}, W3.ownsRow W.heap.size 3 1 v l.length (ints l) → RdWords (((W3.setCell ⟨w.heap.size + 1, 0, none⟩ (.slice xo1 a0 xc1)).setCell ⟨w.heap.size + 1, 1, none⟩ (.slice xo2 a2 xc2)).setCell ⟨w.heap.size + 1, 2, none⟩ (.slice xo3 a3 xc3)) v l := fun ho =>
    owns_rd (ownsRow_setCell_below (ownsRow_setCell_below (ownsRow_setCell_below ho (by show w.heap.size + 1 < W.heap.size; omega) _) (by show w.heap.size + 1 < W.heap.size; omega) _) (by show w.heap.size + 1 < W.heap.size; omega) _)
  have HF : Hid _ := hp _ _ _ _ ⟨fin own1t3, fin own2t3, fin own3t3, ((hb03.setCell (p := ⟨w.heap.size + 1, 0, none⟩) (by show w.heap.size ≤ w.heap.size + 1; omega) _).setCell (p := ⟨w.heap.size + 1, 1, none⟩) (by show w.heap.size ≤ w.heap.size + 1; omega) _).setCell (p := ⟨w.heap.size + 1, 2, none⟩) (by show w.heap.size ≤ w.heap.size + 1; omega) _⟩
  clear hp fin own1t1 own1t2 own2t2 own1t3 own2t3 own3t3 own3 rP rA rI rP1 rA1 rI1 rP2 rA2 rI2 rP3 rA3 rI3 hb01 hb02 hb03 hbW hb1 hb2 hb3 h0 h1 h2
  go_wp2
  (try simp only [Exit.inBlock, Exit.then])
  refine bodyPost_ret (v := .agg #[.slice xo1 a0 xc1, .slice xo2 a2 xc2, .slice xo3 a3 xc3]) ?_ rfl ?_
  · simp [results, Tryz.results25, go_sem, y0, y1, y2]
  · simp only [show w.heap.size + 1 + 1 = w.heap.size + 2 from rfl]
    with_reducible exact HF.out

end Go.Proofs.YtblhmeidbjigaabGreatDoor

/- A run that the document fixes. -/
set_option linter.unusedSimpArgs false
set_option linter.unusedVariables false
namespace Go.Proofs.YtblhmeidbjigaabGreatDoor
open Go.RowKit

def pWorks : ProgD := ⟨1, 2, 0, 0, [⟨[⟨3, 1, 0, 0⟩], ⟨3, 1, 0, 0⟩⟩]⟩
def sWorks : ByteArray := ⟨#[84, 87, 1, 2, 0, 0, 1, 1, 3, 1, 0, 0, 3, 1, 0, 0]⟩

theorem works_wrap : wrap64 42 = 42 := by unfold wrap64; omega

theorem works_run : runN pWorks.blocks (Int.toNat 1) 0 (begins pWorks [21] [] []) = ⟨1, 42, [], []⟩ := by
  simp [runN, pWorks, begins, regs0, doOps, stepOp, bops, bek, ber, bfin, rg, stI, calcW, RunD.reg, works_wrap]

theorem works_ans : RunAns sWorks [21] [] [] 1 ⟨1, 42, [], []⟩ 0 :=
  .inr ⟨pWorks, by decide, by rfl, .inr (.inr ⟨rfl, ⟨rfl, rfl, rfl⟩, by omega, works_run.symm⟩)⟩

set_option maxRecDepth 100000 in
set_option maxHeartbeats 1000000 in
theorem works_any (w : World) : Calls Tryz.prog 21 #[] w fun e w' => e = .returned (.bool true) ∧ Below w.heap.size w w' := by
  have hal := (Below.refl w.heap.size w).alloc (Nat.le_refl _) (.cells #[.int .i64 21] 3)
  have r0 : RdWords (w.alloc (.cells #[.int .i64 21] 3)) (.slice (some ⟨w.heap.size, 0, none⟩) 1 1) [21] := by
    refine ⟨_, _, rfl, by simp, fun i hi => ⟨w.heap.size, 0, rfl, ?_⟩⟩
    obtain rfl : i = 0 := by simp at hi; omega
    simp
  go_enter Tryz.func21, Tryz.ntmps21
  go_wp2_with fail
  refine tRun_cps sWorks _ _ _ [21] [] [] 1 _ r0 (rdWords_nil _) (rdWords_nil _) (by decide) _ ?_
  intro o e mv lv w1 ha ho
  obtain ⟨rfl, rfl⟩ := ha.one works_ans
  obtain ⟨mo, mc, rfl⟩ := owns_slice ho.mem
  obtain ⟨lo, lc, rfl⟩ := owns_slice ho.leak
  have hz := ho.below.size
  simp at hz
  have hb1 : Below w.heap.size w w1 := hal.trans (ho.below.mono (by simp))
  have hb2 := hb1.alloc (show w.heap.size ≤ w1.heap.size by omega) (.cells #[.int .i64 1, .int .i64 42, .slice mo 0 mc, .slice lo 0 lc] 63)
  clear ha ho hal r0 hb1
  go_wp2
  go_ret
  exact ⟨by simp, hb2⟩

end Go.Proofs.YtblhmeidbjigaabGreatDoor

/- twinkeep.Sound: what is taken for twins ends alike. -/
set_option linter.unusedSimpArgs false
set_option linter.unusedVariables false
namespace Go.Proofs.YtblhmeidbjigaabGreatDoor
open Go.RowKit

/-- What Run answers where the text is a program's and the input fits. -/
theorem ans_at {p : ProgD} (hg : progGood p = true) {s : ByteArray} (hs : str (progText p) = s) {args mem spill : List Int} (hf : fits p args mem spill) {n : Nat} (hn : n ≤ 300) {o : OutD} {e : Int} (h : RunAns s args mem spill n o e) : o = runN p.blocks n 0 (begins p args mem spill) ∧ e = 0 :=
  h.one (.inr ⟨p, hg, hs, .inr (.inr ⟨rfl, hf, by omega, by simp⟩)⟩)

theorem padTo_wide {l : List Int} (h : Wide l) (n : Nat) : ∀ x ∈ padTo l n, W64 x := by
  intro x hx
  simp only [padTo, List.mem_map, List.mem_range] at hx
  obtain ⟨i, _, rfl⟩ := hx
  by_cases hi : i < l.length
  · exact h _ (getD_mem' hi)
  · have e : l.getD i 0 = 0 := by simp [List.getD, hi]
    rw [e]
    exact w64_small (by omega)

set_option maxRecDepth 100000 in
set_option maxHeartbeats 4000000 in
theorem sound_cps (ao : Option Addr) (n cap : Nat) (s t g : ByteArray) (va vm vs : Value) (la lm ls : List Int) (fuel : Int) (w : World) (hraw : RdInts w (.slice ao n cap) n) (htab : TabW w)
    (hs : s.size ≤ maxLen) (ht : t.size ≤ maxLen) (hg : g.size ≤ maxLen) (ha : RdWords w va la) (hm : RdWords w vm lm) (hsp : RdWords w vs ls) (wa : Wide la) (wm : Wide lm) (ws : Wide ls) (hfu : -9223372036854775808 ≤ fuel ∧ fuel ≤ 9223372036854775807) (Post : Ending → World → Prop)
    (hp : ∀ w', Below w.heap.size w w' → Post (.returned (.bool true)) w') :
    Calls Tryz.prog 7 #[.slice ao n cap, .string s, .string t, .string g, va, vm, vs, .int .i64 fuel] w Post := by
  obtain ⟨o1, c1, rfl, _, _⟩ := id ha
  obtain ⟨o2, c2, rfl, _, _⟩ := id hm
  obtain ⟨o3, c3, rfl, _, _⟩ := id hsp
  have q1 := fun P' => same_cps ao n cap w hraw htab P'
  have HP := Lib.hid hp
  clear hp
  go_enter Tryz.func7, Tryz.ntmps7
  go_wp2_with fail
  refine q1 _ ?_
  intro w1 b1
  clear q1 hraw
  have q2 := works_any w1
  go_wp2_with fail
  refine q2.mono ?_
  rintro e w2 ⟨rfl, b2⟩
  have b02 := b1.trans (b2.mono b1.size)
  clear q2 b1 b2
  have q3 := fun P' => tVal_cps s t g w2 hs ht hg (htab.keep b02) P'
  go_wp2_with fail
  refine q3 _ ?_
  intro e k w3 hv b3
  have b03 := b02.trans (b3.mono b02.size)
  clear q3 b3 b02
  by_cases he : e = 0
  case neg =>
    have hq : (e == 0) = false := by rw [beq_eq_false_iff_ne]; exact he
    have HF := Lib.hid (HP.out w3 b03)
    clear hv he HP
    go_wp2
    exact HF.out
  subst he
  obtain ⟨p, q, h, gp, tp, gq, tq, gh, th, hp0, hargs, hdata, hok, hs0, hst⟩ := hv.ok
  have q4 := fun P' => tDecode_cps s w3 hs P'
  have HSND : Hid (∀ {args mem spill : List Int}, fits p args mem [] → fits q args mem spill → (∀ x ∈ args, W64 x) → (∀ x ∈ mem, W64 x) → (∀ x ∈ spill, W64 x) → ∀ f : Nat, sameEnd (runN p.blocks f 0 (begins p args mem [])) (runN q.blocks f 0 (begins q args mem spill))) :=
    fun fp fq ha hm hs f => twins_sound gp gq hp0 hdata hok hs0 hst fp fq ha hm hs f
  clear hv gh th hok hs0 hst
  go_wp2_with fail
  refine q4 _ ?y4 ?n4
  case n4 => intro w4 hn _; exact absurd tp (hn p gp)
  intro a0 a1 a2 a3 l v bv w4 ho hd hgp htp b4
  obtain rfl : p = ⟨a0, a1, a2, a3, l⟩ := prog_one gp hgp (tp.trans htp.symm)
  subst hd
  obtain ⟨bo, bc, rfl⟩ := owns_slice ho.row
  clear q4 htp hgp ho
  simp only at hp0 hargs hdata
  subst hp0
  have b04 := b03.trans (b4.mono b03.size)
  have rP : Row (w4.alloc (.cells #[.int .i64 a0, .int .i64 a1, .int .i64 a2, .int .i64 0, .slice bo bv.length bc] 25)) w4.heap.size 25 [.int .i64 a0, .int .i64 a1, .int .i64 a2, .int .i64 0, .slice bo bv.length bc] := heap_alloc_new w4 _
  have b04' : Below w.heap.size w (w4.alloc (.cells #[.int .i64 a0, .int .i64 a1, .int .i64 a2, .int .i64 0, .slice bo bv.length bc] 25)) := b04.alloc b04.size _
  have q5 := fun P' => tDecode_cps t (w4.alloc (.cells #[.int .i64 a0, .int .i64 a1, .int .i64 a2, .int .i64 0, .slice bo bv.length bc] 25)) ht P'
  have HRP := Lib.hid rP
  have HB := Lib.hid b04'
  have HTP := Lib.hid tp
  have HAR := Lib.hid (And.intro hargs hdata)
  clear b03 b4 b04 rP b04' tp hargs hdata
  go_wp2_with fail
  refine q5 _ ?y5 ?n5
  case n5 => intro w5 hn _; exact absurd tq (hn q gq)
  intro d0 d1 d2 d3 l2 v2 bv2 w5 ho2 hd2 hgq htq b5
  obtain rfl : q = ⟨d0, d1, d2, d3, l2⟩ := prog_one gq hgq (tq.trans htq.symm)
  subst hd2
  obtain ⟨qo, qc, rfl⟩ := owns_slice ho2.row
  clear q5 htq hgq ho2
  obtain ⟨hargs, hdata⟩ := HAR.out
  simp only at hargs hdata
  clear HAR
  subst hargs hdata
  have b05 := HB.out.trans (b5.mono HB.out.size)
  have rP5 := HRP.out.keep b5
  have HTQ := Lib.hid tq
  obtain ⟨hpr, hpa, hpd, hpsl⟩ := good_shape gp
  obtain ⟨hqr, hqa, hqd, hqsl⟩ := good_shape gq
  simp only at hpr hpa hpd hpsl hqr hqa hqd hqsl
  obtain ⟨a0, rfl⟩ := Int.eq_ofNat_of_zero_le hpa.1
  obtain ⟨a2, rfl⟩ := Int.eq_ofNat_of_zero_le hpd.1
  obtain ⟨d3, rfl⟩ := Int.eq_ofNat_of_zero_le hqsl.1
  obtain ⟨w6, hw6⟩ : ∃ x, x = w5.alloc (.cells #[.int .i64 a0, .int .i64 d1, .int .i64 a2, .int .i64 d3, .slice qo bv2.length qc] 25) := ⟨_, rfl⟩
  have b56 : Below w5.heap.size w5 w6 := by subst hw6; exact (Below.refl _ _).alloc (Nat.le_refl _) _
  have b06 := b05.trans (b56.mono b05.size)
  have rP6 := rP5.keep b56
  have rQ6 : Row w6 w5.heap.size 25 [.int .i64 a0, .int .i64 d1, .int .i64 a2, .int .i64 d3, .slice qo bv2.length qc] := by subst hw6; exact heap_alloc_new w5 _
  have x0 := rP6.cell (i := 0) rfl
  have x1 := rP6.cell (i := 1) rfl
  have x2 := rP6.cell (i := 2) rfl
  have x3 := rP6.cell (i := 3) rfl
  have x4 := rP6.cell (i := 4) rfl
  have y0 := rQ6.cell (i := 0) rfl
  have y2 := rQ6.cell (i := 2) rfl
  have hlt : w4.heap.size < w5.heap.size := by have := rP5.lt; omega
  have q6 := fun P' => pick_any fuel 301 w6 hfu (by omega) P'
  rw [hw6] at x0 x1 x2 x3 x4 y0 y2 q6
  have HW6 := Lib.hid hw6
  clear HB HRP b5 b05 rP5 b56 hw6 tq
  go_wp2_with fail
  refine q6 _ ?_
  intro f hf0 hf1
  obtain ⟨f, rfl⟩ := Int.eq_ofNat_of_zero_le hf0
  have q7 := fun P' => suited_cps a1 a0 a2 0 (.slice bo bv.length bc) (.slice o1 la.length c1) (.slice o2 lm.length c2) (.slice none 0 0) la lm [] w6 (ha.keep b06) (hm.keep b06) (rdWords_nil _) (by omega) (by omega) (by omega) ⟨_, _, _, rfl⟩ P'
  have HRQ6 := Lib.hid rQ6
  have HB06 := Lib.hid b06
  have HGP := Lib.hid gp
  have HGQ := Lib.hid gq
  have HA := Lib.hid ha
  have HM := Lib.hid hm
  have HSP := Lib.hid hsp
  have HWA := Lib.hid (padTo_wide wa a0)
  have HWM := Lib.hid (padTo_wide wm a2)
  have HWS := Lib.hid (padTo_wide ws d3)
  obtain ⟨args, hAE⟩ : ∃ x, x = padTo la a0 := ⟨_, rfl⟩
  obtain ⟨mem, hME⟩ : ∃ x, x = padTo lm a2 := ⟨_, rfl⟩
  have hAL : args.length = a0 := by rw [hAE, padTo_length]
  have hML : mem.length = a2 := by rw [hME, padTo_length]
  have HAE := Lib.hid hAE
  have HME := Lib.hid hME
  have HAL := Lib.hid hAL
  have HML := Lib.hid hML
  have e3 : ((0 : Nat) : Int) = 0 := rfl
  rw [e3] at q7
  rw [← HW6.out] at x0 x1 x2 x3 x4 ⊢
  rw [← hAE] at HWA
  rw [← hME] at HWM
  clear q6 e3 rP6 rQ6 b06 gp gq ha hm hsp wa wm ws y0 y2 HW6 hlt hAE hME hAL hML
  go_wp2_with fail
  refine q7 _ ?_
  intro av mv sv w7 hin
  rw [← HAE.out, ← HME.out] at hin
  have b67 := hin.below
  obtain ⟨ao', ac', rfl, _, _⟩ := id hin.args
  obtain ⟨mo', mc', rfl, _, _⟩ := id hin.mem
  have hsp0 : RdWords w7 sv [] := hin.spill
  obtain ⟨so', sc', rfl, _, _⟩ := id hsp0
  have fp : fits ⟨a0, a1, a2, 0, bdat bv⟩ args mem [] := ⟨by show (args.length : Int) = a0; rw [HAL.out], by show (mem.length : Int) = a2; rw [HML.out], rfl⟩
  have q8 := fun P' => tRun_cps s _ _ _ args mem [] (f : Int) w7 hin.args hin.mem hsp0 hs P'
  have HB07 := Lib.hid (HB06.out.trans (b67.mono HB06.out.size))
  have HRQ7 := Lib.hid (HRQ6.out.keep b67)
  have HFP := Lib.hid fp
  clear q7 hin b67 fp hsp0 x0 x1 x2 x3 x4 HRQ6 HB06
  go_wp2_with fail
  refine q8 _ ?_
  intro o e8 mv8 lv8 w8 hao hoo
  obtain ⟨ho, rfl⟩ := ans_at HGP.out HTP.out HFP.out (n := f) (by omega) hao
  have hkind := runN_kind (bdat bv) f 0 (s := begins ⟨a0, a1, a2, 0, bdat bv⟩ args mem []) rfl
  have HO : Hid (o = runN (bdat bv) f 0 (begins ⟨a0, a1, a2, 0, bdat bv⟩ args mem [])) := ho
  rw [← ho] at hkind
  have HKI := Lib.hid hkind
  clear ho hao hkind q8
  obtain ⟨ok, res, omem, oleak⟩ := o
  obtain ⟨om, omc, rfl⟩ := owns_slice hoo.mem
  obtain ⟨ol, olc, rfl⟩ := owns_slice hoo.leak
  have b78 := hoo.below
  have b08 := HB07.out.trans (b78.mono HB07.out.size)
  dsimp only at HKI ⊢
  obtain ⟨w9, hw9⟩ : ∃ x, x = w8.alloc (.cells #[.int .i64 ok, .int .i64 res, .slice om omem.length omc, .slice ol oleak.length olc] 63) := ⟨_, rfl⟩
  have b89 : Below w8.heap.size w8 w9 := by subst hw9; exact (Below.refl _ _).alloc (Nat.le_refl _) _
  have b09 := b08.trans (b89.mono b08.size)
  have rO9 : Row w9 w8.heap.size 63 [.int .i64 ok, .int .i64 res, .slice om omem.length omc, .slice ol oleak.length olc] := by subst hw9; exact heap_alloc_new w8 _
  have rQ9 := (HRQ7.out.keep b78).keep b89
  have rdm9 := (owns_rd hoo.mem).keep b89
  have y0 := rQ9.cell (i := 0) rfl
  have y1 := rQ9.cell (i := 1) rfl
  have y2 := rQ9.cell (i := 2) rfl
  have y3 := rQ9.cell (i := 3) rfl
  have y4 := rQ9.cell (i := 4) rfl
  have q9 := fun P' => suited_cps d1 a0 a2 d3 (.slice qo bv2.length qc) (.slice o1 la.length c1) (.slice o2 lm.length c2) (.slice o3 ls.length c3) la lm ls w9 (HA.out.keep b09) (HM.out.keep b09) (HSP.out.keep b09) (by omega) (by omega) (by omega) ⟨_, _, _, rfl⟩ P'
  rw [hw9] at q9 y0 y1 y2 y3 y4
  have HB09 := Lib.hid b09
  have HRO9 := Lib.hid rO9
  have HRD9 := Lib.hid rdm9
  have HW9 := Lib.hid hw9
  clear hoo b78 b08 hw9 b89 b09 rO9 rQ9 rdm9 HB07 HRQ7
  go_wp2_with fail
  refine q9 _ ?_
  intro av mv sv w10 hin
  rw [← HW9.out, ← HAE.out, ← HME.out] at hin
  have b910 := hin.below
  obtain ⟨ap, acp, rfl, _, _⟩ := id hin.args
  obtain ⟨mp, mcp, rfl, _, _⟩ := id hin.mem
  obtain ⟨sp, hSE⟩ : ∃ x, x = padTo ls d3 := ⟨_, rfl⟩
  have hSL : sp.length = d3 := by rw [hSE, padTo_length]
  rw [← hSE] at hin HWS
  obtain ⟨sop, scp, rfl, _, _⟩ := id hin.spill
  have fq : fits ⟨a0, d1, a2, d3, bdat bv2⟩ args mem sp := ⟨by show (args.length : Int) = a0; rw [HAL.out], by show (mem.length : Int) = a2; rw [HML.out], by show (sp.length : Int) = d3; rw [hSL]⟩
  have q10 := fun P' => tRun_cps t _ _ _ args mem sp (f : Int) w10 hin.args hin.mem hin.spill ht P'
  have HB10 := Lib.hid (HB09.out.trans (b910.mono HB09.out.size))
  have HRO10 := Lib.hid (HRO9.out.keep b910)
  have HRD10 := Lib.hid (HRD9.out.keep b910)
  have HFQ := Lib.hid fq
  clear q9 hin b910 fq hSE hSL y0 y1 y2 y3 y4 HB09 HRO9 HRD9 HW9
  go_wp2_with fail
  refine q10 _ ?_
  intro u e10 mv10 lv10 w11 hau hou
  obtain ⟨hu, rfl⟩ := ans_at HGQ.out HTQ.out HFQ.out (n := f) (by omega) hau
  have hse := HSND.out HFP.out HFQ.out HWA.out HWM.out HWS.out f
  have hu' : u = runN (bdat bv2) f 0 (begins ⟨a0, d1, a2, d3, bdat bv2⟩ args mem sp) := hu
  rw [← HO.out, ← hu'] at hse
  clear hu hu' hau q10 HO
  obtain ⟨uk, ur, umem, uleak⟩ := u
  obtain ⟨hk1, hk2, hk3⟩ := hse
  dsimp only at hk1 hk2 hk3
  subst hk1 hk2 hk3
  obtain ⟨um, umc, rfl⟩ := owns_slice hou.mem
  obtain ⟨ul, ulc, rfl⟩ := owns_slice hou.leak
  have b1011 := hou.below
  have b011 := HB10.out.trans (b1011.mono HB10.out.size)
  dsimp only
  obtain ⟨w12, hw12⟩ : ∃ x, x = w11.alloc (.cells #[.int .i64 ok, .int .i64 res, .slice um omem.length umc, .slice ul uleak.length ulc] 63) := ⟨_, rfl⟩
  have b1112 : Below w11.heap.size w11 w12 := by subst hw12; exact (Below.refl _ _).alloc (Nat.le_refl _) _
  have b012 := b011.trans (b1112.mono b011.size)
  have rU12 : Row w12 w11.heap.size 63 [.int .i64 ok, .int .i64 res, .slice um omem.length umc, .slice ul uleak.length ulc] := by subst hw12; exact heap_alloc_new w11 _
  have rO12 := (HRO10.out.keep b1011).keep b1112
  have rdm12 := (HRD10.out.keep b1011).keep b1112
  have rdu12 := (owns_rd hou.mem).keep b1112
  have q12 := kSameInts_any _ _ omem w12 rdm12 rdu12
  have z0 := rO12.cell (i := 0) rfl
  have z1 := rO12.cell (i := 1) rfl
  have z2 := rO12.cell (i := 2) rfl
  have v0 := rU12.cell (i := 0) rfl
  have v1 := rU12.cell (i := 1) rfl
  have v2 := rU12.cell (i := 2) rfl
  have hk4 := HKI.out.1
  have hk5 := HKI.out.2
  have n1 : ¬ (ok < 1) := by omega
  have n2 : ¬ (4 < ok) := by omega
  rw [hw12] at q12 z0 z1 z2 v0 v1 v2
  have HB12 := Lib.hid b012
  have HRO12 := Lib.hid rO12
  have HRU12 := Lib.hid rU12
  rw [hw12] at HB12 HRO12 HRU12
  clear hou b1011 b011 hw12 b1112 b012 rU12 rO12 rdm12 rdu12 HB10 HRO10 HRD10 HKI hk4 hk5
  go_wp2_with fail
  refine q12.mono ?_
  rintro e w13 ⟨rfl, b13⟩
  have rO13 := HRO12.out.keep b13
  have rU13 := HRU12.out.keep b13
  clear z0 z1 z2 v0 v1 v2
  have z0 := rO13.cell (i := 0) rfl
  have z1 := rO13.cell (i := 1) rfl
  have v0 := rU13.cell (i := 0) rfl
  have v1 := rU13.cell (i := 1) rfl
  have hkk : (ok == ok) = true := by simp
  have hrr : (res == res) = true := by simp
  have HF := Lib.hid (HP.out w13 (HB12.out.trans (b13.mono HB12.out.size)))
  clear q12 b13 rO13 rU13 HRO12 HRU12 HB12 HP
  go_wp2
  exact HF.out

end Go.Proofs.YtblhmeidbjigaabGreatDoor
