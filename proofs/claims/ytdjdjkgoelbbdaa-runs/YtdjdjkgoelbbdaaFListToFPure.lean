/- Lists cut or filled up to a length; an input for a program. -/
import Derived.Test.YtdjdjkgoelbbdaaFSameJoined
import Derived.Test.YtdjdjkgoelbbdaaMBegToMAns
set_option linter.unusedSimpArgs false
set_option linter.unusedVariables false
namespace Go.Proofs.Ytdjdjkgoelbbdaa
open Go.RowKit

def padTo (l : List Int) (n : Nat) : List Int := (List.range n).map fun i => l.getD i 0

theorem padTo_length (l : List Int) (n : Nat) : (padTo l n).length = n := by simp [padTo]

theorem padTo_snoc (l : List Int) (n : Nat) : ints (padTo l (n + 1)) = ints (padTo l n) ++ [.int .i64 (l.getD n 0)] := by
  rw [← ints_snoc]
  simp [padTo, List.range_succ]

set_option maxRecDepth 100000 in
set_option maxHeartbeats 2000000 in
theorem kList_cps (v : Value) (l : List Int) (n : Nat) (w : World) (hr : RdWords w v l) (hn : n ≤ 1000) (Post : Ending → World → Prop)
    (hp : ∀ v' w', w'.ownsRow w.heap.size 3 1 v' (padTo l n).length (ints (padTo l n)) → Below w.heap.size w w' → Post (.returned v') w') :
    Calls Try.prog 66 #[v, .int .i64 n] w Post := by
  obtain ⟨ao, cap, rfl, hll, hc⟩ := hr
  obtain ⟨i0, ii, iz0, iz1, iz2⟩ := info_parts Try.infoInt
  go_enter Try.func66, Try.ntmps66
  go_wp2
  go_loopw [5, 6] (fun o i wr => ∃ (k : Nat), k ≤ n ∧ i = .int .i64 k ∧ wr.ownsRow w.heap.size 3 1 o k (ints (padTo l k)) ∧ Below w.heap.size w wr)
    (fun _ i _ => n - (intOf i).toNat)
  case atStart => exact ⟨0, Nat.zero_le _, rfl, World.ownsRow_nil _ _ _ _, Below.refl _ _⟩
  case round =>
    obtain ⟨k, hk, rfl, hown, hbel⟩ := hrel
    obtain ⟨lo, lc, rfl⟩ := owns_slice hown
    have hz := hbel.size
    by_cases hlt : k < n
    · have HT : Hid (ints (padTo l (k + 1)) = ints (padTo l k) ++ [.int .i64 (l.getD k 0)]) := padTo_snoc l k
      by_cases hin : k < l.length
      · obtain ⟨b, off, rfl, h1⟩ := hc k hin
        have h2 := cell_keep hbel h1
        clear h1
        generalize l.getD k 0 = x at *
        go_wp2_with (at_builtin; refine wpList_append_own _ rfl _ _ 36 rfl w.heap.size 3 i0 (.int .i64 0) 1 8 Try.underlying36 ii iz0 iz1 iz2 rfl (by decide) _ _ _ rfl (hown.alloc _) ⟨wr.heap.size, 0, none⟩ 1 1 [.int .i64 x] rfl rfl ?c1 (int_one _) ?c3 ?c4 ?c5 ?_)
        case c1 => exact one_new wr _ _
        case c3 => unfold maxLen; omega
        case c4 => omega
        case c5 => simp; omega
        intro v' w3 hown' hgrow _
        rw [← HT.out] at hown'
        have hb3 := (hbel.alloc hz (.cells #[.int .i64 x] 3)).grown hgrow (by simp; omega) (fun g hg => (hown.lt g hg).1)
        obtain ⟨lo', lc', rfl⟩ := owns_slice hown'
        clear hgrow hown h2 hbel HT
        go_wp2
        go_roundw
        case rel => exact ⟨k + 1, by omega, by go_num, hown', hb3⟩
        case measure => simp [intOf]; omega
      · have hx : l.getD k 0 = 0 := by simp [List.getD, hin]
        rw [hx] at HT
        go_wp2_with (at_builtin; refine wpList_append_own _ rfl _ _ 36 rfl w.heap.size 3 i0 (.int .i64 0) 1 8 Try.underlying36 ii iz0 iz1 iz2 rfl (by decide) _ _ _ rfl (hown.alloc _) ⟨wr.heap.size, 0, none⟩ 1 1 [.int .i64 0] rfl rfl ?d1 (int_one _) ?d3 ?d4 ?d5 ?_)
        case d1 => exact one_new wr _ _
        case d3 => unfold maxLen; omega
        case d4 => omega
        case d5 => simp; omega
        intro v' w3 hown' hgrow _
        rw [← HT.out] at hown'
        have hb3 := (hbel.alloc hz (.cells #[.int .i64 0] 3)).grown hgrow (by simp; omega) (fun g hg => (hown.lt g hg).1)
        obtain ⟨lo', lc', rfl⟩ := owns_slice hown'
        clear hgrow hown hbel HT
        go_wp2
        go_roundw
        case rel => exact ⟨k + 1, by omega, by go_num, hown', hb3⟩
        case measure => simp [intOf]; omega
    · obtain rfl : k = n := by omega
      have HF : Hid (Post (.returned (.slice lo k lc)) wr) := hp _ _ (by rw [padTo_length]; exact hown) hbel
      clear hp hown hbel hc
      go_wp2
      exact HF.out

set_option maxRecDepth 100000 in
set_option maxHeartbeats 2000000 in
theorem rList_cps (v : Value) (l : List Int) (n : Nat) (w : World) (hr : RdWords w v l) (hn : n ≤ 1000) (Post : Ending → World → Prop)
    (hp : ∀ v' w', w'.ownsRow w.heap.size 3 1 v' (padTo l n).length (ints (padTo l n)) → Below w.heap.size w w' → Post (.returned v') w') :
    Calls Try.prog 90 #[v, .int .i64 n] w Post := by
  obtain ⟨ao, cap, rfl, hll, hc⟩ := hr
  obtain ⟨i0, ii, iz0, iz1, iz2⟩ := info_parts Try.infoInt
  go_enter Try.func90, Try.ntmps90
  go_wp2
  go_loopw [5, 6] (fun o i wr => ∃ (k : Nat), k ≤ n ∧ i = .int .i64 k ∧ wr.ownsRow w.heap.size 3 1 o k (ints (padTo l k)) ∧ Below w.heap.size w wr)
    (fun _ i _ => n - (intOf i).toNat)
  case atStart => exact ⟨0, Nat.zero_le _, rfl, World.ownsRow_nil _ _ _ _, Below.refl _ _⟩
  case round =>
    obtain ⟨k, hk, rfl, hown, hbel⟩ := hrel
    obtain ⟨lo, lc, rfl⟩ := owns_slice hown
    have hz := hbel.size
    by_cases hlt : k < n
    · have HT : Hid (ints (padTo l (k + 1)) = ints (padTo l k) ++ [.int .i64 (l.getD k 0)]) := padTo_snoc l k
      by_cases hin : k < l.length
      · obtain ⟨b, off, rfl, h1⟩ := hc k hin
        have h2 := cell_keep hbel h1
        clear h1
        generalize l.getD k 0 = x at *
        go_wp2_with (at_builtin; refine wpList_append_own _ rfl _ _ 36 rfl w.heap.size 3 i0 (.int .i64 0) 1 8 Try.underlying36 ii iz0 iz1 iz2 rfl (by decide) _ _ _ rfl (hown.alloc _) ⟨wr.heap.size, 0, none⟩ 1 1 [.int .i64 x] rfl rfl ?c1 (int_one _) ?c3 ?c4 ?c5 ?_)
        case c1 => exact one_new wr _ _
        case c3 => unfold maxLen; omega
        case c4 => omega
        case c5 => simp; omega
        intro v' w3 hown' hgrow _
        rw [← HT.out] at hown'
        have hb3 := (hbel.alloc hz (.cells #[.int .i64 x] 3)).grown hgrow (by simp; omega) (fun g hg => (hown.lt g hg).1)
        obtain ⟨lo', lc', rfl⟩ := owns_slice hown'
        clear hgrow hown h2 hbel HT
        go_wp2
        go_roundw
        case rel => exact ⟨k + 1, by omega, by go_num, hown', hb3⟩
        case measure => simp [intOf]; omega
      · have hx : l.getD k 0 = 0 := by simp [List.getD, hin]
        rw [hx] at HT
        go_wp2_with (at_builtin; refine wpList_append_own _ rfl _ _ 36 rfl w.heap.size 3 i0 (.int .i64 0) 1 8 Try.underlying36 ii iz0 iz1 iz2 rfl (by decide) _ _ _ rfl (hown.alloc _) ⟨wr.heap.size, 0, none⟩ 1 1 [.int .i64 0] rfl rfl ?d1 (int_one _) ?d3 ?d4 ?d5 ?_)
        case d1 => exact one_new wr _ _
        case d3 => unfold maxLen; omega
        case d4 => omega
        case d5 => simp; omega
        intro v' w3 hown' hgrow _
        rw [← HT.out] at hown'
        have hb3 := (hbel.alloc hz (.cells #[.int .i64 0] 3)).grown hgrow (by simp; omega) (fun g hg => (hown.lt g hg).1)
        obtain ⟨lo', lc', rfl⟩ := owns_slice hown'
        clear hgrow hown hbel HT
        go_wp2
        go_roundw
        case rel => exact ⟨k + 1, by omega, by go_num, hown', hb3⟩
        case measure => simp [intOf]; omega
    · obtain rfl : k = n := by omega
      have HF : Hid (Post (.returned (.slice lo k lc)) wr) := hp _ _ (by rw [padTo_length]; exact hown) hbel
      clear hp hown hbel hc
      go_wp2
      exact HF.out

/-- An input in memory of its own. -/
structure OwnIn (w w' : World) (av mv sv : Value) (a m s : List Int) : Prop where
  args : RdWords w' av a
  mem : RdWords w' mv m
  spill : RdWords w' sv s
  below : Below w.heap.size w w'

set_option maxRecDepth 100000 in
set_option maxHeartbeats 2000000 in
theorem suited_cps (a1 : Int) (a0 a2 a3 : Nat) (pv v0 v1 v2 : Value) (l0 l1 l2 : List Int) (w : World) (h0 : RdWords w v0 l0) (h1 : RdWords w v1 l1) (h2 : RdWords w v2 l2) (hn0 : a0 ≤ 8) (hn2 : a2 ≤ 8) (hn3 : a3 ≤ 8) (hpv : ∃ po pn pc, pv = .slice po pn pc) (Post : Ending → World → Prop)
    (hp : ∀ av mv sv w', OwnIn w w' av mv sv (padTo l0 a0) (padTo l1 a2) (padTo l2 a3) → Post (.returned (.agg #[av, mv, sv])) w') :
    Calls Try.prog 24 #[.agg #[.int .i64 a0, .int .i64 a1, .int .i64 a2, .int .i64 a3, pv], v0, v1, v2] w Post := by
  obtain ⟨po, pn, pc, rfl⟩ := hpv
  obtain ⟨o0, c0, rfl, _, _⟩ := id h0
  obtain ⟨o1, c1, rfl, _, _⟩ := id h1
  obtain ⟨o2, c2, rfl, _, _⟩ := id h2
  obtain ⟨W, hW⟩ : ∃ W, W = ((w.alloc (.cells #[.int .i64 a0, .int .i64 a1, .int .i64 a2, .int .i64 a3, .slice po pn pc] 24)).alloc (.cells #[.slice none 0 0, .slice none 0 0, .slice none 0 0] 52)).alloc (.cells #[.slice none 0 0, .slice none 0 0, .slice none 0 0] 52) := ⟨_, rfl⟩
  have hzW : w.heap.size + 3 ≤ W.heap.size := by rw [hW]; simp
  have rP : Row W w.heap.size 24 [.int .i64 a0, .int .i64 a1, .int .i64 a2, .int .i64 a3, .slice po pn pc] := by
    rw [hW]
    have q : Row (w.alloc (.cells #[.int .i64 a0, .int .i64 a1, .int .i64 a2, .int .i64 a3, .slice po pn pc] 24)) w.heap.size 24 [.int .i64 a0, .int .i64 a1, .int .i64 a2, .int .i64 a3, .slice po pn pc] := heap_alloc_new w _
    exact (q.alloc _).alloc _
  have rA : Row W (w.heap.size + 1) 52 [.slice none 0 0, .slice none 0 0, .slice none 0 0] := by
    rw [hW]
    have q : Row ((w.alloc (.cells #[.int .i64 a0, .int .i64 a1, .int .i64 a2, .int .i64 a3, .slice po pn pc] 24)).alloc (.cells #[.slice none 0 0, .slice none 0 0, .slice none 0 0] 52)) (w.heap.size + 1) 52 [.slice none 0 0, .slice none 0 0, .slice none 0 0] := heap_alloc2_new w _ _
    exact q.alloc _
  have rI : Row W (w.heap.size + 2) 52 [.slice none 0 0, .slice none 0 0, .slice none 0 0] := by
    rw [hW]
    have q := heap_alloc2_new (w.alloc (.cells #[.int .i64 a0, .int .i64 a1, .int .i64 a2, .int .i64 a3, .slice po pn pc] 24)) (.cells #[.slice none 0 0, .slice none 0 0, .slice none 0 0] 52) (.cells #[.slice none 0 0, .slice none 0 0, .slice none 0 0] 52)
    simp only [World.size_alloc] at q
    exact q
  have hbW : Below w.heap.size w W := by rw [hW]; exact (((Below.refl w.heap.size w).alloc (Nat.le_refl _) _).alloc (by simp) _).alloc (by simp; omega) _
  have p0 := rP.cell (i := 0) rfl
  rw [hW] at p0
  go_enter Try.func24, Try.ntmps24
  go_wp2_with fail
  rw [← hW]
  clear hW p0
  refine kList_cps _ l0 a0 W (h0.keep hbW) (by omega) _ ?_
  intro x1 w1 own1 hb1
  have hz1 : W.heap.size ≤ w1.heap.size := by have := hb1.size; (try simp at this); omega
  have rP1 := (rP.keep hb1).unset (a := ⟨w.heap.size + 2, 0, none⟩) (by show w.heap.size ≠ w.heap.size + 2; omega) x1
  have rA1 := (rA.keep hb1).unset (a := ⟨w.heap.size + 2, 0, none⟩) (by show w.heap.size + 1 ≠ w.heap.size + 2; omega) x1
  have rJ1 := rI.keep hb1
  have rI1 := rJ1.set 0 x1
  have hb01 := (hbW.trans (hb1.mono (by first | omega | (simp; omega)))).setCell (p := ⟨w.heap.size + 2, 0, none⟩) (by show w.heap.size ≤ w.heap.size + 2; omega) x1
  have own1t1 := ownsRow_setCell_below (owns_base own1 (show W.heap.size ≤ _ by first | exact Nat.le_refl _ | (simp; omega))) (a := ⟨w.heap.size + 2, 0, none⟩) (by show w.heap.size + 2 < W.heap.size; omega) x1
  have z1 := rJ1.cell (i := 0) rfl
  have zf1 := rJ1.frozen 0
  obtain ⟨xo1, xc1, hx1⟩ := owns_slice own1
  rw [padTo_length] at hx1
  subst hx1
  have p2 := rP1.cell (i := 2) rfl
  clear own1
  go_wp2_with fail
  refine kList_cps _ l1 a2 _ (h1.keep hb01) (by omega) _ ?_
  clear p2 z1 zf1 rJ1
  intro x2 w2 own2 hb2
  have hz2 : W.heap.size ≤ w2.heap.size := by have := hb2.size; (try simp at this); omega
  have rP2 := (rP1.keep hb2).unset (a := ⟨w.heap.size + 2, 1, none⟩) (by show w.heap.size ≠ w.heap.size + 2; omega) x2
  have rA2 := (rA1.keep hb2).unset (a := ⟨w.heap.size + 2, 1, none⟩) (by show w.heap.size + 1 ≠ w.heap.size + 2; omega) x2
  have rJ2 := rI1.keep hb2
  have rI2 := rJ2.set 1 x2
  have hb02 := (hb01.trans (hb2.mono (by first | omega | (simp; omega)))).setCell (p := ⟨w.heap.size + 2, 1, none⟩) (by show w.heap.size ≤ w.heap.size + 2; omega) x2
  have own1t2 := ownsRow_setCell_below (owns_below own1t1 hb2 (Nat.le_refl _)) (a := ⟨w.heap.size + 2, 1, none⟩) (by show w.heap.size + 2 < W.heap.size; omega) x2
  have own2t2 := ownsRow_setCell_below (owns_base own2 (show W.heap.size ≤ _ by first | exact Nat.le_refl _ | (simp; omega))) (a := ⟨w.heap.size + 2, 1, none⟩) (by show w.heap.size + 2 < W.heap.size; omega) x2
  have z2 := rJ2.cell (i := 1) rfl
  have zf2 := rJ2.frozen 1
  obtain ⟨xo2, xc2, hx2⟩ := owns_slice own2
  rw [padTo_length] at hx2
  subst hx2
  have p3 := rP2.cell (i := 3) rfl
  clear own2
  go_wp2_with fail
  refine kList_cps _ l2 a3 _ (h2.keep hb02) (by omega) _ ?_
  clear p3 z2 zf2 rJ2
  intro x3 w3 own3 hb3
  have hz3 : W.heap.size ≤ w3.heap.size := by have := hb3.size; (try simp at this); omega
  have rP3 := (rP2.keep hb3).unset (a := ⟨w.heap.size + 2, 2, none⟩) (by show w.heap.size ≠ w.heap.size + 2; omega) x3
  have rA3 := (rA2.keep hb3).unset (a := ⟨w.heap.size + 2, 2, none⟩) (by show w.heap.size + 1 ≠ w.heap.size + 2; omega) x3
  have rJ3 := rI2.keep hb3
  have rI3 := rJ3.set 2 x3
  have hb03 := (hb02.trans (hb3.mono (by first | omega | (simp; omega)))).setCell (p := ⟨w.heap.size + 2, 2, none⟩) (by show w.heap.size ≤ w.heap.size + 2; omega) x3
  have own1t3 := ownsRow_setCell_below (owns_below own1t2 hb3 (Nat.le_refl _)) (a := ⟨w.heap.size + 2, 2, none⟩) (by show w.heap.size + 2 < W.heap.size; omega) x3
  have own2t3 := ownsRow_setCell_below (owns_below own2t2 hb3 (Nat.le_refl _)) (a := ⟨w.heap.size + 2, 2, none⟩) (by show w.heap.size + 2 < W.heap.size; omega) x3
  have own3t3 := ownsRow_setCell_below (owns_base own3 (show W.heap.size ≤ _ by first | exact Nat.le_refl _ | (simp; omega))) (a := ⟨w.heap.size + 2, 2, none⟩) (by show w.heap.size + 2 < W.heap.size; omega) x3
  have z3 := rJ3.cell (i := 2) rfl
  have zf3 := rJ3.frozen 2
  obtain ⟨xo3, xc3, hx3⟩ := owns_slice own3
  rw [padTo_length] at hx3
  subst hx3
  have i0 := rI3.cell (i := 0) rfl
  have i1 := rI3.cell (i := 1) rfl
  have i2 := rI3.cell (i := 2) rfl
  have y0 := rA3.cell (i := 0) rfl
  have y1 := rA3.cell (i := 1) rfl
  have y2 := rA3.cell (i := 2) rfl
  have f0 := rA3.frozen 0
  have f1 := rA3.frozen 1
  have f2 := rA3.frozen 2
  have fin : ∀ {v : Value} {l : List Int} {W3 : World}, W3.ownsRow W.heap.size 3 1 v l.length (ints l) → RdWords (((W3.setCell ⟨w.heap.size + 1, 0, none⟩ (.slice xo1 a0 xc1)).setCell ⟨w.heap.size + 1, 1, none⟩ (.slice xo2 a2 xc2)).setCell ⟨w.heap.size + 1, 2, none⟩ (.slice xo3 a3 xc3)) v l := fun ho =>
    owns_rd (ownsRow_setCell_below (ownsRow_setCell_below (ownsRow_setCell_below ho (by show w.heap.size + 1 < W.heap.size; omega) _) (by show w.heap.size + 1 < W.heap.size; omega) _) (by show w.heap.size + 1 < W.heap.size; omega) _)
  have HF : Hid _ := hp _ _ _ _ ⟨fin own1t3, fin own2t3, fin own3t3, ((hb03.setCell (p := ⟨w.heap.size + 1, 0, none⟩) (by show w.heap.size ≤ w.heap.size + 1; omega) _).setCell (p := ⟨w.heap.size + 1, 1, none⟩) (by show w.heap.size ≤ w.heap.size + 1; omega) _).setCell (p := ⟨w.heap.size + 1, 2, none⟩) (by show w.heap.size ≤ w.heap.size + 1; omega) _⟩
  clear hp fin own1t1 own1t2 own2t2 own1t3 own2t3 own3t3 own3 rP rA rI rP1 rA1 rI1 rP2 rA2 rI2 rP3 rA3 rI3 hb01 hb02 hb03 hbW hb1 hb2 hb3 h0 h1 h2
  go_wp2
  (try simp only [Exit.inBlock, Exit.then])
  refine bodyPost_ret (v := .agg #[.slice xo1 a0 xc1, .slice xo2 a2 xc2, .slice xo3 a3 xc3]) ?_ rfl ?_
  · simp [results, Try.results24, go_sem, y0, y1, y2]
  · simp only [show w.heap.size + 1 + 1 = w.heap.size + 2 from rfl]
    with_reducible exact HF.out

end Go.Proofs.Ytdjdjkgoelbbdaa

/- Runs with more fuel, pure. -/
set_option linter.unusedSimpArgs false
set_option linter.unusedVariables false
namespace Go.Proofs.Ytdjdjkgoelbbdaa
open Go.RowKit

theorem step_trap {s : RunD} (o : OpD) (h : s.trap = 0) : (stepOp s o).trap = 0 ∨ (stepOp s o).trap = 2 ∨ (stepOp s o).trap = 3 := by
  unfold stepOp
  repeat' split
  all_goals simp [RunD.reg, RunD.out, RunD.die, RunD.cell, RunD.slot, h]

theorem step_pre (s : RunD) (o : OpD) : s.leak <+: (stepOp s o).leak := by
  unfold stepOp
  repeat' split
  all_goals simp [RunD.reg, RunD.out, RunD.die, RunD.cell, RunD.slot]

theorem doOps_kinds (l : List OpD) {s : RunD} (h : s.trap = 0) : (doOps l s).trap = 0 ∨ (doOps l s).trap = 2 ∨ (doOps l s).trap = 3 := by
  induction l generalizing s with
  | nil => exact .inl h
  | cons o r ih =>
    simp only [doOps, h, if_true]
    rcases step_trap o h with q | q | q
    · exact ih q
    · rw [doOps_trap r (by omega)]; exact .inr (.inl q)
    · rw [doOps_trap r (by omega)]; exact .inr (.inr q)

theorem doOps_pre (l : List OpD) (s : RunD) : s.leak <+: (doOps l s).leak := by
  induction l generalizing s with
  | nil => exact List.prefix_rfl
  | cons o r ih =>
    simp only [doOps]
    split
    · exact (step_pre s o).trans (ih _)
    · exact List.prefix_rfl

theorem goesOn_pre (s : RunD) (e : EndD) : s.leak <+: (goesOn s e).leak := by
  unfold goesOn
  split
  · simp [RunD.out]
  · exact List.prefix_rfl

theorem runN_pre (bs : List BlockD) (f : Nat) (i : Int) (s : RunD) : s.leak <+: (runN bs f i s).leak := by
  induction f generalizing i s with
  | zero => exact List.prefix_rfl
  | succ f ih =>
    have h := doOps_pre (bops bs i.toNat) s
    simp only [runN]
    split
    · exact h
    · split
      · exact h
      · exact (h.trans (goesOn_pre _ _)).trans (ih _ _)

theorem runN_kind (bs : List BlockD) (f : Nat) (i : Int) {s : RunD} (h : s.trap = 0) : 1 ≤ (runN bs f i s).kind ∧ (runN bs f i s).kind ≤ 4 := by
  induction f generalizing i s with
  | zero => simp [runN]
  | succ f ih =>
    have hk := doOps_kinds (bops bs i.toNat) h
    simp only [runN]
    split
    · simp only; omega
    · rename_i ht
      split
      · simp
      · exact ih _ (by rw [goesOn_trap]; omega)

/-- With more fuel: what has ended stays; what has not goes on as it began. -/
theorem runN_more (bs : List BlockD) (f d : Nat) (i : Int) {s : RunD} (h : s.trap = 0) :
    ((runN bs f i s).kind ≠ 4 → runN bs (f + d) i s = runN bs f i s) ∧ ((runN bs f i s).kind = 4 → (runN bs f i s).leak <+: (runN bs (f + d) i s).leak ∧ (runN bs f i s).result = 0) := by
  induction f generalizing i s with
  | zero =>
    refine ⟨fun c => absurd rfl c, fun _ => ⟨?_, rfl⟩⟩
    exact runN_pre bs _ i s
  | succ f ih =>
    rw [Nat.succ_add]
    have hk := doOps_kinds (bops bs i.toNat) h
    simp only [runN]
    by_cases ht : (doOps (bops bs i.toNat) s).trap = 0
    · simp only [ht, ne_eq, not_true_eq_false, if_false]
      by_cases h3 : bek bs i.toNat = 3
      · simp [h3]
      · simp only [h3, if_false]
        exact ih _ (by rw [goesOn_trap]; exact ht)
    · simp only [ht, ne_eq, not_false_eq_true, if_true]
      refine ⟨fun _ => trivial, fun c => ?_⟩
      omega

end Go.Proofs.Ytdjdjkgoelbbdaa
