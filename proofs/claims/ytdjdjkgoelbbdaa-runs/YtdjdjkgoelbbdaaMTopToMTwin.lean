/- Run in package machine. -/
import Derived.Test.YtdjdjkgoelbbdaaMBegToMAns
set_option linter.unusedSimpArgs false
set_option linter.unusedVariables false
namespace Go.Proofs.Ytdjdjkgoelbbdaa
open Go.RowKit

set_option maxRecDepth 100000 in
set_option maxHeartbeats 2000000 in
theorem mRun_cps (s : ByteArray) (av mv sv : Value) (args mem spill : List Int) (fuel : Int) (w : World) (ha : RdWords w av args) (hm : RdWords w mv mem) (hsp : RdWords w sv spill) (hs : s.size ≤ maxLen) (Post : Ending → World → Prop)
    (hp : ∀ o e mv lv w', RunAns s args mem spill fuel o e → RunOut w w' o mv lv → Post (.returned (.tuple #[.agg #[.int .i64 o.kind, .int .i64 o.result, mv, lv], .int .i64 e])) w') :
    Calls Try.prog 67 #[.string s, .agg #[av, mv, sv], .int .i64 fuel] w Post := by
  obtain ⟨ao, ac, rfl, hal, _⟩ := id ha
  obtain ⟨mo, mc, rfl, hml, _⟩ := id hm
  obtain ⟨so, sc, rfl, hsl, _⟩ := id hsp
  have hc := cDecode_any s ((w.alloc (.cells #[.slice ao args.length ac, .slice mo mem.length mc, .slice so spill.length sc] 52)).alloc (.cells #[.int .i64 0, .int .i64 0, .slice none 0 0, .slice none 0 0] 54)) hs
  have rI : Row ((w.alloc (.cells #[.slice ao args.length ac, .slice mo mem.length mc, .slice so spill.length sc] 52)).alloc (.cells #[.int .i64 0, .int .i64 0, .slice none 0 0, .slice none 0 0] 54)) w.heap.size 52 [.slice ao args.length ac, .slice mo mem.length mc, .slice so spill.length sc] := by
    have q : Row (w.alloc (.cells #[.slice ao args.length ac, .slice mo mem.length mc, .slice so spill.length sc] 52)) w.heap.size 52 [.slice ao args.length ac, .slice mo mem.length mc, .slice so spill.length sc] := heap_alloc_new w _
    exact q.alloc _
  have rO : Row ((w.alloc (.cells #[.slice ao args.length ac, .slice mo mem.length mc, .slice so spill.length sc] 52)).alloc (.cells #[.int .i64 0, .int .i64 0, .slice none 0 0, .slice none 0 0] 54)) (w.heap.size + 1) 54 zOut := heap_alloc2_new w _ _
  have hbW : Below w.heap.size w ((w.alloc (.cells #[.slice ao args.length ac, .slice mo mem.length mc, .slice so spill.length sc] 52)).alloc (.cells #[.int .i64 0, .int .i64 0, .slice none 0 0, .slice none 0 0] 54)) := ((Below.refl w.heap.size w).alloc (Nat.le_refl _) _).alloc (by simp) _
  go_enter Try.func67, Try.ntmps67
  go_wp2_with fail
  refine hc.mono ?_
  clear hc
  rintro e w1 ⟨hor, hb1⟩
  have rI1 := rI.keep hb1
  have rO1 := rO.keep hb1
  have hb01 := hbW.trans (hb1.mono (by simp; omega))
  have hz1 : w.heap.size + 2 ≤ w1.heap.size := by have := hb1.size; simp at this; omega
  clear rI rO hbW
  rcases hor with ⟨⟨a0, a1, a2, a3, l⟩, v, bv, rfl, ho, hd, hg, ht⟩ | ⟨hn, rfl⟩
  · simp only at hd
    obtain ⟨bo, bc, rfl⟩ := owns_slice ho.row
    unfold progV
    simp only
    have ho2 := ho.alloc (.cells #[.int .i64 a0, .int .i64 a1, .int .i64 a2, .int .i64 a3, .slice bo bv.length bc] 24)
    have rI2 := rI1.alloc (.cells #[.int .i64 a0, .int .i64 a1, .int .i64 a2, .int .i64 a3, .slice bo bv.length bc] 24)
    have rO2 := rO1.alloc (.cells #[.int .i64 a0, .int .i64 a1, .int .i64 a2, .int .i64 a3, .slice bo bv.length bc] 24)
    have rP2 : Row (w1.alloc (.cells #[.int .i64 a0, .int .i64 a1, .int .i64 a2, .int .i64 a3, .slice bo bv.length bc] 24)) w1.heap.size 24 [.int .i64 a0, .int .i64 a1, .int .i64 a2, .int .i64 a3, .slice bo bv.length bc] := heap_alloc_new w1 _
    have hb02 := hb01.alloc (show w.heap.size ≤ w1.heap.size by omega) (.cells #[.int .i64 a0, .int .i64 a1, .int .i64 a2, .int .i64 a3, .slice bo bv.length bc] 24)
    clear ho rI1 rO1 hb01 hb1
    have i0 := rI2.cell (i := 0) rfl
    have i1 := rI2.cell (i := 1) rfl
    have i2 := rI2.cell (i := 2) rfl
    have p0 := rP2.cell (i := 0) rfl
    have p1 := rP2.cell (i := 1) rfl
    have p2 := rP2.cell (i := 2) rfl
    have p3 := rP2.cell (i := 3) rfl
    have p4 := rP2.cell (i := 4) rfl
    have y0 := rO2.cell (i := 0) rfl
    have y1 := rO2.cell (i := 1) rfl
    have y2 := rO2.cell (i := 2) rfl
    have y3 := rO2.cell (i := 3) rfl
    have f0 := rO2.frozen 0
    have f1 := rO2.frozen 1
    have f2 := rO2.frozen 2
    have f3 := rO2.frozen 3
    by_cases h0 : (args.length : Int) = a0
    case neg =>
      have e0 : ((args.length : Int) == a0) = false := by simp [h0]
      have hfin := hp outZ 3 (.slice none 0 0) (.slice none 0 0) (out4 (w1.alloc (.cells #[.int .i64 a0, .int .i64 a1, .int .i64 a2, .int .i64 a3, .slice bo bv.length bc] 24)) (w.heap.size + 1) 0 0 (.slice none 0 0) (.slice none 0 0)) (.inr ⟨⟨a0, a1, a2, a3, l⟩, hg, ht, .inl ⟨rfl, rfl, fun c => h0 c.1⟩⟩) (runOut_nil (out4_below hb02 (by omega) _ _ _ _))
      have HF : Hid (Post (.returned (.tuple #[.agg #[.int .i64 0, .int .i64 0, .slice none 0 0, .slice none 0 0], .int .i64 3])) (out4 (w1.alloc (.cells #[.int .i64 a0, .int .i64 a1, .int .i64 a2, .int .i64 a3, .slice bo bv.length bc] 24)) (w.heap.size + 1) 0 0 (.slice none 0 0) (.slice none 0 0))) := hfin
      clear hfin hp ho2 rI2 rO2 rP2 hb02
      unfold out4 at HF
      go_wp2
      (try simp only [Exit.inBlock, Exit.then])
      refine bodyPost_ret (v := .tuple #[.agg #[.int .i64 0, .int .i64 0, .slice none 0 0, .slice none 0 0], .int .i64 3]) ?_ rfl ?_
      · simp [results, Try.results67, go_sem, y0, y1, y2, y3]
      · exact HF.out
    by_cases h2 : (mem.length : Int) = a2
    case neg =>
      have e0 : ((args.length : Int) == a0) = true := by simp [h0]
      have e2 : ((mem.length : Int) == a2) = false := by simp [h2]
      have hfin := hp outZ 3 (.slice none 0 0) (.slice none 0 0) (out4 (w1.alloc (.cells #[.int .i64 a0, .int .i64 a1, .int .i64 a2, .int .i64 a3, .slice bo bv.length bc] 24)) (w.heap.size + 1) 0 0 (.slice none 0 0) (.slice none 0 0)) (.inr ⟨⟨a0, a1, a2, a3, l⟩, hg, ht, .inl ⟨rfl, rfl, fun c => h2 c.2.1⟩⟩) (runOut_nil (out4_below hb02 (by omega) _ _ _ _))
      have HF : Hid (Post (.returned (.tuple #[.agg #[.int .i64 0, .int .i64 0, .slice none 0 0, .slice none 0 0], .int .i64 3])) (out4 (w1.alloc (.cells #[.int .i64 a0, .int .i64 a1, .int .i64 a2, .int .i64 a3, .slice bo bv.length bc] 24)) (w.heap.size + 1) 0 0 (.slice none 0 0) (.slice none 0 0))) := hfin
      clear hfin hp ho2 rI2 rO2 rP2 hb02
      unfold out4 at HF
      go_wp2
      (try simp only [Exit.inBlock, Exit.then])
      refine bodyPost_ret (v := .tuple #[.agg #[.int .i64 0, .int .i64 0, .slice none 0 0, .slice none 0 0], .int .i64 3]) ?_ rfl ?_
      · simp [results, Try.results67, go_sem, y0, y1, y2, y3]
      · exact HF.out
    by_cases h3 : (spill.length : Int) = a3
    case neg =>
      have e0 : ((args.length : Int) == a0) = true := by simp [h0]
      have e2 : ((mem.length : Int) == a2) = true := by simp [h2]
      have e3 : ((spill.length : Int) == a3) = false := by simp [h3]
      have hfin := hp outZ 3 (.slice none 0 0) (.slice none 0 0) (out4 (w1.alloc (.cells #[.int .i64 a0, .int .i64 a1, .int .i64 a2, .int .i64 a3, .slice bo bv.length bc] 24)) (w.heap.size + 1) 0 0 (.slice none 0 0) (.slice none 0 0)) (.inr ⟨⟨a0, a1, a2, a3, l⟩, hg, ht, .inl ⟨rfl, rfl, fun c => h3 c.2.2⟩⟩) (runOut_nil (out4_below hb02 (by omega) _ _ _ _))
      have HF : Hid (Post (.returned (.tuple #[.agg #[.int .i64 0, .int .i64 0, .slice none 0 0, .slice none 0 0], .int .i64 3])) (out4 (w1.alloc (.cells #[.int .i64 a0, .int .i64 a1, .int .i64 a2, .int .i64 a3, .slice bo bv.length bc] 24)) (w.heap.size + 1) 0 0 (.slice none 0 0) (.slice none 0 0))) := hfin
      clear hfin hp ho2 rI2 rO2 rP2 hb02
      unfold out4 at HF
      go_wp2
      (try simp only [Exit.inBlock, Exit.then])
      refine bodyPost_ret (v := .tuple #[.agg #[.int .i64 0, .int .i64 0, .slice none 0 0, .slice none 0 0], .int .i64 3]) ?_ rfl ?_
      · simp [results, Try.results67, go_sem, y0, y1, y2, y3]
      · exact HF.out
    subst h0 h2 h3
    by_cases hf0 : fuel < 0
    · have hfin := hp outZ 4 (.slice none 0 0) (.slice none 0 0) (out4 (w1.alloc (.cells #[.int .i64 args.length, .int .i64 a1, .int .i64 mem.length, .int .i64 spill.length, .slice bo bv.length bc] 24)) (w.heap.size + 1) 0 0 (.slice none 0 0) (.slice none 0 0)) (.inr ⟨⟨args.length, a1, mem.length, spill.length, l⟩, hg, ht, .inr (.inl ⟨rfl, rfl, ⟨rfl, rfl, rfl⟩, fun c => by omega⟩)⟩) (runOut_nil (out4_below hb02 (by omega) _ _ _ _))
      have HF : Hid (Post (.returned (.tuple #[.agg #[.int .i64 0, .int .i64 0, .slice none 0 0, .slice none 0 0], .int .i64 4])) (out4 (w1.alloc (.cells #[.int .i64 args.length, .int .i64 a1, .int .i64 mem.length, .int .i64 spill.length, .slice bo bv.length bc] 24)) (w.heap.size + 1) 0 0 (.slice none 0 0) (.slice none 0 0))) := hfin
      clear hfin hp ho2 rI2 rO2 rP2 hb02
      unfold out4 at HF
      go_wp2
      (try simp only [Exit.inBlock, Exit.then])
      refine bodyPost_ret (v := .tuple #[.agg #[.int .i64 0, .int .i64 0, .slice none 0 0, .slice none 0 0], .int .i64 4]) ?_ rfl ?_
      · simp [results, Try.results67, go_sem, y0, y1, y2, y3]
      · exact HF.out
    by_cases hf1 : 300 < fuel
    · have hfin := hp outZ 4 (.slice none 0 0) (.slice none 0 0) (out4 (w1.alloc (.cells #[.int .i64 args.length, .int .i64 a1, .int .i64 mem.length, .int .i64 spill.length, .slice bo bv.length bc] 24)) (w.heap.size + 1) 0 0 (.slice none 0 0) (.slice none 0 0)) (.inr ⟨⟨args.length, a1, mem.length, spill.length, l⟩, hg, ht, .inr (.inl ⟨rfl, rfl, ⟨rfl, rfl, rfl⟩, fun c => by omega⟩)⟩) (runOut_nil (out4_below hb02 (by omega) _ _ _ _))
      have HF : Hid (Post (.returned (.tuple #[.agg #[.int .i64 0, .int .i64 0, .slice none 0 0, .slice none 0 0], .int .i64 4])) (out4 (w1.alloc (.cells #[.int .i64 args.length, .int .i64 a1, .int .i64 mem.length, .int .i64 spill.length, .slice bo bv.length bc] 24)) (w.heap.size + 1) 0 0 (.slice none 0 0) (.slice none 0 0))) := hfin
      clear hfin hp ho2 rI2 rO2 rP2 hb02
      unfold out4 at HF
      go_wp2
      (try simp only [Exit.inBlock, Exit.then])
      refine bodyPost_ret (v := .tuple #[.agg #[.int .i64 0, .int .i64 0, .slice none 0 0, .slice none 0 0], .int .i64 4]) ?_ rfl ?_
      · simp [results, Try.results67, go_sem, y0, y1, y2, y3]
      · exact HF.out
    obtain ⟨fu, rfl⟩ := Int.eq_ofNat_of_zero_le (show 0 ≤ fuel by omega)
    have hgg := hg
    simp only [progGood, Bool.and_eq_true, decide_eq_true_eq] at hgg
    obtain ⟨⟨⟨⟨⟨g1, g2⟩, g3⟩, g4⟩, g5⟩, g6⟩ := hgg
    have hans : RunAns s args mem spill fu (runN l fu 0 (begins ⟨args.length, a1, mem.length, spill.length, l⟩ args mem spill)) 0 := .inr ⟨⟨args.length, a1, mem.length, spill.length, l⟩, hg, ht, .inr (.inr ⟨rfl, ⟨rfl, rfl, rfl⟩, by omega, by simp⟩)⟩
    have hsz := begins_sized (args := args) (mem := mem) (spill := spill) hg ⟨rfl, rfl, rfl⟩
    have hal' := ha.keep hb02
    have hml' := hm.keep hb02
    have hsl' := hsp.keep hb02
    have hrd := OwnBlocks.rd ho2
    rw [hd] at hrd
    obtain ⟨W2, hW2⟩ : ∃ W2, W2 = w1.alloc (.cells #[.int .i64 args.length, .int .i64 a1, .int .i64 mem.length, .int .i64 spill.length, .slice bo bv.length bc] 24) := ⟨_, rfl⟩
    rw [← hW2] at hrd hal' hml' hsl' hb02 rI2 rO2 rP2
    have hz2 : w.heap.size + 3 ≤ W2.heap.size := by rw [hW2]; simp; omega
    clear hg ht ho2 ha hm hsp
    go_wp2_with fail
    rw [← hW2]
    clear hW2 i0 i1 i2 p0 p1 p2 p3 p4 y0 y1 y2 y3 f0 f1 f2 f3
    refine begin_cps a1 mem.length spill.length _ _ _ _ args mem spill W2 hal' hml' hsl' (by omega) (by omega) (by omega) (by omega) ⟨_, _, _, rfl⟩ _ ?_
    intro rv cv sv w3 hB hb3
    obtain ⟨ro, rc, rfl⟩ := owns_slice hB.regs
    obtain ⟨co, cc, rfl⟩ := owns_slice hB.cells
    obtain ⟨so', sc', rfl⟩ := owns_slice hB.slots
    have hz3 := hb3.size
    have hall := (Below.refl w3.heap.size w3).alloc (Nat.le_refl _) (.cells #[.slice ro (regs0 args (a1 - args.length).toNat).length rc, .slice co mem.length cc, .slice so' spill.length sc', .slice none 0 0, .int .i64 0] 133)
    have hM : Mach (fun g => g < W2.heap.size) (w3.alloc (.cells #[.slice ro (regs0 args (a1 - args.length).toNat).length rc, .slice co mem.length cc, .slice so' spill.length sc', .slice none 0 0, .int .i64 0] 133)) w3.heap.size (begins ⟨args.length, a1, mem.length, spill.length, l⟩ args mem spill) :=
      ⟨_, _, _, _, heap_alloc_new w3 _, hB.keep hall, fun c => by omega⟩
    have hb4 : Below W2.heap.size W2 (w3.alloc (.cells #[.slice ro (regs0 args (a1 - args.length).toNat).length rc, .slice co mem.length cc, .slice so' spill.length sc', .slice none 0 0, .int .i64 0] 133)) := hb3.trans (hall.mono (by omega))
    have p4 := (rP2.keep hb4).cell (i := 4) rfl
    have hlz : (begins ⟨args.length, a1, mem.length, spill.length, l⟩ args mem spill).leak = [] := rfl
    have htz : (begins ⟨args.length, a1, mem.length, spill.length, l⟩ args mem spill).trap = 0 := rfl
    generalize begins ⟨args.length, a1, mem.length, spill.length, l⟩ args mem spill = S0 at *
    generalize (regs0 args (a1 - args.length).toNat).length = nr at *
    clear hB hall hal' hml' hsl'
    obtain ⟨w4, hw4⟩ : ∃ w4, w4 = w3.alloc (.cells #[.slice ro nr rc, .slice co mem.length cc, .slice so' spill.length sc', .slice none 0 0, .int .i64 0] 133) := ⟨_, rfl⟩
    rw [← hw4] at hM hb4
    have hz4 := hb4.size
    go_wp2_with fail
    rw [← hw4]
    clear hw4 p4
    refine run_cps (fun g => g < W2.heap.size) w3.heap.size S0 l _ fu a1 mem.length spill.length W2 w4 hM (by omega) hlz htz hsz g6 (by omega) hrd (fun g h => h) hb4 _ ?_
    intro mv' lv' w5 own1 own2 ap k1 k2 hk5
    have hb5 := hb4.trans (hk5.toBelow hz4 (fun g hn => by omega))
    have rO5 := rO2.keep hb5
    have hb05 := hb02.trans (hb5.mono (by omega))
    have hz5 := hb5.size
    generalize runN l fu 0 S0 = G at *
    have hfin := hp G 0 mv' lv' (out4 w5 (w.heap.size + 1) G.kind G.result mv' lv') hans
      ⟨owns_rebase (OwnW.out4 own1 rO5 _ _ _ _) (fun g e => by have := k1 g e; omega), owns_rebase (OwnW.out4 own2 rO5 _ _ _ _) (fun g e => by have := k2 g e; omega), ap, out4_below hb05 (by omega) _ _ _ _⟩
    obtain ⟨mo', mc', rfl⟩ := owns_slice own1
    obtain ⟨lo', lc', rfl⟩ := owns_slice own2
    have HF : Hid (Post (.returned (.tuple #[.agg #[.int .i64 G.kind, .int .i64 G.result, .slice mo' G.mem.length mc', .slice lo' G.leak.length lc'], .int .i64 0])) (out4 w5 (w.heap.size + 1) G.kind G.result (.slice mo' G.mem.length mc') (.slice lo' G.leak.length lc'))) := hfin
    have y0 := rO5.cell (i := 0) rfl
    have y1 := rO5.cell (i := 1) rfl
    have y2 := rO5.cell (i := 2) rfl
    have y3 := rO5.cell (i := 3) rfl
    have f0 := rO5.frozen 0
    have f1 := rO5.frozen 1
    have f2 := rO5.frozen 2
    have f3 := rO5.frozen 3
    clear hfin hp own1 own2 ap k1 k2 hk5 hb5 rO5 hb05 hM hb4 rP2 rI2 rO2 hrd hans
    unfold out4 at HF
    go_wp2
    (try simp only [Exit.inBlock, Exit.then])
    refine bodyPost_ret (v := .tuple #[.agg #[.int .i64 G.kind, .int .i64 G.result, .slice mo' G.mem.length mc', .slice lo' G.leak.length lc'], .int .i64 0]) ?_ rfl ?_
    · simp [results, Try.results67, go_sem, y0, y1, y2, y3]
    · exact HF.out
  · clear hs
    have rO2 := rO1.alloc (.cells #[.int .i64 0, .int .i64 0, .int .i64 0, .int .i64 0, .slice none 0 0] 24)
    have hb02 := hb01.alloc (show w.heap.size ≤ w1.heap.size by omega) (.cells #[.int .i64 0, .int .i64 0, .int .i64 0, .int .i64 0, .slice none 0 0] 24)
    have y0 := rO2.cell (i := 0) rfl
    have y1 := rO2.cell (i := 1) rfl
    have y2 := rO2.cell (i := 2) rfl
    have y3 := rO2.cell (i := 3) rfl
    have f0 := rO2.frozen 0
    have f1 := rO2.frozen 1
    have f2 := rO2.frozen 2
    have f3 := rO2.frozen 3
    have hfin := hp outZ 1 (.slice none 0 0) (.slice none 0 0) (out4 (w1.alloc (.cells #[.int .i64 0, .int .i64 0, .int .i64 0, .int .i64 0, .slice none 0 0] 24)) (w.heap.size + 1) 0 0 (.slice none 0 0) (.slice none 0 0)) (.inl ⟨rfl, rfl, hn⟩) (runOut_nil (out4_below hb02 (by omega) _ _ _ _))
    have HF : Hid (Post (.returned (.tuple #[.agg #[.int .i64 0, .int .i64 0, .slice none 0 0, .slice none 0 0], .int .i64 1])) (out4 (w1.alloc (.cells #[.int .i64 0, .int .i64 0, .int .i64 0, .int .i64 0, .slice none 0 0] 24)) (w.heap.size + 1) 0 0 (.slice none 0 0) (.slice none 0 0))) := hfin
    clear hfin hp rI1 rO1 rO2 hb01 hb02 hb1 hn
    unfold out4 at HF
    go_wp2
    (try simp only [Exit.inBlock, Exit.then])
    refine bodyPost_ret (v := .tuple #[.agg #[.int .i64 0, .int .i64 0, .slice none 0 0, .slice none 0 0], .int .i64 1]) ?_ rfl ?_
    · simp [results, Try.results67, go_sem, y0, y1, y2, y3]
    · exact HF.out

end Go.Proofs.Ytdjdjkgoelbbdaa

/- Run in package twin. -/
set_option linter.unusedSimpArgs false
set_option linter.unusedVariables false
namespace Go.Proofs.Ytdjdjkgoelbbdaa
open Go.RowKit

theorem RunOut.set4 {w w0 w' : World} {o : OutD} {mv lv : Value} (h : RunOut w0 w' o mv lv) (hb : Below w.heap.size w w0) {R : Nat} {xs : List Value} (hr : Row w' R 54 xs) (hR : w.heap.size ≤ R) (k r : Int) (m l : Value) : RunOut w (out4 w' R k r m l) o mv lv :=
  ⟨owns_base (owns_rebase (OwnW.out4 (owns_base h.mem (Nat.zero_le _)) hr _ _ _ _) (fun g e => (h.mem.lt g e).1)) hb.size, owns_base (owns_rebase (OwnW.out4 (owns_base h.leak (Nat.zero_le _)) hr _ _ _ _) (fun g e => (h.leak.lt g e).1)) hb.size, h.apart,
    out4_below (hb.trans (h.below.mono hb.size)) hR _ _ _ _⟩

set_option maxRecDepth 100000 in
set_option maxHeartbeats 2000000 in
theorem tRun_cps (s : ByteArray) (av mv sv : Value) (args mem spill : List Int) (fuel : Int) (w : World) (ha : RdWords w av args) (hm : RdWords w mv mem) (hsp : RdWords w sv spill) (hs : s.size ≤ maxLen) (Post : Ending → World → Prop)
    (hp : ∀ o e mv lv w', RunAns s args mem spill fuel o e → RunOut w w' o mv lv → Post (.returned (.tuple #[.agg #[.int .i64 o.kind, .int .i64 o.result, mv, lv], .int .i64 e])) w') :
    Calls Try.prog 26 #[.string s, .agg #[av, mv, sv], .int .i64 fuel] w Post := by
  obtain ⟨ao, ac, rfl, hal, _⟩ := id ha
  obtain ⟨mo, mc, rfl, hml, _⟩ := id hm
  obtain ⟨so, sc, rfl, hsl, _⟩ := id hsp
  have rO : Row ((w.alloc (.cells #[.slice ao args.length ac, .slice mo mem.length mc, .slice so spill.length sc] 52)).alloc (.cells #[.int .i64 0, .int .i64 0, .slice none 0 0, .slice none 0 0] 54)) (w.heap.size + 1) 54 zOut := heap_alloc2_new w _ _
  have hbW : Below w.heap.size w ((w.alloc (.cells #[.slice ao args.length ac, .slice mo mem.length mc, .slice so spill.length sc] 52)).alloc (.cells #[.int .i64 0, .int .i64 0, .slice none 0 0, .slice none 0 0] 54)) := ((Below.refl w.heap.size w).alloc (Nat.le_refl _) _).alloc (by simp) _
  go_enter Try.func26, Try.ntmps26
  go_wp2_with fail
  refine mRun_cps s _ _ _ args mem spill fuel _ (ha.keep hbW) (hm.keep hbW) (hsp.keep hbW) hs _ ?_
  intro o e mv' lv' w1 hans hout
  have rO1 := rO.keep hout.below
  have ho := hout.set4 hbW rO1 (by omega) o.kind o.result mv' lv'
  have hfin := hp o e mv' lv' _ hans ho
  obtain ⟨mo', mc', rfl⟩ := owns_slice hout.mem
  obtain ⟨lo', lc', rfl⟩ := owns_slice hout.leak
  have HF : Hid (Post (.returned (.tuple #[.agg #[.int .i64 o.kind, .int .i64 o.result, .slice mo' o.mem.length mc', .slice lo' o.leak.length lc'], .int .i64 e])) (out4 w1 (w.heap.size + 1) o.kind o.result (.slice mo' o.mem.length mc') (.slice lo' o.leak.length lc'))) := hfin
  have y0 := rO1.cell (i := 0) rfl
  have y1 := rO1.cell (i := 1) rfl
  have y2 := rO1.cell (i := 2) rfl
  have y3 := rO1.cell (i := 3) rfl
  have f0 := rO1.frozen 0
  have f1 := rO1.frozen 1
  have f2 := rO1.frozen 2
  have f3 := rO1.frozen 3
  clear hfin hp hans hout ho rO rO1 hbW ha hm hsp
  unfold out4 at HF
  go_wp2
  (try simp only [Exit.inBlock, Exit.then])
  refine bodyPost_ret (v := .tuple #[.agg #[.int .i64 o.kind, .int .i64 o.result, .slice mo' o.mem.length mc', .slice lo' o.leak.length lc'], .int .i64 e]) ?_ rfl ?_
  · simp [results, Try.results26, go_sem, y0, y1, y2, y3]
  · exact HF.out

end Go.Proofs.Ytdjdjkgoelbbdaa
