/- PROVED: for every list of raw numbers, three lists of words and two numbers the law Further returns true, and each argument reads behind the call as it read before. No condition of our own. -/
import Derived.Test.YtblhmeidbjigaaaRows
import Derived.WalkKit
import Derived.WalkSpells
import Derived.WalkLawsBesides
import Derived.Laws.BytesArg
import Derived.Deep.QuietTactic
import Derived.BigQuiet
import Derived.Deep.RegionHeld3
import Derived.Maps.AppendAt
import Derived.StillTailTactics
import Derived.ProofKit
import Derived.SizedLaws
import Derived.Deep.Slices
import Derived.Lib.SmallJoins
import Derived.ShutString
import Derived.ChangeOld
import Derived.OpenShut
import Derived.Test.YtblhmeidbjigaaaFWorksToOpenIFurther

set_option linter.unusedSimpArgs false
set_option linter.unusedVariables false
namespace Go.Proofs.Ytblhmeidbjigaaa
open Go.RowKit Go.ChangeShapes Go.WideShapes Go.ChangeAt Go.Deep

theorem RdWords.raw {w : World} {v : Value} {l : List Int} (h : RdWords w v l) (hw : Wide l) : RdInts w v l.length := by
  obtain ⟨ao, cap, rfl, hl, hc⟩ := h
  refine ⟨ao, cap, rfl, hl, fun i hi => ?_⟩
  obtain ⟨b, off, e, h1⟩ := hc i hi
  have hm : l.getD i 0 ∈ l := getD_mem' hi
  exact ⟨b, off, _, e, (hw _ hm).1, (hw _ hm).2, h1⟩

/-- What Run answers where the text is a program's and the input fits. -/
theorem ans_of {p : ProgD} (hg : progGood p = true) {args mem spill : List Int} (hf : fits p args mem spill) {n : Nat} (hn : n ≤ 300) {o : OutD} {e : Int} (h : RunAns (str (progText p)) args mem spill n o e) : o = runN p.blocks n 0 (begins p args mem spill) ∧ e = 0 :=
  h.one (.inr ⟨p, hg, rfl, .inr (.inr ⟨rfl, hf, by omega, by simp⟩)⟩)

set_option maxRecDepth 100000 in
set_option maxHeartbeats 2000000 in
theorem further_any (v0 v1 v2 v3 : Value) (l0 l1 l2 l3 : List Int) (fuel more : Int) (w : World) (h0 : RdWords w v0 l0) (hw0 : Wide l0) (h1 : RdWords w v1 l1) (h2 : RdWords w v2 l2) (h3 : RdWords w v3 l3) (hfu : -9223372036854775808 ≤ fuel ∧ fuel ≤ 9223372036854775807) (hmo : -9223372036854775808 ≤ more ∧ more ≤ 9223372036854775807) :
    Calls Try.prog 7 #[v0, v1, v2, v3, .int .i64 fuel, .int .i64 more] w fun e w' => e = .returned (.bool true) ∧ Below w.heap.size w w' := by
  obtain ⟨o0, c0, rfl, _, _⟩ := id h0
  obtain ⟨o1, c1, rfl, _, _⟩ := id h1
  obtain ⟨o2, c2, rfl, _, _⟩ := id h2
  obtain ⟨o3, c3, rfl, _, _⟩ := id h3
  have r0 := h0.raw hw0
  clear h0 hw0
  go_enter Try.func7, Try.ntmps7
  go_wp2_with fail
  refine whole_cps o0 l0.length c0 w r0 _ ?_
  intro a0 a1 a2 a3 v bv w1 hg ho hb1
  have hgg := hg
  simp only [progGood, Bool.and_eq_true, decide_eq_true_eq] at hgg
  obtain ⟨⟨⟨⟨⟨g1, g2⟩, g3⟩, g4⟩, g5⟩, g6⟩ := hgg
  obtain ⟨a0, rfl⟩ := Int.eq_ofNat_of_zero_le g2.1
  obtain ⟨a2, rfl⟩ := Int.eq_ofNat_of_zero_le g3.1
  obtain ⟨a3, rfl⟩ := Int.eq_ofNat_of_zero_le g4.1
  have hz1 := hb1.size
  obtain ⟨bo, bc, rfl⟩ := owns_slice ho.row
  have rP : Row (w1.alloc (.cells #[.int .i64 a0, .int .i64 a1, .int .i64 a2, .int .i64 a3, .slice bo bv.length bc] 24)) w1.heap.size 24 [.int .i64 a0, .int .i64 a1, .int .i64 a2, .int .i64 a3, .slice bo bv.length bc] := heap_alloc_new w1 _
  have hb1a : Below w.heap.size w (w1.alloc (.cells #[.int .i64 a0, .int .i64 a1, .int .i64 a2, .int .i64 a3, .slice bo bv.length bc] 24)) := hb1.alloc (by omega) _
  have hkt := kText_any a0 a1 a2 a3 _ (bdat bv) _ (OwnBlocks.rd ((ho.alloc (.cells #[.int .i64 a0, .int .i64 a1, .int .i64 a2, .int .i64 a3, .slice bo bv.length bc] 24)))) hg
  have hsm := progText_small hg
  obtain ⟨p, hpe⟩ : ∃ p, p = (⟨a0, a1, a2, a3, bdat bv⟩ : ProgD) := ⟨_, rfl⟩
  rw [← hpe] at hkt hg hsm
  have HPE : Hid (p = (⟨a0, a1, a2, a3, bdat bv⟩ : ProgD)) := hpe
  clear hpe
  clear ho g5 g6
  go_wp2_with fail
  refine hkt.mono ?_
  clear hkt
  rintro e w2 ⟨rfl, hb2⟩
  have hb02 := hb1a.trans (hb2.mono (by simp; omega))
  have rP2 := rP.keep hb2
  clear hb1 hb1a hb2 r0 rP
  go_wp2_with fail
  refine (works_any w2).mono ?_
  rintro e w3 ⟨rfl, hb3⟩
  have hb03 := hb02.trans (hb3.mono hb02.size)
  have rP3 := rP2.keep hb3
  have p0 := rP3.cell (i := 0) rfl
  have p1 := rP3.cell (i := 1) rfl
  have p2 := rP3.cell (i := 2) rfl
  have p3 := rP3.cell (i := 3) rfl
  have p4 := rP3.cell (i := 4) rfl
  clear hb02 hb3 rP2
  go_wp2_with fail
  refine suited_cps a1 a0 a2 a3 _ _ _ _ l1 l2 l3 w3 (h1.keep hb03) (h2.keep hb03) (h3.keep hb03) (by omega) (by omega) (by omega) ⟨_, _, _, rfl⟩ _ ?_
  intro av mv sv w4 hin
  obtain ⟨ao, ac, rfl, _, _⟩ := id hin.args
  obtain ⟨mo, mc, rfl, _, _⟩ := id hin.mem
  obtain ⟨so, sc, rfl, _, _⟩ := id hin.spill
  have hz3 := hb03.size
  have hz4 := hin.below.size
  have hb04 := hb03.trans (hin.below.mono hz3)
  have hfit : fits p (padTo l1 a0) (padTo l2 a2) (padTo l3 a3) := by rw [HPE.out]; exact ⟨by simp [padTo_length], by simp [padTo_length], by simp [padTo_length]⟩
  have htr : (begins p (padTo l1 a0) (padTo l2 a2) (padTo l3 a3)).trap = 0 := rfl
  have hal := (Below.refl w4.heap.size w4).alloc (Nat.le_refl _) (.cells #[.slice ao (padTo l1 a0).length ac, .slice mo (padTo l2 a2).length mc, .slice so (padTo l3 a3).length sc] 52)
  obtain ⟨w5, hw5⟩ : ∃ w5, w5 = w4.alloc (.cells #[.slice ao (padTo l1 a0).length ac, .slice mo (padTo l2 a2).length mc, .slice so (padTo l3 a3).length sc] 52) := ⟨_, rfl⟩
  have rI : Row w5 w4.heap.size 52 [.slice ao (padTo l1 a0).length ac, .slice mo (padTo l2 a2).length mc, .slice so (padTo l3 a3).length sc] := by rw [hw5]; exact heap_alloc_new w4 _
  rw [← hw5] at hal
  have hA5 := hin.args.keep hal
  have hM5 := hin.mem.keep hal
  have hS5 := hin.spill.keep hal
  have hb05 := hb04.trans (hal.mono (by omega))
  have hz5 := hb05.size
  have hlt5 : w4.heap.size < w5.heap.size := rI.lt
  generalize padTo l1 a0 = args at *
  generalize padTo l2 a2 = mem at *
  generalize padTo l3 a3 = spill at *
  clear hin hb03 hb04 hal rP3 h1 h2 h3 HPE g1 g2 g3 g4
  go_wp2_with fail
  rw [← hw5]
  clear hw5 p0 p1 p2 p3 p4
  refine pick_any fuel 301 w5 hfu (by omega) _ ?_
  intro n hn0 hn1
  obtain ⟨n, rfl⟩ := Int.eq_ofNat_of_zero_le hn0
  go_wp2_with fail
  with_reducible refine pick_any more (301 - n) w5 hmo (by omega) _ ?_
  intro d hd0 hd1
  obtain ⟨d, rfl⟩ := Int.eq_ofNat_of_zero_le hd0
  have i0 := rI.cell (i := 0) rfl
  have i1 := rI.cell (i := 1) rfl
  have i2 := rI.cell (i := 2) rfl
  go_wp2_with fail
  with_reducible refine tRun_cps _ _ _ _ args mem spill 0 w5 hA5 hM5 hS5 hsm _ ?_
  intro z ez zm zl w6 haz hoz
  obtain ⟨hz, rfl⟩ := ans_of hg hfit (n := 0) (by omega) haz
  have hz' : z = ⟨4, 0, mem, []⟩ := hz.trans rfl
  clear hz
  subst hz'
  clear haz
  have hb6 := hoz.below
  have hb06 := hb05.trans (hb6.mono hz5)
  have hz6 := hb6.size
  obtain ⟨zmo, zmc, rfl⟩ := owns_slice hoz.mem
  obtain ⟨zlo, zlc, rfl⟩ := owns_slice hoz.leak
  obtain ⟨w7, hw7⟩ : ∃ w7, w7 = w6.alloc (.cells #[.int .i64 4, .int .i64 0, .slice zmo mem.length zmc, .slice zlo 0 zlc] 54) := ⟨_, rfl⟩
  have hal : Below w6.heap.size w6 w7 := by rw [hw7]; exact (Below.refl w6.heap.size w6).alloc (Nat.le_refl _) _
  have rZ : Row w7 w6.heap.size 54 [.int .i64 4, .int .i64 0, .slice zmo mem.length zmc, .slice zlo 0 zlc] := by rw [hw7]; exact heap_alloc_new w6 _
  have rI7 := (rI.keep hb6).keep hal
  have hb57 := hb6.trans (hal.mono (by omega))
  have hb07 := hb06.trans (hal.mono (by omega))
  have rdz : RdWords w7 (.slice zmo mem.length zmc) mem := (owns_rd hoz.mem).keep hal
  have j1 := rI7.cell (i := 1) rfl
  have t2 := rZ.cell (i := 2) rfl
  rw [hw7] at j1 t2
  clear hoz i0 i1 i2 rI hal
  go_wp2_with fail
  rw [← hw7]
  clear hw7 j1 t2
  refine (kSameInts_any _ _ mem w7 rdz (hM5.keep hb57)).mono ?_
  rintro e w8 ⟨rfl, hb8⟩
  have rZ8 := rZ.keep hb8
  have rI8 := rI7.keep hb8
  have z0 := rZ8.cell (i := 0) rfl
  have z1 := rZ8.cell (i := 1) rfl
  have z3 := rZ8.cell (i := 3) rfl
  have i0 := rI8.cell (i := 0) rfl
  have i1 := rI8.cell (i := 1) rfl
  have i2 := rI8.cell (i := 2) rfl
  have hb58 := hb57.trans (hb8.mono hb57.size)
  have hb08 := hb07.trans (hb8.mono hb07.size)
  have hz8 := hb08.size
  clear rZ rI7 hb57 hb8 hb07 rdz
  go_wp2_with fail
  with_reducible refine tRun_cps _ _ _ _ args mem spill n w8 (hA5.keep hb58) (hM5.keep hb58) (hS5.keep hb58) hsm _ ?_
  intro o eo om ol w9 hao hoo
  obtain ⟨ho, rfl⟩ := ans_of hg hfit (n := n) (by omega) hao
  have HO : Hid (o = runN p.blocks n 0 (begins p args mem spill)) := ho
  clear ho
  clear hao z0 z1 z3 i0 i1 i2 rZ8
  have hb9 := hoo.below
  have hb09 := hb08.trans (hb9.mono hz8)
  have hb59 := hb58.trans (hb9.mono hb58.size)
  have hz9 := hb09.size
  have hz89 := hb9.size
  obtain ⟨omo, omc, rfl⟩ := owns_slice hoo.mem
  obtain ⟨olo, olc, rfl⟩ := owns_slice hoo.leak
  obtain ⟨w10, hw10⟩ : ∃ w10, w10 = w9.alloc (.cells #[.int .i64 o.kind, .int .i64 o.result, .slice omo o.mem.length omc, .slice olo o.leak.length olc] 54) := ⟨_, rfl⟩
  have hal : Below w9.heap.size w9 w10 := by rw [hw10]; exact (Below.refl w9.heap.size w9).alloc (Nat.le_refl _) _
  have rO : Row w10 w9.heap.size 54 [.int .i64 o.kind, .int .i64 o.result, .slice omo o.mem.length omc, .slice olo o.leak.length olc] := by rw [hw10]; exact heap_alloc_new w9 _
  have rI10 := (rI8.keep hb9).keep hal
  have hb510 := hb59.trans (hal.mono hb59.size)
  have hb010 := hb09.trans (hal.mono hb09.size)
  have rdm := (owns_rd hoo.mem).keep hal
  have rdl := (owns_rd hoo.leak).keep hal
  have i0 := rI10.cell (i := 0) rfl
  have i1 := rI10.cell (i := 1) rfl
  have i2 := rI10.cell (i := 2) rfl
  rw [hw10] at i0 i1 i2
  clear hoo hal rI8 hb58 hb08 hb9 hb59 hb09
  go_wp2_with fail
  rw [← hw10]
  clear hw10 i0 i1 i2
  with_reducible refine tRun_cps _ _ _ _ args mem spill ((n : Int) + (d : Int)) w10 (hA5.keep hb510) (hM5.keep hb510) (hS5.keep hb510) hsm _ ?_
  intro u eu um ul w11 hau0 hou
  have hau : RunAns (str (progText p)) args mem spill ((n + d : Nat) : Int) u eu := by simpa using hau0
  clear hau0
  obtain ⟨hu, rfl⟩ := ans_of hg hfit (n := n + d) (by omega) hau
  have HU : Hid (u = runN p.blocks (n + d) 0 (begins p args mem spill)) := hu
  clear hu
  clear hau
  have hb11 := hou.below
  have hb011 := hb010.trans (hb11.mono hb010.size)
  have hz10 := hb010.size
  have hz11 := hb11.size
  obtain ⟨umo, umc, rfl⟩ := owns_slice hou.mem
  obtain ⟨ulo, ulc, rfl⟩ := owns_slice hou.leak
  obtain ⟨w12, hw12⟩ : ∃ w12, w12 = w11.alloc (.cells #[.int .i64 u.kind, .int .i64 u.result, .slice umo u.mem.length umc, .slice ulo u.leak.length ulc] 54) := ⟨_, rfl⟩
  have hal : Below w11.heap.size w11 w12 := by rw [hw12]; exact (Below.refl w11.heap.size w11).alloc (Nat.le_refl _) _
  have rU : Row w12 w11.heap.size 54 [.int .i64 u.kind, .int .i64 u.result, .slice umo u.mem.length umc, .slice ulo u.leak.length ulc] := by rw [hw12]; exact heap_alloc_new w11 _
  have rO12 := (rO.keep hb11).keep hal
  have hb012 := hb011.trans (hal.mono hb011.size)
  have rdm12 := (rdm.keep hb11).keep hal
  have rdl12 := (rdl.keep hb11).keep hal
  have rdum := (owns_rd hou.mem).keep hal
  have rdul := (owns_rd hou.leak).keep hal
  have hkind := runN_kind p.blocks n 0 htr
  have hmore := runN_more p.blocks n d 0 htr
  rw [← HO.out] at hkind hmore
  rw [← HU.out] at hmore
  have k0 := rO12.cell (i := 0) rfl
  have k1 := rO12.cell (i := 1) rfl
  have k2 := rO12.cell (i := 2) rfl
  have k3 := rO12.cell (i := 3) rfl
  have q0 := rU.cell (i := 0) rfl
  have q1 := rU.cell (i := 1) rfl
  have q2 := rU.cell (i := 2) rfl
  have q3 := rU.cell (i := 3) rfl
  clear hou hal rI10 rdm rdl HO HU rO12 rU rO hb010 hb011 hb11 hb510
  by_cases h4 : o.kind = 4
  · obtain ⟨hpre, hres⟩ := hmore.2 h4
    clear hmore
    rw [h4, hw12] at k0
    rw [hres, hw12] at k1
    rw [hw12] at k2 k3 q0 q1 q2 q3
    go_wp2_with fail
    rw [← hw12]
    refine (prefix_any _ _ _ _ w12 rdl12 rdul hpre).mono ?_
    rintro e w13 ⟨rfl, hb13⟩
    have hb013 := hb012.trans (hb13.mono hb012.size)
    have k1' : w13.cell? ⟨w9.heap.size, 1, none⟩ = some (.int .i64 0) := by rw [← hw12] at k1; exact cell_keep hb13 k1
    clear k0 k1 k2 k3 q0 q1 q2 q3 hw12
    go_wp2
    go_ret
    exact ⟨by simp, hb013⟩
  · have hou := hmore.1 h4
    subst hou
    have hne : (u.kind == 4) = false := by simp [h4]
    rw [hw12] at k0 k1 k2 k3 q0 q1 q2 q3
    go_wp2_with fail
    rw [← hw12]
    clear k0 k1 k2 k3 q0 q1 q2 q3 hw12
    refine (kSameOutcome_any u.kind u.result _ _ _ _ u.mem u.leak w12 rdm12 rdl12 rdum rdul).mono ?_
    rintro e w13 ⟨rfl, hb13⟩
    have hb013 := hb012.trans (hb13.mono hb012.size)
    go_wp2
    go_ret
    exact ⟨by simp, hb013⟩

theorem Try.own : ownKnob Try.prog.godebug = none := by kernel_rfl
theorem Try.laidOut : laidOutB Try.prog = true := by kernel_rfl

set_option maxRecDepth 100000 in
theorem further_lifted (os : Os) (started : os.Started) (H : Type) (enc : TypeId × Value → H) :
    ReturnsInHanded {} Try.checked os 7 .any (Rows.furtherSpec.pre6 enc Try.prog Try.f7 Rows.furtherRow.domain false) (Rows.furtherSpec.post enc Try.prog Try.f7 false true false false) := by
  refine returnsInHanded_of_change_sized (C := Try.checked) Try.own started (by kernel_rfl) Try.func7
    (ChangeSpec.witness6 (enc := enc) (C := Try.checked) false ⟨#[], #[.slice none 0 0, .slice none 0 0, .slice none 0 0, .slice none 0 0, .int .i64 0, .int .i64 0], []⟩ 8 (by kernel_rfl) (by kernel_rfl) (by kernel_rfl) (by kernel_rfl)) ?_
  intro W base args ds gs before hval0 hW hcnd hsz0 _
  have hval : ∀ (j : Nat) t v, Try.f7.params[j]? = some t → args[j]? = some v → Value.okWide Try.prog W .any base t v := hval0
  have hsz : (DataW.weightsEach Try.prog (Try.f7.params.toList ++ Rows.furtherSpec.plain.varTypes Try.prog) (ds ++ gs)).all (· ≤ reachBytes) = true := hsz0
  have hW' := hW
  obtain ⟨p, q, hA0, hV, rfl, hfz, hnd⟩ := hW
  have hA : DataW.TrodAll enc Try.prog W 0 (fun _ => true) true Try.f7.params.toList args.toList ds p := hA0
  rw [Try.params7] at hA hval hsz
  obtain ⟨v0, vs0, d0, ds0, p0, q0, hargs, rfl, rfl, h0, r0⟩ := trodAll_cons hA
  obtain ⟨v1, vs1, d1, ds1, p1, q1, rfl, rfl, rfl, h1, r1⟩ := trodAll_cons r0
  obtain ⟨v2, vs2, d2, ds2, p2, q2, rfl, rfl, rfl, h2, r2⟩ := trodAll_cons r1
  obtain ⟨v3, vs3, d3, ds3, p3, q3, rfl, rfl, rfl, h3, r3⟩ := trodAll_cons r2
  obtain ⟨v4, vs4, d4, ds4, p4, q4, rfl, rfl, rfl, h4, r4⟩ := trodAll_cons r3
  obtain ⟨v5, vs5, d5, ds5, p5, q5, rfl, rfl, rfl, h5, r5⟩ := trodAll_cons r4
  obtain ⟨rfl, rfl, rfl⟩ := trodAll_nil r5
  obtain rfl : args = #[v0, v1, v2, v3, v4, v5] := by cases args; simp_all
  obtain ⟨rfl, rfl⟩ := trodVars_none hV
  have k0 := h0
  have lt0 : ∀ x ∈ p0, x.block < W.heap.size := by obtain ⟨m, hm⟩ := k0; exact DataW.trod_lt m _ _ _ hm
  have hw0 : ∀ n ∈ d0.weights Try.prog 36, n ≤ reachBytes := fun n hn => of_decide_eq_true (List.all_eq_true.1 hsz n (DataW.weights_mem_each (j := 0) rfl rfl n hn))
  obtain ⟨l0, hr0, _, hd0⟩ := open_words_arg (hval 0 36 v0 rfl rfl) h0 hw0
  have k1 := h1
  have lt1 : ∀ x ∈ p1, x.block < W.heap.size := by obtain ⟨m, hm⟩ := k1; exact DataW.trod_lt m _ _ _ hm
  have hw1 : ∀ n ∈ d1.weights Try.prog 36, n ≤ reachBytes := fun n hn => of_decide_eq_true (List.all_eq_true.1 hsz n (DataW.weights_mem_each (j := 1) rfl rfl n hn))
  obtain ⟨l1, hr1, _, hd1⟩ := open_words_arg (hval 1 36 v1 rfl rfl) h1 hw1
  have k2 := h2
  have lt2 : ∀ x ∈ p2, x.block < W.heap.size := by obtain ⟨m, hm⟩ := k2; exact DataW.trod_lt m _ _ _ hm
  have hw2 : ∀ n ∈ d2.weights Try.prog 36, n ≤ reachBytes := fun n hn => of_decide_eq_true (List.all_eq_true.1 hsz n (DataW.weights_mem_each (j := 2) rfl rfl n hn))
  obtain ⟨l2, hr2, _, hd2⟩ := open_words_arg (hval 2 36 v2 rfl rfl) h2 hw2
  have k3 := h3
  have lt3 : ∀ x ∈ p3, x.block < W.heap.size := by obtain ⟨m, hm⟩ := k3; exact DataW.trod_lt m _ _ _ hm
  have hw3 : ∀ n ∈ d3.weights Try.prog 36, n ≤ reachBytes := fun n hn => of_decide_eq_true (List.all_eq_true.1 hsz n (DataW.weights_mem_each (j := 3) rfl rfl n hn))
  obtain ⟨l3, hr3, _, hd3⟩ := open_words_arg (hval 3 36 v3 rfl rfl) h3 hw3
  obtain ⟨fu, rfl, rfl, rfl, hf⟩ := open_int Try.underlying3 (hval 4 3 v4 rfl rfl) h4
  obtain ⟨mo, rfl, rfl, rfl, hm⟩ := open_int Try.underlying3 (hval 5 3 v5 rfl rfl) h5
  have wf : ∀ {n : Int}, (Lit.int .i64 n).wf = true → -9223372036854775808 ≤ n ∧ n ≤ 9223372036854775807 := fun {n} h => by
    simp only [Lit.wf, Bool.and_eq_true, decide_eq_true_eq] at h
    exact ⟨Int.le_trans (by decide) h.1, Int.le_trans h.2 (by decide)⟩
  clear hA0 hval0 hsz0
  refine (further_any v0 v1 v2 v3 l0 l1 l2 l3 fu mo W hr0 hd0 hr1 hr2 hr3 (wf hf) (wf hm)).mono fun e W' ⟨he, bel⟩ => ?_
  subst he
  exact ⟨_, rfl, _, _, _, [], _, [], hW', trodAll_mk1 (shut_bool Try.underlying4 _), (trodAll_cons_mk (Below.trod Try.laidOut (by kernel_rfl) (of_decide_eq_true (by kernel_rfl)) k0 bel lt0) (trodAll_cons_mk (Below.trod Try.laidOut (by kernel_rfl) (of_decide_eq_true (by kernel_rfl)) k1 bel lt1) (trodAll_cons_mk (Below.trod Try.laidOut (by kernel_rfl) (of_decide_eq_true (by kernel_rfl)) k2 bel lt2) (trodAll_cons_mk (Below.trod Try.laidOut (by kernel_rfl) (of_decide_eq_true (by kernel_rfl)) k3 bel lt3) (trodAll_cons_mk (shut_int Try.underlying3 hf) (trodAll_cons_mk (shut_int Try.underlying3 hm) trodAll_mk0)))))), rfl, bel.frame _, fun h => by cases h⟩

theorem further_holds : Rows.FurtherSaid :=
  OpenClaim.holds_of_wide 7 Try.f7 rfl rfl rfl rfl rfl rfl rfl ⟨rfl, rfl, rfl, rfl, rfl⟩ rfl rfl rfl rfl rfl (by kernel_rfl) Try.func7 (by kernel_rfl)
    (of_decide_eq_true (by kernel_rfl)) (by unfold Func.isWrapper; first | (rw [if_pos (by decide +kernel)]; kernel_rfl) | (rw [if_neg (by decide +kernel)]; exact ⟨rfl, rfl⟩))
    (fun os started H enc _ => further_lifted os started H enc)

#print axioms further_holds
end Go.Proofs.Ytblhmeidbjigaaa
