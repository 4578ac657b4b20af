/- The law on programs: writing. -/
import Derived.Test.YtdjdjkgoelbbdaaPLawL
import Derived.Test.YtdjdjkgoelbbdaaPLawI
import Derived.Test.YtdjdjkgoelbbdaaPLawJ
import Derived.Test.YtdjdjkgoelbbdaaLawM
set_option linter.unusedSimpArgs false
set_option linter.unusedVariables false
namespace Go.Proofs.Ytdjdjkgoelbbdaa
open Go.RowKit

set_option maxRecDepth 100000 in
set_option maxHeartbeats 4000000 in
theorem encoded_any (a0 a1 a2 a3 : Int) (u : Value) (l : List BlockD) (w : World) (hr : RdBlocks w u l) (hn : l.length ≤ 2513169434916) (hn2 : ∀ k, k < l.length → (bops l k).length ≤ 4398046511104) :
    Calls Try.prog 10 #[.agg #[.int .i64 a0, .int .i64 a1, .int .i64 a2, .int .i64 a3, u]] w fun e w' => e = .returned (.bool true) ∧ Below w.heap.size w w' := by
  obtain ⟨uo, uc, e0, _, _⟩ := id hr
  subst e0
  have hbU : Below w.heap.size w (w.alloc (.cells #[.int .i64 a0, .int .i64 a1, .int .i64 a2, .int .i64 a3, .slice uo l.length uc] 24)) := (Below.refl w.heap.size w).alloc (Nat.le_refl _) _
  have WU : Row (w.alloc (.cells #[.int .i64 a0, .int .i64 a1, .int .i64 a2, .int .i64 a3, .slice uo l.length uc] 24)) w.heap.size 24 [.int .i64 a0, .int .i64 a1, .int .i64 a2, .int .i64 a3, .slice uo l.length uc] := heap_alloc_new w _
  have hr1 := hr.keep hbU
  go_enter Try.func10, Try.ntmps10
  go_wp2_with fail
  refine roomyProg_cps a0 a1 a2 a3 _ l _ hr1 hn hn2 _ ?_
  intro w1 bv L D hdt hlies hL hD hb1
  have VU := WU.keep hb1
  have hb1' : Below (w.heap.size + 1) (w.alloc (.cells #[.int .i64 a0, .int .i64 a1, .int .i64 a2, .int .i64 a3, .slice uo l.length uc] 24)) w1 := by simpa using hb1
  have hz1 := hb1'.size
  simp at hz1
  have hb01 := Below.under hb1'
  have x0 := VU.cell (i := 0) rfl
  have x1 := VU.cell (i := 1) rfl
  have x2 := VU.cell (i := 2) rfl
  have x3 := VU.cell (i := 3) rfl
  have x4 := VU.cell (i := 4) rfl
  have hvl : bv.length = l.length := by rw [← hdt, bdat_length]
  have n2 : ∀ x ∈ bv, x.1.ops.length ≤ 4398046511104 := by
    intro x hx
    obtain ⟨k, hk, rfl⟩ := List.getElem_of_mem hx
    have := hn2 k (by omega)
    rw [← hdt, (bdat_get bv hk).1] at this
    exact this
  have HV : Hid (bv.length = l.length) := hvl
  have rg := rows_rdb (cap := bv.length + 1) hlies hL (by omega) (fun x hx => by have := n2 x hx; omega)
  rw [hdt] at rg
  have HD : Hid (bdat bv = l) := hdt
  clear hb1 hvl hdt
  have hzl : w.heap.size < w1.heap.size := by omega
  -- Encode
  have WL : Row (w1.alloc (.cells #[.int .i64 a0, .int .i64 a1, .int .i64 a2, .int .i64 a3, .slice (some ⟨L, 0, none⟩) bv.length (bv.length + 1)] 24)) w1.heap.size 24 [.int .i64 a0, .int .i64 a1, .int .i64 a2, .int .i64 a3, .slice (some ⟨L, 0, none⟩) bv.length (bv.length + 1)] := heap_alloc_new w1 _
  have hc := tEncode_any ⟨a0, a1, a2, a3, l⟩ _ (w1.alloc (.cells #[.int .i64 a0, .int .i64 a1, .int .i64 a2, .int .i64 a3, .slice (some ⟨L, 0, none⟩) bv.length (bv.length + 1)] 24)) (rg.keep ((Below.refl _ _).alloc (Nat.le_refl _) _))
  simp only [progV] at hc
  go_wp2_with fail
  refine hc.mono ?_
  clear hc
  rintro e w2 ⟨rfl, hb2⟩
  have VL := WL.keep hb2
  have hb2' : Below (w1.heap.size + 1) (w1.alloc (.cells #[.int .i64 a0, .int .i64 a1, .int .i64 a2, .int .i64 a3, .slice (some ⟨L, 0, none⟩) bv.length (bv.length + 1)] 24)) w2 := by simpa using hb2
  have hb12 := Below.under hb2'
  have hz2 := hb2'.size
  simp at hz2
  have VU2 := VU.keep hb12
  have y0 := VU2.cell (i := 0) rfl
  have y1 := VU2.cell (i := 1) rfl
  have y2 := VU2.cell (i := 2) rfl
  have y3 := VU2.cell (i := 3) rfl
  have y4 := VU2.cell (i := 4) rfl
  have z0 := VL.cell (i := 0) rfl
  have z1 := VL.cell (i := 1) rfl
  have z2 := VL.cell (i := 2) rfl
  have z3 := VL.cell (i := 3) rfl
  have z4 := VL.cell (i := 4) rfl
  have hb02 := hb01.trans (hb12.mono (by omega))
  have hu2 := hr.keep hb02
  have hu2' : RdBlocks w2 (.slice uo l.length uc) (bdat bv) := by rw [HD.out]; exact hu2
  have hw := wholeProg_any a0 a1 a2 a3 bv L D _ _ w2 (hlies.keep hb12) (hL.keep hb12) (hD.keep hb12) hu2' (by rw [HV.out]; exact hn) n2
  clear hb2 hb2' x0 x1 x2 x3 x4
  cases hg : progGood ⟨a0, a1, a2, a3, l⟩
  · simp only [Bool.false_eq_true, if_false]
    go_wp2_with fail
    refine hw.mono ?_
    clear hw
    rintro e w3 ⟨rfl, hb3⟩
    have VU3 := VU2.keep hb3
    have t0 := VU3.cell (i := 0) rfl
    have t1 := VU3.cell (i := 1) rfl
    have t2 := VU3.cell (i := 2) rfl
    have t3 := VU3.cell (i := 3) rfl
    have t4 := VU3.cell (i := 4) rfl
    have hb03 := hb02.trans (hb3.mono (by omega))
    have hz3 := hb3.size
    clear y0 y1 y2 y3 y4 z0 z1 z2 z3 z4
    go_wp2_with fail
    refine (rGood_any a0 a1 a2 a3 _ l _ (hr.keep hb03)).mono ?_
    rintro e w4 ⟨rfl, hb4⟩
    have hb04 := hb03.trans (hb4.mono (by omega))
    clear hlies hL hD rg hu2 hu2' t0 t1 t2 t3 t4
    rw [hg]
    go_wp2
    go_ret
    exact ⟨by simp, hb04⟩
  · simp only [if_true]
    go_wp2_with fail
    refine hw.mono ?_
    clear hw
    rintro e w3 ⟨rfl, hb3⟩
    have VU3 := VU2.keep hb3
    have t0 := VU3.cell (i := 0) rfl
    have t1 := VU3.cell (i := 1) rfl
    have t2 := VU3.cell (i := 2) rfl
    have t3 := VU3.cell (i := 3) rfl
    have t4 := VU3.cell (i := 4) rfl
    have hb03 := hb02.trans (hb3.mono (by omega))
    have hz3 := hb3.size
    clear y0 y1 y2 y3 y4 z0 z1 z2 z3 z4
    go_wp2_with fail
    refine (rGood_any a0 a1 a2 a3 _ l _ (hr.keep hb03)).mono ?_
    rintro e w4 ⟨rfl, hb4⟩
    have VU4 := VU3.keep hb4
    have hb04 := hb03.trans (hb4.mono (by omega))
    have hz4 := hb4.size
    clear hlies hL hD rg hu2 hu2' t0 t1 t2 t3 t4
    have t0 := VU4.cell (i := 0) rfl
    have t1 := VU4.cell (i := 1) rfl
    have t2 := VU4.cell (i := 2) rfl
    have t3 := VU4.cell (i := 3) rfl
    have t4 := VU4.cell (i := 4) rfl
    rw [hg]
    go_wp2_with fail
    refine (rText_any ⟨a0, a1, a2, a3, l⟩ _ _ (hr.keep hb04) hg).mono ?_
    rintro e w5 ⟨rfl, hb5⟩
    have hb05 := hb04.trans (hb5.mono (by omega))
    have hs := toList_self (str (progText ⟨a0, a1, a2, a3, l⟩))
    clear t0 t1 t2 t3 t4
    go_wp2
    go_ret
    exact ⟨by simp, hb05⟩

end Go.Proofs.Ytdjdjkgoelbbdaa
