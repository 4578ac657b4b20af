/- The law on hints. -/
import Derived.Test.YtdjdjkgoelbbdaaLawL
import Derived.Test.YtdjdjkgoelbbdaaLawI
import Derived.Test.YtdjdjkgoelbbdaaLawJ
set_option linter.unusedSimpArgs false
set_option linter.unusedVariables false
namespace Go.Proofs.Ytdjdjkgoelbbdaa
open Go.RowKit

theorem toList_self (a : ByteArray) : (a.toList == a.toList) = true := by simp

set_option maxRecDepth 100000 in
set_option maxHeartbeats 2000000 in
theorem hinted_any (u : Value) (h : List PingD) (w : World) (hr : RdHint w u h) (hn : h.length ≤ 4398046511104) (hn2 : ∀ k, k < h.length → (hpairs h k).length ≤ 8796093022208) :
    Calls Try.prog 12 #[.agg #[u]] w fun e w' => e = .returned (.bool true) ∧ Below w.heap.size w w' := by
  obtain ⟨uo, uc, e0, _, _⟩ := id hr
  subst e0
  have hr1 := hr.keep ((Below.refl w.heap.size w).alloc (Nat.le_refl _) (.cells #[.slice uo h.length uc] 31))
  go_enter Try.func12, Try.ntmps12
  go_wp2_with fail
  refine roomyHint_cps _ h _ hr1 hn hn2 _ ?_
  intro w1 hv L D hdt hlies hL hD hb1
  have hb1' : Below (w.heap.size + 1) (w.alloc (.cells #[.slice uo h.length uc] 31)) w1 := by simpa using hb1
  have hz1 := hb1'.size
  simp at hz1
  have hb01 := Below.under hb1'
  have x0 : w1.cell? ⟨w.heap.size, 0, none⟩ = some (.slice uo h.length uc) := (hb1'.cell (by simp)).trans (by simp)
  have hvl : hv.length = h.length := by rw [← hdt, hdat_length]
  have n2 : ∀ x ∈ hv, x.1.pairs.length ≤ 8796093022208 := by
    intro x hx
    obtain ⟨k, hk, rfl⟩ := List.getElem_of_mem hx
    have := hn2 k (by omega)
    rw [← hdt, (hdat_get hv hk).2] at this
    exact this
  have hLlt := hL.lt
  have HV : Hid (hv.length = h.length) := hvl
  have rg := rows_rd (cap := hv.length + 1) hlies hL (by omega) (fun x hx => by have := n2 x hx; omega)
  rw [hdt] at rg
  have HD : Hid (hdat hv = h) := hdt
  clear hb1 hvl hdt
  have hzl : w.heap.size < w1.heap.size := by omega
  -- EncodeHint
  have hc := tEncodeHint_any _ h (w1.alloc (.cells #[.slice (some ⟨L, 0, none⟩) hv.length (hv.length + 1)] 31)) (rg.keep ((Below.refl _ _).alloc (Nat.le_refl _) _))
  go_wp2_with fail
  refine hc.mono ?_
  clear hc
  rintro e w2 ⟨rfl, hb2⟩
  have hb2' : Below (w1.heap.size + 1) (w1.alloc (.cells #[.slice (some ⟨L, 0, none⟩) hv.length (hv.length + 1)] 31)) w2 := by simpa using hb2
  have hb12 := Below.under hb2'
  have hz2 := hb2'.size
  simp at hz2
  have y0 := cell_keep hb12 x0
  have y1 : w2.cell? ⟨w1.heap.size, 0, none⟩ = some (.slice (some ⟨L, 0, none⟩) hv.length (hv.length + 1)) := (hb2'.cell (by simp)).trans (by simp)
  have hb02 := hb01.trans (hb12.mono (by omega))
  have hu2 := hr.keep hb02
  have hu2' : RdHint w2 (.slice uo h.length uc) (hdat hv) := by rw [HD.out]; exact hu2
  have hw := wholeHint_any hv L D _ w2 (hlies.keep hb12) (hL.keep hb12) (hD.keep hb12) hu2' (by rw [HV.out]; exact hn) n2
  clear hb2 hb2'
  cases hg : goodHint h
  · simp only [Bool.false_eq_true, if_false]
    go_wp2_with fail
    refine hw.mono ?_
    clear hw
    rintro e w3 ⟨rfl, hb3⟩
    have z0 := cell_keep hb3 y0
    have hb03 := hb02.trans (hb3.mono (by omega))
    have hz3 := hb3.size
    go_wp2_with fail
    refine (rGoodHint_any _ h _ (hr.keep hb03)).mono ?_
    rintro e w4 ⟨rfl, hb4⟩
    have hb04 := hb03.trans (hb4.mono (by omega))
    clear hlies hL hD rg hu2 hu2'
    go_wp2
    go_ret
    exact ⟨by simp, hb04⟩
  · simp only [if_true]
    go_wp2_with fail
    refine hw.mono ?_
    clear hw
    rintro e w3 ⟨rfl, hb3⟩
    have z0 := cell_keep hb3 y0
    have hb03 := hb02.trans (hb3.mono (by omega))
    have hz3 := hb3.size
    go_wp2_with fail
    refine (rGoodHint_any _ h _ (hr.keep hb03)).mono ?_
    rintro e w4 ⟨rfl, hb4⟩
    have hb04 := hb03.trans (hb4.mono (by omega))
    have t0 := cell_keep hb4 z0
    have hz4 := hb4.size
    clear hlies hL hD rg hu2 hu2'
    go_wp2_with fail
    refine (rHintText_any _ h _ (hr.keep hb04) hg).mono ?_
    rintro e w5 ⟨rfl, hb5⟩
    have hb05 := hb04.trans (hb5.mono (by omega))
    have hs := toList_self (str (hintText h))
    go_wp2
    go_ret
    exact ⟨by simp, hb05⟩

end Go.Proofs.Ytdjdjkgoelbbdaa
