/- A run that the document fixes. -/
import Derived.Test.YtblhmeidbjigaaaRows
import Derived.WalkKit
import Derived.WalkSpells
import Derived.WalkLawsBesides
import Derived.Laws.BytesArg
import Derived.Deep.QuietTactic
import Derived.BigQuiet
import Derived.Deep.RegionHeld3
import Derived.Maps.AppendAt
import Derived.StillTailTactics
import Derived.ProofKit
import Derived.SizedLaws
import Derived.Deep.Slices
import Derived.Lib.SmallJoins
import Derived.Test.YtblhmeidbjigaaaMBegToFPureFurther

set_option linter.unusedSimpArgs false
set_option linter.unusedVariables false
namespace Go.Proofs.Ytblhmeidbjigaaa
open Go.RowKit

def pWorks : ProgD := ⟨1, 2, 0, 0, [⟨[⟨3, 1, 0, 0⟩], ⟨3, 1, 0, 0⟩⟩]⟩
def sWorks : ByteArray := ⟨#[84, 87, 1, 2, 0, 0, 1, 1, 3, 1, 0, 0, 3, 1, 0, 0]⟩

theorem works_wrap : wrap64 42 = 42 := by unfold wrap64; omega

theorem works_run : runN pWorks.blocks (Int.toNat 1) 0 (begins pWorks [21] [] []) = ⟨1, 42, [], []⟩ := by
  simp [runN, pWorks, begins, regs0, doOps, stepOp, bops, bek, ber, bfin, rg, stI, calcW, RunD.reg, works_wrap]

theorem works_ans : RunAns sWorks [21] [] [] 1 ⟨1, 42, [], []⟩ 0 :=
  .inr ⟨pWorks, by decide, by rfl, .inr (.inr ⟨rfl, ⟨rfl, rfl, rfl⟩, by omega, works_run.symm⟩)⟩

set_option maxRecDepth 100000 in
set_option maxHeartbeats 1000000 in
theorem works_any (w : World) : Calls Try.prog 21 #[] w fun e w' => e = .returned (.bool true) ∧ Below w.heap.size w w' := by
  have hal := (Below.refl w.heap.size w).alloc (Nat.le_refl _) (.cells #[.int .i64 21] 3)
  have r0 : RdWords (w.alloc (.cells #[.int .i64 21] 3)) (.slice (some ⟨w.heap.size, 0, none⟩) 1 1) [21] := by
    refine ⟨_, _, rfl, by simp, fun i hi => ⟨w.heap.size, 0, rfl, ?_⟩⟩
    obtain rfl : i = 0 := by simp at hi; omega
    simp
  go_enter Try.func21, Try.ntmps21
  go_wp2_with fail
  refine tRun_cps sWorks _ _ _ [21] [] [] 1 _ r0 (rdWords_nil _) (rdWords_nil _) (by decide) _ ?_
  intro o e mv lv w1 ha ho
  obtain ⟨rfl, rfl⟩ := ha.one works_ans
  obtain ⟨mo, mc, rfl⟩ := owns_slice ho.mem
  obtain ⟨lo, lc, rfl⟩ := owns_slice ho.leak
  have hz := ho.below.size
  simp at hz
  have hb1 : Below w.heap.size w w1 := hal.trans (ho.below.mono (by simp))
  have hb2 := hb1.alloc (show w.heap.size ≤ w1.heap.size by omega) (.cells #[.int .i64 1, .int .i64 42, .slice mo 0 mc, .slice lo 0 lc] 54)
  clear ha ho hal r0 hb1
  go_wp2
  go_ret
  exact ⟨by simp, hb2⟩

end Go.Proofs.Ytblhmeidbjigaaa

/- A hint that came in, read. -/
set_option linter.unusedSimpArgs false
set_option linter.unusedVariables false
namespace Go.Proofs.Ytblhmeidbjigaaa
open Go.RowKit Go.ChangeShapes Go.WideShapes Go.ChangeAt Go.Deep

theorem Try.cellsInt : Try.prog.cellsOf 3 = 1 := by kernel_rfl
section
variable {H : Type} {enc : TypeId × Value → H} {w : World} {spare : Nat → Bool} {held : Bool}

theorem cells_get {base n : Nat} {a : Addr} {cs : List Value} (h : w.cells? base a n = some cs) : cs.length = n ∧ ∀ i (hi : i < cs.length), w.cell? (a.add i) = some cs[i] := by
  obtain ⟨_, hl, hc⟩ := World.cells?_some h
  refine ⟨hl, fun i hi => ?_⟩
  have := hc i (by omega)
  rw [List.getElem?_eq_getElem hi] at this
  exact this

/-- The address of a slice's first cell, where there is one. -/
theorem addr_lit {a : Addr} {v : Value} (h : w.cell? (a.add 0) = some v) : a = ⟨a.block, a.off, none⟩ := by
  have e : a.add 0 = a := by simp [Addr.add]
  rw [e] at h
  have hs := World.cell?_spot h
  cases a
  simp at hs
  rw [hs]

end

end Go.Proofs.Ytblhmeidbjigaaa

/- A list of words that came in, read. -/
set_option linter.unusedSimpArgs false
set_option linter.unusedVariables false
namespace Go.Proofs.Ytblhmeidbjigaaa
open Go.RowKit Go.ChangeShapes Go.WideShapes Go.ChangeAt Go.Deep

theorem Try.bytesInt : Try.prog.bytesOf 3 = 8 := by kernel_rfl

/-- Words: within 64 bits. -/
def Wide (l : List Int) : Prop := ∀ x ∈ l, -9223372036854775808 ≤ x ∧ x ≤ 9223372036854775807

section
variable {H : Type} {enc : TypeId × Value → H} {w : World} {spare : Nat → Bool} {held : Bool}

theorem open_words {fuel : Nat} {v : Value} {x : DataW H × List MemPlace} (h : DataW.trod enc Try.prog w 0 spare held fuel 36 [v] = some x) (hs : ∀ n ∈ x.1.weights Try.prog 36, n ≤ reachBytes) :
    ∃ l, RdWords w v l ∧ l.length ≤ 17592186044416 ∧ Wide l := by
  rcases open_slice Try.underlying36 h with ⟨e, _⟩ | ⟨a, len, cap, m, n, D, Pl, e, _, hlc, hcm, hm, hx, hel⟩
  · simp at e
    subst e
    exact ⟨[], rdWords_nil w, by simp, fun x hx => by cases hx⟩
  · simp at e
    subst e
    have hlm : len ≤ m := by rw [hm]; split <;> omega
    have key : ∀ i, i < len → ∃ p : Int, w.cell? (a.add i) = some (.int .i64 p) ∧ -9223372036854775808 ≤ p ∧ p ≤ 9223372036854775807 := by
      intro i hi
      obtain ⟨cs', hc, ht⟩ := hel i (by omega)
      rw [Try.cellsInt] at hc
      obtain ⟨x0, rfl, _, hwf⟩ := DataW.trod_int Try.underlying3 ht
      have := (cells_get hc).2
      refine ⟨x0, ?_, ?_⟩
      · have := this 0 (by simp); simpa [add_add] using this
      · simp only [Lit.wf, Bool.and_eq_true, decide_eq_true_eq] at hwf
        exact ⟨Int.le_trans (by decide) hwf.1, Int.le_trans hwf.2 (by decide)⟩
    obtain ⟨f, hf⟩ := @choose_lt Int ⟨0⟩ len _ key
    have hw : len * 8 ≤ reachBytes := by
      have := hs ((len + (m - len)) * 8) (by rw [hx]; simp [DataW.weights, Try.underlying36, Try.bytesInt])
      omega
    have hlen : len ≤ 17592186044416 := by unfold reachBytes at hw; omega
    refine ⟨(List.range len).map f, ⟨some a, cap, by simp, by simp; omega, fun i hi => ?_⟩, by simpa using hlen, ?_⟩
    · have hi' : i < len := by simpa using hi
      obtain ⟨c1, _⟩ := hf i hi'
      have ha := addr_lit (by simpa using (hf 0 (by omega)).1)
      rw [ha, Addr.add_lit] at c1
      refine ⟨a.block, a.off, by rw [← ha], ?_⟩
      rw [c1]; simp [List.getD, hi']
    · intro x hx
      obtain ⟨i, hi, rfl⟩ := List.mem_map.1 hx
      exact (hf i (by simpa using hi)).2

set_option maxRecDepth 100000 in
theorem open_words_arg {v : Value} {d : DataW H} {p : List MemPlace} {r : Reach} {b0 : Nat} (hv : Value.okWide Try.prog w r b0 36 v) (h : DataW.Trod enc Try.prog w 0 spare held 36 v d p) (hs : ∀ n ∈ d.weights Try.prog 36, n ≤ reachBytes) :
    ∃ l, RdWords w v l ∧ l.length ≤ 17592186044416 ∧ Wide l := by
  obtain ⟨a, len, cap, rfl⟩ := okWide_slice Try.underlying36 hv
  obtain ⟨fuel, hf⟩ := h
  exact open_words (x := (d, p)) (by simpa [Value.cells] using hf) hs

end

end Go.Proofs.Ytblhmeidbjigaaa
