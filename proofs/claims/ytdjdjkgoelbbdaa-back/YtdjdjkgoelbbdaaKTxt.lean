/- text and hintText of twinkeep. -/
import Derived.Test.YtdjdjkgoelbbdaaKSamH
set_option linter.unusedSimpArgs false
set_option linter.unusedVariables false
namespace Go.Proofs.Ytdjdjkgoelbbdaa
open Go.RowKit

theorem progText_small {p : ProgD} (hg : progGood p = true) : (str (progText p)).size ≤ maxLen := by
  have := progTo_size hg p.blocks.length
  rw [progTo_end (Nat.le_refl _)] at this
  unfold maxLen
  omega

set_option maxRecDepth 100000 in
set_option maxHeartbeats 2000000 in
theorem kText_any (a0 a1 a2 a3 : Int) (v : Value) (l : List BlockD) (w : World) (hr : RdBlocks w v l) (hg : progGood ⟨a0, a1, a2, a3, l⟩ = true) :
    Calls Try.prog 15 #[.agg #[.int .i64 a0, .int .i64 a1, .int .i64 a2, .int .i64 a3, v]] w fun e w' => e = .returned (.tuple #[.string (str (progText ⟨a0, a1, a2, a3, l⟩)), .bool true]) ∧ Below w.heap.size w w' := by
  obtain ⟨uo, uc, e0, _, _⟩ := id hr
  subst e0
  have hsz := progText_small hg
  have hone : Hid (∀ b0 b1 b2 b3 l2, progGood ⟨b0, b1, b2, b3, l2⟩ = true → str (progText ⟨b0, b1, b2, b3, l2⟩) = str (progText ⟨a0, a1, a2, a3, l⟩) → b0 = a0 ∧ b1 = a1 ∧ b2 = a2 ∧ b3 = a3 ∧ l2 = l) := by
    intro b0 b1 b2 b3 l2 h1 h2
    have := prog_one h1 hg h2
    simpa using this
  have hself : Hid (¬ ∀ p, progGood p = true → str (progText p) ≠ str (progText ⟨a0, a1, a2, a3, l⟩)) := fun h => h _ hg rfl
  have hbU : Below w.heap.size w (w.alloc (.cells #[.int .i64 a0, .int .i64 a1, .int .i64 a2, .int .i64 a3, .slice uo l.length uc] 24)) := (Below.refl w.heap.size w).alloc (Nat.le_refl _) _
  have WU : Row (w.alloc (.cells #[.int .i64 a0, .int .i64 a1, .int .i64 a2, .int .i64 a3, .slice uo l.length uc] 24)) w.heap.size 24 [.int .i64 a0, .int .i64 a1, .int .i64 a2, .int .i64 a3, .slice uo l.length uc] := heap_alloc_new w _
  have hc := tEncode_any ⟨a0, a1, a2, a3, l⟩ _ _ (hr.keep hbU)
  rw [if_pos hg] at hc
  simp only [progV] at hc
  generalize str (progText ⟨a0, a1, a2, a3, l⟩) = T at *
  clear hg
  go_enter Try.func15, Try.ntmps15
  go_wp2_with fail
  refine hc.mono ?_
  clear hc
  rintro e w1 ⟨rfl, hb1⟩
  have VU := WU.keep hb1
  have hb1' : Below (w.heap.size + 1) (w.alloc (.cells #[.int .i64 a0, .int .i64 a1, .int .i64 a2, .int .i64 a3, .slice uo l.length uc] 24)) w1 := by simpa using hb1
  have hb01 := Below.under hb1'
  have hz1 := hb1'.size
  simp at hz1
  clear hb1 hb1' WU hbU
  go_wp2_with fail
  refine tDecode_cps T _ hsz _ ?_ ?_
  · intro b0 b1 b2 b3 l2 v2 bv w2 own hd hg2 ht hb2
    obtain ⟨rfl, rfl, rfl, rfl, rfl⟩ := hone.out b0 b1 b2 b3 l2 hg2 ht
    obtain ⟨ao, cp, rfl⟩ := owns_slice own.row
    have VU2 := VU.keep hb2
    have hb02 := hb01.trans (hb2.mono (by omega))
    have hz2 := hb2.size
    have hbA : Below w2.heap.size w2 (w2.alloc (.cells #[.int .i64 b0, .int .i64 b1, .int .i64 b2, .int .i64 b3, .slice ao bv.length cp] 24)) := (Below.refl _ _).alloc (Nat.le_refl _) _
    have rd1 := (hr.keep hb02).keep hbA
    have rd2 := own.rd.keep hbA
    rw [hd] at rd2
    have hzl : w.heap.size < w2.heap.size := by omega
    have x0 := VU2.cell (i := 0) rfl
    have x1 := VU2.cell (i := 1) rfl
    have x2 := VU2.cell (i := 2) rfl
    have x3 := VU2.cell (i := 3) rfl
    have x4 := VU2.cell (i := 4) rfl
    clear hone hself hg2 ht own
    go_wp2_with fail
    refine (kSameProg_any b0 b1 b2 b3 _ _ _ _ rd1 rd2).mono ?_
    rintro e w3 ⟨rfl, hb3⟩
    have hb03 : Below w.heap.size w w3 := (hb02.trans (hbA.mono (by omega))).trans (hb3.mono (by simp; omega))
    clear x0 x1 x2 x3 x4
    go_wp2
    go_ret2
    exact ⟨by simp, hb03⟩
  · intro w2 hn _
    exact absurd hn hself.out

theorem hintText_small {h : List PingD} (hg : goodHint h = true) : (str (hintText h)).size ≤ maxLen := by
  have := hintTo_size hg h.length
  rw [hintTo_end (Nat.le_refl _)] at this
  unfold maxLen
  omega

set_option maxRecDepth 100000 in
set_option maxHeartbeats 2000000 in
theorem kHintText_any (v : Value) (h : List PingD) (w : World) (hr : RdHint w v h) (hg : goodHint h = true) :
    Calls Try.prog 17 #[.agg #[v]] w fun e w' => e = .returned (.tuple #[.string (str (hintText h)), .bool true]) ∧ Below w.heap.size w w' := by
  obtain ⟨uo, uc, e0, _, _⟩ := id hr
  subst e0
  have hsz := hintText_small hg
  have hone : Hid (∀ g, goodHint g = true → str (hintText g) = str (hintText h) → g = h) := fun g h1 h2 => hint_one h1 hg h2
  have hself : Hid (¬ ∀ g, goodHint g = true → str (hintText g) ≠ str (hintText h)) := fun k => k _ hg rfl
  have hbU : Below w.heap.size w (w.alloc (.cells #[.slice uo h.length uc] 31)) := (Below.refl w.heap.size w).alloc (Nat.le_refl _) _
  have WU : Row (w.alloc (.cells #[.slice uo h.length uc] 31)) w.heap.size 31 [.slice uo h.length uc] := heap_alloc_new w _
  have hc := tEncodeHint_any _ h _ (hr.keep hbU)
  rw [if_pos hg] at hc
  generalize str (hintText h) = T at *
  clear hg
  go_enter Try.func17, Try.ntmps17
  go_wp2_with fail
  refine hc.mono ?_
  clear hc
  rintro e w1 ⟨rfl, hb1⟩
  have VU := WU.keep hb1
  have hb1' : Below (w.heap.size + 1) (w.alloc (.cells #[.slice uo h.length uc] 31)) w1 := by simpa using hb1
  have hb01 := Below.under hb1'
  have hz1 := hb1'.size
  simp at hz1
  clear hb1 hb1' WU hbU
  go_wp2_with fail
  refine (tDecodeHint_any T _ hsz).mono ?_
  rintro e w2 ⟨hor, hb2⟩
  rcases hor with ⟨v2, hv, rfl, own, hg2, ht⟩ | ⟨hn, rfl⟩
  case inr => exact absurd hn hself.out
  have hd := hone.out _ hg2 ht
  obtain ⟨ao, cp, rfl⟩ := owns_slice own.row
  have VU2 := VU.keep hb2
  have hb02 := hb01.trans (hb2.mono (by omega))
  have hz2 := hb2.size
  have hbA : Below w2.heap.size w2 (w2.alloc (.cells #[.slice ao hv.length cp] 31)) := (Below.refl _ _).alloc (Nat.le_refl _) _
  have rd1 := (hr.keep hb02).keep hbA
  have rd2 := own.rd.keep hbA
  rw [hd] at rd2
  have hzl : w.heap.size < w2.heap.size := by omega
  have x0 := VU2.cell (i := 0) rfl
  clear hone hself hg2 ht own
  go_wp2_with fail
  refine (kSameHint_any _ _ _ _ rd1 rd2).mono ?_
  rintro e w3 ⟨rfl, hb3⟩
  have hb03 : Below w.heap.size w w3 := (hb02.trans (hbA.mono (by omega))).trans (hb3.mono (by simp; omega))
  clear x0
  go_wp2
  go_ret2
  exact ⟨by simp, hb03⟩

end Go.Proofs.Ytdjdjkgoelbbdaa
