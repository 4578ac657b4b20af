/- A hint that came in, read. -/
import Derived.Test.YtdjdjkgoelbbdaaLawNToPDat
import Derived.ProofKit
import Derived.SizedLaws
import Derived.Deep.Slices
import Derived.Lib.SmallJoins
import Derived.Test.YtdjdjkgoelbbdaaRLeaToMCop
set_option linter.unusedSimpArgs false
set_option linter.unusedVariables false
namespace Go.Proofs.Ytdjdjkgoelbbdaa
open Go.RowKit Go.ChangeShapes Go.WideShapes Go.ChangeAt Go.Deep

theorem Try.cellsInt : Try.prog.cellsOf 3 = 1 := by kernel_rfl
theorem Try.cellsPair : Try.prog.cellsOf 84 = 2 := by kernel_rfl
theorem Try.cellsPing : Try.prog.cellsOf 82 = 2 := by kernel_rfl
theorem Try.cellsHint : Try.prog.cellsOf 31 = 1 := by kernel_rfl
theorem Try.cellsPairs : Try.prog.cellsOf 80 = 1 := by kernel_rfl
theorem Try.cellsPings : Try.prog.cellsOf 29 = 1 := by kernel_rfl
theorem Try.bytesPair : Try.prog.bytesOf 84 = 16 := by kernel_rfl
theorem Try.bytesPing : Try.prog.bytesOf 82 = 32 := by kernel_rfl

section
variable {H : Type} {enc : TypeId × Value → H} {w : World} {spare : Nat → Bool} {held : Bool}

theorem cells_get {base n : Nat} {a : Addr} {cs : List Value} (h : w.cells? base a n = some cs) : cs.length = n ∧ ∀ i (hi : i < cs.length), w.cell? (a.add i) = some cs[i] := by
  obtain ⟨_, hl, hc⟩ := World.cells?_some h
  refine ⟨hl, fun i hi => ?_⟩
  have := hc i (by omega)
  rw [List.getElem?_eq_getElem hi] at this
  exact this

/-- The address of a slice's first cell, where there is one. -/
theorem addr_lit {a : Addr} {v : Value} (h : w.cell? (a.add 0) = some v) : a = ⟨a.block, a.off, none⟩ := by
  have e : a.add 0 = a := by simp [Addr.add]
  rw [e] at h
  have hs := World.cell?_spot h
  cases a
  simp at hs
  rw [hs]

theorem open_pair {fuel : Nat} {cs : List Value} {x : DataW H × List MemPlace} (h : DataW.trod enc Try.prog w 0 spare held fuel 84 cs = some x) : ∃ a b : Int, cs = [.int .i64 a, .int .i64 b] := by
  obtain ⟨y0, y1, n, _, hl, h0, h1⟩ := trod_struct2 Try.underlying84 h
  rw [Try.cellsPair] at hl
  simp only [Try.cellsInt] at h0 h1
  match cs, hl with
  | [c0, c1], _ =>
    obtain ⟨a, e0, _, _⟩ := DataW.trod_int Try.underlying3 h0
    obtain ⟨b, e1, _, _⟩ := DataW.trod_int Try.underlying3 h1
    simp at e0 e1
    exact ⟨a, b, by rw [e0, e1]⟩

theorem open_pairs {fuel : Nat} {v : Value} {x : DataW H × List MemPlace} (h : DataW.trod enc Try.prog w 0 spare held fuel 80 [v] = some x) (hs : ∀ n ∈ x.1.weights Try.prog 80, n ≤ reachBytes) :
    ∃ ps, RdPairs w v ps ∧ ps.length ≤ 8796093022208 := by
  rcases open_slice Try.underlying80 h with ⟨e, _⟩ | ⟨a, len, cap, m, n, D, Pl, e, _, hlc, hcm, hm, hx, hel⟩
  · simp at e
    subst e
    exact ⟨[], ⟨none, 0, rfl, by simp, fun i hi => by simp at hi⟩, by simp⟩
  · simp at e
    subst e
    have hlm : len ≤ m := by rw [hm]; split <;> omega
    have key : ∀ i, i < len → ∃ p : PairD, w.cell? (a.add (i * 2)) = some (.int .i64 p.reg) ∧ w.cell? (a.add (i * 2 + 1)) = some (.int .i64 p.place) := by
      intro i hi
      obtain ⟨cs', hc, ht⟩ := hel i (by omega)
      rw [Try.cellsPair] at hc
      obtain ⟨x0, x1, rfl⟩ := open_pair ht
      have := (cells_get hc).2
      refine ⟨⟨x0, x1⟩, ?_, ?_⟩
      · have := this 0 (by simp); simpa [add_add] using this
      · have := this 1 (by simp); simpa [add_add] using this
    obtain ⟨f, hf⟩ := @choose_lt PairD ⟨pz⟩ len (fun i p => w.cell? (a.add (i * 2)) = some (.int .i64 p.reg) ∧ w.cell? (a.add (i * 2 + 1)) = some (.int .i64 p.place)) key
    have hw : len * 16 ≤ reachBytes := by
      have := hs ((len + (m - len)) * 16) (by rw [hx]; simp [DataW.weights, Try.underlying80, Try.bytesPair])
      omega
    have hlen : len ≤ 8796093022208 := by unfold reachBytes at hw; omega
    refine ⟨(List.range len).map f, ⟨some a, cap, by simp, by simp; omega, fun i hi => ?_⟩, by simpa using hlen⟩
    have hi' : i < len := by simpa using hi
    obtain ⟨c1, c2⟩ := hf i hi'
    have ha := addr_lit (by simpa using (hf 0 (by omega)).1)
    rw [ha, Addr.add_lit] at c1 c2
    refine ⟨a.block, a.off, by rw [← ha], ?_, ?_⟩
    · rw [c1]; simp [preg, hi']
    · rw [Nat.add_assoc, c2]; simp [pplace, hi']

theorem open_ping {fuel : Nat} {cs : List Value} {x : DataW H × List MemPlace} (h : DataW.trod enc Try.prog w 0 spare held fuel 82 cs = some x) (hs : ∀ n ∈ x.1.weights Try.prog 82, n ≤ reachBytes) :
    ∃ (a : Int) (sv : Value) (ps : List PairD), cs = [.int .i64 a, sv] ∧ RdPairs w sv ps ∧ ps.length ≤ 8796093022208 := by
  obtain ⟨y0, y1, n, hx, hl, h0, h1⟩ := trod_struct2 Try.underlying82 h
  rw [Try.cellsPing] at hl
  simp only [Try.cellsInt, Try.cellsPairs] at h0 h1
  match cs, hl with
  | [c0, c1], _ =>
    obtain ⟨a, e0, _, _⟩ := DataW.trod_int Try.underlying3 h0
    simp at e0
    obtain ⟨ps, hp, hn⟩ := open_pairs (v := c1) (x := y1) (by simpa using h1) (fun n hn => hs n (by rw [hx]; simp [DataW.weights, DataW.weightsEach, Try.underlying82]; exact .inr hn))
    exact ⟨a, c1, ps, by rw [e0], hp, hn⟩

theorem weightsAll_mem {P : Program} {e : TypeId} {l : List (DataW H)} {d : DataW H} (hd : d ∈ l) {n : Nat} (hn : n ∈ d.weights P e) : n ∈ DataW.weightsAll P e l := by
  induction l with
  | nil => cases hd
  | cons x r ih =>
    rw [DataW.weightsAll, List.mem_append]
    rcases List.mem_cons.1 hd with rfl | hd
    · exact .inl hn
    · exact .inr (ih hd)

theorem open_hint {fuel : Nat} {v : Value} {x : DataW H × List MemPlace} (h : DataW.trod enc Try.prog w 0 spare held fuel 29 [v] = some x) (hs : ∀ n ∈ x.1.weights Try.prog 29, n ≤ reachBytes) :
    ∃ g, RdHint w v g ∧ g.length ≤ 4398046511104 ∧ ∀ k, k < g.length → (hpairs g k).length ≤ 8796093022208 := by
  rcases open_slice Try.underlying29 h with ⟨e, _⟩ | ⟨a, len, cap, m, n, D, Pl, e, _, hlc, hcm, hm, hx, hel⟩
  · simp at e
    subst e
    exact ⟨[], ⟨none, 0, rfl, by simp, fun i hi => by simp at hi⟩, by simp, fun i hi => by simp at hi⟩
  · simp at e
    subst e
    have hlm : len ≤ m := by rw [hm]; split <;> omega
    have key : ∀ i, i < len → ∃ p : PingD, w.cell? (a.add (i * 2)) = some (.int .i64 p.src) ∧ (∃ sv, w.cell? (a.add (i * 2 + 1)) = some sv ∧ RdPairs w sv p.pairs) ∧ p.pairs.length ≤ 8796093022208 := by
      intro i hi
      obtain ⟨cs', hc, ht⟩ := hel i (by omega)
      rw [Try.cellsPing] at hc
      obtain ⟨x0, sv, ps, rfl, hp, hn⟩ := open_ping ht (fun n hn => hs n (by
        rw [hx]
        simp only [DataW.weights, Try.underlying29]
        refine List.mem_cons.2 (.inr (List.mem_append.2 (.inl ?_)))
        exact weightsAll_mem (List.mem_map.2 ⟨i, by simpa using hi, rfl⟩) hn))
      have := (cells_get hc).2
      refine ⟨⟨x0, ps⟩, ?_, ⟨sv, ?_, hp⟩, hn⟩
      · have := this 0 (by simp); simpa [add_add] using this
      · have := this 1 (by simp); simpa [add_add] using this
    obtain ⟨f, hf⟩ := @choose_lt PingD ⟨hz⟩ len _ key
    have hw : len * 32 ≤ reachBytes := by
      have := hs ((len + (m - len)) * 32) (by rw [hx]; simp [DataW.weights, Try.underlying29, Try.bytesPing])
      omega
    have hlen : len ≤ 4398046511104 := by unfold reachBytes at hw; omega
    refine ⟨(List.range len).map f, ⟨some a, cap, by simp, by simp; omega, fun i hi => ?_⟩, by simpa using hlen, fun k hk => ?_⟩
    · have hi' : i < len := by simpa using hi
      obtain ⟨c1, ⟨sv, c2, c3⟩, _⟩ := hf i hi'
      have ha := addr_lit (by simpa using (hf 0 (by omega)).1)
      rw [ha, Addr.add_lit] at c1 c2
      refine ⟨a.block, a.off, sv, by rw [← ha], ?_, ?_, ?_⟩
      · rw [c1]; simp [hsrc, hi']
      · rw [Nat.add_assoc, c2]
      · have : hpairs ((List.range len).map f) i = (f i).pairs := by simp [hpairs, hi']
        rw [this]; exact c3
    · have hk' : k < len := by simpa using hk
      have : hpairs ((List.range len).map f) k = (f k).pairs := by simp [hpairs, hk']
      rw [this]; exact (hf k hk').2.2

theorem one_cell (cs : Array Value) (h : cs.size = 1) : ∃ c, cs = #[c] := by
  rcases cs with ⟨l⟩
  match l, h with
  | [c], _ => exact ⟨c, rfl⟩

set_option maxRecDepth 100000 in
theorem open_hint_arg {v : Value} {d : DataW H} {p : List MemPlace} {r : Reach} {b0 : Nat} (hv : Value.okWide Try.prog w r b0 31 v) (h : DataW.Trod enc Try.prog w 0 spare held 31 v d p) (hs : ∀ n ∈ d.weights Try.prog 31, n ≤ reachBytes) :
    ∃ u g, v = .agg #[u] ∧ RdHint w u g ∧ g.length ≤ 4398046511104 ∧ ∀ k, k < g.length → (hpairs g k).length ≤ 8796093022208 := by
  obtain ⟨cs, rfl, hcs⟩ := okWide_struct Try.underlying31 hv
  rw [Try.cellsHint] at hcs
  obtain ⟨c0, rfl⟩ := one_cell cs hcs
  obtain ⟨fuel, hf⟩ := h
  obtain ⟨y0, n, hx, _, ht⟩ := trod_struct1 Try.underlying31 hf
  simp only [Try.cellsPings] at ht
  simp only [Prod.mk.injEq] at hx
  obtain ⟨g, h1, h2, h3⟩ := open_hint (v := c0) (x := y0) (by simpa [Value.cells] using ht) (fun n hn => hs n (by
    rw [hx.1]
    simp only [DataW.weights, Try.underlying31, DataW.weightsEach, List.map_cons, List.map_nil, List.mem_append]
    exact .inl hn))
  exact ⟨c0, g, rfl, h1, h2, h3⟩

end

end Go.Proofs.Ytdjdjkgoelbbdaa

/- A list of words that came in, read. -/
set_option linter.unusedSimpArgs false
set_option linter.unusedVariables false
namespace Go.Proofs.Ytdjdjkgoelbbdaa
open Go.RowKit Go.ChangeShapes Go.WideShapes Go.ChangeAt Go.Deep

theorem Try.bytesInt : Try.prog.bytesOf 3 = 8 := by kernel_rfl

/-- Words: within 64 bits. -/
def Wide (l : List Int) : Prop := ∀ x ∈ l, -9223372036854775808 ≤ x ∧ x ≤ 9223372036854775807

section
variable {H : Type} {enc : TypeId × Value → H} {w : World} {spare : Nat → Bool} {held : Bool}

theorem open_words {fuel : Nat} {v : Value} {x : DataW H × List MemPlace} (h : DataW.trod enc Try.prog w 0 spare held fuel 36 [v] = some x) (hs : ∀ n ∈ x.1.weights Try.prog 36, n ≤ reachBytes) :
    ∃ l, RdWords w v l ∧ l.length ≤ 17592186044416 ∧ Wide l := by
  rcases open_slice Try.underlying36 h with ⟨e, _⟩ | ⟨a, len, cap, m, n, D, Pl, e, _, hlc, hcm, hm, hx, hel⟩
  · simp at e
    subst e
    exact ⟨[], rdWords_nil w, by simp, fun x hx => by cases hx⟩
  · simp at e
    subst e
    have hlm : len ≤ m := by rw [hm]; split <;> omega
    have key : ∀ i, i < len → ∃ p : Int, w.cell? (a.add i) = some (.int .i64 p) ∧ -9223372036854775808 ≤ p ∧ p ≤ 9223372036854775807 := by
      intro i hi
      obtain ⟨cs', hc, ht⟩ := hel i (by omega)
      rw [Try.cellsInt] at hc
      obtain ⟨x0, rfl, _, hwf⟩ := DataW.trod_int Try.underlying3 ht
      have := (cells_get hc).2
      refine ⟨x0, ?_, ?_⟩
      · have := this 0 (by simp); simpa [add_add] using this
      · simp only [Lit.wf, Bool.and_eq_true, decide_eq_true_eq] at hwf
        exact ⟨Int.le_trans (by decide) hwf.1, Int.le_trans hwf.2 (by decide)⟩
    obtain ⟨f, hf⟩ := @choose_lt Int ⟨0⟩ len _ key
    have hw : len * 8 ≤ reachBytes := by
      have := hs ((len + (m - len)) * 8) (by rw [hx]; simp [DataW.weights, Try.underlying36, Try.bytesInt])
      omega
    have hlen : len ≤ 17592186044416 := by unfold reachBytes at hw; omega
    refine ⟨(List.range len).map f, ⟨some a, cap, by simp, by simp; omega, fun i hi => ?_⟩, by simpa using hlen, ?_⟩
    · have hi' : i < len := by simpa using hi
      obtain ⟨c1, _⟩ := hf i hi'
      have ha := addr_lit (by simpa using (hf 0 (by omega)).1)
      rw [ha, Addr.add_lit] at c1
      refine ⟨a.block, a.off, by rw [← ha], ?_⟩
      rw [c1]; simp [List.getD, hi']
    · intro x hx
      obtain ⟨i, hi, rfl⟩ := List.mem_map.1 hx
      exact (hf i (by simpa using hi)).2

set_option maxRecDepth 100000 in
theorem open_words_arg {v : Value} {d : DataW H} {p : List MemPlace} {r : Reach} {b0 : Nat} (hv : Value.okWide Try.prog w r b0 36 v) (h : DataW.Trod enc Try.prog w 0 spare held 36 v d p) (hs : ∀ n ∈ d.weights Try.prog 36, n ≤ reachBytes) :
    ∃ l, RdWords w v l ∧ l.length ≤ 17592186044416 ∧ Wide l := by
  obtain ⟨a, len, cap, rfl⟩ := okWide_slice Try.underlying36 hv
  obtain ⟨fuel, hf⟩ := h
  exact open_words (x := (d, p)) (by simpa [Value.cells] using hf) hs

end

end Go.Proofs.Ytdjdjkgoelbbdaa
