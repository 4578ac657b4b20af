/- A program that came in, read. -/
import Derived.Test.YtcafejfljjnobaaPLawN
import Derived.Test.YtcafejfljjnobaaOpenH
set_option linter.unusedSimpArgs false
set_option linter.unusedVariables false
namespace Go.Proofs.Ytcafejfljjnobaa
open Go.RowKit Go.ChangeShapes Go.WideShapes Go.ChangeAt Go.Deep

theorem Try.cellsOp : Try.prog.cellsOf 63 = 4 := by kernel_rfl
theorem Try.cellsEnd : Try.prog.cellsOf 59 = 4 := by kernel_rfl
theorem Try.cellsBlk : Try.prog.cellsOf 61 = 5 := by kernel_rfl
theorem Try.cellsProg : Try.prog.cellsOf 24 = 5 := by kernel_rfl
theorem Try.cellsOps : Try.prog.cellsOf 57 = 1 := by kernel_rfl
theorem Try.cellsBlks : Try.prog.cellsOf 22 = 1 := by kernel_rfl
theorem Try.bytesOp : Try.prog.bytesOf 63 = 32 := by kernel_rfl
theorem Try.bytesBlk : Try.prog.bytesOf 61 = 56 := by kernel_rfl

section
variable {H : Type} {enc : TypeId × Value → H} {w : World} {spare : Nat → Bool} {held : Bool}

theorem open_op {fuel : Nat} {cs : List Value} {x : DataW H × List MemPlace} (h : DataW.trod enc Try.prog w 0 spare held fuel 63 cs = some x) : ∃ o : OpD, cs = [.int .i64 o.kind, .int .i64 o.a, .int .i64 o.b, .int .i64 o.c] := by
  obtain ⟨y0, y1, y2, y3, n, _, hl, h0, h1, h2, h3⟩ := Go.Joins.trod_struct4 Try.underlying63 h
  rw [Try.cellsOp] at hl
  simp only [Try.cellsInt] at h0 h1 h2 h3
  match cs, hl with
  | [c0, c1, c2, c3], _ =>
    obtain ⟨a, e0, _, _⟩ := DataW.trod_int Try.underlying3 h0
    obtain ⟨b, e1, _, _⟩ := DataW.trod_int Try.underlying3 h1
    obtain ⟨c, e2, _, _⟩ := DataW.trod_int Try.underlying3 h2
    obtain ⟨d, e3, _, _⟩ := DataW.trod_int Try.underlying3 h3
    simp at e0 e1 e2 e3
    exact ⟨⟨a, b, c, d⟩, by rw [e0, e1, e2, e3]⟩

theorem open_end {fuel : Nat} {cs : List Value} {x : DataW H × List MemPlace} (h : DataW.trod enc Try.prog w 0 spare held fuel 59 cs = some x) : ∃ o : EndD, cs = [.int .i64 o.kind, .int .i64 o.r, .int .i64 o.x, .int .i64 o.y] := by
  obtain ⟨y0, y1, y2, y3, n, _, hl, h0, h1, h2, h3⟩ := Go.Joins.trod_struct4 Try.underlying59 h
  rw [Try.cellsEnd] at hl
  simp only [Try.cellsInt] at h0 h1 h2 h3
  match cs, hl with
  | [c0, c1, c2, c3], _ =>
    obtain ⟨a, e0, _, _⟩ := DataW.trod_int Try.underlying3 h0
    obtain ⟨b, e1, _, _⟩ := DataW.trod_int Try.underlying3 h1
    obtain ⟨c, e2, _, _⟩ := DataW.trod_int Try.underlying3 h2
    obtain ⟨d, e3, _, _⟩ := DataW.trod_int Try.underlying3 h3
    simp at e0 e1 e2 e3
    exact ⟨⟨a, b, c, d⟩, by rw [e0, e1, e2, e3]⟩

theorem open_ops {fuel : Nat} {v : Value} {x : DataW H × List MemPlace} (h : DataW.trod enc Try.prog w 0 spare held fuel 57 [v] = some x) (hs : ∀ n ∈ x.1.weights Try.prog 57, n ≤ reachBytes) :
    ∃ ps, RdOps w v ps ∧ ps.length ≤ 4398046511104 := by
  rcases open_slice Try.underlying57 h with ⟨e, _⟩ | ⟨a, len, cap, m, n, D, Pl, e, _, hlc, hcm, hm, hx, hel⟩
  · simp at e
    subst e
    exact ⟨[], ⟨none, 0, rfl, by simp, fun i hi => by simp at hi⟩, by simp⟩
  · simp at e
    subst e
    have hlm : len ≤ m := by rw [hm]; split <;> omega
    have key : ∀ i, i < len → ∃ p : OpD, w.cell? (a.add (i * 4)) = some (.int .i64 p.kind) ∧ w.cell? (a.add (i * 4 + 1)) = some (.int .i64 p.a) ∧ w.cell? (a.add (i * 4 + 2)) = some (.int .i64 p.b) ∧ w.cell? (a.add (i * 4 + 3)) = some (.int .i64 p.c) := by
      intro i hi
      obtain ⟨cs', hc, ht⟩ := hel i (by omega)
      rw [Try.cellsOp] at hc
      obtain ⟨o, rfl⟩ := open_op ht
      have := (cells_get hc).2
      refine ⟨o, ?_, ?_, ?_, ?_⟩
      · have := this 0 (by simp); simpa [add_add] using this
      · have := this 1 (by simp); simpa [add_add] using this
      · have := this 2 (by simp); simpa [add_add] using this
      · have := this 3 (by simp); simpa [add_add] using this
    obtain ⟨f, hf⟩ := @choose_lt OpD ⟨oz⟩ len _ key
    have hw : len * 32 ≤ reachBytes := by
      have := hs ((len + (m - len)) * 32) (by rw [hx]; simp [DataW.weights, Try.underlying57, Try.bytesOp])
      omega
    have hlen : len ≤ 4398046511104 := by unfold reachBytes at hw; omega
    refine ⟨(List.range len).map f, ⟨some a, cap, by simp, by simp; omega, fun i hi => ?_⟩, by simpa using hlen⟩
    have hi' : i < len := by simpa using hi
    obtain ⟨c1, c2, c3, c4⟩ := hf i hi'
    have ha := addr_lit (by simpa using (hf 0 (by omega)).1)
    rw [ha, Addr.add_lit] at c1 c2 c3 c4
    refine ⟨a.block, a.off, by rw [← ha], ?_, ?_, ?_, ?_⟩
    · rw [c1]; simp [okind, hi']
    · rw [Nat.add_assoc, c2]; simp [oa, hi']
    · rw [Nat.add_assoc, c3]; simp [ob, hi']
    · rw [Nat.add_assoc, c4]; simp [oc, hi']

theorem open_blk {fuel : Nat} {cs : List Value} {x : DataW H × List MemPlace} (h : DataW.trod enc Try.prog w 0 spare held fuel 61 cs = some x) (hs : ∀ n ∈ x.1.weights Try.prog 61, n ≤ reachBytes) :
    ∃ (o : EndD) (sv : Value) (ps : List OpD), cs = [sv, .int .i64 o.kind, .int .i64 o.r, .int .i64 o.x, .int .i64 o.y] ∧ RdOps w sv ps ∧ ps.length ≤ 4398046511104 := by
  obtain ⟨y0, y1, n, hx, hl, h0, h1⟩ := trod_struct2 Try.underlying61 h
  rw [Try.cellsBlk] at hl
  simp only [Try.cellsEnd, Try.cellsOps] at h0 h1
  match cs, hl with
  | [c0, c1, c2, c3, c4], _ =>
    obtain ⟨o, e⟩ := open_end h1
    simp at e
    obtain ⟨ps, hp, hn⟩ := open_ops (v := c0) (x := y0) (by simpa using h0) (fun n hn => hs n (by rw [hx]; simp [DataW.weights, DataW.weightsEach, Try.underlying61]; exact .inl hn))
    exact ⟨o, c0, ps, by rw [e.1, e.2.1, e.2.2.1, e.2.2.2], hp, hn⟩

theorem open_blks {fuel : Nat} {v : Value} {x : DataW H × List MemPlace} (h : DataW.trod enc Try.prog w 0 spare held fuel 22 [v] = some x) (hs : ∀ n ∈ x.1.weights Try.prog 22, n ≤ reachBytes) :
    ∃ g, RdBlocks w v g ∧ g.length ≤ 2513169434916 ∧ ∀ k, k < g.length → (bops g k).length ≤ 4398046511104 := by
  rcases open_slice Try.underlying22 h with ⟨e, _⟩ | ⟨a, len, cap, m, n, D, Pl, e, _, hlc, hcm, hm, hx, hel⟩
  · simp at e
    subst e
    exact ⟨[], ⟨none, 0, rfl, by simp, fun i hi => by simp at hi⟩, by simp, fun i hi => by simp at hi⟩
  · simp at e
    subst e
    have hlm : len ≤ m := by rw [hm]; split <;> omega
    have key : ∀ i, i < len → ∃ p : BlockD, (∃ sv, w.cell? (a.add (i * 5)) = some sv ∧ RdOps w sv p.ops) ∧ w.cell? (a.add (i * 5 + 1)) = some (.int .i64 p.fin.kind) ∧ w.cell? (a.add (i * 5 + 2)) = some (.int .i64 p.fin.r) ∧ w.cell? (a.add (i * 5 + 3)) = some (.int .i64 p.fin.x) ∧ w.cell? (a.add (i * 5 + 4)) = some (.int .i64 p.fin.y) ∧ p.ops.length ≤ 4398046511104 := by
      intro i hi
      obtain ⟨cs', hc, ht⟩ := hel i (by omega)
      rw [Try.cellsBlk] at hc
      obtain ⟨o, sv, ps, rfl, hp, hn⟩ := open_blk ht (fun n hn => hs n (by
        rw [hx]
        simp only [DataW.weights, Try.underlying22]
        refine List.mem_cons.2 (.inr (List.mem_append.2 (.inl ?_)))
        exact weightsAll_mem (List.mem_map.2 ⟨i, by simpa using hi, rfl⟩) hn))
      have := (cells_get hc).2
      refine ⟨⟨ps, o⟩, ⟨sv, ?_, hp⟩, ?_, ?_, ?_, ?_, hn⟩
      · have := this 0 (by simp); simpa [add_add] using this
      · have := this 1 (by simp); simpa [add_add] using this
      · have := this 2 (by simp); simpa [add_add] using this
      · have := this 3 (by simp); simpa [add_add] using this
      · have := this 4 (by simp); simpa [add_add] using this
    obtain ⟨f, hf⟩ := @choose_lt BlockD ⟨bz⟩ len _ key
    have hw : len * 56 ≤ reachBytes := by
      have := hs ((len + (m - len)) * 56) (by rw [hx]; simp [DataW.weights, Try.underlying22, Try.bytesBlk])
      omega
    have hlen : len ≤ 2513169434916 := by unfold reachBytes at hw; omega
    refine ⟨(List.range len).map f, ⟨some a, cap, by simp, by simp; omega, fun i hi => ?_⟩, by simpa using hlen, fun k hk => ?_⟩
    · have hi' : i < len := by simpa using hi
      obtain ⟨⟨sv, c0, c6⟩, c1, c2, c3, c4, _⟩ := hf i hi'
      obtain ⟨⟨sv0, k0, _⟩, _⟩ := hf 0 (by omega)
      have ha := addr_lit (by simpa using k0)
      rw [ha, Addr.add_lit] at c0 c1 c2 c3 c4
      have eb : bops ((List.range len).map f) i = (f i).ops := by simp [bops, hi']
      have ef : bfin ((List.range len).map f) i = (f i).fin := by simp [bfin, hi']
      refine ⟨a.block, a.off, sv, by rw [← ha], c0, ?_, ?_, ?_, ?_, ?_⟩
      · rw [Nat.add_assoc, c1]; unfold bek; rw [ef]
      · rw [Nat.add_assoc, c2]; unfold ber; rw [ef]
      · rw [Nat.add_assoc, c3]; unfold bex; rw [ef]
      · rw [Nat.add_assoc, c4]; unfold bey; rw [ef]
      · rw [eb]; exact c6
    · have hk' : k < len := by simpa using hk
      have : bops ((List.range len).map f) k = (f k).ops := by simp [bops, hk']
      rw [this]; exact (hf k hk').2.2.2.2.2

theorem five_cells (cs : Array Value) (h : cs.size = 5) : ∃ c0 c1 c2 c3 c4, cs = #[c0, c1, c2, c3, c4] := by
  rcases cs with ⟨l⟩
  match l, h with
  | [c0, c1, c2, c3, c4], _ => exact ⟨c0, c1, c2, c3, c4, rfl⟩

theorem trod_struct5 {P : Program} {t : TypeId} {f0 f1 f2 f3 f4 : Field} {fuel : Nat} {cs : List Value} {x : DataW H × List MemPlace} (ht : P.underlying t = some (.struct #[f0, f1, f2, f3, f4])) (h : DataW.trod enc P w 0 spare held fuel t cs = some x) :
    ∃ y0 y1 y2 y3 y4 n q, x = (.agg [y0.1, y1.1, y2.1, y3.1, y4.1], q) ∧ cs.length = P.cellsOf t ∧ DataW.trod enc P w 0 spare held n f0.type ((cs.drop f0.offset).take (P.cellsOf f0.type)) = some y0 ∧
      DataW.trod enc P w 0 spare held n f1.type ((cs.drop f1.offset).take (P.cellsOf f1.type)) = some y1 ∧ DataW.trod enc P w 0 spare held n f2.type ((cs.drop f2.offset).take (P.cellsOf f2.type)) = some y2 ∧
      DataW.trod enc P w 0 spare held n f3.type ((cs.drop f3.offset).take (P.cellsOf f3.type)) = some y3 ∧ DataW.trod enc P w 0 spare held n f4.type ((cs.drop f4.offset).take (P.cellsOf f4.type)) = some y4 := by
  obtain ⟨xs, n, _, rfl, hl, hlen, hf⟩ := DataW.trod_struct ht h
  match xs, hlen with
  | [y0, y1, y2, y3, y4], _ => exact ⟨y0, y1, y2, y3, y4, n, _, by simp; rfl, hl, by simpa using hf 0 f0 rfl, by simpa using hf 1 f1 rfl, by simpa using hf 2 f2 rfl, by simpa using hf 3 f3 rfl, by simpa using hf 4 f4 rfl⟩

set_option maxRecDepth 100000 in
theorem open_prog_arg {v : Value} {d : DataW H} {p : List MemPlace} {r : Reach} {b0 : Nat} (hv : Value.okWide Try.prog w r b0 24 v) (h : DataW.Trod enc Try.prog w 0 spare held 24 v d p) (hs : ∀ n ∈ d.weights Try.prog 24, n ≤ reachBytes) :
    ∃ a0 a1 a2 a3 u g, v = .agg #[.int .i64 a0, .int .i64 a1, .int .i64 a2, .int .i64 a3, u] ∧ RdBlocks w u g ∧ g.length ≤ 2513169434916 ∧ ∀ k, k < g.length → (bops g k).length ≤ 4398046511104 := by
  obtain ⟨cs, rfl, hcs⟩ := okWide_struct Try.underlying24 hv
  rw [Try.cellsProg] at hcs
  obtain ⟨c0, c1, c2, c3, c4, rfl⟩ := five_cells cs hcs
  obtain ⟨fuel, hf⟩ := h
  obtain ⟨y0, y1, y2, y3, y4, n, q, hx, _, h0, h1, h2, h3, h4⟩ := trod_struct5 Try.underlying24 hf
  simp only [Try.cellsInt, Try.cellsBlks] at h0 h1 h2 h3 h4
  simp only [Prod.mk.injEq] at hx
  obtain ⟨a0, e0, _, _⟩ := DataW.trod_int Try.underlying3 h0
  obtain ⟨a1, e1, _, _⟩ := DataW.trod_int Try.underlying3 h1
  obtain ⟨a2, e2, _, _⟩ := DataW.trod_int Try.underlying3 h2
  obtain ⟨a3, e3, _, _⟩ := DataW.trod_int Try.underlying3 h3
  simp [Value.cells] at e0 e1 e2 e3
  obtain ⟨g, k1, k2, k3⟩ := open_blks (v := c4) (x := y4) (by simpa [Value.cells] using h4) (fun n hn => hs n (by
    rw [hx.1]
    simp only [DataW.weights, Try.underlying24, DataW.weightsEach, List.map_cons, List.map_nil, List.mem_append]
    exact .inr (.inr (.inr (.inr (.inl hn))))))
  exact ⟨a0, a1, a2, a3, c4, g, by rw [e0, e1, e2, e3], k1, k2, k3⟩

end

end Go.Proofs.Ytcafejfljjnobaa
