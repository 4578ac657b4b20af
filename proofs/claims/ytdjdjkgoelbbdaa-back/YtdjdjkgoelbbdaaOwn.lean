/- Hints that lie in memory of their own, each list for itself. -/
import Derived.Test.YtdjdjkgoelbbdaaCodJ
set_option linter.unusedSimpArgs false
set_option linter.unusedVariables false
namespace Go.Proofs.Ytdjdjkgoelbbdaa
open Go.RowKit

section
variable {w w' : World} {base base' : Nat} {e : TypeId} {size : Nat} {v : Value} {n : Nat} {xs : List Value}

/-- What lies in a block that has not turned. -/
theorem owns_same (h : w.ownsRow base e size v n xs) (hb : ∀ g, v.ownBlock = some g → w'.heap[g]? = w.heap[g]?) : w'.ownsRow base e size v n xs := by
  refine ⟨h.1, ?_⟩
  rcases h.2 with h2 | ⟨g, cap, cur, rfl, hg, hh, r⟩
  · exact .inl h2
  · exact .inr ⟨g, cap, cur, rfl, hg, (hb g rfl).trans hh, r⟩

theorem owns_below {B : Nat} (h : w.ownsRow base e size v n xs) (hb : Below B w w') (hB : w.heap.size ≤ B) : w'.ownsRow base e size v n xs :=
  owns_same h fun g hg => hb.block g (Nat.lt_of_lt_of_le (h.lt g hg).2 hB)

/-- Rows of different types lie in different blocks. -/
theorem owns_apart {e' : TypeId} {size' : Nat} {v' : Value} {n' : Nat} {xs' : List Value} (h : w.ownsRow base e size v n xs) (h' : w.ownsRow base' e' size' v' n' xs') (he : e ≠ e') : ∀ g, v.ownBlock = some g → v'.ownBlock ≠ some g := by
  intro g hg hg'
  rcases h.2 with ⟨rfl, _⟩ | ⟨k, cap, cur, rfl, _, hh, _⟩
  · simp [Value.ownBlock] at hg
  rcases h'.2 with ⟨rfl, _⟩ | ⟨k', cap', cur', rfl, _, hh', _⟩
  · simp [Value.ownBlock] at hg'
  simp [Value.ownBlock] at hg hg'
  subst hg; subst hg'
  rw [hh] at hh'
  simp at hh'
  exact he hh'.2

theorem owns_cell (h : w.ownsRow base e size v n xs) {ao : Option Addr} {cap : Nat} (hv : v = .slice ao n cap) {i : Nat} (hi : i < xs.length) :
    ∃ b, ao = some ⟨b, 0, none⟩ ∧ base ≤ b ∧ v.ownBlock = some b ∧ w.cell? ⟨b, i, none⟩ = some xs[i] := by
  rcases h.2 with ⟨h1, h0⟩ | ⟨g, cap', cur, h1, hg, hh, r⟩
  · have := h.1
    simp [h0] at this
    simp [this] at hi
  · subst hv
    simp at h1
    obtain ⟨rfl, rfl⟩ := h1
    refine ⟨g, rfl, hg, rfl, ?_⟩
    have := h.cells (g := g) rfl i xs[i] (by simp)
    rwa [Addr.add_lit, Nat.zero_add] at this

theorem owns_le (h : w.ownsRow base e size v n xs) : n ≤ 9223372036854775807 := by
  rcases h.2 with ⟨h1, h0⟩ | ⟨g, cap', cur, h1, hg, hh, h2, h3, r⟩
  · omega
  · unfold maxLen at h3; omega
end

theorem pairCells_length (ps : List PairD) : (pairCells ps).length = ps.length * 2 := by
  induction ps with
  | nil => rfl
  | cons p r ih => simp only [pairCells, List.flatMap_cons, List.length_append, List.length_cons, List.length_nil] at *; omega

theorem pairCells_get (ps : List PairD) (i : Nat) (hi : i < ps.length) : (pairCells ps)[i * 2]? = some (.int .i64 (preg ps i)) ∧ (pairCells ps)[i * 2 + 1]? = some (.int .i64 (pplace ps i)) := by
  induction ps generalizing i with
  | nil => simp at hi
  | cons p r ih =>
    cases i with
    | zero => exact ⟨rfl, rfl⟩
    | succ i =>
      have h := ih i (by simpa using hi)
      have e1 : (i + 1) * 2 = i * 2 + 1 + 1 := by omega
      rw [e1]
      exact h

def pingCells (hv : List (PingD × Value)) : List Value := hv.flatMap fun x => [.int .i64 x.1.src, x.2]

theorem pingCells_snoc (hv : List (PingD × Value)) (x : PingD) (sv : Value) : pingCells (hv ++ [(x, sv)]) = pingCells hv ++ [.int .i64 x.src, sv] := by
  simp [pingCells]

theorem pingCells_length (hv : List (PingD × Value)) : (pingCells hv).length = hv.length * 2 := by
  induction hv with
  | nil => rfl
  | cons p r ih => simp only [pingCells, List.flatMap_cons, List.length_append, List.length_cons, List.length_nil] at *; omega

theorem pingCells_get (hv : List (PingD × Value)) (i : Nat) (hi : i < hv.length) : (pingCells hv)[i * 2]? = some (.int .i64 hv[i].1.src) ∧ (pingCells hv)[i * 2 + 1]? = some hv[i].2 := by
  induction hv generalizing i with
  | nil => simp at hi
  | cons p r ih =>
    cases i with
    | zero => exact ⟨rfl, rfl⟩
    | succ i =>
      have h := ih i (by simpa using hi)
      have e1 : (i + 1) * 2 = i * 2 + 1 + 1 := by omega
      rw [e1]
      exact h

/-- The hint hv lies at v, in memory from block base on, each list in a block of its own. -/
structure OwnHint (w : World) (base : Nat) (v : Value) (hv : List (PingD × Value)) : Prop where
  row : w.ownsRow base 82 2 v hv.length (pingCells hv)
  each : ∀ x ∈ hv, w.ownsRow base 84 2 x.2 x.1.pairs.length (pairCells x.1.pairs)
  apart : hv.Pairwise fun x y => ∀ g, x.2.ownBlock = some g → y.2.ownBlock ≠ some g

def hdat (hv : List (PingD × Value)) : List PingD := hv.map (·.1)

theorem ownHint_nil (w : World) (base : Nat) : OwnHint w base (.slice none 0 0) [] :=
  ⟨World.ownsRow_nil _ _ _ _, fun x hx => by simp at hx, List.Pairwise.nil⟩

theorem OwnHint.below {w w' : World} {base : Nat} {v : Value} {hv : List (PingD × Value)} (h : OwnHint w base v hv) {B : Nat} (hb : Below B w w') (hB : w.heap.size ≤ B) : OwnHint w' base v hv :=
  ⟨owns_below h.row hb hB, fun x hx => owns_below (h.each x hx) hb hB, h.apart⟩

theorem OwnHint.alloc {w : World} {base : Nat} {v : Value} {hv : List (PingD × Value)} (h : OwnHint w base v hv) (o : Obj) : OwnHint (w.alloc o) base v hv :=
  ⟨h.row.alloc o, fun x hx => (h.each x hx).alloc o, h.apart⟩

theorem OwnHint.set {w : World} {base : Nat} {v : Value} {hv : List (PingD × Value)} (h : OwnHint w base v hv) {a : Addr} (ha : a.block < base) (u : Value) : OwnHint (w.setCell a u) base v hv :=
  ⟨ownsRow_setCell_below h.row ha u, fun x hx => ownsRow_setCell_below (h.each x hx) ha u, h.apart⟩

theorem OwnHint.base {w : World} {base base' : Nat} {v : Value} {hv : List (PingD × Value)} (h : OwnHint w base v hv) (hb : base' ≤ base) : OwnHint w base' v hv :=
  ⟨owns_base h.row hb, fun x hx => owns_base (h.each x hx) hb, h.apart⟩

/-- One block more, behind an append. -/
theorem OwnHint.snoc {w w' : World} {base : Nat} {v v' : Value} {hv : List (PingD × Value)} (h : OwnHint w base v hv) {x : PingD} {sv : Value}
    (hx : w.ownsRow base 84 2 sv x.pairs.length (pairCells x.pairs)) (hfree : ∀ y ∈ hv, ∀ g, y.2.ownBlock = some g → sv.ownBlock ≠ some g)
    (hg : w.grownBy w' v.ownBlock) (hown : w'.ownsRow base 82 2 v' (hv.length + 1) (pingCells hv ++ [.int .i64 x.src, sv])) : OwnHint w' base v' (hv ++ [(x, sv)]) := by
  have keep : ∀ (u : Value) (ps : List PairD), w.ownsRow base 84 2 u ps.length (pairCells ps) → w'.ownsRow base 84 2 u ps.length (pairCells ps) := by
    intro u ps hu
    refine hu.kept hg ?_
    cases hb : u.ownBlock with
    | none => exact .inl rfl
    | some g => exact .inr (fun e => owns_apart hu h.row (by decide) g hb e.symm)
  refine ⟨by rw [pingCells_snoc]; simpa using hown, ?_, ?_⟩
  · intro y hy
    rcases List.mem_append.1 hy with hy | hy
    · exact keep _ _ (h.each y hy)
    · simp at hy; subst hy; exact keep _ _ hx
  · rw [List.pairwise_append]
    refine ⟨h.apart, by simp, ?_⟩
    intro a ha b hb
    simp at hb
    subst hb
    exact hfree a ha

theorem owns_rdPairs {w : World} {base : Nat} {v : Value} {ps : List PairD} (h : w.ownsRow base 84 2 v ps.length (pairCells ps)) : RdPairs w v ps := by
  obtain ⟨ao, cap, hv⟩ := owns_slice h
  refine ⟨ao, cap, hv, owns_le h, fun i hi => ?_⟩
  have hl := pairCells_length ps
  obtain ⟨b, hao, _, hb, hc⟩ := owns_cell h hv (i := i * 2) (by omega)
  obtain ⟨b', hao', _, hb', hc'⟩ := owns_cell h hv (i := i * 2 + 1) (by omega)
  have : b = b' := by rw [hb] at hb'; simpa using hb'
  subst this
  obtain ⟨g1, g2⟩ := pairCells_get ps i hi
  refine ⟨b, 0, hao, ?_, ?_⟩
  · rw [Nat.zero_add, hc]; rw [List.getElem?_eq_getElem (by omega)] at g1; exact g1
  · rw [Nat.zero_add, hc']; rw [List.getElem?_eq_getElem (by omega)] at g2; exact g2

theorem hdat_get (hv : List (PingD × Value)) {i : Nat} (hi : i < hv.length) : hsrc (hdat hv) i = hv[i].1.src ∧ hpairs (hdat hv) i = hv[i].1.pairs := by
  constructor <;> simp [hsrc, hpairs, hdat, hi]

theorem hdat_length (hv : List (PingD × Value)) : (hdat hv).length = hv.length := by simp [hdat]

theorem OwnHint.rd {w : World} {base : Nat} {v : Value} {hv : List (PingD × Value)} (h : OwnHint w base v hv) : RdHint w v (hdat hv) := by
  obtain ⟨ao, cap, hv'⟩ := owns_slice h.row
  refine ⟨ao, cap, by rw [hdat_length]; exact hv', by rw [hdat_length]; exact owns_le h.row, fun i hi => ?_⟩
  rw [hdat_length] at hi
  have hl := pingCells_length hv
  obtain ⟨b, hao, _, hb, hc⟩ := owns_cell h.row hv' (i := i * 2) (by omega)
  obtain ⟨b', hao', _, hb', hc'⟩ := owns_cell h.row hv' (i := i * 2 + 1) (by omega)
  have : b = b' := by rw [hb] at hb'; simpa using hb'
  subst this
  obtain ⟨g1, g2⟩ := pingCells_get hv i hi
  obtain ⟨e1, e2⟩ := hdat_get hv hi
  refine ⟨b, 0, hv[i].2, hao, ?_, ?_, ?_⟩
  · rw [Nat.zero_add, hc, e1]; rw [List.getElem?_eq_getElem (by omega)] at g1; exact g1
  · rw [Nat.zero_add, hc']; rw [List.getElem?_eq_getElem (by omega)] at g2; exact g2
  · rw [e2]; exact owns_rdPairs (h.each _ (by simp))

end Go.Proofs.Ytdjdjkgoelbbdaa
