/- Storing into a hint of one's own. -/
import Derived.Test.YtdjdjkgoelbbdaaApp
set_option linter.unusedSimpArgs false
set_option linter.unusedVariables false
namespace Go.Proofs.Ytdjdjkgoelbbdaa
open Go.RowKit

/-- What lay there has not turned, but for the blocks of S. -/
structure Keep (S : Nat → Prop) (w w' : World) : Prop where
  os : w'.os = w.os
  tape : w'.tape = w.tape
  output : w'.output = w.output
  size : w.heap.size ≤ w'.heap.size
  block : ∀ k, k < w.heap.size → ¬ S k → w'.heap[k]? = w.heap[k]?

theorem Keep.refl (S : Nat → Prop) (w : World) : Keep S w w := ⟨rfl, rfl, rfl, Nat.le_refl _, fun _ _ _ => rfl⟩

theorem Keep.step {S : Nat → Prop} {w a b : World} (h : Keep S w a) (hos : b.os = a.os) (ht : b.tape = a.tape) (ho : b.output = a.output) (hs : a.heap.size ≤ b.heap.size) (hb : ∀ k, k < w.heap.size → ¬ S k → b.heap[k]? = a.heap[k]?) : Keep S w b :=
  ⟨hos.trans h.os, ht.trans h.tape, ho.trans h.output, Nat.le_trans h.size hs, fun k hk hn => (hb k hk hn).trans (h.block k hk hn)⟩

theorem Keep.alloc {S : Nat → Prop} {w a : World} (h : Keep S w a) (o : Obj) : Keep S w (a.alloc o) :=
  h.step rfl rfl rfl (by simp) fun k hk _ => Below.heap_alloc _ _ _ (Nat.lt_of_lt_of_le hk h.size)

theorem Keep.setCell {S : Nat → Prop} {w a : World} (h : Keep S w a) {p : Addr} (hp : S p.block ∨ w.heap.size ≤ p.block) (u : Value) : Keep S w (a.setCell p u) :=
  h.step rfl rfl rfl (by simp) fun k hk hn => Below.heap_setCell _ _ _ _ (fun e => by subst e; rcases hp with hp | hp; exact hn hp; omega)

theorem Keep.grown {S : Nat → Prop} {w a b : World} {row : Option Nat} (h : Keep S w a) (hg : a.grownBy b row) (hr : ∀ g, row = some g → S g ∨ w.heap.size ≤ g) : Keep S w b :=
  h.step hg.os hg.tape hg.output hg.size fun k hk hn => hg.block k (Nat.lt_of_lt_of_le hk h.size) (fun e => by rcases hr k e.symm with hp | hp; exact hn hp; omega)

theorem Keep.below {S : Nat → Prop} {w a b : World} (h : Keep S w a) {B : Nat} (hb : Below B a b) (hB : w.heap.size ≤ B) : Keep S w b :=
  h.step hb.os hb.tape hb.output hb.size fun k hk _ => hb.block k (by omega)

theorem Keep.toBelow {S : Nat → Prop} {w a : World} (h : Keep S w a) {B : Nat} (hB : B ≤ w.heap.size) (hS : ∀ k, S k → B ≤ k) : Below B w a :=
  ⟨h.os, h.tape, h.output, h.size, fun k hk => h.block k (by omega) (fun hk' => by have := hS k hk'; omega)⟩

theorem Keep.cell {S : Nat → Prop} {w a : World} (h : Keep S w a) {b o : Nat} (hb : ¬ S b) {u : Value} (hc : w.cell? ⟨b, o, none⟩ = some u) : a.cell? ⟨b, o, none⟩ = some u :=
  (World.cell?_of_block (w := w) (h.block b (World.block_lt_of_cell? w _ hc) hb)).trans hc

theorem owns_set {w : World} {B : Nat} {e : TypeId} {sz : Nat} {v : Value} {n : Nat} {xs : List Value} (h : w.ownsRow B e sz v n xs) {g i : Nat} (hg : v.ownBlock = some g) (hi : i < xs.length) (u : Value) :
    (w.setCell ⟨g, i, none⟩ u).ownsRow B e sz v n (xs.set i u) := by
  refine ⟨by rw [List.length_set]; exact h.1, ?_⟩
  rcases h.2 with ⟨rfl, _⟩ | ⟨k, cap, cur, rfl, hk, hh, h1, h2, h3, h4⟩
  · simp [Value.ownBlock] at hg
  simp only [Value.ownBlock, Option.some.injEq] at hg
  subst hg
  refine .inr ⟨k, cap, cur.setIfInBounds i u, rfl, hk, heap_setCell_same w k i cur e u hh, h1, h2, by simpa using h3, ?_⟩
  rw [Array.toList_setIfInBounds, List.take_set, h4]

theorem owns_unset {w : World} {B : Nat} {e : TypeId} {sz : Nat} {v : Value} {n : Nat} {xs : List Value} (h : w.ownsRow B e sz v n xs) {g i : Nat} (hg : v.ownBlock ≠ some g) (u : Value) :
    (w.setCell ⟨g, i, none⟩ u).ownsRow B e sz v n xs :=
  owns_same h fun k hk => Below.heap_setCell _ _ _ _ (fun e => hg (by rw [hk, e]))

theorem pingCells_setSrc (hv : List (PingD × Value)) (i : Nat) (hi : i < hv.length) (x : Int) :
    pingCells (hv.set i (⟨x, hv[i].1.pairs⟩, hv[i].2)) = (pingCells hv).set (i * 2) (.int .i64 x) := by
  induction hv generalizing i with
  | nil => simp at hi
  | cons p r ih =>
    cases i with
    | zero => rfl
    | succ i =>
      have h := ih i (by simpa using hi)
      have e1 : (i + 1) * 2 = i * 2 + 1 + 1 := by omega
      rw [e1]
      show [_, _] ++ pingCells (r.set i _) = [_, _] ++ (pingCells r).set (i * 2) _
      rw [← h]
      rfl

theorem pairCells_set (ps : List PairD) (j : Nat) (hj : j < ps.length) (a b : Int) :
    pairCells (ps.set j ⟨a, b⟩) = ((pairCells ps).set (j * 2) (.int .i64 a)).set (j * 2 + 1) (.int .i64 b) := by
  induction ps generalizing j with
  | nil => simp at hj
  | cons p r ih =>
    cases j with
    | zero => rfl
    | succ j =>
      have h := ih j (by simpa using hj)
      have e1 : (j + 1) * 2 = j * 2 + 1 + 1 := by omega
      rw [e1]
      show [_, _] ++ pairCells (r.set j _) = [_, _] ++ ((pairCells r).set (j * 2) _).set (j * 2 + 1) _
      rw [← h]

theorem pingCells_setPairs (hv : List (PingD × Value)) (i : Nat) (hi : i < hv.length) (ps : List PairD) :
    pingCells (hv.set i (⟨hv[i].1.src, ps⟩, hv[i].2)) = pingCells hv := by
  induction hv generalizing i with
  | nil => simp at hi
  | cons p r ih =>
    cases i with
    | zero => rfl
    | succ i =>
      have h := ih i (by simpa using hi)
      show [_, _] ++ pingCells (r.set i _) = [_, _] ++ pingCells r
      rw [← h]
      rfl

theorem apart_set {hv : List (PingD × Value)} {i : Nat} (hi : i < hv.length) (x : PingD) (h : hv.Pairwise fun x y => ∀ g, x.2.ownBlock = some g → y.2.ownBlock ≠ some g) :
    (hv.set i (x, hv[i].2)).Pairwise fun x y => ∀ g, x.2.ownBlock = some g → y.2.ownBlock ≠ some g := by
  rw [List.pairwise_iff_getElem] at *
  have key : ∀ (j : Nat) (hj : j < (hv.set i (x, hv[i].2)).length), ((hv.set i (x, hv[i].2))[j]).2 = (hv[j]'(by simpa using hj)).2 := by
    intro j hj
    rw [List.getElem_set]
    split
    · rename_i e; subst e; rfl
    · rfl
  intro a b ha hb hab
  rw [key a ha, key b hb]
  exact h a b _ _ hab

theorem OwnHint.setSrc {w : World} {base : Nat} {b n cap : Nat} {hv : List (PingD × Value)} (h : OwnHint w base (.slice (some ⟨b, 0, none⟩) n cap) hv) {i : Nat} (hi : i < hv.length) (x : Int) :
    OwnHint (w.setCell ⟨b, i * 2, none⟩ (.int .i64 x)) base (.slice (some ⟨b, 0, none⟩) n cap) (hv.set i (⟨x, hv[i].1.pairs⟩, hv[i].2)) := by
  have hl := pingCells_length hv
  refine ⟨?_, ?_, apart_set hi _ h.apart⟩
  · rw [pingCells_setSrc hv i hi, List.length_set]
    exact owns_set h.row rfl (by omega) _
  · intro y hy
    have keep : ∀ x ∈ hv, (w.setCell ⟨b, i * 2, none⟩ (.int .i64 x.1.src)).ownsRow base 84 2 x.2 x.1.pairs.length (pairCells x.1.pairs) ∧ x.2.ownBlock ≠ some b := by
      intro x hx
      have hne : x.2.ownBlock ≠ some b := fun e => owns_apart h.row (h.each x hx) (by decide) b rfl e
      exact ⟨owns_unset (h.each x hx) hne _, hne⟩
    rcases List.mem_or_eq_of_mem_set hy with hy | rfl
    · exact owns_unset (h.each y hy) (keep y hy).2 _
    · exact owns_unset (h.each _ (List.getElem_mem hi)) (keep _ (List.getElem_mem hi)).2 _

theorem OwnHint.setPair {w : World} {base : Nat} {v : Value} {hv : List (PingD × Value)} (h : OwnHint w base v hv) {i j g : Nat} (hi : i < hv.length) (hg : hv[i].2.ownBlock = some g) (hj : j < hv[i].1.pairs.length) (x y : Int) :
    OwnHint ((w.setCell ⟨g, j * 2, none⟩ (.int .i64 x)).setCell ⟨g, j * 2 + 1, none⟩ (.int .i64 y)) base v (hv.set i (⟨hv[i].1.src, hv[i].1.pairs.set j ⟨x, y⟩⟩, hv[i].2)) := by
  have hl := pairCells_length hv[i].1.pairs
  have hri := h.each _ (List.getElem_mem hi)
  refine ⟨?_, ?_, apart_set hi _ h.apart⟩
  · rw [pingCells_setPairs hv i hi, List.length_set]
    have hne : v.ownBlock ≠ some g := fun e => owns_apart h.row hri (by decide) g e hg
    exact owns_unset (owns_unset h.row hne _) hne _
  · intro z hz
    obtain ⟨k, hk, rfl⟩ := List.getElem_of_mem hz
    have hk' : k < hv.length := by simpa using hk
    rw [List.getElem_set]
    split
    · show World.ownsRow _ base 84 2 hv[i].2 (hv[i].1.pairs.set j ⟨x, y⟩).length (pairCells (hv[i].1.pairs.set j ⟨x, y⟩))
      rw [pairCells_set _ _ hj, List.length_set]
      exact owns_set (owns_set hri hg (by omega) _) hg (by rw [List.length_set]; omega) _
    · rename_i hne
      have hb : hv[k].2.ownBlock ≠ some g := by
        intro e
        rcases Nat.lt_or_gt_of_ne hne with hlt | hgt
        · exact List.pairwise_iff_getElem.1 h.apart i k hi hk' hlt g hg e
        · exact List.pairwise_iff_getElem.1 h.apart k i hk' hi hgt g e hg
      exact owns_unset (owns_unset (h.each _ (List.getElem_mem hk')) hb _) hb _

end Go.Proofs.Ytdjdjkgoelbbdaa
