/- Appending to and storing into a program of one's own. -/
import Derived.Test.YtdjdjkgoelbbdaaPTxtToPLawH
set_option linter.unusedSimpArgs false
set_option linter.unusedVariables false
namespace Go.Proofs.Ytdjdjkgoelbbdaa
open Go.RowKit

/-- Lists of bv that lie in lv's block are the beginning of what lv holds. -/
def PreO (bv : List (BlockD × Value)) (lv : Value) (ys : List Value) : Prop := ∀ x ∈ bv, ∀ g, x.2.ownBlock = some g → lv.ownBlock = some g → ∃ t, ys = opCells x.1.ops ++ t

theorem OwnBlocks.app {w w' : World} {base : Nat} {v lv : Value} {bv : List (BlockD × Value)} {m : Nat} {ys : List Value} (h : OwnBlocks w base v bv) (hl : w.ownsRow base 78 4 lv m ys) (hp : PreO bv lv ys)
    (hg : w.grownBy w' lv.ownBlock) (hl' : w'.ownsRow base 78 4 lv m ys) : OwnBlocks w' base v bv := by
  refine ⟨?_, ?_, h.apart⟩
  · refine h.row.kept hg ?_
    cases hb : v.ownBlock with
    | none => exact .inl rfl
    | some g => exact .inr (fun e => owns_apart h.row hl (by decide) g hb e.symm)
  · intro x hx
    cases hb : x.2.ownBlock with
    | none => exact (h.each x hx).kept hg (.inl hb)
    | some g =>
      by_cases e : lv.ownBlock = some g
      · obtain ⟨t, ht⟩ := hp x hx g hb e
        exact owns_pre (by decide) (h.each x hx) hl hb e hl' ht
      · exact (h.each x hx).kept hg (.inr (by rw [hb]; exact fun e' => e e'.symm))

theorem PreO.step {w : World} {base : Nat} {v lv lv' : Value} {bv : List (BlockD × Value)} {ys news : List Value} (h : OwnBlocks w base v bv) (hp : PreO bv lv ys) (hf : ∀ g, lv'.ownBlock = some g → lv.ownBlock = some g ∨ w.heap.size ≤ g) : PreO bv lv' (ys ++ news) := by
  intro x hx g hg hg'
  rcases hf g hg' with e | e
  · obtain ⟨t, ht⟩ := hp x hx g hg e
    exact ⟨t ++ news, by rw [ht, List.append_assoc]⟩
  · have := ((h.each x hx).lt g hg).2
    omega

theorem PreO.start {w : World} {base : Nat} {v : Value} {bv : List (BlockD × Value)} (h : OwnBlocks w base v bv) {i : Nat} (hi : i < bv.length) : PreO bv bv[i].2 (opCells bv[i].1.ops) := by
  intro x hx g hg hg'
  obtain ⟨j, hj, rfl⟩ := List.getElem_of_mem hx
  by_cases e : j = i
  · subst e; exact ⟨[], by simp⟩
  · exfalso
    rcases Nat.lt_or_gt_of_ne e with hlt | hgt
    · exact List.pairwise_iff_getElem.1 h.apart j i hj hi hlt g hg hg'
    · exact List.pairwise_iff_getElem.1 h.apart i j hi hj hgt g hg' hg

/-- The blocks' list, likewise. -/
theorem OwnBlocks.appOut {w w' : World} {base : Nat} {v lv : Value} {bv : List (BlockD × Value)} {m : Nat} {ys : List Value} (h : OwnBlocks w base v bv) (hl : w.ownsRow base 76 5 lv m ys) (hp : ∀ g, v.ownBlock = some g → lv.ownBlock = some g → ∃ t, ys = blkCells bv ++ t)
    (hg : w.grownBy w' lv.ownBlock) (hl' : w'.ownsRow base 76 5 lv m ys) : OwnBlocks w' base v bv := by
  refine ⟨?_, ?_, h.apart⟩
  · cases hb : v.ownBlock with
    | none => exact h.row.kept hg (.inl hb)
    | some g =>
      by_cases e : lv.ownBlock = some g
      · obtain ⟨t, ht⟩ := hp g hb e
        exact owns_pre (by decide) h.row hl hb e hl' ht
      · exact h.row.kept hg (.inr (by rw [hb]; exact fun e' => e e'.symm))
  · intro x hx
    refine (h.each x hx).kept hg ?_
    cases hb : x.2.ownBlock with
    | none => exact .inl rfl
    | some g => exact .inr (fun e => owns_apart (h.each x hx) hl (by decide) g hb e.symm)

theorem blkCells_setEnd (bv : List (BlockD × Value)) (i : Nat) (hi : i < bv.length) (k r x y : Int) :
    blkCells (bv.set i (⟨bv[i].1.ops, ⟨k, r, x, y⟩⟩, bv[i].2)) = ((((blkCells bv).set (i * 5 + 1) (.int .i64 k)).set (i * 5 + 2) (.int .i64 r)).set (i * 5 + 3) (.int .i64 x)).set (i * 5 + 4) (.int .i64 y) := by
  induction bv generalizing i with
  | nil => simp at hi
  | cons p q ih =>
    cases i with
    | zero => rfl
    | succ i =>
      have h := ih i (by simpa using hi)
      have e1 : (i + 1) * 5 = i * 5 + 1 + 1 + 1 + 1 + 1 := by omega
      rw [e1]
      show [_, _, _, _, _] ++ blkCells (q.set i _) = [_, _, _, _, _] ++ ((((blkCells q).set (i * 5 + 1) _).set (i * 5 + 2) _).set (i * 5 + 3) _).set (i * 5 + 4) _
      rw [← h]
      rfl

theorem opCells_set (l : List OpD) (j : Nat) (hj : j < l.length) (k a b c : Int) :
    opCells (l.set j ⟨k, a, b, c⟩) = ((((opCells l).set (j * 4) (.int .i64 k)).set (j * 4 + 1) (.int .i64 a)).set (j * 4 + 2) (.int .i64 b)).set (j * 4 + 3) (.int .i64 c) := by
  induction l generalizing j with
  | nil => simp at hj
  | cons p r ih =>
    cases j with
    | zero => rfl
    | succ j =>
      have h := ih j (by simpa using hj)
      have e1 : (j + 1) * 4 = j * 4 + 1 + 1 + 1 + 1 := by omega
      rw [e1]
      show [_, _, _, _] ++ opCells (r.set j _) = [_, _, _, _] ++ ((((opCells r).set (j * 4) _).set (j * 4 + 1) _).set (j * 4 + 2) _).set (j * 4 + 3) _
      rw [← h]

theorem blkCells_setOps (bv : List (BlockD × Value)) (i : Nat) (hi : i < bv.length) (l : List OpD) :
    blkCells (bv.set i (⟨l, bv[i].1.fin⟩, bv[i].2)) = blkCells bv := by
  induction bv generalizing i with
  | nil => simp at hi
  | cons p r ih =>
    cases i with
    | zero => rfl
    | succ i =>
      have h := ih i (by simpa using hi)
      show [_, _, _, _, _] ++ blkCells (r.set i _) = [_, _, _, _, _] ++ blkCells r
      rw [← h]
      rfl

theorem bapart_set {bv : List (BlockD × Value)} {i : Nat} (hi : i < bv.length) (x : BlockD) (h : bv.Pairwise fun x y => ∀ g, x.2.ownBlock = some g → y.2.ownBlock ≠ some g) :
    (bv.set i (x, bv[i].2)).Pairwise fun x y => ∀ g, x.2.ownBlock = some g → y.2.ownBlock ≠ some g := by
  rw [List.pairwise_iff_getElem] at *
  have key : ∀ (j : Nat) (hj : j < (bv.set i (x, bv[i].2)).length), ((bv.set i (x, bv[i].2))[j]).2 = (bv[j]'(by simpa using hj)).2 := by
    intro j hj
    rw [List.getElem_set]
    split
    · rename_i e; subst e; rfl
    · rfl
  intro a b ha hb hab
  rw [key a ha, key b hb]
  exact h a b _ _ hab

/-- Four cells of a block are set. -/
def set4 (w : World) (g o : Nat) (a b c d : Int) : World := (((w.setCell ⟨g, o, none⟩ (.int .i64 a)).setCell ⟨g, o + 1, none⟩ (.int .i64 b)).setCell ⟨g, o + 2, none⟩ (.int .i64 c)).setCell ⟨g, o + 3, none⟩ (.int .i64 d)

theorem owns_set4 {w : World} {B : Nat} {e : TypeId} {sz : Nat} {v : Value} {n : Nat} {xs : List Value} (h : w.ownsRow B e sz v n xs) {g o : Nat} (hg : v.ownBlock = some g) (hi : o + 3 < xs.length) (a b c d : Int) :
    (set4 w g o a b c d).ownsRow B e sz v n ((((xs.set o (.int .i64 a)).set (o + 1) (.int .i64 b)).set (o + 2) (.int .i64 c)).set (o + 3) (.int .i64 d)) :=
  owns_set (owns_set (owns_set (owns_set h hg (by omega) _) hg (by simp; omega) _) hg (by simp; omega) _) hg (by simp; omega) _

theorem owns_unset4 {w : World} {B : Nat} {e : TypeId} {sz : Nat} {v : Value} {n : Nat} {xs : List Value} (h : w.ownsRow B e sz v n xs) {g o : Nat} (hg : v.ownBlock ≠ some g) (a b c d : Int) :
    (set4 w g o a b c d).ownsRow B e sz v n xs :=
  owns_unset (owns_unset (owns_unset (owns_unset h hg _) hg _) hg _) hg _

theorem Keep.set4 {S : Nat → Prop} {w a : World} (h : Keep S w a) {g o : Nat} (hp : S g ∨ w.heap.size ≤ g) (x y z u : Int) : Keep S w (set4 a g o x y z u) :=
  (((h.setCell (p := ⟨g, o, none⟩) hp _).setCell (p := ⟨g, o + 1, none⟩) hp _).setCell (p := ⟨g, o + 2, none⟩) hp _).setCell (p := ⟨g, o + 3, none⟩) hp _

theorem cell_unset4 {w : World} {g o : Nat} {a b c d : Int} {p : Addr} {u : Value} (hp : p.block ≠ g) (hc : w.cell? p = some u) : (set4 w g o a b c d).cell? p = some u := by
  unfold set4
  have k : ∀ (w : World) (i : Nat) (x : Value), w.cell? p = some u → (w.setCell ⟨g, i, none⟩ x).cell? p = some u := fun w i x h => cell_unset (fun e => hp (by first | rw [e] | rw [← e])) h
  exact k _ _ _ (k _ _ _ (k _ _ _ (k _ _ _ hc)))

theorem set4_size (w : World) (g o : Nat) (a b c d : Int) : (set4 w g o a b c d).heap.size = w.heap.size := by simp [set4]

theorem OwnBlocks.setEnd {w : World} {base : Nat} {b n cap : Nat} {bv : List (BlockD × Value)} (h : OwnBlocks w base (.slice (some ⟨b, 0, none⟩) n cap) bv) {i : Nat} (hi : i < bv.length) (k r x y : Int) :
    OwnBlocks (set4 w b (i * 5 + 1) k r x y) base (.slice (some ⟨b, 0, none⟩) n cap) (bv.set i (⟨bv[i].1.ops, ⟨k, r, x, y⟩⟩, bv[i].2)) := by
  have hl := blkCells_length bv
  refine ⟨?_, ?_, bapart_set hi _ h.apart⟩
  · rw [blkCells_setEnd bv i hi, List.length_set]
    exact owns_set4 h.row rfl (by omega) _ _ _ _
  · intro y hy
    have keep : ∀ x ∈ bv, x.2.ownBlock ≠ some b := fun x hx e => owns_apart h.row (h.each x hx) (by decide) b rfl e
    rcases List.mem_or_eq_of_mem_set hy with hy | rfl
    · exact owns_unset4 (h.each y hy) (keep y hy) _ _ _ _
    · exact owns_unset4 (h.each _ (List.getElem_mem hi)) (keep _ (List.getElem_mem hi)) _ _ _ _

theorem OwnBlocks.setOp {w : World} {base : Nat} {v : Value} {bv : List (BlockD × Value)} (h : OwnBlocks w base v bv) {i j g : Nat} (hi : i < bv.length) (hg : bv[i].2.ownBlock = some g) (hj : j < bv[i].1.ops.length) (k a b c : Int) :
    OwnBlocks (set4 w g (j * 4) k a b c) base v (bv.set i (⟨bv[i].1.ops.set j ⟨k, a, b, c⟩, bv[i].1.fin⟩, bv[i].2)) := by
  have hl := opCells_length bv[i].1.ops
  have hri := h.each _ (List.getElem_mem hi)
  refine ⟨?_, ?_, bapart_set hi _ h.apart⟩
  · rw [blkCells_setOps bv i hi, List.length_set]
    have hne : v.ownBlock ≠ some g := fun e => owns_apart h.row hri (by decide) g e hg
    exact owns_unset4 h.row hne _ _ _ _
  · intro z hz
    obtain ⟨m, hk, rfl⟩ := List.getElem_of_mem hz
    have hk' : m < bv.length := by simpa using hk
    rw [List.getElem_set]
    split
    · show World.ownsRow _ base 78 4 bv[i].2 (bv[i].1.ops.set j ⟨k, a, b, c⟩).length (opCells (bv[i].1.ops.set j ⟨k, a, b, c⟩))
      rw [opCells_set _ _ hj, List.length_set]
      exact owns_set4 hri hg (by omega) _ _ _ _
    · rename_i hne
      have hb : bv[m].2.ownBlock ≠ some g := by
        intro e
        rcases Nat.lt_or_gt_of_ne hne with hlt | hgt
        · exact List.pairwise_iff_getElem.1 h.apart i m hi hk' hlt g hg e
        · exact List.pairwise_iff_getElem.1 h.apart m i hk' hi hgt g e hg
      exact owns_unset4 (h.each _ (List.getElem_mem hk')) hb _ _ _ _

end Go.Proofs.Ytdjdjkgoelbbdaa
