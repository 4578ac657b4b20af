/- Appending to and storing into a program of one's own. -/
import Derived.Test.YtblhmeidbjigaaaRows
import Derived.WalkKit
import Derived.WalkSpells
import Derived.WalkLawsBesides
import Derived.Laws.BytesArg
import Derived.Deep.QuietTactic
import Derived.BigQuiet
import Derived.Deep.RegionHeld3
import Derived.Test.YtblhmeidbjigaaaPRefFToPLawHCodes

set_option linter.unusedSimpArgs false
set_option linter.unusedVariables false
namespace Go.Proofs.Ytblhmeidbjigaaa
open Go.RowKit

/-- Lists of bv that lie in lv's block are the beginning of what lv holds. -/
def PreO (bv : List (BlockD × Value)) (lv : Value) (ys : List Value) : Prop := ∀ x ∈ bv, ∀ g, x.2.ownBlock = some g → lv.ownBlock = some g → ∃ t, ys = opCells x.1.ops ++ t

theorem OwnBlocks.app {w w' : World} {base : Nat} {v lv : Value} {bv : List (BlockD × Value)} {m : Nat} {ys : List Value} (h : OwnBlocks w base v bv) (hl : w.ownsRow base 101 4 lv m ys) (hp : PreO bv lv ys)
    (hg : w.grownBy w' lv.ownBlock) (hl' : w'.ownsRow base 101 4 lv m ys) : OwnBlocks w' base v bv := by
  refine ⟨?_, ?_, h.apart⟩
  · refine h.row.kept hg ?_
    cases hb : v.ownBlock with
    | none => exact .inl rfl
    | some g => exact .inr (fun e => owns_apart h.row hl (by decide) g hb e.symm)
  · intro x hx
    cases hb : x.2.ownBlock with
    | none => exact (h.each x hx).kept hg (.inl hb)
    | some g =>
      by_cases e : lv.ownBlock = some g
      · obtain ⟨t, ht⟩ := hp x hx g hb e
        exact owns_pre (by decide) (h.each x hx) hl hb e hl' ht
      · exact (h.each x hx).kept hg (.inr (by rw [hb]; exact fun e' => e e'.symm))

theorem PreO.step {w : World} {base : Nat} {v lv lv' : Value} {bv : List (BlockD × Value)} {ys news : List Value} (h : OwnBlocks w base v bv) (hp : PreO bv lv ys) (hf : ∀ g, lv'.ownBlock = some g → lv.ownBlock = some g ∨ w.heap.size ≤ g) : PreO bv lv' (ys ++ news) := by
  intro x hx g hg hg'
  rcases hf g hg' with e | e
  · obtain ⟨t, ht⟩ := hp x hx g hg e
    exact ⟨t ++ news, by rw [ht, List.append_assoc]⟩
  · have := ((h.each x hx).lt g hg).2
    omega

theorem PreO.start {w : World} {base : Nat} {v : Value} {bv : List (BlockD × Value)} (h : OwnBlocks w base v bv) {i : Nat} (hi : i < bv.length) : PreO bv bv[i].2 (opCells bv[i].1.ops) := by
  intro x hx g hg hg'
  obtain ⟨j, hj, rfl⟩ := List.getElem_of_mem hx
  by_cases e : j = i
  · subst e; exact ⟨[], by simp⟩
  · exfalso
    rcases Nat.lt_or_gt_of_ne e with hlt | hgt
    · exact List.pairwise_iff_getElem.1 h.apart j i hj hi hlt g hg hg'
    · exact List.pairwise_iff_getElem.1 h.apart i j hi hj hgt g hg' hg

/-- The blocks' list, likewise. -/
theorem OwnBlocks.appOut {w w' : World} {base : Nat} {v lv : Value} {bv : List (BlockD × Value)} {m : Nat} {ys : List Value} (h : OwnBlocks w base v bv) (hl : w.ownsRow base 90 5 lv m ys) (hp : ∀ g, v.ownBlock = some g → lv.ownBlock = some g → ∃ t, ys = blkCells bv ++ t)
    (hg : w.grownBy w' lv.ownBlock) (hl' : w'.ownsRow base 90 5 lv m ys) : OwnBlocks w' base v bv := by
  refine ⟨?_, ?_, h.apart⟩
  · cases hb : v.ownBlock with
    | none => exact h.row.kept hg (.inl hb)
    | some g =>
      by_cases e : lv.ownBlock = some g
      · obtain ⟨t, ht⟩ := hp g hb e
        exact owns_pre (by decide) h.row hl hb e hl' ht
      · exact h.row.kept hg (.inr (by rw [hb]; exact fun e' => e e'.symm))
  · intro x hx
    refine (h.each x hx).kept hg ?_
    cases hb : x.2.ownBlock with
    | none => exact .inl rfl
    | some g => exact .inr (fun e => owns_apart (h.each x hx) hl (by decide) g hb e.symm)

theorem blkCells_setEnd (bv : List (BlockD × Value)) (i : Nat) (hi : i < bv.length) (k r x y : Int) :
    blkCells (bv.set i (⟨bv[i].1.ops, ⟨k, r, x, y⟩⟩, bv[i].2)) = ((((blkCells bv).set (i * 5 + 1) (.int .i64 k)).set (i * 5 + 2) (.int .i64 r)).set (i * 5 + 3) (.int .i64 x)).set (i * 5 + 4) (.int .i64 y) := by
  induction bv generalizing i with
  | nil => simp at hi
  | cons p q ih =>
    cases i with
    | zero => rfl
    | succ i =>
      have h := ih i (by simpa using hi)
      have e1 : (i + 1) * 5 = i * 5 + 1 + 1 + 1 + 1 + 1 := by omega
      rw [e1]
      show [_, _, _, _, _] ++ blkCells (q.set i _) = [_, _, _, _, _] ++ ((((blkCells q).set (i * 5 + 1) _).set (i * 5 + 2) _).set (i * 5 + 3) _).set (i * 5 + 4) _
      rw [← h]
      rfl

theorem opCells_set (l : List OpD) (j : Nat) (hj : j < l.length) (k a b c : Int) :
    opCells (l.set j ⟨k, a, b, c⟩) = ((((opCells l).set (j * 4) (.int .i64 k)).set (j * 4 + 1) (.int .i64 a)).set (j * 4 + 2) (.int .i64 b)).set (j * 4 + 3) (.int .i64 c) := by
  induction l generalizing j with
  | nil => simp at hj
  | cons p r ih =>
    cases j with
    | zero => rfl
    | succ j =>
      have h := ih j (by simpa using hj)
      have e1 : (j + 1) * 4 = j * 4 + 1 + 1 + 1 + 1 := by omega
      rw [e1]
      show [_, _, _, _] ++ opCells (r.set j _) = [_, _, _, _] ++ ((((opCells r).set (j * 4) _).set (j * 4 + 1) _).set (j * 4 + 2) _).set (j * 4 + 3) _
      rw [← h]

theorem blkCells_setOps (bv : List (BlockD × Value)) (i : Nat) (hi : i < bv.length) (l : List OpD) :
    blkCells (bv.set i (⟨l, bv[i].1.fin⟩, bv[i].2)) = blkCells bv := by
  induction bv generalizing i with
  | nil => simp at hi
  | cons p r ih =>
    cases i with
    | zero => rfl
    | succ i =>
      have h := ih i (by simpa using hi)
      show [_, _, _, _, _] ++ blkCells (r.set i _) = [_, _, _, _, _] ++ blkCells r
      rw [← h]
      rfl

theorem bapart_set {bv : List (BlockD × Value)} {i : Nat} (hi : i < bv.length) (x : BlockD) (h : bv.Pairwise fun x y => ∀ g, x.2.ownBlock = some g → y.2.ownBlock ≠ some g) :
    (bv.set i (x, bv[i].2)).Pairwise fun x y => ∀ g, x.2.ownBlock = some g → y.2.ownBlock ≠ some g := by
  rw [List.pairwise_iff_getElem] at *
  have key : ∀ (j : Nat) (hj : j < (bv.set i (x, bv[i].2)).length), ((bv.set i (x, bv[i].2))[j]).2 = (bv[j]'(by simpa using hj)).2 := by
    intro j hj
    rw [List.getElem_set]
    split
    · rename_i e; subst e; rfl
    · rfl
  intro a b ha hb hab
  rw [key a ha, key b hb]
  exact h a b _ _ hab

/-- Four cells of a block are set. -/
def set4 (w : World) (g o : Nat) (a b c d : Int) : World := (((w.setCell ⟨g, o, none⟩ (.int .i64 a)).setCell ⟨g, o + 1, none⟩ (.int .i64 b)).setCell ⟨g, o + 2, none⟩ (.int .i64 c)).setCell ⟨g, o + 3, none⟩ (.int .i64 d)

theorem owns_set4 {w : World} {B : Nat} {e : TypeId} {sz : Nat} {v : Value} {n : Nat} {xs : List Value} (h : w.ownsRow B e sz v n xs) {g o : Nat} (hg : v.ownBlock = some g) (hi : o + 3 < xs.length) (a b c d : Int) :
    (set4 w g o a b c d).ownsRow B e sz v n ((((xs.set o (.int .i64 a)).set (o + 1) (.int .i64 b)).set (o + 2) (.int .i64 c)).set (o + 3) (.int .i64 d)) :=
  owns_set (owns_set (owns_set (owns_set h hg (by omega) _) hg (by simp; omega) _) hg (by simp; omega) _) hg (by simp; omega) _

theorem owns_unset4 {w : World} {B : Nat} {e : TypeId} {sz : Nat} {v : Value} {n : Nat} {xs : List Value} (h : w.ownsRow B e sz v n xs) {g o : Nat} (hg : v.ownBlock ≠ some g) (a b c d : Int) :
    (set4 w g o a b c d).ownsRow B e sz v n xs :=
  owns_unset (owns_unset (owns_unset (owns_unset h hg _) hg _) hg _) hg _

theorem Keep.set4 {S : Nat → Prop} {w a : World} (h : Keep S w a) {g o : Nat} (hp : S g ∨ w.heap.size ≤ g) (x y z u : Int) : Keep S w (set4 a g o x y z u) :=
  (((h.setCell (p := ⟨g, o, none⟩) hp _).setCell (p := ⟨g, o + 1, none⟩) hp _).setCell (p := ⟨g, o + 2, none⟩) hp _).setCell (p := ⟨g, o + 3, none⟩) hp _

theorem cell_unset4 {w : World} {g o : Nat} {a b c d : Int} {p : Addr} {u : Value} (hp : p.block ≠ g) (hc : w.cell? p = some u) : (set4 w g o a b c d).cell? p = some u := by
  unfold set4
  have k : ∀ (w : World) (i : Nat) (x : Value), w.cell? p = some u → (w.setCell ⟨g, i, none⟩ x).cell? p = some u := fun w i x h => cell_unset (fun e => hp (by first | rw [e] | rw [← e])) h
  exact k _ _ _ (k _ _ _ (k _ _ _ (k _ _ _ hc)))

theorem set4_size (w : World) (g o : Nat) (a b c d : Int) : (set4 w g o a b c d).heap.size = w.heap.size := by simp [set4]

theorem OwnBlocks.setEnd {w : World} {base : Nat} {b n cap : Nat} {bv : List (BlockD × Value)} (h : OwnBlocks w base (.slice (some ⟨b, 0, none⟩) n cap) bv) {i : Nat} (hi : i < bv.length) (k r x y : Int) :
    OwnBlocks (set4 w b (i * 5 + 1) k r x y) base (.slice (some ⟨b, 0, none⟩) n cap) (bv.set i (⟨bv[i].1.ops, ⟨k, r, x, y⟩⟩, bv[i].2)) := by
  have hl := blkCells_length bv
  refine ⟨?_, ?_, bapart_set hi _ h.apart⟩
  · rw [blkCells_setEnd bv i hi, List.length_set]
    exact owns_set4 h.row rfl (by omega) _ _ _ _
  · intro y hy
    have keep : ∀ x ∈ bv, x.2.ownBlock ≠ some b := fun x hx e => owns_apart h.row (h.each x hx) (by decide) b rfl e
    rcases List.mem_or_eq_of_mem_set hy with hy | rfl
    · exact owns_unset4 (h.each y hy) (keep y hy) _ _ _ _
    · exact owns_unset4 (h.each _ (List.getElem_mem hi)) (keep _ (List.getElem_mem hi)) _ _ _ _

theorem OwnBlocks.setOp {w : World} {base : Nat} {v : Value} {bv : List (BlockD × Value)} (h : OwnBlocks w base v bv) {i j g : Nat} (hi : i < bv.length) (hg : bv[i].2.ownBlock = some g) (hj : j < bv[i].1.ops.length) (k a b c : Int) :
    OwnBlocks (set4 w g (j * 4) k a b c) base v (bv.set i (⟨bv[i].1.ops.set j ⟨k, a, b, c⟩, bv[i].1.fin⟩, bv[i].2)) := by
  have hl := opCells_length bv[i].1.ops
  have hri := h.each _ (List.getElem_mem hi)
  refine ⟨?_, ?_, bapart_set hi _ h.apart⟩
  · rw [blkCells_setOps bv i hi, List.length_set]
    have hne : v.ownBlock ≠ some g := fun e => owns_apart h.row hri (by decide) g e hg
    exact owns_unset4 h.row hne _ _ _ _
  · intro z hz
    obtain ⟨m, hk, rfl⟩ := List.getElem_of_mem hz
    have hk' : m < bv.length := by simpa using hk
    rw [List.getElem_set]
    split
    · show World.ownsRow _ base 101 4 bv[i].2 (bv[i].1.ops.set j ⟨k, a, b, c⟩).length (opCells (bv[i].1.ops.set j ⟨k, a, b, c⟩))
      rw [opCells_set _ _ hj, List.length_set]
      exact owns_set4 hri hg (by omega) _ _ _ _
    · rename_i hne
      have hb : bv[m].2.ownBlock ≠ some g := by
        intro e
        rcases Nat.lt_or_gt_of_ne hne with hlt | hgt
        · exact List.pairwise_iff_getElem.1 h.apart i m hi hk' hlt g hg e
        · exact List.pairwise_iff_getElem.1 h.apart m i hk' hi hgt g e hg
      exact owns_unset4 (h.each _ (List.getElem_mem hk')) hb _ _ _ _

end Go.Proofs.Ytblhmeidbjigaaa

/- A program of its own with spare room behind each of its lists. -/
set_option linter.unusedSimpArgs false
set_option linter.unusedVariables false
namespace Go.Proofs.Ytblhmeidbjigaaa
open Go.RowKit

/-- Each of the lists lies in a row of its own from block lo on, with a mark behind its end. -/
def LiesP (w : World) (lo : Nat) (bv : List (BlockD × Value)) : Prop := ∀ x ∈ bv, ∃ p, lo ≤ p ∧ x.2 = .slice (some ⟨p, 0, none⟩) x.1.ops.length (x.1.ops.length + 1) ∧ Row w p 101 (opCells x.1.ops ++ [.int .i64 77, .int .i64 0, .int .i64 0, .int .i64 0])

def zBlk5 : List Value := [.slice none 0 0, .int .i64 0, .int .i64 0, .int .i64 0, .int .i64 0]
def zOp4 : List Value := [.int .i64 0, .int .i64 0, .int .i64 0, .int .i64 0]

/-- The blocks' row, the first k blocks laid, n in all. -/
def bRow (bv : List (BlockD × Value)) (n : Nat) : List Value := blkCells bv ++ pad zBlk5 (n - bv.length)

theorem zBlk5_zero : (Value.agg #[.slice none 0 0, .int .i64 0, .int .i64 0, .int .i64 0, .int .i64 0]).cells = zBlk5.toArray := rfl
theorem zOp4_zero : (Value.agg #[.int .i64 0, .int .i64 0, .int .i64 0, .int .i64 0]).cells = zOp4.toArray := rfl

theorem bRow_get {bv : List (BlockD × Value)} {n : Nat} (h : bv.length < n) : (bRow bv n)[bv.length * 5]? = some (.slice none 0 0) ∧ (bRow bv n)[bv.length * 5 + 1]? = some (.int .i64 0) ∧ (bRow bv n)[bv.length * 5 + 2]? = some (.int .i64 0) ∧ (bRow bv n)[bv.length * 5 + 3]? = some (.int .i64 0) ∧ (bRow bv n)[bv.length * 5 + 4]? = some (.int .i64 0) := by
  have hl := blkCells_length bv
  unfold bRow
  obtain ⟨m, hm⟩ : ∃ m, n - bv.length = m + 1 := ⟨n - bv.length - 1, by omega⟩
  rw [hm, pad_cons]
  refine ⟨?_, ?_, ?_, ?_, ?_⟩
  · rw [List.getElem?_append_right (by omega), hl, Nat.sub_self]; rfl
  all_goals (rw [List.getElem?_append_right (by omega), hl, Nat.add_sub_cancel_left]; rfl)

theorem bRow_set {bv : List (BlockD × Value)} {n : Nat} (h : bv.length < n) (ops : List OpD) (k r x y : Int) (sv : Value) :
    (((((bRow bv n).set (bv.length * 5) sv).set (bv.length * 5 + 1) (.int .i64 k)).set (bv.length * 5 + 2) (.int .i64 r)).set (bv.length * 5 + 3) (.int .i64 x)).set (bv.length * 5 + 4) (.int .i64 y) = bRow (bv ++ [(⟨ops, ⟨k, r, x, y⟩⟩, sv)]) n := by
  have hl := blkCells_length bv
  unfold bRow
  obtain ⟨m, hm⟩ : ∃ m, n - bv.length = m + 1 := ⟨n - bv.length - 1, by omega⟩
  have hm2 : n - (bv ++ [(⟨ops, ⟨k, r, x, y⟩⟩, sv)] : List (BlockD × Value)).length = m := by simp; omega
  rw [hm2, hm, pad_cons, blkCells_snoc]
  rw [List.set_append_right _ _ (by omega), hl, Nat.sub_self]
  rw [List.set_append_right _ _ (by omega), hl, Nat.add_sub_cancel_left]
  rw [List.set_append_right _ _ (by omega), hl, Nat.add_sub_cancel_left]
  rw [List.set_append_right _ _ (by omega), hl, Nat.add_sub_cancel_left]
  rw [List.set_append_right _ _ (by omega), hl, Nat.add_sub_cancel_left]
  simp [zBlk5]

theorem oRow_set (l : List OpD) : (opCells l ++ zOp4).set (l.length * 4) (.int .i64 77) = opCells l ++ [.int .i64 77, .int .i64 0, .int .i64 0, .int .i64 0] := by
  have hl := opCells_length l
  rw [List.set_append_right _ _ (by omega), hl, Nat.sub_self]
  rfl

theorem oRow_copy (l : List OpD) : opCells l ++ (pad zOp4 (l.length + 1)).drop (opCells l).length = opCells l ++ zOp4 := by
  have hl := opCells_length l
  have hp := pad_length zOp4 l.length
  congr 1
  rw [pad, hl, List.drop_append]
  have e1 : zOp4.length = 4 := rfl
  rw [e1] at hp
  rw [List.drop_of_length_le (by omega), hp, Nat.sub_self]
  rfl

theorem rdo_none {w : World} {n sc : Nat} {l : List OpD} {so : Option Addr} (h : RdOps w (.slice so n sc) l) : so = none → opCells l = [] := by
  obtain ⟨ao, cap, e, _, hc⟩ := h
  simp only [Value.slice.injEq] at e
  obtain ⟨rfl, rfl, rfl⟩ := e
  intro h0
  cases l with
  | nil => rfl
  | cons p r =>
    obtain ⟨b, off, e, _⟩ := hc 0 (by simp)
    rw [h0] at e
    cases e

theorem rdo_cells {w : World} {n sc : Nat} {l : List OpD} {so : Option Addr} (h : RdOps w (.slice so n sc) l) : ∀ ad, so = some ad → ∀ j u, (opCells l)[j]? = some u → w.cell? (ad.add j) = some u := by
  obtain ⟨ao, cap, e, _, hc⟩ := h
  simp only [Value.slice.injEq] at e
  obtain ⟨rfl, rfl, rfl⟩ := e
  intro ad had j u hj
  have hl := opCells_length l
  have hjl : j < (opCells l).length := (List.getElem?_eq_some_iff.1 hj).1
  obtain ⟨b, off, e, c1, c2, c3, c4⟩ := hc (j / 4) (by omega)
  rw [had] at e
  obtain rfl := Option.some.inj e
  obtain ⟨g1, g2, g3, g4⟩ := opCells_get l (j / 4) (by omega)
  rw [Addr.add_lit]
  obtain hm | hm | hm | hm : j % 4 = 0 ∨ j % 4 = 1 ∨ j % 4 = 2 ∨ j % 4 = 3 := by omega
  · have ej : j / 4 * 4 = j := by omega
    rw [ej] at g1 c1
    rw [c1, ← g1, hj]
  · have ej : j / 4 * 4 + 1 = j := by omega
    rw [ej] at g2
    rw [Nat.add_assoc, ej] at c2
    rw [c2, ← g2, hj]
  · have ej : j / 4 * 4 + 2 = j := by omega
    rw [ej] at g3
    rw [Nat.add_assoc, ej] at c3
    rw [c3, ← g3, hj]
  · have ej : j / 4 * 4 + 3 = j := by omega
    rw [ej] at g4
    rw [Nat.add_assoc, ej] at c4
    rw [c4, ← g4, hj]

theorem ops_one (l : List OpD) : ∀ u ∈ opCells l, u.oneCell' = true := by
  intro u hu
  simp only [opCells, List.mem_flatMap] at hu
  obtain ⟨p, _, hp⟩ := hu
  simp at hp
  rcases hp with rfl | rfl | rfl | rfl <;> rfl

theorem liesP_step {w w' : World} {lo : Nat} {bv : List (BlockD × Value)} (h : LiesP w lo bv) (hs : ∀ p xs, lo ≤ p → Row w p 101 xs → Row w' p 101 xs) : LiesP w' lo bv :=
  fun x hx => let ⟨p, hlo, e, hp⟩ := h x hx; ⟨p, hlo, e, hs p _ hlo hp⟩

theorem LiesP.lower {w : World} {lo lo' : Nat} {bv : List (BlockD × Value)} (h : LiesP w lo bv) (hl : lo' ≤ lo) : LiesP w lo' bv :=
  fun x hx => let ⟨p, hlo, e, hp⟩ := h x hx; ⟨p, by omega, e, hp⟩

theorem blks_one {w : World} {lo : Nat} {bv : List (BlockD × Value)} (h : LiesP w lo bv) : ∀ u ∈ blkCells bv, u.oneCell' = true := by
  intro u hu
  simp only [blkCells, List.mem_flatMap] at hu
  obtain ⟨x, hx, hp⟩ := hu
  obtain ⟨p, _, e, _⟩ := h x hx
  simp at hp
  rcases hp with rfl | rfl | rfl | rfl | rfl
  · rw [e]; rfl
  all_goals rfl

set_option maxRecDepth 100000 in
set_option maxHeartbeats 8000000 in
theorem roomyProg_cps (a0 a1 a2 a3 : Int) (v : Value) (l : List BlockD) (w : World) (hr : RdBlocks w v l) (hn : l.length ≤ 2513169434916) (hn2 : ∀ k, k < l.length → (bops l k).length ≤ 4398046511104) (Post : Ending → World → Prop)
    (hyes : ∀ w' bv L D, bdat bv = l → LiesP w' w.heap.size bv → Row w' L 90 (blkCells bv ++ [.slice none 0 0, .int .i64 77, .int .i64 0, .int .i64 0, .int .i64 0]) → Row w' D 90 (blkCells bv) → Below w.heap.size w w' →
      Post (.returned (.tuple #[.agg #[.int .i64 a0, .int .i64 a1, .int .i64 a2, .int .i64 a3, .slice (some ⟨L, 0, none⟩) bv.length (bv.length + 1)], .slice (some ⟨D, 0, none⟩) bv.length bv.length])) w') :
    Calls Try.prog 28 #[.agg #[.int .i64 a0, .int .i64 a1, .int .i64 a2, .int .i64 a3, v]] w Post := by
  obtain ⟨i0, ii, iz0, iz1, iz2⟩ := info_parts Try.infoBlk
  obtain ⟨j0, ji, jz0, jz1, jz2⟩ := info_parts Try.infoOp
  have hr0 := hr
  obtain ⟨ao, cap, rfl, hl, hc⟩ := hr
  go_enter Try.func28, Try.ntmps28
  go_wp2_with (at_make; refine wpList_make_row _ rfl _ _ 22 rfl 90 i0 _ zBlk5 Try.underlying22 ii iz0 iz1 zBlk5_zero (by decide) _ _ _ _ (l.length + 1) rfl rfl (by simp) (by simp) ?c1 ?c2 ?_)
  case c1 => first | omega | (rw [iz2]; omega)
  case c2 => unfold maxLen; omega
  intro w1 hL hb1 hz1
  have hz1' := hz1.out
  try simp at hL
  try simp at hz1'
  clear hz1
  have HB : Below w.heap.size w w1 := ((((Below.refl w.heap.size w).alloc (Nat.le_refl _) _).alloc (by simp) _).alloc (by simp; omega) _).trans (hb1.mono (by omega))
  have X4 : Hid (w1.cell? ⟨w.heap.size, 4, none⟩ = some (.slice ao l.length cap)) := by
    refine (hb1.cell (p := ⟨w.heap.size, 4, none⟩) (by show w.heap.size < _; omega)).trans ?_
    rw [World.cell?_alloc_lt _ _ _ (by show w.heap.size < _; simp only [World.size_alloc]; omega), World.cell?_alloc_lt _ _ _ (by show w.heap.size < _; simp only [World.size_alloc]; omega)]
    simp
  have R : Hid (Row w1 (w.heap.size + 1) 24 [.int .i64 0, .int .i64 0, .int .i64 0, .int .i64 0, .slice none 0 0]) := (hb1.block (w.heap.size + 1) (by simp)).trans ((Below.heap_alloc _ _ _ (by simp)).trans (heap_alloc2_new w _ _))
  have Q : Hid (Row w1 (w.heap.size + 2) 24 [.int .i64 a0, .int .i64 a1, .int .i64 a2, .int .i64 a3, .slice none 0 0]) := by
    refine (hb1.block (w.heap.size + 2) (by simp)).trans ?_
    have h := heap_alloc2_new (w.alloc (.cells #[.int .i64 a0, .int .i64 a1, .int .i64 a2, .int .i64 a3, .slice ao l.length cap] 24)) (.cells #[.int .i64 0, .int .i64 0, .int .i64 0, .int .i64 0, .slice none 0 0] 24) (.cells #[.int .i64 a0, .int .i64 a1, .int .i64 a2, .int .i64 a3, .slice none 0 0] 24)
    simp only [World.size_alloc] at h
    exact h
  obtain ⟨L, hLe⟩ : ∃ L, L = w.heap.size + 3 := ⟨_, rfl⟩
  have hL' : Row w1 L 90 (pad zBlk5 (l.length + 1)) := by rw [hLe]; exact hL
  have hzw : w1.heap.size = w.heap.size + 4 := hz1'
  clear hL hz1' hb1
  have HL : Hid (L = w.heap.size + 3) := hLe
  rw [show w.heap.size + 1 + 1 + 1 = L from hLe.symm]
  go_wp2
  have hL3 : w.heap.size + 2 < L := by omega
  clear hLe
  go_loopw [7] (fun i wr => ∃ (k : Nat) (bv : List (BlockD × Value)), k ≤ l.length ∧ i = .int .i64 k ∧ Hid (bv.length = k) ∧ Hid (bdat bv = l.take k) ∧ LiesP wr (w.heap.size + 4) bv ∧ Row wr L 90 (bRow bv (l.length + 1)) ∧ Below (w.heap.size + 3) w1 wr)
    (fun i _ => l.length - (intOf i).toNat)
  case atStart => exact ⟨0, [], Nat.zero_le _, rfl, rfl, rfl, fun x hx => by simp at hx, by simpa [bRow, blkCells] using hL', Below.refl _ _⟩
  case round =>
    clear hL'
    obtain ⟨k, bv, hk, rfl, hvl, hdt, hlies, hL, hbel⟩ := hrel
    have hb0 : Below w.heap.size w wr := HB.trans (hbel.mono (by omega))
    have x0 : wr.cell? ⟨w.heap.size, 4, none⟩ = some (.slice ao l.length cap) := (hbel.cell (by simp)).trans X4.out
    have hzz := hbel.size
    rw [hzw] at hzz
    have hLw := hL.lt
    by_cases hlt : k < l.length
    case neg =>
      obtain rfl : k = l.length := by omega
      have hkv : bv.length < l.length + 1 := by have := hvl.out; omega
      have hRr := R.out.same (hbel.block (w.heap.size + 1) (by omega))
      have hQr := Q.out.same (hbel.block (w.heap.size + 2) (by omega))
      have l1 := hL.cell (bRow_get hkv).2.1
      rw [hvl.out] at l1
      have lf1 := hL.frozen (l.length * 5 + 1)
      have q4 := hQr.cell (i := 4) rfl
      have qf := hQr.frozen 4
      have hLn1 : L ≠ w.heap.size + 1 := by omega
      have hLn2 : L ≠ w.heap.size + 2 := by omega
      have hL2 := (hL.set (bv.length * 5 + 1) (.int .i64 77)).unset (a := ⟨w.heap.size + 2, 4, none⟩) hLn2 (.slice (some ⟨L, 0, none⟩) l.length (l.length + 1))
      have e7 : (bRow bv (l.length + 1)).set (bv.length * 5 + 1) (.int .i64 77) = blkCells bv ++ [.slice none 0 0, .int .i64 77, .int .i64 0, .int .i64 0, .int .i64 0] := by
        have hl := blkCells_length bv
        have hp : l.length + 1 - bv.length = 1 := by have := hvl.out; omega
        unfold bRow
        rw [hp, List.set_append_right _ _ (by omega), hl, Nat.add_sub_cancel_left]
        rfl
      rw [e7, hvl.out] at hL2
      have hR2 := (hRr.unset (a := ⟨L, l.length * 5 + 1, none⟩) (by show w.heap.size + 1 ≠ L; omega) (.int .i64 77)).unset (a := ⟨w.heap.size + 2, 4, none⟩) (by show w.heap.size + 1 ≠ w.heap.size + 2; omega) (.slice (some ⟨L, 0, none⟩) l.length (l.length + 1))
      have hQ2 := (hQr.unset (a := ⟨L, l.length * 5 + 1, none⟩) (by show w.heap.size + 2 ≠ L; omega) (.int .i64 77)).set 4 (.slice (some ⟨L, 0, none⟩) l.length (l.length + 1))
      have hlies2 : LiesP ((wr.setCell ⟨L, l.length * 5 + 1, none⟩ (.int .i64 77)).setCell ⟨w.heap.size + 2, 4, none⟩ (.slice (some ⟨L, 0, none⟩) l.length (l.length + 1))) (w.heap.size + 4) bv :=
        liesP_step hlies fun p xs hlo hp => (hp.unset (a := ⟨L, _, none⟩) (by show p ≠ L; have := HL.out; omega) _).unset (a := ⟨w.heap.size + 2, _, none⟩) (by show p ≠ w.heap.size + 2; omega) _
      have hb2 := (hb0.setCell (p := ⟨L, l.length * 5 + 1, none⟩) (by show _ ≤ L; omega) (.int .i64 77)).setCell (p := ⟨w.heap.size + 2, 4, none⟩) (by show _ ≤ w.heap.size + 2; omega) (.slice (some ⟨L, 0, none⟩) l.length (l.length + 1))
      have hzs : ((wr.setCell ⟨L, l.length * 5 + 1, none⟩ (.int .i64 77)).setCell ⟨w.heap.size + 2, 4, none⟩ (.slice (some ⟨L, 0, none⟩) l.length (l.length + 1))).heap.size = wr.heap.size := by simp
      have hone := blks_one hlies
      have hdt' : Hid (bdat bv = l) := by have := hdt.out; rw [List.take_length] at this; exact this
      go_wp2_with (at_make; refine wpList_make_row _ rfl _ _ 22 rfl 90 i0 _ zBlk5 Try.underlying22 ii iz0 iz1 zBlk5_zero (by decide) _ _ _ _ l.length rfl rfl (by simp) (by simp) ?k1 ?k2 ?_)
      case k1 => first | omega | (rw [iz2]; omega)
      case k2 => unfold maxLen; omega
      intro w2 hD hb3 hz3
      try rw [hzs] at hD
      try rw [hzs] at hb3
      generalize hwe : (wr.setCell ⟨L, l.length * 5 + 1, none⟩ (.int .i64 77)).setCell ⟨w.heap.size + 2, 4, none⟩ (.slice (some ⟨L, 0, none⟩) l.length (l.length + 1)) = we at *
      have hws : wr.heap.size = we.heap.size := hzs.symm
      obtain ⟨D, hDe⟩ : ∃ D, D = wr.heap.size := ⟨_, rfl⟩
      have hLD : L < D := by omega
      have hDn : D ≠ w.heap.size + 1 := by omega
      have hL3 := hL2.below hb3 (by omega)
      have hR3 := hR2.below hb3 (by omega)
      have hQ3 := hQ2.below hb3 (by omega)
      have hlies3 : LiesP w2 (w.heap.size + 4) bv := liesP_step hlies2 fun p xs _ hp => hp.below hb3 (by have := hp.lt; omega)
      have hb4 := hb2.trans (hb3.mono (by omega))
      rw [← hDe] at hD ⊢
      have hpD : Hid (∀ p xs, Row we p 101 xs → p < D) := fun p xs hp => by have := hp.lt; omega
      have hpD2 : Hid (∀ p xs, w.heap.size + 4 ≤ p → Row w2 p 101 xs → p ≠ D) := fun p xs _ hp => row_apart hp hD (by decide)
      clear hwe hzs hws hb3 hz3 hDe x0 l1 lf1 q4 qf hb0 hlies hlies2 hL hL2 hb2 hbel hzz hLw hRr hQr hR2 hQ2
      have hsrc : ∀ ad, some (⟨L, 0, none⟩ : Addr) = some ad → ∀ j u, (blkCells bv)[j]? = some u → w2.cell? (ad.add j) = some u := by
        intro ad had j u hj
        obtain rfl := Option.some.inj had
        rw [Addr.add_lit, Nat.zero_add]
        exact hL3.cell (by rw [List.getElem?_append_left (List.getElem?_eq_some_iff.1 hj).1]; exact hj)
      go_wp2_with (refine wpList_copy_row _ rfl (.tmp 81) (.tmp 82) 22 rfl 90 i0 Try.underlying22 ii 5 iz1 D _ _ (some ⟨L, 0, none⟩) _ _ rfl rfl _ hD (blkCells bv) ?m1 (by intro h; cases h) hsrc ?m2 hone ?_)
      case m1 => rw [blkCells_length, hvl.out, show (l.length + 1).min l.length = l.length from Nat.min_eq_right (by omega)]
      case m2 => rw [blkCells_length, pad_length, hvl.out]; simp [zBlk5]
      intro w3 hD3 hu3
      have e8 : blkCells bv ++ (pad zBlk5 l.length).drop (blkCells bv).length = blkCells bv := by
        rw [List.drop_of_length_le (by rw [pad_length, blkCells_length, hvl.out]; simp [zBlk5]), List.append_nil]
      rw [e8] at hD3
      have hL4 := hL3.same (hu3.block L (by omega))
      have hR4 := hR3.same (hu3.block (w.heap.size + 1) (by omega))
      have hQ4 := hQ3.same (hu3.block (w.heap.size + 2) (by omega))
      have hlies4 : LiesP w3 (w.heap.size + 4) bv := liesP_step hlies3 fun p xs hlo hp => hp.same (hu3.block p (hpD2.out p xs hlo hp))
      have hb5 := hu3.below hb4 (by omega)
      have r0 := hR4.cell (i := 0) rfl
      have r1 := hR4.cell (i := 1) rfl
      have r2 := hR4.cell (i := 2) rfl
      have r3 := hR4.cell (i := 3) rfl
      have r4 := hR4.cell (i := 4) rfl
      have f0 := hR4.frozen 0
      have f1 := hR4.frozen 1
      have f2 := hR4.frozen 2
      have f3 := hR4.frozen 3
      have f4 := hR4.frozen 4
      have q0 := hQ4.cell (i := 0) (u := .int .i64 a0) rfl
      have q1 := hQ4.cell (i := 1) (u := .int .i64 a1) rfl
      have q2 := hQ4.cell (i := 2) (u := .int .i64 a2) rfl
      have q3 := hQ4.cell (i := 3) (u := .int .i64 a3) rfl
      have q4 := hQ4.cell (i := 4) (u := .slice (some ⟨L, 0, none⟩) l.length (l.length + 1)) rfl
      have hfin := hyes (((((w3.setCell ⟨w.heap.size + 1, 0, none⟩ (.int .i64 a0)).setCell ⟨w.heap.size + 1, 1, none⟩ (.int .i64 a1)).setCell ⟨w.heap.size + 1, 2, none⟩ (.int .i64 a2)).setCell ⟨w.heap.size + 1, 3, none⟩ (.int .i64 a3)).setCell ⟨w.heap.size + 1, 4, none⟩ (.slice (some ⟨L, 0, none⟩) l.length (l.length + 1))) bv L D hdt'.out
        ((liesP_step hlies4 fun p xs hlo hp => ((((hp.unset (a := ⟨w.heap.size + 1, _, none⟩) (by show p ≠ w.heap.size + 1; omega) _).unset (a := ⟨w.heap.size + 1, _, none⟩) (by show p ≠ w.heap.size + 1; omega) _).unset (a := ⟨w.heap.size + 1, _, none⟩) (by show p ≠ w.heap.size + 1; omega) _).unset (a := ⟨w.heap.size + 1, _, none⟩) (by show p ≠ w.heap.size + 1; omega) _).unset (a := ⟨w.heap.size + 1, _, none⟩) (by show p ≠ w.heap.size + 1; omega) _).lower (by omega))
        (((((hL4.unset (a := ⟨w.heap.size + 1, _, none⟩) hLn1 _).unset (a := ⟨w.heap.size + 1, _, none⟩) hLn1 _).unset (a := ⟨w.heap.size + 1, _, none⟩) hLn1 _).unset (a := ⟨w.heap.size + 1, _, none⟩) hLn1 _).unset (a := ⟨w.heap.size + 1, _, none⟩) hLn1 _)
        (((((hD3.unset (a := ⟨w.heap.size + 1, _, none⟩) hDn _).unset (a := ⟨w.heap.size + 1, _, none⟩) hDn _).unset (a := ⟨w.heap.size + 1, _, none⟩) hDn _).unset (a := ⟨w.heap.size + 1, _, none⟩) hDn _).unset (a := ⟨w.heap.size + 1, _, none⟩) hDn _)
        (((((hb5.setCell (by simp) _).setCell (by simp) _).setCell (by simp) _).setCell (by simp) _).setCell (by simp) _)
      rw [hvl.out] at hfin
      clear hyes hlies4 hL4 hD3 hb5 hR4 hQ4 hu3 hD hL3 hR3 hQ3 hlies3 hsrc hone hb4
      go_wp2
      refine bodyPost_ret (v := .tuple #[.agg #[.int .i64 a0, .int .i64 a1, .int .i64 a2, .int .i64 a3, .slice (some ⟨L, 0, none⟩) l.length (l.length + 1)], .slice (some ⟨D, 0, none⟩) l.length l.length]) (by simp [results, Try.results28, go_sem, r0, r1, r2, r3, r4]) rfl ?_
      exact hfin
    obtain ⟨b, off, sv, rfl, c1, c2, c3, c4, c5, c6⟩ := hc k hlt
    have d1 := cell_keep hb0 c1
    have d2 := cell_keep hb0 c2
    have d3 := cell_keep hb0 c3
    have d4 := cell_keep hb0 c4
    have d5 := cell_keep hb0 c5
    have d6 := c6.keep hb0
    have hbw : b < w.heap.size := World.block_lt_of_cell? _ _ c1
    have hm := hn2 k hlt
    obtain ⟨so, sc, e3, _, _⟩ := id d6
    subst e3
    go_wp2_with (first | (at_make; refine wpList_make_row _ rfl _ _ 86 rfl 101 j0 _ zOp4 Try.underlying86 ji jz0 jz1 zOp4_zero (by decide) _ _ _ _ ((bops l k).length + 1) rfl rfl (by simp) (by simp) ?e1 ?e2 ?_))
    case e1 => first | omega | (rw [jz2]; omega)
    case e2 => unfold maxLen; omega
    intro w2 hP hb2 hz2
    obtain ⟨P, hPe⟩ : ∃ P, P = wr.heap.size := ⟨_, rfl⟩
    have hz2' := hz2.out
    have hb2w := hb2
    rw [← hPe] at hP hb2 hz2' ⊢
    clear hz2
    have hLP : L < P := by omega
    have hbP : b < P := by omega
    have hLb : b < L := by omega
    have HP : Hid (P = wr.heap.size) := hPe
    have hP4 : w.heap.size + 4 ≤ P := by omega
    clear hPe
    have f0 := (hb2.cell (p := ⟨w.heap.size, 4, none⟩) (by show w.heap.size < P; omega)).trans x0
    have f1 := (hb2.cell (p := ⟨b, off + k * 5, none⟩) (by show b < P; omega)).trans d1
    have f2 := (hb2.cell (p := ⟨b, off + k * 5 + 1, none⟩) (by show b < P; omega)).trans d2
    have f3 := (hb2.cell (p := ⟨b, off + k * 5 + 2, none⟩) (by show b < P; omega)).trans d3
    have f4 := (hb2.cell (p := ⟨b, off + k * 5 + 3, none⟩) (by show b < P; omega)).trans d4
    have f5 := (hb2.cell (p := ⟨b, off + k * 5 + 4, none⟩) (by show b < P; omega)).trans d5
    have f6 := d6.keep hb2w
    go_wp2_with (refine wpList_copy_row _ rfl (.tmp 41) (.tmp 47) 86 rfl 101 j0 Try.underlying86 ji 4 jz1 P _ _ so _ _ rfl rfl _ hP (opCells (bops l k)) ?g1 (rdo_none f6) (rdo_cells f6) ?g2 (ops_one _) ?_)
    case g1 => rw [opCells_length, show (bops l k).length.min ((bops l k).length + 1) = (bops l k).length from Nat.min_eq_left (by omega)]
    case g2 => rw [opCells_length, pad_length]; simp [zOp4]; omega
    intro w3 hP3 hu3
    rw [oRow_copy] at hP3
    have hL3' : Row w3 L 90 (bRow bv (l.length + 1)) := (hL.below hb2 hLP).same (hu3.block L (by omega))
    have p0 := hP3.cell (i := (bops l k).length * 4) (u := .int .i64 0) (by rw [List.getElem?_append_right (by rw [opCells_length]; omega), opCells_length, Nat.sub_self]; rfl)
    have pf := hP3.frozen ((bops l k).length * 4)
    have hkv : bv.length < l.length + 1 := by have := hvl.out; omega
    obtain ⟨m0, m1, m2, m3, m4⟩ := bRow_get hkv
    have l0 := hL3'.cell m0
    have l1 := hL3'.cell m1
    have l2 := hL3'.cell m2
    have l3 := hL3'.cell m3
    have l4 := hL3'.cell m4
    clear m0 m1 m2 m3 m4
    rw [hvl.out] at l0 l1 l2 l3 l4
    have lf0 := hL3'.frozen (k * 5)
    have lf1 := hL3'.frozen (k * 5 + 1)
    have lf2 := hL3'.frozen (k * 5 + 2)
    have lf3 := hL3'.frozen (k * 5 + 3)
    have lf4 := hL3'.frozen (k * 5 + 4)
    have g0 := (hu3.cell (b := w.heap.size) (o := 4) (by omega)).trans f0
    have g1' := (hu3.cell (b := b) (o := off + k * 5) (by omega)).trans f1
    have g2' := (hu3.cell (b := b) (o := off + k * 5 + 1) (by omega)).trans f2
    have g3' := (hu3.cell (b := b) (o := off + k * 5 + 2) (by omega)).trans f3
    have g4' := (hu3.cell (b := b) (o := off + k * 5 + 3) (by omega)).trans f4
    have g5' := (hu3.cell (b := b) (o := off + k * 5 + 4) (by omega)).trans f5
    have hb3 : Below (w.heap.size + 3) w1 w3 := hu3.below (hbel.trans (hb2.mono (by omega))) (by omega)
    have hPL : P ≠ L := by omega
    have hnP : L ≠ P := by omega
    clear hb2w f0 f1 f2 f3 f4 f5 f6 x0 d1 d2 d3 d4 d5
    have q1 := hP3.set ((bops l k).length * 4) (.int .i64 77)
    rw [oRow_set] at q1
    have q2 := ((((q1.unset (a := ⟨L, k * 5, none⟩) hPL (.slice (some ⟨P, 0, none⟩) (bops l k).length ((bops l k).length + 1))).unset (a := ⟨L, k * 5 + 1, none⟩) hPL (.int .i64 (bek l k))).unset (a := ⟨L, k * 5 + 2, none⟩) hPL (.int .i64 (ber l k))).unset (a := ⟨L, k * 5 + 3, none⟩) hPL (.int .i64 (bex l k))).unset (a := ⟨L, k * 5 + 4, none⟩) hPL (.int .i64 (bey l k))
    have q3 := (((((hL3'.unset (a := ⟨P, (bops l k).length * 4, none⟩) hnP (.int .i64 77)).set (bv.length * 5) (.slice (some ⟨P, 0, none⟩) (bops l k).length ((bops l k).length + 1))).set (bv.length * 5 + 1) (.int .i64 (bek l k))).set (bv.length * 5 + 2) (.int .i64 (ber l k))).set (bv.length * 5 + 3) (.int .i64 (bex l k))).set (bv.length * 5 + 4) (.int .i64 (bey l k))
    rw [bRow_set hkv (bops l k), hvl.out] at q3
    have q4 : LiesP ((((((w3.setCell ⟨P, (bops l k).length * 4, none⟩ (.int .i64 77)).setCell ⟨L, k * 5, none⟩ (.slice (some ⟨P, 0, none⟩) (bops l k).length ((bops l k).length + 1))).setCell ⟨L, k * 5 + 1, none⟩ (.int .i64 (bek l k))).setCell ⟨L, k * 5 + 2, none⟩ (.int .i64 (ber l k))).setCell ⟨L, k * 5 + 3, none⟩ (.int .i64 (bex l k))).setCell ⟨L, k * 5 + 4, none⟩ (.int .i64 (bey l k))) (w.heap.size + 4)
        (bv ++ [(⟨bops l k, ⟨bek l k, ber l k, bex l k, bey l k⟩⟩, .slice (some ⟨P, 0, none⟩) (bops l k).length ((bops l k).length + 1))]) := by
      intro x hx
      rcases List.mem_append.1 hx with hx | hx
      · refine liesP_step hlies ?_ x hx
        intro p xs hlo hp
        have hpP : p < P := by have := hp.lt; rw [HP.out]; exact this
        have hpL : p ≠ L := by have := HL.out; omega
        exact ((((((hp.same (hb2.block p hpP)).same (hu3.block p (by omega))).unset (a := ⟨P, _, none⟩) (by show p ≠ P; omega) _).unset (a := ⟨L, _, none⟩) hpL _).unset (a := ⟨L, _, none⟩) hpL _).unset (a := ⟨L, _, none⟩) hpL _).unset (a := ⟨L, _, none⟩) hpL _ |>.unset (a := ⟨L, _, none⟩) hpL _
      · simp at hx
        subst hx
        exact ⟨P, hP4, rfl, q2⟩
    have q5 := (((((hb3.setCell (p := ⟨P, (bops l k).length * 4, none⟩) (by show _ ≤ P; omega) (.int .i64 77)).setCell (p := ⟨L, k * 5, none⟩) (by show _ ≤ L; omega) (.slice (some ⟨P, 0, none⟩) (bops l k).length ((bops l k).length + 1))).setCell (p := ⟨L, k * 5 + 1, none⟩) (by show _ ≤ L; omega) (.int .i64 (bek l k))).setCell (p := ⟨L, k * 5 + 2, none⟩) (by show _ ≤ L; omega) (.int .i64 (ber l k))).setCell (p := ⟨L, k * 5 + 3, none⟩) (by show _ ≤ L; omega) (.int .i64 (bex l k))).setCell (p := ⟨L, k * 5 + 4, none⟩) (by show _ ≤ L; omega) (.int .i64 (bey l k))
    clear q1 q2 hb3 hlies hL hb2 hyes R Q
    go_wp2
    go_roundw
    case rel =>
      refine ⟨k + 1, _, by omega, by go_num, ?_, ?_, q4, q3, q5⟩
      · show List.length _ = _
        have := hvl.out
        simp; exact this
      · show bdat _ = _
        have e := hdt.out
        rw [take_getD l bz k hlt, ← e]
        simp [bdat, bops, bek, ber, bex, bey, bfin]
    case measure => simp [intOf]; omega

end Go.Proofs.Ytblhmeidbjigaaa

/- Does a program with spare room read as it did? The calls of the program itself. -/
set_option linter.unusedSimpArgs false
set_option linter.unusedVariables false
namespace Go.Proofs.Ytblhmeidbjigaaa
open Go.RowKit

theorem rows_rdb {w : World} {lo : Nat} {bv : List (BlockD × Value)} {L cap : Nat} {t : List Value} (hl : LiesP w lo bv) (hL : Row w L 90 (blkCells bv ++ t)) (hn : bv.length ≤ 9223372036854775807) (hn2 : ∀ x ∈ bv, x.1.ops.length ≤ 9223372036854775807) :
    RdBlocks w (.slice (some ⟨L, 0, none⟩) bv.length cap) (bdat bv) := by
  refine ⟨_, _, by rw [bdat_length], by rw [bdat_length]; exact hn, fun i hi => ?_⟩
  rw [bdat_length] at hi
  have hpl := blkCells_length bv
  obtain ⟨g0, g1, g2, g3, g4⟩ := blkCells_get bv i hi
  obtain ⟨e1, e2⟩ := bdat_get bv hi
  obtain ⟨p, _, ep, hp⟩ := hl _ (List.getElem_mem hi)
  have key : ∀ i u, i < bv.length * 5 → (blkCells bv)[i]? = some u → w.cell? ⟨L, i, none⟩ = some u := fun i u hi hu => hL.cell (by rw [List.getElem?_append_left (by omega)]; exact hu)
  refine ⟨L, 0, bv[i].2, rfl, ?_, ?_, ?_, ?_, ?_, ?_⟩
  · rw [Nat.zero_add]; exact key _ _ (by omega) g0
  · rw [Nat.zero_add]; unfold bek; rw [e2]; exact key _ _ (by omega) g1
  · rw [Nat.zero_add]; unfold ber; rw [e2]; exact key _ _ (by omega) g2
  · rw [Nat.zero_add]; unfold bex; rw [e2]; exact key _ _ (by omega) g3
  · rw [Nat.zero_add]; unfold bey; rw [e2]; exact key _ _ (by omega) g4
  · rw [e1, ep]
    refine ⟨_, _, rfl, hn2 _ (List.getElem_mem hi), fun j hj => ?_⟩
    have hql := opCells_length bv[i].1.ops
    obtain ⟨k1, k2, k3, k4⟩ := opCells_get bv[i].1.ops j hj
    have key2 : ∀ i' u, i' < bv[i].1.ops.length * 4 → (opCells bv[i].1.ops)[i']? = some u → w.cell? ⟨p, i', none⟩ = some u := fun i' u hi hu => hp.cell (by rw [List.getElem?_append_left (by omega)]; exact hu)
    refine ⟨p, 0, rfl, ?_, ?_, ?_, ?_⟩
    · rw [Nat.zero_add]; exact key2 _ _ (by omega) k1
    · rw [Nat.zero_add]; exact key2 _ _ (by omega) k2
    · rw [Nat.zero_add]; exact key2 _ _ (by omega) k3
    · rw [Nat.zero_add]; exact key2 _ _ (by omega) k4

theorem LiesP.keep {w w' : World} {lo : Nat} {bv : List (BlockD × Value)} (h : LiesP w lo bv) (hb : Below w.heap.size w w') : LiesP w' lo bv := liesP_step h fun _ _ _ hp => hp.keep hb

set_option maxRecDepth 100000 in
set_option maxHeartbeats 4000000 in
theorem wholeProg_any (a0 a1 a2 a3 : Int) (bv : List (BlockD × Value)) (L D lo : Nat) (u : Value) (w : World) (hl : LiesP w lo bv) (hL : Row w L 90 (blkCells bv ++ [.slice none 0 0, .int .i64 77, .int .i64 0, .int .i64 0, .int .i64 0])) (hD : Row w D 90 (blkCells bv)) (hu : RdBlocks w u (bdat bv))
    (hn : bv.length ≤ 2513169434916) (hn2 : ∀ x ∈ bv, x.1.ops.length ≤ 4398046511104) :
    Calls Try.prog 29 #[.agg #[.int .i64 a0, .int .i64 a1, .int .i64 a2, .int .i64 a3, .slice (some ⟨L, 0, none⟩) bv.length (bv.length + 1)], .slice (some ⟨D, 0, none⟩) bv.length bv.length, .agg #[.int .i64 a0, .int .i64 a1, .int .i64 a2, .int .i64 a3, u]] w fun e w' => e = .returned (.bool true) ∧ Below w.heap.size w w' := by
  have n1 : bv.length ≤ 9223372036854775807 := by omega
  have n2 : ∀ x ∈ bv, x.1.ops.length ≤ 9223372036854775807 := fun x hx => by have := hn2 x hx; omega
  have r1 := rows_rdb (cap := bv.length + 1) hl hL n1 n2
  have r2 := rows_rdb (t := []) (cap := bv.length) hl (by simpa using hD) n1 n2
  obtain ⟨uo, uc, ue, _, _⟩ := id hu
  subst ue
  rw [bdat_length] at hu ⊢
  have hnq := fun (w : World) => run_neq_slice_nil_any (P := Try.prog) w 86 101 none 0 0 0 0 Try.underlying86
  have HL := hL.lt
  have HD := hD.lt
  have hbX : Below w.heap.size w (((w.alloc (.cells #[.int .i64 a0, .int .i64 a1, .int .i64 a2, .int .i64 a3, .slice (some ⟨L, 0, none⟩) bv.length (bv.length + 1)] 24)).alloc (.cells #[.int .i64 a0, .int .i64 a1, .int .i64 a2, .int .i64 a3, .slice uo bv.length uc] 24)).alloc (.cells #[.int .i64 a0, .int .i64 a1, .int .i64 a2, .int .i64 a3, .slice (some ⟨D, 0, none⟩) bv.length bv.length] 24)) :=
    (((Below.refl w.heap.size w).alloc (Nat.le_refl _) _).alloc (by simp) _).alloc (by simp; omega) _
  have W0 : Row (((w.alloc (.cells #[.int .i64 a0, .int .i64 a1, .int .i64 a2, .int .i64 a3, .slice (some ⟨L, 0, none⟩) bv.length (bv.length + 1)] 24)).alloc (.cells #[.int .i64 a0, .int .i64 a1, .int .i64 a2, .int .i64 a3, .slice uo bv.length uc] 24)).alloc (.cells #[.int .i64 a0, .int .i64 a1, .int .i64 a2, .int .i64 a3, .slice (some ⟨D, 0, none⟩) bv.length bv.length] 24)) w.heap.size 24 [.int .i64 a0, .int .i64 a1, .int .i64 a2, .int .i64 a3, .slice (some ⟨L, 0, none⟩) bv.length (bv.length + 1)] := by
    have h : Row (w.alloc (.cells #[.int .i64 a0, .int .i64 a1, .int .i64 a2, .int .i64 a3, .slice (some ⟨L, 0, none⟩) bv.length (bv.length + 1)] 24)) w.heap.size 24 [.int .i64 a0, .int .i64 a1, .int .i64 a2, .int .i64 a3, .slice (some ⟨L, 0, none⟩) bv.length (bv.length + 1)] := heap_alloc_new w _
    exact (h.alloc _).alloc _
  have W1 : Row (((w.alloc (.cells #[.int .i64 a0, .int .i64 a1, .int .i64 a2, .int .i64 a3, .slice (some ⟨L, 0, none⟩) bv.length (bv.length + 1)] 24)).alloc (.cells #[.int .i64 a0, .int .i64 a1, .int .i64 a2, .int .i64 a3, .slice uo bv.length uc] 24)).alloc (.cells #[.int .i64 a0, .int .i64 a1, .int .i64 a2, .int .i64 a3, .slice (some ⟨D, 0, none⟩) bv.length bv.length] 24)) (w.heap.size + 1) 24 [.int .i64 a0, .int .i64 a1, .int .i64 a2, .int .i64 a3, .slice uo bv.length uc] := by
    have h : Row ((w.alloc (.cells #[.int .i64 a0, .int .i64 a1, .int .i64 a2, .int .i64 a3, .slice (some ⟨L, 0, none⟩) bv.length (bv.length + 1)] 24)).alloc (.cells #[.int .i64 a0, .int .i64 a1, .int .i64 a2, .int .i64 a3, .slice uo bv.length uc] 24)) (w.heap.size + 1) 24 [.int .i64 a0, .int .i64 a1, .int .i64 a2, .int .i64 a3, .slice uo bv.length uc] := heap_alloc2_new w _ _
    exact h.alloc _
  have W2 : Row (((w.alloc (.cells #[.int .i64 a0, .int .i64 a1, .int .i64 a2, .int .i64 a3, .slice (some ⟨L, 0, none⟩) bv.length (bv.length + 1)] 24)).alloc (.cells #[.int .i64 a0, .int .i64 a1, .int .i64 a2, .int .i64 a3, .slice uo bv.length uc] 24)).alloc (.cells #[.int .i64 a0, .int .i64 a1, .int .i64 a2, .int .i64 a3, .slice (some ⟨D, 0, none⟩) bv.length bv.length] 24)) (w.heap.size + 2) 24 [.int .i64 a0, .int .i64 a1, .int .i64 a2, .int .i64 a3, .slice (some ⟨D, 0, none⟩) bv.length bv.length] := by
    have h := heap_alloc2_new (w.alloc (.cells #[.int .i64 a0, .int .i64 a1, .int .i64 a2, .int .i64 a3, .slice (some ⟨L, 0, none⟩) bv.length (bv.length + 1)] 24)) (.cells #[.int .i64 a0, .int .i64 a1, .int .i64 a2, .int .i64 a3, .slice uo bv.length uc] 24) (.cells #[.int .i64 a0, .int .i64 a1, .int .i64 a2, .int .i64 a3, .slice (some ⟨D, 0, none⟩) bv.length bv.length] 24)
    simp only [World.size_alloc] at h
    exact h
  have hzX : (((w.alloc (.cells #[.int .i64 a0, .int .i64 a1, .int .i64 a2, .int .i64 a3, .slice (some ⟨L, 0, none⟩) bv.length (bv.length + 1)] 24)).alloc (.cells #[.int .i64 a0, .int .i64 a1, .int .i64 a2, .int .i64 a3, .slice uo bv.length uc] 24)).alloc (.cells #[.int .i64 a0, .int .i64 a1, .int .i64 a2, .int .i64 a3, .slice (some ⟨D, 0, none⟩) bv.length bv.length] 24)).heap.size = w.heap.size + 3 := by simp
  go_enter Try.func29, Try.ntmps29
  go_wp2_with fail
  refine (sameProg_any _ _ _ _ _ _ _ _ (r1.keep hbX) (hu.keep hbX)).mono ?_
  rintro e w1 ⟨rfl, hb1⟩
  have V0 := W0.keep hb1
  have V1 := W1.keep hb1
  have V2 := W2.keep hb1
  have hb01 : Below w.heap.size w w1 := hbX.trans (hb1.mono (by rw [hzX]; omega))
  have hz1 := hb1.size
  rw [hzX] at hz1
  clear hb1 W0 W1 W2 hbX hzX
  have x4 := V0.cell (i := 4) rfl
  have y0 := V1.cell (i := 0) rfl
  have y1 := V1.cell (i := 1) rfl
  have y2 := V1.cell (i := 2) rfl
  have y3 := V1.cell (i := 3) rfl
  have y4 := V1.cell (i := 4) rfl
  have z0 := V2.cell (i := 0) rfl
  have z1 := V2.cell (i := 1) rfl
  have z2 := V2.cell (i := 2) rfl
  have z3 := V2.cell (i := 3) rfl
  have z4 := V2.cell (i := 4) rfl
  go_wp2_with fail
  refine (sameProg_any _ _ _ _ _ _ _ _ (r2.keep hb01) (hu.keep hb01)).mono ?_
  rintro e w2 ⟨rfl, hb2⟩
  have hb02 := hb01.trans (hb2.mono (by omega))
  have yy := cell_keep hb2 x4
  have hL2 := hL.keep hb02
  have hD2 := hD.keep hb02
  have hl2 := hl.keep hb02
  have hpl := blkCells_length bv
  have l0 := hL2.cell (i := bv.length * 5) (u := .slice none 0 0) (by rw [List.getElem?_append_right (by omega), hpl, Nat.sub_self]; rfl)
  have l1 := hL2.cell (i := bv.length * 5 + 1) (u := .int .i64 77) (by rw [List.getElem?_append_right (by omega), hpl, Nat.add_sub_cancel_left]; rfl)
  clear x4 y0 y1 y2 y3 y4 z0 z1 z2 z3 z4 V0 V1 V2 r1 r2 hb01 hb2 hL hD hl
  go_wp2
  go_loop [12] (fun i => ∃ (k : Nat), k ≤ bv.length ∧ i = .int .i64 k) (fun i => bv.length - (intOf i).toNat)
  case atStart => exact ⟨0, Nat.zero_le _, rfl⟩
  case round =>
    obtain ⟨k, hk, rfl⟩ := hrel
    by_cases hlt : k < bv.length
    · obtain ⟨g0, _⟩ := blkCells_get bv k hlt
      obtain ⟨p, _, ep, hp⟩ := hl2 _ (List.getElem_mem hlt)
      have hm := hn2 _ (List.getElem_mem hlt)
      have d2 := hD2.cell g0
      rw [ep] at d2
      have hql := opCells_length bv[k].1.ops
      have p0 := hp.cell (i := bv[k].1.ops.length * 4) (u := .int .i64 77) (by rw [List.getElem?_append_right (by omega), hql, Nat.sub_self]; rfl)
      clear ep g0 hql hp
      generalize bv[k].1.ops.length = m at *
      go_wp2
      go_round
      case rel => exact ⟨k + 1, by omega, by go_num⟩
      case measure => simp [intOf]; omega
    · go_wp2
      go_ret
      exact ⟨rfl, hb02⟩

/-! ### The calls themselves -/

set_option maxRecDepth 100000 in
set_option maxHeartbeats 1000000 in
theorem tEncode_any (p : ProgD) (v : Value) (w : World) (hr : RdBlocks w v p.blocks) :
    Calls Try.prog 17 #[progV p v] w fun e w' => e = .returned (.tuple (if progGood p then #[.string (str (progText p)), .int .i64 0] else #[.string ⟨#[]⟩, .int .i64 1])) ∧ Below w.heap.size w w' := by
  obtain ⟨a0, a1, a2, a3, l⟩ := p
  unfold progV
  simp only at hr ⊢
  obtain ⟨ao, cap, e0, _, _⟩ := id hr
  subst e0
  have hc := cEncode_any a0 a1 a2 a3 _ l (w.alloc (.cells #[.int .i64 a0, .int .i64 a1, .int .i64 a2, .int .i64 a3, .slice ao l.length cap] 24)) (hr.keep ((Below.refl _ _).alloc (Nat.le_refl _) _))
  cases hg : progGood ⟨a0, a1, a2, a3, l⟩
  · simp only [hg] at hc
    go_enter Try.func17, Try.ntmps17
    go_wp2_with fail
    refine hc.mono ?_
    rintro e w1 ⟨rfl, hb1⟩
    clear hc
    go_wp2
    go_ret2
    exact ⟨by simp [hg], ((Below.refl _ _).alloc (Nat.le_refl _) _).trans (hb1.mono (by simp))⟩
  · simp only [hg] at hc
    go_enter Try.func17, Try.ntmps17
    go_wp2_with fail
    refine hc.mono ?_
    rintro e w1 ⟨rfl, hb1⟩
    clear hc
    go_wp2
    go_ret2
    exact ⟨by simp [hg], ((Below.refl _ _).alloc (Nat.le_refl _) _).trans (hb1.mono (by simp))⟩

set_option maxRecDepth 100000 in
set_option maxHeartbeats 1000000 in
theorem tDecode_cps (s : ByteArray) (w : World) (hs : s.size ≤ maxLen) (Post : Ending → World → Prop)
    (hyes : ∀ a0 a1 a2 a3 l v bv w', OwnBlocks w' w.heap.size v bv → bdat bv = l → progGood ⟨a0, a1, a2, a3, l⟩ = true → str (progText ⟨a0, a1, a2, a3, l⟩) = s → Below w.heap.size w w' → Post (.returned (.tuple #[.agg #[.int .i64 a0, .int .i64 a1, .int .i64 a2, .int .i64 a3, v], .int .i64 0])) w')
    (hno : ∀ w', (∀ p, progGood p = true → str (progText p) ≠ s) → Below w.heap.size w w' → Post (.returned (.tuple #[.agg #[.int .i64 0, .int .i64 0, .int .i64 0, .int .i64 0, .slice none 0 0], .int .i64 1])) w') :
    Calls Try.prog 16 #[.string s] w Post := by
  have hc := cDecode_any s (w.alloc (.cells #[.int .i64 0, .int .i64 0, .int .i64 0, .int .i64 0, .slice none 0 0] 24)) hs
  have hW : Row (w.alloc (.cells #[.int .i64 0, .int .i64 0, .int .i64 0, .int .i64 0, .slice none 0 0] 24)) w.heap.size 24 [.int .i64 0, .int .i64 0, .int .i64 0, .int .i64 0, .slice none 0 0] := heap_alloc_new w _
  go_enter Try.func16, Try.ntmps16
  go_wp2_with fail
  refine hc.mono ?_
  clear hc
  rintro e w1 ⟨hor, hb1⟩
  have hz1 := hb1.size
  simp at hz1
  have V := hW.keep hb1
  have x0 := V.cell (i := 0) rfl
  have x1 := V.cell (i := 1) rfl
  have x2 := V.cell (i := 2) rfl
  have x3 := V.cell (i := 3) rfl
  have x4 := V.cell (i := 4) rfl
  have f0 := V.frozen 0
  have f1 := V.frozen 1
  have f2 := V.frozen 2
  have f3 := V.frozen 3
  have f4 := V.frozen 4
  have hb2 : Below w.heap.size w w1 := ((Below.refl _ _).alloc (Nat.le_refl _) _).trans (hb1.mono (by simp))
  rcases hor with ⟨⟨a0, a1, a2, a3, l⟩, v, bv, rfl, ho, hd, hg, ht⟩ | ⟨hn, rfl⟩
  · obtain ⟨ao, cap, rfl⟩ := owns_slice ho.row
    have ho' : OwnBlocks w1 (w.heap.size + 1) (.slice ao bv.length cap) bv := by simpa using ho
    have hfin := hyes a0 a1 a2 a3 l (.slice ao bv.length cap) bv (((((w1.setCell ⟨w.heap.size, 0, none⟩ (.int .i64 a0)).setCell ⟨w.heap.size, 1, none⟩ (.int .i64 a1)).setCell ⟨w.heap.size, 2, none⟩ (.int .i64 a2)).setCell ⟨w.heap.size, 3, none⟩ (.int .i64 a3)).setCell ⟨w.heap.size, 4, none⟩ (.slice ao bv.length cap))
      ((((((ho'.set (by simp) _).set (by simp) _).set (by simp) _).set (by simp) _).set (by simp) _).base (by omega)) hd hg ht
      (((((hb2.setCell (by simp) _).setCell (by simp) _).setCell (by simp) _).setCell (by simp) _).setCell (by simp) _)
    clear hyes hno ho ho' hg ht
    unfold progV
    go_wp2
    exact bodyPost_ret (v := .tuple #[.agg #[.int .i64 a0, .int .i64 a1, .int .i64 a2, .int .i64 a3, .slice ao bv.length cap], .int .i64 0]) (by simp [results, Try.results16, go_sem, x0, x1, x2, x3, x4]) rfl hfin
  · have hfin := hno (((((w1.setCell ⟨w.heap.size, 0, none⟩ (.int .i64 0)).setCell ⟨w.heap.size, 1, none⟩ (.int .i64 0)).setCell ⟨w.heap.size, 2, none⟩ (.int .i64 0)).setCell ⟨w.heap.size, 3, none⟩ (.int .i64 0)).setCell ⟨w.heap.size, 4, none⟩ (.slice none 0 0)) hn
      (((((hb2.setCell (by simp) _).setCell (by simp) _).setCell (by simp) _).setCell (by simp) _).setCell (by simp) _)
    clear hyes hno hn
    go_wp2
    exact bodyPost_ret (v := .tuple #[.agg #[.int .i64 0, .int .i64 0, .int .i64 0, .int .i64 0, .slice none 0 0], .int .i64 1]) (by simp [results, Try.results16, go_sem, x0, x1, x2, x3, x4]) rfl hfin

end Go.Proofs.Ytblhmeidbjigaaa

/- Writing behind the end of a program's lists. -/
set_option linter.unusedSimpArgs false
set_option linter.unusedVariables false
namespace Go.Proofs.Ytblhmeidbjigaaa
open Go.RowKit

set_option maxRecDepth 100000 in
set_option maxHeartbeats 2000000 in
theorem behindProg_any (a0 a1 a2 a3 : Int) (v : Value) (hv : List (BlockD × Value)) (w : World) (base : Nat) (hown : OwnBlocks w base v hv) (hbs : base ≤ w.heap.size) (hl : hv.length ≤ 1000) (hl2 : ∀ x ∈ hv, x.1.ops.length ≤ 1000)
    (S : Nat → Prop) (hSv : ∀ g, v.ownBlock = some g → S g) (hSx : ∀ x ∈ hv, ∀ g, x.2.ownBlock = some g → S g) :
    Calls Try.prog 34 #[.agg #[.int .i64 a0, .int .i64 a1, .int .i64 a2, .int .i64 a3, v]] w fun e w' => e = .returned (.tuple #[]) ∧ OwnBlocks w' base v hv ∧ Keep S w w' := by
  obtain ⟨i0, ii, iz0, iz1, iz2⟩ := info_parts Try.infoBlk
  obtain ⟨j0, ji, jz0, jz1, jz2⟩ := info_parts Try.infoOp
  obtain ⟨ao, cap, rfl⟩ := owns_slice hown.row
  have hrd := hown.rd
  go_enter Try.func34, Try.ntmps34
  go_wp2
  go_loopw [2] (fun i wr => ∃ (k : Nat), k ≤ hv.length ∧ i = .int .i64 k ∧ OwnBlocks wr base (.slice ao hv.length cap) hv ∧ wr.cell? ⟨w.heap.size, 4, none⟩ = some (.slice ao hv.length cap) ∧ Keep S w wr ∧ w.heap.size + 1 ≤ wr.heap.size)
    (fun i _ => hv.length - (intOf i).toNat)
  case atStart => exact ⟨0, Nat.zero_le _, rfl, hown.alloc _, by simp, (Keep.refl _ _).alloc _, by simp⟩
  case round =>
    obtain ⟨k, hk, rfl, ho, hx0, hbel, hz⟩ := hrel
    by_cases hlt : k < hv.length
    case neg =>
      obtain ⟨wo, hwo⟩ : ∃ wo, wo = wr := ⟨_, rfl⟩
      subst hwo
      go_wp2
      go_loopw [5, 6] (fun l i w2 => ∃ (j : Nat), j ≤ 9 ∧ i = .int .i64 j ∧ OwnBlocks w2 base (.slice ao hv.length cap) hv ∧ w2.ownsRow base 90 5 l (hv.length + j) (blkCells hv ++ pad [.slice none 0 0, .int .i64 0, .int .i64 0, .int .i64 0, .int .i64 0] j) ∧ Hid (∀ g, l.ownBlock = some g → S g ∨ w.heap.size ≤ g) ∧ Keep S w w2 ∧ w.heap.size + 1 ≤ w2.heap.size)
        (fun _ i _ => 9 - (intOf i).toNat)
      case atStart => exact ⟨0, Nat.zero_le _, rfl, ho, by simpa [pad] using ho.row, fun g hg => .inl (hSv g hg), hbel, hz⟩
      case round =>
        obtain ⟨j, hj, rfl, ho2, hrow, hlb, hbin, hz2⟩ := hrel
        obtain ⟨lo, lc, rfl⟩ := owns_slice hrow
        by_cases hjl : j < 9
        · have HP : Hid (pad [.slice none 0 0, .int .i64 0, .int .i64 0, .int .i64 0, .int .i64 0] (j + 1) = pad [.slice none 0 0, .int .i64 0, .int .i64 0, .int .i64 0, .int .i64 0] j ++ [.slice none 0 0, .int .i64 0, .int .i64 0, .int .i64 0, .int .i64 0]) := rfl
          go_wp2_with (at_builtin; refine wpList_append_stay _ rfl _ _ 22 rfl base 90 i0 (.agg #[.slice none 0 0, .int .i64 0, .int .i64 0, .int .i64 0, .int .i64 0]) 5 56 Try.underlying22 ii iz0 iz1 iz2 rfl (by decide) _ _ _ rfl (hrow.alloc _) ⟨wr.heap.size, 0, none⟩ 1 1 [.slice none 0 0, .int .i64 0, .int .i64 0, .int .i64 0, .int .i64 0] rfl rfl (five_new wr _ _ _ _ _ _) ?d2 ?d3 ?d4 ?d5 (by decide) ?_)
          case d2 => first | exact ⟨rfl, rfl, rfl, rfl, rfl⟩ | exact five_one | (intro u hu; simp at hu; rcases hu with rfl | rfl <;> rfl)
          case d3 => unfold maxLen; omega
          case d4 => omega
          case d5 => first | omega | (simp; omega)
          intro v' w2 hrow' hgrow hstay hfr
          try rw [List.append_assoc] at hrow'
          rw [← HP.out] at hrow'
          have ho3 := (ho2.alloc _).appOut (hrow.alloc _) (fun g _ _ => ⟨_, rfl⟩) hgrow hstay
          have hb3 := (hbin.alloc _).grown hgrow hlb.out
          have hlb' : Hid (∀ g, v'.ownBlock = some g → S g ∨ w.heap.size ≤ g) := fun g hg => by
            rcases hfr g hg with e | e
            · exact hlb.out g e
            · exact .inr (by omega)
          have hz3 := hgrow.size
          simp at hz3
          obtain ⟨lo', lc', rfl⟩ := owns_slice hrow'
          clear hgrow hstay hfr hrow ho2 hbin
          go_wp2
          go_roundw
          case rel => exact ⟨j + 1, by omega, by go_num, ho3, hrow', hlb', hb3, by omega⟩
          case measure => simp [intOf]; omega
        · go_wp2
          go_end0
          exact ⟨rfl, ho2, hbin⟩
    obtain ⟨wo, hwo⟩ : ∃ wo, wo = wr := ⟨_, rfl⟩
    subst hwo
    obtain ⟨b, rfl, hbb, c0, c1, c2, c3, c4, cf⟩ := ownBlocks_at ho hlt
    have hsl := hl2 _ (List.getElem_mem hlt)
    have hrow0 := ho.each _ (List.getElem_mem hlt)
    have hpre0 := PreO.start ho hlt
    have hne0 : Hid (∀ g, hv[k].2.ownBlock = some g → S g ∧ g < w.heap.size ∨ w.heap.size + 1 ≤ g) := fun g hg => .inl ⟨hSx _ (List.getElem_mem hlt) g hg, ((hown.each _ (List.getElem_mem hlt)).lt g hg).2⟩
    generalize hv[k].1.ops = ps at *
    generalize hv[k].2 = sv at *
    go_wp2
    go_loopw [3, 4] (fun l i w2 => ∃ (j : Nat), j ≤ 9 ∧ i = .int .i64 j ∧ OwnBlocks w2 base (.slice (some ⟨b, 0, none⟩) hv.length cap) hv ∧ w2.ownsRow base 101 4 l (ps.length + j) (opCells ps ++ pad [.int .i64 77, .int .i64 0, .int .i64 0, .int .i64 0] j) ∧ PreO hv l (opCells ps ++ pad [.int .i64 77, .int .i64 0, .int .i64 0, .int .i64 0] j) ∧
        Hid (∀ g, l.ownBlock = some g → S g ∧ g < w.heap.size ∨ w.heap.size + 1 ≤ g) ∧ w2.cell? ⟨w.heap.size, 4, none⟩ = some (.slice (some ⟨b, 0, none⟩) hv.length cap) ∧ Keep S w w2 ∧ w.heap.size + 1 ≤ w2.heap.size)
      (fun _ i _ => 9 - (intOf i).toNat)
    case atStart => exact ⟨0, Nat.zero_le _, rfl, ho, by simpa [pad] using hrow0, by simpa [pad] using hpre0, hne0, hx0, hbel, hz⟩
    case round =>
      obtain ⟨j, hj, rfl, ho2, hrow, hpre, hne, hy0, hbin, hz2⟩ := hrel
      obtain ⟨lo, lc, rfl⟩ := owns_slice hrow
      by_cases hjl : j < 9
      · have HP : Hid (pad [.int .i64 77, .int .i64 0, .int .i64 0, .int .i64 0] (j + 1) = pad [.int .i64 77, .int .i64 0, .int .i64 0, .int .i64 0] j ++ [.int .i64 77, .int .i64 0, .int .i64 0, .int .i64 0]) := rfl
        go_wp2_with (at_builtin; refine wpList_append_stay _ rfl _ _ 86 rfl base 101 j0 (.agg #[.int .i64 0, .int .i64 0, .int .i64 0, .int .i64 0]) 4 32 Try.underlying86 ji jz0 jz1 jz2 rfl (by decide) _ _ _ rfl (hrow.alloc _) ⟨wr.heap.size, 0, none⟩ 1 1 [.int .i64 77, .int .i64 0, .int .i64 0, .int .i64 0] rfl rfl (four_new wr _ _ _ _ _) ?e2 ?e3 ?e4 ?e5 (by decide) ?_)
        case e2 => first | exact ⟨rfl, rfl, rfl, rfl⟩ | exact four_one | (intro u hu; simp at hu; rcases hu with rfl | rfl <;> rfl)
        case e3 => unfold maxLen; omega
        case e4 => omega
        case e5 => first | omega | (simp; omega)
        intro v' w2 hrow' hgrow hstay hfr
        have hpre' := PreO.step (news := [.int .i64 77, .int .i64 0, .int .i64 0, .int .i64 0]) ho2 hpre (fun g hg => by rcases hfr g hg with e | e; exact .inl e; exact .inr (by omega))
        try rw [List.append_assoc] at hrow'
        rw [← HP.out] at hrow'
        rw [List.append_assoc, ← HP.out] at hpre'
        have ho3 := (ho2.alloc _).app (hrow.alloc _) hpre hgrow hstay
        have hb3 := (hbin.alloc _).grown hgrow (fun g hg => by
          rcases hne.out g hg with e | e
          · exact .inl e.1
          · exact .inr (by omega))
        have hy3 : w2.cell? ⟨w.heap.size, 4, none⟩ = some (.slice (some ⟨b, 0, none⟩) hv.length cap) := hgrow.cell (by rw [World.cell?_alloc_lt _ _ _ (by show w.heap.size < _; omega)]; exact hy0) (fun e => by rcases hne.out _ e.symm with e1 | e1; exact absurd e1.2 (Nat.lt_irrefl _); exact absurd e1 (by simp))
        have hne' : Hid (∀ g, v'.ownBlock = some g → S g ∧ g < w.heap.size ∨ w.heap.size + 1 ≤ g) := fun g hg => by
          rcases hfr g hg with e | e
          · exact hne.out g e
          · exact .inr (by omega)
        have hz3 := hgrow.size
        simp at hz3
        obtain ⟨lo', lc', rfl⟩ := owns_slice hrow'
        clear hgrow hstay hfr hrow ho2 hbin hpre hy0 hne
        go_wp2
        go_roundw
        case rel => exact ⟨j + 1, by omega, by go_num, ho3, hrow', hpre', hne', hy3, hb3, by omega⟩
        case measure => simp [intOf]; omega
      · go_wp2
        go_roundw
        case rel => exact ⟨k + 1, by omega, by go_num, ho2, hy0, hbin, hz2⟩
        case measure => simp [intOf]; omega

end Go.Proofs.Ytblhmeidbjigaaa
