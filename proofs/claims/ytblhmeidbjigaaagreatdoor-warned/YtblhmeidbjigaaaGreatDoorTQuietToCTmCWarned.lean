/- What a block lets out, told by its marks: pure. -/
import Derived.Test.YtblhmeidbjigaaaGreatDoorRows
import Derived.WalkKit
import Derived.WalkSpells
import Derived.WalkLawsBesides
import Derived.Laws.BytesArg
import Derived.Deep.QuietTactic
import Derived.BigQuiet
import Derived.Deep.RegionHeld3
import Derived.Lib.ItoaNum
import Derived.Lib.ItoaLen
import Derived.OpenShut
import Derived.Maps.AppendAt
import Derived.StillTailTactics
import Derived.Shelf.Strconv.Itoa3
import Derived.Shelf.Lay
import Derived.Ground.NamesProg
import Derived.Lib.SmallJoins
import Derived.Lib.Hide
import Derived.Test.YtblhmeidbjigaaaGreatDoorKBlockToTTwinWarned

set_option linter.unusedSimpArgs false
set_option linter.unusedVariables false
noncomputable section
namespace Go.Proofs.YtblhmeidbjigaaaGreatDoor
open Go.RowKit Classical

/-- The words of a mark. -/
def words (r : EnvD) : MD → List Int
  | .cell u => [evW r u]
  | .div u v => [evW r u, evW r v]

end Go.Proofs.YtblhmeidbjigaaaGreatDoor

/- Terms and marks of a list of operations, step by step; pure. -/
set_option linter.unusedSimpArgs false
set_option linter.unusedVariables false
noncomputable section
namespace Go.Proofs.YtblhmeidbjigaaaGreatDoor
open Go.RowKit Classical

/-- What an operation makes. -/
def givesT (regs slots : Int) (was : Int → TD) (o : OpD) : TD :=
  if o.kind = 1 then tnum (256 * o.b + o.c - 32768)
  else if o.kind = 2 ∨ o.kind = 14 then was o.b
  else if o.kind = 15 then was (regs + o.b)
  else if o.kind = 12 then readT (was (regs + slots)) (was o.b)
  else if o.kind = 13 then writtenT (was (regs + slots)) (was o.a) (was o.b)
  else madeT o.kind (was o.b) (was o.c)

/-- Behind an operation. -/
def stepT (regs slots : Int) (was : Int → TD) (o : OpD) : Int → TD := fun place => if writesT regs slots o ≠ place then was place else givesT regs slots was o

def foldT (regs slots : Int) : List OpD → (Int → TD) → (Int → TD)
  | [], was => was
  | o :: l, was => foldT regs slots l (stepT regs slots was o)

/-- The mark of an operation. -/
def opMark (was : Int → TD) (o : OpD) : Option MD :=
  if o.kind = 11 then some (.div (was o.b) (was o.c)) else if o.kind = 12 then some (.cell (was o.b)) else if o.kind = 13 then some (.cell (was o.a)) else none

theorem foldT_append (regs slots : Int) (l m : List OpD) (was : Int → TD) : foldT regs slots (l ++ m) was = foldT regs slots m (foldT regs slots l was) := by
  induction l generalizing was with
  | nil => rfl
  | cons o l ih => exact ih _

theorem behind_succ (regs slots : Int) (names : List Int) (ops : List OpD) (k : Nat) : behindT regs slots names ops (k + 1) = stepT regs slots (behindT regs slots names ops k) (ops.getD k oz) := by
  funext place
  simp only [behindT, stepT, givesT]

theorem take_succ' {ops : List OpD} {k : Nat} (h : k < ops.length) : ops.take (k + 1) = ops.take k ++ [ops.getD k oz] := by
  rw [List.take_add_one, List.getElem?_eq_getElem h]
  simp [List.getD, h]

theorem behind_fold (regs slots : Int) (names : List Int) (ops : List OpD) : ∀ k, k ≤ ops.length → behindT regs slots names ops k = foldT regs slots (ops.take k) (firstT names) := by
  intro k
  induction k with
  | zero => intro _; funext p; simp [behindT, foldT]
  | succ k ih =>
    intro hk
    rw [behind_succ, ih (by omega), take_succ' (by omega), foldT_append]
    rfl

end Go.Proofs.YtblhmeidbjigaaaGreatDoor

/- Operations that change over, operations that nobody asks for: terms and marks; pure. -/
set_option linter.unusedSimpArgs false
set_option linter.unusedVariables false
noncomputable section
namespace Go.Proofs.YtblhmeidbjigaaaGreatDoor
open Go.RowKit Classical

def tellsT (o : OpD) : Prop := o.kind = 11 ∨ o.kind = 12 ∨ o.kind = 13

end Go.Proofs.YtblhmeidbjigaaaGreatDoor

/- Operations that nobody asks for, registers kept in slots: the same terms; pure. -/
set_option linter.unusedSimpArgs false
set_option linter.unusedVariables false
noncomputable section
namespace Go.Proofs.YtblhmeidbjigaaaGreatDoor
open Go.RowKit Classical

/-- Get, register by register. -/
def getOps (n : Nat) : List OpD := (List.range n).map fun (i : Nat) => ⟨15, i, i, 0⟩
end Go.Proofs.YtblhmeidbjigaaaGreatDoor

/- Big blocks, step by step; pure. -/
set_option linter.unusedSimpArgs false
set_option linter.unusedVariables false
noncomputable section
namespace Go.Proofs.YtblhmeidbjigaaaGreatDoor
open Go.RowKit Classical

def bigOp (regs slots : Int) (was : Int → TD) (o : OpD) : Bool := decide (3 ≤ o.kind ∧ o.kind ≤ 13 ∧ 4095 < (givesT regs slots was o).size)

def bigF (regs slots : Int) : List OpD → (Int → TD) → Bool
  | [], _ => false
  | o :: l, was => bigOp regs slots was o || bigF regs slots l (stepT regs slots was o)

theorem bigF_append (regs slots : Int) (l m : List OpD) (was : Int → TD) : bigF regs slots (l ++ m) was = (bigF regs slots l was || bigF regs slots m (foldT regs slots l was)) := by
  induction l generalizing was with
  | nil => simp [bigF, foldT]
  | cons o l ih => simp only [List.cons_append, bigF, foldT, ih, Bool.or_assoc]

theorem step_writes (regs slots : Int) (was : Int → TD) (o : OpD) : stepT regs slots was o (writesT regs slots o) = givesT regs slots was o := by
  unfold stepT; simp

theorem big_fold (regs slots : Int) (names : List Int) (ops : List OpD) : ∀ k, k ≤ ops.length →
    ((List.range k).any fun k => decide (3 ≤ okind ops k ∧ okind ops k ≤ 13 ∧ 4095 < (behindT regs slots names ops (k + 1) (writesT regs slots (ops.getD k oz))).size)) = bigF regs slots (ops.take k) (firstT names) := by
  intro k
  induction k with
  | zero => intro _; simp [bigF]
  | succ k ih =>
    intro hk
    rw [List.range_succ, List.any_append, ih (by omega), take_succ' (by omega), bigF_append, ← behind_fold _ _ _ _ _ (by omega)]
    simp only [List.any_cons, List.any_nil, Bool.or_false, bigF]
    rw [behind_succ, step_writes]
    rfl

theorem big_all (regs slots : Int) (names : List Int) (ops : List OpD) : bigT regs slots names ops = bigF regs slots ops (firstT names) := by
  have := big_fold regs slots names ops ops.length (Nat.le_refl _)
  rw [List.take_length] at this
  exact this

end Go.Proofs.YtblhmeidbjigaaaGreatDoor

/- A block's marks, step by step, as the code lays them; pure. -/
set_option linter.unusedSimpArgs false
set_option linter.unusedVariables false
noncomputable section
namespace Go.Proofs.YtblhmeidbjigaaaGreatDoor
open Go.RowKit Classical

/-- The mark of a Load or Store at u; []: none is needed. -/
def cellText (data : Int) (u : TD) : List UInt8 :=
  match u.isNum with
  | some n => if 0 ≤ n ∧ n < data then [] else 64 :: 32 :: showT u
  | none => 64 :: 32 :: showT u

/-- The mark of a Div of u by v. -/
def divText (u v : TD) : List UInt8 :=
  match u.isNum, v.isNum with
  | some _, some y => if y ≠ 0 then [] else 47 :: 32 :: (showT u ++ 32 :: showT v)
  | _, _ => 47 :: 32 :: (showT u ++ 32 :: showT v)

def opMarkT (data : Int) (was : Int → TD) (o : OpD) : List UInt8 :=
  if o.kind = 11 then divText (was o.b) (was o.c) else if o.kind = 12 then cellText data (was o.b) else if o.kind = 13 then cellText data (was o.a) else []

def laidMark (ms : List (List UInt8)) (s : List UInt8) : List (List UInt8) := if s ≠ [] ∧ s ∉ ms then ms ++ [s] else ms

theorem laid_nil (ms : List (List UInt8)) : laidMark ms [] = ms := by simp [laidMark]
theorem laid_in {ms : List (List UInt8)} {s : List UInt8} (h : s ∈ ms) : laidMark ms s = ms := by simp [laidMark, h]
theorem laid_new {ms : List (List UInt8)} {s : List UInt8} (hn : s ≠ []) (h : s ∉ ms) : laidMark ms s = ms ++ [s] := by simp [laidMark, h, hn]
theorem marks_step (regs slots data : Int) (names : List Int) (ops : List OpD) (k : Nat) :
    marksT regs slots data names ops (k + 1) = laidMark (marksT regs slots data names ops k) (opMarkT data (behindT regs slots names ops k) (ops.getD k oz)) := by
  have e : markT regs slots data names ops k = opMarkT data (behindT regs slots names ops k) (ops.getD k oz) := by
    unfold markT opMarkT
    by_cases h1 : (ops.getD k oz).kind = 11
    · simp only [h1, if_true]; rfl
    · by_cases h2 : (ops.getD k oz).kind = 12
      · simp only [h2, if_true, if_neg (show ¬ ((12 : Int) = 11) by omega), true_or]; rfl
      · by_cases h3 : (ops.getD k oz).kind = 13
        · simp only [h3, if_true, if_neg (show ¬ ((13 : Int) = 11) by omega), if_neg (show ¬ ((13 : Int) = 12) by omega), or_true]; rfl
        · simp only [h1, h2, h3, if_false, or_self]
  show (if markT regs slots data names ops k ≠ [] ∧ markT regs slots data names ops k ∉ marksT regs slots data names ops k then _ else _) = _
  rw [e]
  rfl

end Go.Proofs.YtblhmeidbjigaaaGreatDoor

/- The reference's terms: Same, turns, plus, thing, Apart. -/
set_option linter.unusedSimpArgs false
set_option linter.unusedVariables false
namespace Go.Proofs.YtblhmeidbjigaaaGreatDoor
open Go.RowKit

noncomputable def sameT (t u : TD) : Bool := @decide (t = u) (Classical.propDecidable _)

theorem sameT_self (t : TD) : sameT t t = true := by unfold sameT; simp
theorem sameT_ne {t u : TD} (h : t ≠ u) : sameT t u = false := by unfold sameT; simp [h]
theorem sameT_iff (t u : TD) : sameT t u = true ↔ t = u := by unfold sameT; simp

end Go.Proofs.YtblhmeidbjigaaaGreatDoor

/- The reference's terms: turns, plus, thing, Apart. -/
set_option linter.unusedSimpArgs false
set_option linter.unusedVariables false
namespace Go.Proofs.YtblhmeidbjigaaaGreatDoor
open Go.RowKit

theorem turnsT_eq (k : Int) : turnsT k = true ↔ (k = 3 ∨ k = 5 ∨ k = 6 ∨ k = 7 ∨ k = 8 ∨ k = 10) := by unfold turnsT; simp

theorem turnsT_no {k : Int} (h : ¬ (k = 3 ∨ k = 5 ∨ k = 6 ∨ k = 7 ∨ k = 8 ∨ k = 10)) : turnsT k = false := by unfold turnsT; simpa using h

theorem apartT_iff (u v : TD) : apartT u v = true ↔ (thingT u).1 = (thingT v).1 ∧ (thingT u).2 ≠ (thingT v).2 := by unfold apartT; simp

theorem apartT_no {u v : TD} (h : ¬ ((thingT u).1 = (thingT v).1 ∧ (thingT u).2 ≠ (thingT v).2)) : apartT u v = false := by
  cases e : apartT u v with
  | false => rfl
  | true => exact absurd ((apartT_iff u v).1 e) h

end Go.Proofs.YtblhmeidbjigaaaGreatDoor

/- The reference's terms: Made. -/
set_option linter.unusedSimpArgs false
set_option linter.unusedVariables false
namespace Go.Proofs.YtblhmeidbjigaaaGreatDoor
open Go.RowKit

theorem made_num {kind a b : Int} {u v : TD} (hu : u.isNum = some a) (hv : v.isNum = some b) (h : ¬ (kind = 11 ∧ b = 0)) : madeT kind u v = tnum (calcW kind a b) := by
  simp only [madeT, hu, hv, if_neg h]

theorem made_div0 {kind a b : Int} {u v : TD} (hu : u.isNum = some a) (hv : v.isNum = some b) (h : kind = 11 ∧ b = 0) : madeT kind u v = rowT kind u v := by
  simp only [madeT, hu, hv, if_pos h]

theorem made_left {kind a : Int} {u v : TD} (hu : u.isNum = some a) (hv : v.isNum = none) : madeT kind u v = if turnsT kind = true then rowT kind v u else rowT kind u v := by
  simp only [madeT, hu, hv]

theorem made_right {kind b : Int} {u v : TD} (hu : u.isNum = none) (hv : v.isNum = some b) : madeT kind u v = rowT kind u v := by
  simp only [madeT, hu, hv]

theorem made_over {kind : Int} {u v : TD} (hu : u.isNum = none) (hv : v.isNum = none) (h : turnsT kind = true ∧ showT v < showT u) : madeT kind u v = rowT kind v u := by
  simp only [madeT, hu, hv, if_pos h]

theorem made_stay {kind : Int} {u v : TD} (hu : u.isNum = none) (hv : v.isNum = none) (h : ¬ (turnsT kind = true ∧ showT v < showT u)) : madeT kind u v = rowT kind u v := by
  simp only [madeT, hu, hv, if_neg h]

theorem bytesLess_lt : ∀ (x y : List UInt8), Op.bytesLess x y = true ↔ x < y
  | [], [] => by simp [Op.bytesLess]
  | _ :: _, [] => by simp [Op.bytesLess]
  | [], _ :: _ => by simp [Op.bytesLess]
  | a :: x, b :: y => by
    rw [Op.bytesLess, List.cons_lt_cons_iff]
    simp [bytesLess_lt x y]

theorem less_show (u v : TD) : Op.bytesLess (str (showT v)).toList (str (showT u)).toList = true ↔ showT v < showT u := by
  simp only [str, ByteArray.toList_mk]
  exact bytesLess_lt _ _

end Go.Proofs.YtblhmeidbjigaaaGreatDoor

/- The reference's terms: Read, left, laid, Written. -/
set_option linter.unusedSimpArgs false
set_option linter.unusedVariables false
namespace Go.Proofs.YtblhmeidbjigaaaGreatDoor
open Go.RowKit

theorem read_same {c a v u : TD} (h : a = u) : readT (.three 13 c a v) u = v := by rw [readT, if_pos h]
theorem read_far {c a v u : TD} (h : a ≠ u) (h2 : apartT a u = true) : readT (.three 13 c a v) u = readT c u := by rw [readT, if_neg h, if_pos h2]
theorem read_near {c a v u : TD} (h : a ≠ u) (h2 : apartT a u = false) : readT (.three 13 c a v) u = .two 12 (.three 13 c a v) u := by rw [readT, if_neg h, if_neg (by rw [h2]; simp)]
theorem read_else {m u : TD} (h : m.kind ≠ 13) : readT m u = .two 12 m u := by
  cases m with
  | leaf k n => rfl
  | two k a b => rfl
  | three k a b c =>
    simp only [TD.kind] at h
    unfold readT
    split
    · rename_i e; cases e; exact absurd rfl h
    · rfl

theorem left_same {c a v u : TD} (h : a = u) : leftT (.three 13 c a v) u = c := by rw [leftT, if_pos h]
theorem left_far {c a v u : TD} (h : a ≠ u) (h2 : apartT a u = true) : leftT (.three 13 c a v) u = .three 13 (leftT c u) a v := by rw [leftT, if_neg h, if_pos h2]
theorem left_near {c a v u : TD} (h : a ≠ u) (h2 : apartT a u = false) : leftT (.three 13 c a v) u = .three 13 c a v := by rw [leftT, if_neg h, if_neg (by rw [h2]; simp)]
theorem left_else {m u : TD} (h : m.kind ≠ 13) : leftT m u = m := by
  cases m with
  | leaf k n => rfl
  | two k a b => rfl
  | three k a b c =>
    simp only [TD.kind] at h
    unfold leftT
    split
    · rename_i e; cases e; exact absurd rfl h
    · rfl

theorem laid_over {c a w u v : TD} {n k : Int} (hu : u.isNum = some n) (ha : a.isNum = some k) (h : k > n) : laidT (.three 13 c a w) u v = .three 13 (laidT c u v) a w := by
  rw [laidT]; simp only [hu, ha, if_pos h]
theorem laid_else {m u v : TD} (h : ¬ ∃ c a w n k, m = .three 13 c a w ∧ u.isNum = some n ∧ a.isNum = some k ∧ k > n) : laidT m u v = .three 13 m u v := by
  cases m with
  | leaf k n => rfl
  | two k a b => rfl
  | three k a b c =>
    by_cases hk : k = 13
    · subst hk
      rw [laidT]
      split
      · rename_i n q e1 e2
        by_cases hq : q > n
        · exact absurd ⟨a, b, c, n, q, rfl, e1, e2, hq⟩ h
        · rw [if_neg hq]
      · rfl
    · unfold laidT
      split
      · rename_i e; cases e; exact absurd rfl hk
      · rfl

end Go.Proofs.YtblhmeidbjigaaaGreatDoor

/- The code's terms as values; the functions that look at one. -/
set_option linter.unusedSimpArgs false
set_option linter.unusedVariables false
namespace Go.Proofs.YtblhmeidbjigaaaGreatDoor
open Go.RowKit

/-- A term's kind and number, as the code has them. -/
def ckind : TD → Int
  | .leaf k _ => if k = 100 then 1 else 0
  | .two k _ _ => k
  | .three k _ _ _ => k

def cval : TD → Int
  | .leaf k n => if k = 100 then n else 0
  | _ => 0

/-- A term's cells, given its list of parts. -/
def tcells (t : TD) (ps : Value) : List Value := [.int .i64 (ckind t), .int .i64 (cval t), ps, .int .i64 t.size, .string (str (showT t))]

/-- A term as a value. -/
def termV (t : TD) (ps : Value) : Value := .agg #[.int .i64 (ckind t), .int .i64 (cval t), ps, .int .i64 t.size, .string (str (showT t))]

/-- A term's parts in memory, all in blocks from Lo on. -/
def PartsAt (Lo : Nat) (w : World) : TD → Value → Prop
  | .leaf _ _, ps => ps = .slice none 0 0 ∧ Lo ≤ w.heap.size
  | .two _ a b, ps => ∃ g pa pb, ps = .slice (some ⟨g, 0, none⟩) 2 2 ∧ Lo ≤ g ∧ Row w g 119 (tcells a pa ++ tcells b pb) ∧ PartsAt Lo w a pa ∧ PartsAt Lo w b pb
  | .three _ a b c, ps => ∃ g pa pb pc, ps = .slice (some ⟨g, 0, none⟩) 3 3 ∧ Lo ≤ g ∧ Row w g 119 (tcells a pa ++ tcells b pb ++ tcells c pc) ∧ PartsAt Lo w a pa ∧ PartsAt Lo w b pb ∧ PartsAt Lo w c pc

theorem PartsAt.lo {Lo : Nat} {w : World} {t : TD} {ps : Value} (h : PartsAt Lo w t ps) : Lo ≤ w.heap.size := by
  induction t generalizing ps with
  | leaf k n => exact h.2
  | two k a b iha ihb => obtain ⟨g, pa, pb, e, lg, r, h1, h2⟩ := h; exact iha h1
  | three k a b c iha ihb ihc => obtain ⟨g, pa, pb, pc, e, lg, r, h1, h2, h3⟩ := h; exact iha h1

theorem PartsAt.keep {Lo : Nat} {w w' : World} {t : TD} {ps : Value} (h : PartsAt Lo w t ps) (hb : Below w.heap.size w w') : PartsAt Lo w' t ps := by
  induction t generalizing ps with
  | leaf k n => exact ⟨h.1, Nat.le_trans h.2 hb.size⟩
  | two k a b iha ihb => obtain ⟨g, pa, pb, e, lg, r, h1, h2⟩ := h; exact ⟨g, pa, pb, e, lg, r.keep hb, iha h1, ihb h2⟩
  | three k a b c iha ihb ihc => obtain ⟨g, pa, pb, pc, e, lg, r, h1, h2, h3⟩ := h; exact ⟨g, pa, pb, pc, e, lg, r.keep hb, iha h1, ihb h2, ihc h3⟩

/-- A leaf has its parts wherever another term has them. -/
theorem PartsAt.leaf {Lo : Nat} {w w' : World} {t : TD} {ps : Value} (h : PartsAt Lo w t ps) (hb : Below w.heap.size w w') (k n : Int) : PartsAt Lo w' (.leaf k n) (.slice none 0 0) := ⟨rfl, (h.keep hb).lo⟩

/-- A store below Lo meets no parts. -/
theorem PartsAt.under {Lo : Nat} {w : World} {t : TD} {ps : Value} (h : PartsAt Lo w t ps) {g : Nat} (hg : g < Lo) (i : Nat) (u : Value) : PartsAt Lo (w.setCell ⟨g, i, none⟩ u) t ps := by
  induction t generalizing ps with
  | leaf k n => exact ⟨h.1, by simpa using h.2⟩
  | two k a b iha ihb =>
    obtain ⟨g', pa, pb, e, lg, r, h1, h2⟩ := h
    exact ⟨g', pa, pb, e, lg, r.unset (by show g' ≠ g; omega) _, iha h1, ihb h2⟩
  | three k a b c iha ihb ihc =>
    obtain ⟨g', pa, pb, pc, e, lg, r, h1, h2, h3⟩ := h
    exact ⟨g', pa, pb, pc, e, lg, r.unset (by show g' ≠ g; omega) _, iha h1, ihb h2, ihc h3⟩

theorem row_one {w : World} {g : Nat} {t t' : TypeId} {xs ys : List Value} (h : Row w g t xs) (h' : Row w g t' ys) : xs = ys := by
  unfold Row at h h'
  rw [h] at h'
  simp only [Option.some.injEq, Obj.cells.injEq] at h'
  simpa using h'.1

/-- A block of one term is no list of parts. -/
theorem PartsAt.set {Lo : Nat} {w : World} {t : TD} {ps : Value} (h : PartsAt Lo w t ps) {g : Nat} {ty : TypeId} {xs : List Value} (hr : Row w g ty xs) (hx : xs.length = 5) (i : Nat) (u : Value) : PartsAt Lo (w.setCell ⟨g, i, none⟩ u) t ps := by
  induction t generalizing ps with
  | leaf k n => exact ⟨h.1, by simpa using h.2⟩
  | two k a b iha ihb =>
    obtain ⟨g', pa, pb, e, lg, r, h1, h2⟩ := h
    refine ⟨g', pa, pb, e, lg, r.unset (fun q => ?_) _, iha h1, ihb h2⟩
    have q' : g' = g := q
    subst q'
    have := row_one r hr
    rw [← this] at hx
    simp [tcells] at hx
  | three k a b c iha ihb ihc =>
    obtain ⟨g', pa, pb, pc, e, lg, r, h1, h2, h3⟩ := h
    refine ⟨g', pa, pb, pc, e, lg, r.unset (fun q => ?_) _, iha h1, ihb h2, ihc h3⟩
    have q' : g' = g := q
    subst q'
    have := row_one r hr
    rw [← this] at hx
    simp [tcells] at hx

/-- Five cells of a block are set. -/
def set5 (w : World) (g : Nat) (a b c d e : Value) : World :=
  ((((w.setCell ⟨g, 0, none⟩ a).setCell ⟨g, 1, none⟩ b).setCell ⟨g, 2, none⟩ c).setCell ⟨g, 3, none⟩ d).setCell ⟨g, 4, none⟩ e

theorem cbelow_set {w0 w : World} (h : Below w0.heap.size w0 w) {g i : Nat} (hg : w0.heap.size ≤ g) (u : Value) : Below w0.heap.size w0 (w.setCell ⟨g, i, none⟩ u) :=
  ⟨h.os, h.tape, h.output, by simpa using h.size, fun k hk => (Below.heap_setCell _ _ _ _ (by show k ≠ g; omega)).trans (h.block k hk)⟩

theorem set5_below {w0 w : World} (h : Below w0.heap.size w0 w) {g : Nat} (hg : w0.heap.size ≤ g) (a b c d e : Value) : Below w0.heap.size w0 (set5 w g a b c d e) :=
  cbelow_set (cbelow_set (cbelow_set (cbelow_set (cbelow_set h hg _) hg _) hg _) hg _) hg _

theorem PartsAt.on5 {Lo : Nat} {w : World} {t : TD} {ps : Value} (h : PartsAt Lo w t ps) {g : Nat} {ty : TypeId} {xs : List Value} (hr : Row w g ty xs) (hx : xs.length = 5) (a b c d e : Value) : PartsAt Lo (set5 w g a b c d e) t ps := by
  have r1 := hr.set 0 a
  have r2 := r1.set 1 b
  have r3 := r2.set 2 c
  have r4 := r3.set 3 d
  exact ((((h.set hr hx 0 a).set r1 (by simpa using hx) 1 b).set r2 (by simpa using hx) 2 c).set r3 (by simpa using hx) 3 d).set r4 (by simpa using hx) 4 e

theorem Row.on5 {w : World} {g : Nat} {ty : TypeId} {x0 x1 x2 x3 x4 : Value} (hr : Row w g ty [x0, x1, x2, x3, x4]) (a b c d e : Value) : Row (set5 w g a b c d e) g ty [a, b, c, d, e] :=
  ((((hr.set 0 a).set 1 b).set 2 c).set 3 d).set 4 e

theorem Row.off5 {w : World} {g g' : Nat} {ty : TypeId} {xs : List Value} (h : Row w g ty xs) (hg : g ≠ g') (a b c d e : Value) : Row (set5 w g' a b c d e) g ty xs :=
  ((((h.unset (a := ⟨g', 0, none⟩) hg a).unset (a := ⟨g', 1, none⟩) hg b).unset (a := ⟨g', 2, none⟩) hg c).unset (a := ⟨g', 3, none⟩) hg d).unset (a := ⟨g', 4, none⟩) hg e

def zT : List Value := [.int .i64 0, .int .i64 0, .slice none 0 0, .int .i64 0, .string ⟨#[]⟩]

theorem ckind_none {t : TD} (hf : t.fine) : ckind t ≠ 1 ↔ t.isNum = none := by
  cases t with
  | leaf k n => by_cases h : k = 100 <;> simp [ckind, TD.isNum, h]
  | two k a b => obtain ⟨h1, h2, _⟩ := hf; simp only [ckind, TD.isNum]; constructor; intro _; trivial; intro _; omega
  | three k a b c => obtain ⟨h1, _⟩ := hf; simp only [ckind, TD.isNum]; constructor; intro _; trivial; intro _; omega

theorem same_show {u v : TD} (hu : u.fine) (hv : v.fine) : ((str (showT u)).toList == (str (showT v)).toList) = sameT u v := by
  simp only [str, ByteArray.toList_mk]
  by_cases h : u = v
  · subst h; rw [sameT_self]; simp
  · rw [sameT_ne h]
    simp only [beq_eq_false_iff_ne, ne_eq]
    exact fun e => h (show_inj hu.ok hv.ok e)

set_option maxRecDepth 100000 in
set_option maxHeartbeats 1000000 in
theorem cNumber_any (k n s : Int) (ps : Value) (x : ByteArray) (w : World) :
    Calls Tryz.prog 179 #[.agg #[.int .i64 k, .int .i64 n, ps, .int .i64 s, .string x]] w fun e w' => e = .returned (.tuple #[.int .i64 (if k = 1 then n else 0), .bool (k == 1)]) ∧ Below w.heap.size w w' := by
  have hb : Below w.heap.size w (w.alloc (.cells #[.int .i64 k, .int .i64 n, ps, .int .i64 s, .string x] 119)) := (Below.refl _ _).alloc (Nat.le_refl _) _
  by_cases h : k = 1
  · subst h
    go_enter Tryz.func179, Tryz.ntmps179
    go_wp2
    go_ret2
    exact ⟨rfl, hb⟩
  · have hd : (k == 1) = false := by simp [h]
    rw [if_neg h, hd]
    go_enter Tryz.func179, Tryz.ntmps179
    go_wp2
    go_ret2
    exact ⟨rfl, hb⟩

set_option maxRecDepth 100000 in
set_option maxHeartbeats 1000000 in
theorem cSame_any (u v : TD) (pu pv : Value) (fu : u.fine) (fv : v.fine) (w : World) :
    Calls Tryz.prog 156 #[termV u pu, termV v pv] w fun e w' => e = .returned (.bool (sameT u v)) ∧ Below w.heap.size w w' := by
  have hb : Below w.heap.size w ((w.alloc (.cells #[.int .i64 (ckind u), .int .i64 (cval u), pu, .int .i64 u.size, .string (str (showT u))] 119)).alloc (.cells #[.int .i64 (ckind v), .int .i64 (cval v), pv, .int .i64 v.size, .string (str (showT v))] 119)) := ((Below.refl _ _).alloc (Nat.le_refl _) _).alloc (by simp) _
  have e := same_show fu fv
  unfold termV
  rw [← e]
  clear e
  generalize str (showT u) = X at *
  generalize str (showT v) = Y at *
  go_enter Tryz.func156, Tryz.ntmps156
  go_wp2
  go_ret
  exact ⟨rfl, hb⟩

set_option maxRecDepth 100000 in
set_option maxHeartbeats 1000000 in
theorem cSign_any (k : Int) (hk : 3 ≤ k ∧ k ≤ 13) (w : World) : Calls Tryz.prog 206 #[.int .i64 k] w fun e w' => e = .returned (.string (str [signT k])) ∧ w = w' := by
  have h : k = 3 ∨ k = 4 ∨ k = 5 ∨ k = 6 ∨ k = 7 ∨ k = 8 ∨ k = 9 ∨ k = 10 ∨ k = 11 ∨ k = 12 ∨ k = 13 := by omega
  rcases h with rfl | rfl | rfl | rfl | rfl | rfl | rfl | rfl | rfl | rfl | rfl
  all_goals
    go_enter Tryz.func206, Tryz.ntmps206
    go_wp2
    go_ret
    exact ⟨rfl, rfl⟩

set_option maxRecDepth 100000 in
set_option maxHeartbeats 1000000 in
theorem cText_any (k n s : Int) (ps : Value) (x : ByteArray) (w : World) :
    Calls Tryz.prog 68 #[.agg #[.int .i64 k, .int .i64 n, ps, .int .i64 s, .string x]] w fun e w' => e = .returned (.string x) ∧ Below w.heap.size w w' := by
  have hb : Below w.heap.size w (w.alloc (.cells #[.int .i64 k, .int .i64 n, ps, .int .i64 s, .string x] 119)) := (Below.refl _ _).alloc (Nat.le_refl _) _
  go_enter Tryz.func68, Tryz.ntmps68
  go_wp2
  go_ret
  exact ⟨rfl, hb⟩

set_option maxRecDepth 100000 in
set_option maxHeartbeats 1000000 in
theorem cSize_any (k n s : Int) (ps : Value) (x : ByteArray) (w : World) :
    Calls Tryz.prog 198 #[.agg #[.int .i64 k, .int .i64 n, ps, .int .i64 s, .string x]] w fun e w' => e = .returned (.int .i64 s) ∧ Below w.heap.size w w' := by
  have hb : Below w.heap.size w (w.alloc (.cells #[.int .i64 k, .int .i64 n, ps, .int .i64 s, .string x] 119)) := (Below.refl _ _).alloc (Nat.le_refl _) _
  go_enter Tryz.func198, Tryz.ntmps198
  go_wp2
  go_ret
  exact ⟨rfl, hb⟩

end Go.Proofs.YtblhmeidbjigaaaGreatDoor

/- The code's terms: how they are put together, taken apart. -/
set_option linter.unusedSimpArgs false
set_option linter.unusedVariables false
namespace Go.Proofs.YtblhmeidbjigaaaGreatDoor
open Go.RowKit

theorem num_V (n : Int) (ps : Value) : termV (tnum n) ps = .agg #[.int .i64 1, .int .i64 n, ps, .int .i64 1, .string (str (Lib.itoa n))] := by simp [termV, ckind, cval, tnum, TD.size, showT]

set_option maxRecDepth 100000 in
set_option maxHeartbeats 1000000 in
theorem cOfNumber_any (n : Int) (hn : W64 n) (w : World) (ht : TabW w) :
    Calls Tryz.prog 163 #[.int .i64 n] w fun e w' => e = .returned (termV (tnum n) (.slice none 0 0)) ∧ Below w.heap.size w w' := by
  have hb : Below w.heap.size w (w.alloc (.cells #[.int .i64 0, .int .i64 0, .slice none 0 0, .int .i64 0, .string ⟨#[]⟩] 119)) := (Below.refl _ _).alloc (Nat.le_refl _) _
  have r : Row (w.alloc (.cells #[.int .i64 0, .int .i64 0, .slice none 0 0, .int .i64 0, .string ⟨#[]⟩] 119)) w.heap.size 119 zT := heap_alloc_new w _
  have q := itoa_any n hn _ (ht.keep hb)
  rw [num_V]
  generalize str (Lib.itoa n) = S at *
  go_enter Tryz.func163, Tryz.ntmps163
  go_wp2_with fail
  refine q.mono ?_
  rintro e w1 ⟨rfl, hb1⟩
  have r1 := r.keep hb1
  have z0 := r1.cell (i := 0) rfl
  have z1 := r1.cell (i := 1) rfl
  have z2 := r1.cell (i := 2) rfl
  have z3 := r1.cell (i := 3) rfl
  have z4 := r1.cell (i := 4) rfl
  have f0 := r1.frozen 0
  have f1 := r1.frozen 1
  have f2 := r1.frozen 2
  have f3 := r1.frozen 3
  have f4 := r1.frozen 4
  have HF : Hid (Below w.heap.size w (set5 w1 w.heap.size (.int .i64 1) (.int .i64 n) (.slice none 0 0) (.int .i64 1) (.string S))) := set5_below (hb.trans (hb1.mono hb.size)) (Nat.le_refl _) _ _ _ _ _
  clear q hb hb1 r r1
  go_wp2
  exact bodyPost_ret (v := .agg #[.int .i64 1, .int .i64 n, .slice none 0 0, .int .i64 1, .string S]) (by simp [results, Tryz.results163, go_sem, z0, z1, z2, z3, z4]) rfl ⟨rfl, HF.out⟩

theorem letter_V (k n : Int) (c : UInt8) (hk : k = 101 ∧ c = 114 ∨ k = 102 ∧ c = 120) (ps : Value) : termV (.leaf k n) ps = .agg #[.int .i64 0, .int .i64 0, ps, .int .i64 1, .string (str [c] ++ str (Lib.itoa n))] := by
  rw [str_append]
  rcases hk with ⟨rfl, rfl⟩ | ⟨rfl, rfl⟩ <;> simp [termV, ckind, cval, TD.size, showT]

set_option maxRecDepth 100000 in
set_option maxHeartbeats 1000000 in
theorem cOfRegister_any (n : Int) (hn : W64 n) (w : World) (ht : TabW w) :
    Calls Tryz.prog 105 #[.int .i64 n] w fun e w' => e = .returned (termV (.leaf 101 n) (.slice none 0 0)) ∧ Below w.heap.size w w' := by
  have hb : Below w.heap.size w (w.alloc (.cells #[.int .i64 0, .int .i64 0, .slice none 0 0, .int .i64 0, .string ⟨#[]⟩] 119)) := (Below.refl _ _).alloc (Nat.le_refl _) _
  have r : Row (w.alloc (.cells #[.int .i64 0, .int .i64 0, .slice none 0 0, .int .i64 0, .string ⟨#[]⟩] 119)) w.heap.size 119 zT := heap_alloc_new w _
  have q := itoa_any n hn _ (ht.keep hb)
  have hz := itoa_size hn
  rw [letter_V 101 n 114 (by simp)]
  generalize str (Lib.itoa n) = S at *
  go_enter Tryz.func105, Tryz.ntmps105
  go_wp2_with fail
  refine q.mono ?_
  rintro e w1 ⟨rfl, hb1⟩
  have r1 := r.keep hb1
  have z0 := r1.cell (i := 0) rfl
  have z1 := r1.cell (i := 1) rfl
  have z2 := r1.cell (i := 2) rfl
  have z3 := r1.cell (i := 3) rfl
  have z4 := r1.cell (i := 4) rfl
  have f0 := r1.frozen 0
  have f1 := r1.frozen 1
  have f2 := r1.frozen 2
  have f3 := r1.frozen 3
  have f4 := r1.frozen 4
  have HF : Hid (Below w.heap.size w (set5 w1 w.heap.size (.int .i64 0) (.int .i64 0) (.slice none 0 0) (.int .i64 1) (.string (⟨#[114]⟩ ++ S)))) := set5_below (hb.trans (hb1.mono hb.size)) (Nat.le_refl _) _ _ _ _ _
  clear q hb hb1 r r1
  go_wp2
  exact bodyPost_ret (v := .agg #[.int .i64 0, .int .i64 0, .slice none 0 0, .int .i64 1, .string (⟨#[114]⟩ ++ S)]) (by simp [results, Tryz.results105, go_sem, z0, z1, z2, z3, z4]) rfl ⟨rfl, HF.out⟩

set_option maxRecDepth 100000 in
set_option maxHeartbeats 1000000 in
theorem cOfPlace_any (n : Int) (hn : W64 n) (w : World) (ht : TabW w) :
    Calls Tryz.prog 135 #[.int .i64 n] w fun e w' => e = .returned (termV (.leaf 102 n) (.slice none 0 0)) ∧ Below w.heap.size w w' := by
  have hb : Below w.heap.size w (w.alloc (.cells #[.int .i64 0, .int .i64 0, .slice none 0 0, .int .i64 0, .string ⟨#[]⟩] 119)) := (Below.refl _ _).alloc (Nat.le_refl _) _
  have r : Row (w.alloc (.cells #[.int .i64 0, .int .i64 0, .slice none 0 0, .int .i64 0, .string ⟨#[]⟩] 119)) w.heap.size 119 zT := heap_alloc_new w _
  have q := itoa_any n hn _ (ht.keep hb)
  have hz := itoa_size hn
  rw [letter_V 102 n 120 (by simp)]
  generalize str (Lib.itoa n) = S at *
  go_enter Tryz.func135, Tryz.ntmps135
  go_wp2_with fail
  refine q.mono ?_
  rintro e w1 ⟨rfl, hb1⟩
  have r1 := r.keep hb1
  have z0 := r1.cell (i := 0) rfl
  have z1 := r1.cell (i := 1) rfl
  have z2 := r1.cell (i := 2) rfl
  have z3 := r1.cell (i := 3) rfl
  have z4 := r1.cell (i := 4) rfl
  have f0 := r1.frozen 0
  have f1 := r1.frozen 1
  have f2 := r1.frozen 2
  have f3 := r1.frozen 3
  have f4 := r1.frozen 4
  have HF : Hid (Below w.heap.size w (set5 w1 w.heap.size (.int .i64 0) (.int .i64 0) (.slice none 0 0) (.int .i64 1) (.string (⟨#[120]⟩ ++ S)))) := set5_below (hb.trans (hb1.mono hb.size)) (Nat.le_refl _) _ _ _ _ _
  clear q hb hb1 r r1
  go_wp2
  exact bodyPost_ret (v := .agg #[.int .i64 0, .int .i64 0, .slice none 0 0, .int .i64 1, .string (⟨#[120]⟩ ++ S)]) (by simp [results, Tryz.results135, go_sem, z0, z1, z2, z3, z4]) rfl ⟨rfl, HF.out⟩

set_option maxRecDepth 100000 in
set_option maxHeartbeats 1000000 in
theorem cOfCells_any (w : World) :
    Calls Tryz.prog 136 #[] w fun e w' => e = .returned (termV (.leaf 103 0) (.slice none 0 0)) ∧ Below w.heap.size w w' := by
  have hb : Below w.heap.size w (w.alloc (.cells #[.int .i64 0, .int .i64 0, .slice none 0 0, .int .i64 1, .string ⟨#[109]⟩] 119)) := (Below.refl _ _).alloc (Nat.le_refl _) _
  have e : termV (.leaf 103 0) (.slice none 0 0) = .agg #[.int .i64 0, .int .i64 0, .slice none 0 0, .int .i64 1, .string ⟨#[109]⟩] := by
    simp [termV, ckind, cval, TD.size, showT, str]
  rw [e]
  clear e
  go_enter Tryz.func136, Tryz.ntmps136
  go_wp2
  exact bodyPost_ret (v := .agg #[.int .i64 0, .int .i64 0, .slice none 0 0, .int .i64 1, .string ⟨#[109]⟩]) (by simp [results, Tryz.results136, go_sem]) rfl ⟨rfl, hb⟩

theorem parts_two {Lo : Nat} {w : World} {k : Int} {a b : TD} {pa pb : Value} (ha : PartsAt Lo w a pa) (hb : PartsAt Lo w b pb) : PartsAt Lo (w.alloc (.cells (tcells a pa ++ tcells b pb).toArray 119)) (.two k a b) (.slice (some ⟨w.heap.size, 0, none⟩) 2 2) :=
  have hb' : Below w.heap.size w (w.alloc (.cells (tcells a pa ++ tcells b pb).toArray 119)) := (Below.refl _ _).alloc (Nat.le_refl _) _
  ⟨_, pa, pb, rfl, ha.lo, heap_alloc_new w _, ha.keep hb', hb.keep hb'⟩

theorem parts_three {Lo : Nat} {w : World} {k : Int} {a b c : TD} {pa pb pc : Value} (ha : PartsAt Lo w a pa) (hb : PartsAt Lo w b pb) (hc : PartsAt Lo w c pc) : PartsAt Lo (w.alloc (.cells (tcells a pa ++ tcells b pb ++ tcells c pc).toArray 119)) (.three k a b c) (.slice (some ⟨w.heap.size, 0, none⟩) 3 3) :=
  have hb' : Below w.heap.size w (w.alloc (.cells (tcells a pa ++ tcells b pb ++ tcells c pc).toArray 119)) := (Below.refl _ _).alloc (Nat.le_refl _) _
  ⟨_, pa, pb, pc, rfl, ha.lo, heap_alloc_new w _, ha.keep hb', hb.keep hb', hc.keep hb'⟩

/-- Two terms in boxes, and a box for what is handed back. -/
structure Box2 (w W : World) (A B G : Nat) (u v : TD) (pu pv : Value) : Prop where
  ru : Row W A 119 (tcells u pu)
  rv : Row W B 119 (tcells v pv)
  rg : Row W G 119 zT
  keep : Below w.heap.size w W
  ge : w.heap.size ≤ G
  ag : A ≠ G
  bg : B ≠ G

theorem Box2.next {w W W' : World} {A B G : Nat} {u v : TD} {pu pv : Value} (h : Box2 w W A B G u v pu pv) (hb : Below W.heap.size W W') : Box2 w W' A B G u v pu pv :=
  ⟨h.ru.keep hb, h.rv.keep hb, h.rg.keep hb, h.keep.trans (hb.mono h.keep.size), h.ge, h.ag, h.bg⟩

theorem Box2.start (w : World) (u v : TD) (pu pv : Value) : Box2 w (((w.alloc (.cells #[.int .i64 (ckind u), .int .i64 (cval u), pu, .int .i64 u.size, .string (str (showT u))] 119)).alloc (.cells #[.int .i64 (ckind v), .int .i64 (cval v), pv, .int .i64 v.size, .string (str (showT v))] 119)).alloc (.cells #[.int .i64 0, .int .i64 0, .slice none 0 0, .int .i64 0, .string ⟨#[]⟩] 119)) w.heap.size (w.heap.size + 1) (w.heap.size + 1 + 1) u v pu pv := by
  refine ⟨Row.alloc (Row.alloc (heap_alloc_new w _) _) _, Row.alloc (heap_alloc2_new w _ _) _, ?_, (((Below.refl _ _).alloc (Nat.le_refl _) _).alloc (by simp) _).alloc (by simp; omega) _, by omega, by omega, by omega⟩
  have := heap_alloc_new ((w.alloc (.cells #[.int .i64 (ckind u), .int .i64 (cval u), pu, .int .i64 u.size, .string (str (showT u))] 119)).alloc (.cells #[.int .i64 (ckind v), .int .i64 (cval v), pv, .int .i64 v.size, .string (str (showT v))] 119)) (.cells #[.int .i64 0, .int .i64 0, .slice none 0 0, .int .i64 0, .string ⟨#[]⟩] 119)
  simp only [World.size_alloc] at this
  exact this

/-- What is handed back is laid into its box. -/
theorem Box2.fin {Lo : Nat} {w W : World} {A B G : Nat} {u v : TD} {pu pv : Value} (h : Box2 w W A B G u v pu pv) {t : TD} {ps : Value} (hp : PartsAt Lo W t ps) :
    PartsAt Lo (set5 W G (.int .i64 (ckind t)) (.int .i64 (cval t)) ps (.int .i64 t.size) (.string (str (showT t)))) t ps ∧ Below w.heap.size w (set5 W G (.int .i64 (ckind t)) (.int .i64 (cval t)) ps (.int .i64 t.size) (.string (str (showT t)))) :=
  ⟨hp.on5 h.rg rfl _ _ _ _ _, set5_below h.keep h.ge _ _ _ _ _⟩

/-- Three terms in boxes, and a box for what is handed back. -/
structure Box3 (w W : World) (A B C G : Nat) (u v x : TD) (pu pv px : Value) : Prop where
  ru : Row W A 119 (tcells u pu)
  rv : Row W B 119 (tcells v pv)
  rx : Row W C 119 (tcells x px)
  rg : Row W G 119 zT
  keep : Below w.heap.size w W
  ge : w.heap.size ≤ G

theorem Box3.next {w W W' : World} {A B C G : Nat} {u v x : TD} {pu pv px : Value} (h : Box3 w W A B C G u v x pu pv px) (hb : Below W.heap.size W W') : Box3 w W' A B C G u v x pu pv px :=
  ⟨h.ru.keep hb, h.rv.keep hb, h.rx.keep hb, h.rg.keep hb, h.keep.trans (hb.mono h.keep.size), h.ge⟩

theorem Box3.start (w : World) (u v x : TD) (pu pv px : Value) : Box3 w ((((w.alloc (.cells #[.int .i64 (ckind u), .int .i64 (cval u), pu, .int .i64 u.size, .string (str (showT u))] 119)).alloc (.cells #[.int .i64 (ckind v), .int .i64 (cval v), pv, .int .i64 v.size, .string (str (showT v))] 119)).alloc (.cells #[.int .i64 (ckind x), .int .i64 (cval x), px, .int .i64 x.size, .string (str (showT x))] 119)).alloc (.cells #[.int .i64 0, .int .i64 0, .slice none 0 0, .int .i64 0, .string ⟨#[]⟩] 119)) w.heap.size (w.heap.size + 1) (w.heap.size + 1 + 1) (w.heap.size + 1 + 1 + 1) u v x pu pv px := by
  refine ⟨Row.alloc (Row.alloc (Row.alloc (heap_alloc_new w _) _) _) _, Row.alloc (Row.alloc (heap_alloc2_new w _ _) _) _, ?_, ?_, ((((Below.refl _ _).alloc (Nat.le_refl _) _).alloc (by simp) _).alloc (by simp; omega) _).alloc (by simp; omega) _, by omega⟩
  · have := heap_alloc_new ((w.alloc (.cells #[.int .i64 (ckind u), .int .i64 (cval u), pu, .int .i64 u.size, .string (str (showT u))] 119)).alloc (.cells #[.int .i64 (ckind v), .int .i64 (cval v), pv, .int .i64 v.size, .string (str (showT v))] 119)) (.cells #[.int .i64 (ckind x), .int .i64 (cval x), px, .int .i64 x.size, .string (str (showT x))] 119)
    simp only [World.size_alloc] at this
    exact Row.alloc this _
  · have := heap_alloc_new (((w.alloc (.cells #[.int .i64 (ckind u), .int .i64 (cval u), pu, .int .i64 u.size, .string (str (showT u))] 119)).alloc (.cells #[.int .i64 (ckind v), .int .i64 (cval v), pv, .int .i64 v.size, .string (str (showT v))] 119)).alloc (.cells #[.int .i64 (ckind x), .int .i64 (cval x), px, .int .i64 x.size, .string (str (showT x))] 119)) (.cells #[.int .i64 0, .int .i64 0, .slice none 0 0, .int .i64 0, .string ⟨#[]⟩] 119)
    simp only [World.size_alloc] at this
    exact this

theorem Box3.fin {Lo : Nat} {w W : World} {A B C G : Nat} {u v x : TD} {pu pv px : Value} (h : Box3 w W A B C G u v x pu pv px) {t : TD} {ps : Value} (hp : PartsAt Lo W t ps) :
    PartsAt Lo (set5 W G (.int .i64 (ckind t)) (.int .i64 (cval t)) ps (.int .i64 t.size) (.string (str (showT t)))) t ps ∧ Below w.heap.size w (set5 W G (.int .i64 (ckind t)) (.int .i64 (cval t)) ps (.int .i64 t.size) (.string (str (showT t)))) :=
  ⟨hp.on5 h.rg rfl _ _ _ _ _, set5_below h.keep h.ge _ _ _ _ _⟩

set_option maxRecDepth 100000 in
set_option maxHeartbeats 2000000 in
theorem cOfTwo_cps {Lo : Nat} (k : Int) (hk : 3 ≤ k ∧ k ≤ 12) (u v : TD) (pu pv : Value) (w : World) (hu : PartsAt Lo w u pu) (hv : PartsAt Lo w v pv) (fu : u.fine) (fv : v.fine) (su : u.size ≤ 1000000000000) (sv : v.size ≤ 1000000000000) (Post : Ending → World → Prop)
    (hp : ∀ ps w', PartsAt Lo w' (.two k u v) ps → Below w.heap.size w w' → Post (.returned (termV (.two k u v) ps)) w') :
    Calls Tryz.prog 197 #[.int .i64 k, termV u pu, termV v pv] w Post := by
  have X0 := Box2.start w u v pu pv
  have HR : Hid (_ = _) := show_two k u v
  have q3 := fun w' => cSign_any k ⟨hk.1, by omega⟩ w'
  have zs : (str [signT k]).size = 1 := rfl
  have y1 := show_size fu (by omega)
  have y2 := show_size fv (by omega)
  have es : ((TD.two k u v).size : Int) = 1 + (u.size : Int) + (v.size : Int) := by simp only [TD.size]; omega
  have HP : Hid (∀ W A B G, Box2 w W A B G u v pu pv → Post (.returned (.agg #[.int .i64 k, .int .i64 0, .slice (some ⟨W.heap.size, 0, none⟩) 2 2, .int .i64 (1 + (u.size : Int) + (v.size : Int)), .string (str (showT (.two k u v)))]))
      (set5 (W.alloc (.cells #[.int .i64 (ckind u), .int .i64 (cval u), pu, .int .i64 u.size, .string (str (showT u)), .int .i64 (ckind v), .int .i64 (cval v), pv, .int .i64 v.size, .string (str (showT v))] 119)) G (.int .i64 k) (.int .i64 0) (.slice (some ⟨W.heap.size, 0, none⟩) 2 2) (.int .i64 (1 + (u.size : Int) + (v.size : Int))) (.string (str (showT (.two k u v)))))) := by
    intro W A B G X
    have h1 := parts_two (k := k) (hu.keep X.keep) (hv.keep X.keep)
    have h2 := (X.next ((Below.refl W.heap.size W).alloc (Nat.le_refl _) (.cells (tcells u pu ++ tcells v pv).toArray 119))).fin h1
    have h3 := hp _ _ h2.1 h2.2
    unfold termV at h3
    rw [es] at h3
    exact h3
  unfold termV
  clear hp hu hv fu fv es
  go_enter Tryz.func197, Tryz.ntmps197
  generalize str [signT k] = S at *
  go_wp2
  go_quiet (exact Calls.quiet_of_same ((q3 _).mono (fun _ _ h => ⟨h.1, h.2.symm⟩)))
  generalize hq : World.drewN _ nq = W
  have X : Box2 w W w.heap.size (w.heap.size + 1) (w.heap.size + 1 + 1) u v pu pv := by rw [← hq]; exact X0.next (below_drewN (Below.refl _ _) nq)
  clear hq X0 q3
  generalize w.heap.size + 1 + 1 = G at *
  generalize w.heap.size + 1 = B at *
  generalize hA : w.heap.size = A at X ⊢
  have HF := Lib.hid (HP.out W A B G X)
  clear hA HP
  have a0 := X.ru.cell (i := 0) rfl
  have a0' := fun o => (X.ru.alloc o).cell (i := 0) rfl
  have a1 := X.ru.cell (i := 1) rfl
  have a1' := fun o => (X.ru.alloc o).cell (i := 1) rfl
  have a2 := X.ru.cell (i := 2) rfl
  have a2' := fun o => (X.ru.alloc o).cell (i := 2) rfl
  have a3 := X.ru.cell (i := 3) rfl
  have a3' := fun o => (X.ru.alloc o).cell (i := 3) rfl
  have a4 := X.ru.cell (i := 4) rfl
  have a4' := fun o => (X.ru.alloc o).cell (i := 4) rfl
  have b0 := X.rv.cell (i := 0) rfl
  have b0' := fun o => (X.rv.alloc o).cell (i := 0) rfl
  have b1 := X.rv.cell (i := 1) rfl
  have b1' := fun o => (X.rv.alloc o).cell (i := 1) rfl
  have b2 := X.rv.cell (i := 2) rfl
  have b2' := fun o => (X.rv.alloc o).cell (i := 2) rfl
  have b3 := X.rv.cell (i := 3) rfl
  have b3' := fun o => (X.rv.alloc o).cell (i := 3) rfl
  have b4 := X.rv.cell (i := 4) rfl
  have b4' := fun o => (X.rv.alloc o).cell (i := 4) rfl
  have z0 := fun o => (X.rg.alloc o).cell (i := 0) rfl
  have f0 := fun o => (X.rg.alloc o).frozen 0
  have z1 := fun o => (X.rg.alloc o).cell (i := 1) rfl
  have f1 := fun o => (X.rg.alloc o).frozen 1
  have z2 := fun o => (X.rg.alloc o).cell (i := 2) rfl
  have f2 := fun o => (X.rg.alloc o).frozen 2
  have z3 := fun o => (X.rg.alloc o).cell (i := 3) rfl
  have f3 := fun o => (X.rg.alloc o).frozen 3
  have z4 := fun o => (X.rg.alloc o).cell (i := 4) rfl
  have f4 := fun o => (X.rg.alloc o).frozen 4
  unfold set5 at HF
  clear X
  generalize str (showT (.two k u v)) = R at *
  generalize str (showT u) = X1 at *
  generalize ckind u = ku at *
  generalize cval u = nu at *
  generalize u.size = zu at *
  generalize str (showT v) = Y1 at *
  generalize ckind v = kv at *
  generalize cval v = nv at *
  generalize v.size = zv at *
  go_wp2
  rw [HR.out]
  exact bodyPost_ret (v := .agg #[.int .i64 k, .int .i64 0, .slice (some ⟨W.heap.size, 0, none⟩) 2 2, .int .i64 (1 + (zu : Int) + (zv : Int)), .string R]) (by simp [results, Tryz.results197, go_sem, z0, z1, z2, z3, z4]) rfl HF.out

set_option maxRecDepth 100000 in
set_option maxHeartbeats 2000000 in
theorem cOfThree_cps {Lo : Nat} (u v x : TD) (pu pv px : Value) (w : World) (hu : PartsAt Lo w u pu) (hv : PartsAt Lo w v pv) (hx : PartsAt Lo w x px) (fu : u.fine) (fv : v.fine) (fx : x.fine) (su : u.size ≤ 1000000000000) (sv : v.size ≤ 1000000000000) (sx : x.size ≤ 1000000000000) (Post : Ending → World → Prop)
    (hp : ∀ ps w', PartsAt Lo w' (.three 13 u v x) ps → Below w.heap.size w w' → Post (.returned (termV (.three 13 u v x) ps)) w') :
    Calls Tryz.prog 207 #[termV u pu, termV v pv, termV x px] w Post := by
  have X0 := Box3.start w u v x pu pv px
  have HR : Hid (_ = _) := show_three 13 u v x
  have q3 := fun w' => cSign_any 13 (by omega) w'
  have zs : (str [signT 13]).size = 1 := rfl
  have y1 := show_size fu (by omega)
  have y2 := show_size fv (by omega)
  have y3 := show_size fx (by omega)
  have es : ((TD.three 13 u v x).size : Int) = 1 + (u.size : Int) + (v.size : Int) + (x.size : Int) := by simp only [TD.size]; omega
  have HP : Hid (∀ W A B C G, Box3 w W A B C G u v x pu pv px → Post (.returned (.agg #[.int .i64 13, .int .i64 0, .slice (some ⟨W.heap.size, 0, none⟩) 3 3, .int .i64 (1 + (u.size : Int) + (v.size : Int) + (x.size : Int)), .string (str (showT (.three 13 u v x)))]))
      (set5 (W.alloc (.cells #[.int .i64 (ckind u), .int .i64 (cval u), pu, .int .i64 u.size, .string (str (showT u)), .int .i64 (ckind v), .int .i64 (cval v), pv, .int .i64 v.size, .string (str (showT v)), .int .i64 (ckind x), .int .i64 (cval x), px, .int .i64 x.size, .string (str (showT x))] 119)) G (.int .i64 13) (.int .i64 0) (.slice (some ⟨W.heap.size, 0, none⟩) 3 3) (.int .i64 (1 + (u.size : Int) + (v.size : Int) + (x.size : Int))) (.string (str (showT (.three 13 u v x)))))) := by
    intro W A B C G X
    have h1 := parts_three (k := 13) (hu.keep X.keep) (hv.keep X.keep) (hx.keep X.keep)
    have h2 := (X.next ((Below.refl W.heap.size W).alloc (Nat.le_refl _) (.cells (tcells u pu ++ tcells v pv ++ tcells x px).toArray 119))).fin h1
    have h3 := hp _ _ h2.1 h2.2
    unfold termV at h3
    rw [es] at h3
    exact h3
  unfold termV
  clear hp hu hv hx fu fv fx es
  go_enter Tryz.func207, Tryz.ntmps207
  generalize str [signT 13] = S at *
  go_wp2
  go_quiet (exact Calls.quiet_of_same ((q3 _).mono (fun _ _ h => ⟨h.1, h.2.symm⟩)))
  generalize hq : World.drewN _ nq = W
  have X : Box3 w W w.heap.size (w.heap.size + 1) (w.heap.size + 1 + 1) (w.heap.size + 1 + 1 + 1) u v x pu pv px := by rw [← hq]; exact X0.next (below_drewN (Below.refl _ _) nq)
  clear hq X0 q3
  generalize w.heap.size + 1 + 1 + 1 = G at *
  generalize w.heap.size + 1 + 1 = C at *
  generalize w.heap.size + 1 = B at *
  generalize hA : w.heap.size = A at X ⊢
  have HF := Lib.hid (HP.out W A B C G X)
  clear hA HP
  have a0 := X.ru.cell (i := 0) rfl
  have a0' := fun o => (X.ru.alloc o).cell (i := 0) rfl
  have a1 := X.ru.cell (i := 1) rfl
  have a1' := fun o => (X.ru.alloc o).cell (i := 1) rfl
  have a2 := X.ru.cell (i := 2) rfl
  have a2' := fun o => (X.ru.alloc o).cell (i := 2) rfl
  have a3 := X.ru.cell (i := 3) rfl
  have a3' := fun o => (X.ru.alloc o).cell (i := 3) rfl
  have a4 := X.ru.cell (i := 4) rfl
  have a4' := fun o => (X.ru.alloc o).cell (i := 4) rfl
  have b0 := X.rv.cell (i := 0) rfl
  have b0' := fun o => (X.rv.alloc o).cell (i := 0) rfl
  have b1 := X.rv.cell (i := 1) rfl
  have b1' := fun o => (X.rv.alloc o).cell (i := 1) rfl
  have b2 := X.rv.cell (i := 2) rfl
  have b2' := fun o => (X.rv.alloc o).cell (i := 2) rfl
  have b3 := X.rv.cell (i := 3) rfl
  have b3' := fun o => (X.rv.alloc o).cell (i := 3) rfl
  have b4 := X.rv.cell (i := 4) rfl
  have b4' := fun o => (X.rv.alloc o).cell (i := 4) rfl
  have c0 := X.rx.cell (i := 0) rfl
  have c0' := fun o => (X.rx.alloc o).cell (i := 0) rfl
  have c1 := X.rx.cell (i := 1) rfl
  have c1' := fun o => (X.rx.alloc o).cell (i := 1) rfl
  have c2 := X.rx.cell (i := 2) rfl
  have c2' := fun o => (X.rx.alloc o).cell (i := 2) rfl
  have c3 := X.rx.cell (i := 3) rfl
  have c3' := fun o => (X.rx.alloc o).cell (i := 3) rfl
  have c4 := X.rx.cell (i := 4) rfl
  have c4' := fun o => (X.rx.alloc o).cell (i := 4) rfl
  have z0 := fun o => (X.rg.alloc o).cell (i := 0) rfl
  have f0 := fun o => (X.rg.alloc o).frozen 0
  have z1 := fun o => (X.rg.alloc o).cell (i := 1) rfl
  have f1 := fun o => (X.rg.alloc o).frozen 1
  have z2 := fun o => (X.rg.alloc o).cell (i := 2) rfl
  have f2 := fun o => (X.rg.alloc o).frozen 2
  have z3 := fun o => (X.rg.alloc o).cell (i := 3) rfl
  have f3 := fun o => (X.rg.alloc o).frozen 3
  have z4 := fun o => (X.rg.alloc o).cell (i := 4) rfl
  have f4 := fun o => (X.rg.alloc o).frozen 4
  unfold set5 at HF
  clear X
  generalize str (showT (.three 13 u v x)) = R at *
  generalize str (showT u) = X1 at *
  generalize ckind u = ku at *
  generalize cval u = nu at *
  generalize u.size = zu at *
  generalize str (showT v) = Y1 at *
  generalize ckind v = kv at *
  generalize cval v = nv at *
  generalize v.size = zv at *
  generalize str (showT x) = Z1 at *
  generalize ckind x = kx at *
  generalize cval x = nx at *
  generalize x.size = zx at *
  go_wp2
  rw [HR.out]
  exact bodyPost_ret (v := .agg #[.int .i64 13, .int .i64 0, .slice (some ⟨W.heap.size, 0, none⟩) 3 3, .int .i64 (1 + (zu : Int) + (zv : Int) + (zx : Int)), .string R]) (by simp [results, Tryz.results207, go_sem, z0, z1, z2, z3, z4]) rfl HF.out

end Go.Proofs.YtblhmeidbjigaaaGreatDoor

/- The code's terms: sum. -/
set_option linter.unusedSimpArgs false
set_option linter.unusedVariables false
namespace Go.Proofs.YtblhmeidbjigaaaGreatDoor
open Go.RowKit

/-- One term in a box, and a box for what is handed back. -/
structure Box1 (w W : World) (A G : Nat) (u : TD) (pu : Value) : Prop where
  ru : Row W A 119 (tcells u pu)
  rg : Row W G 119 zT
  keep : Below w.heap.size w W
  ge : w.heap.size ≤ G

theorem Box1.next {w W W' : World} {A G : Nat} {u : TD} {pu : Value} (h : Box1 w W A G u pu) (hb : Below W.heap.size W W') : Box1 w W' A G u pu :=
  ⟨h.ru.keep hb, h.rg.keep hb, h.keep.trans (hb.mono h.keep.size), h.ge⟩

theorem Box1.start (w : World) (u : TD) (pu : Value) : Box1 w ((w.alloc (.cells #[.int .i64 (ckind u), .int .i64 (cval u), pu, .int .i64 u.size, .string (str (showT u))] 119)).alloc (.cells #[.int .i64 0, .int .i64 0, .slice none 0 0, .int .i64 0, .string ⟨#[]⟩] 119)) w.heap.size (w.heap.size + 1) u pu :=
  ⟨Row.alloc (heap_alloc_new w _) _, heap_alloc2_new w _ _, ((Below.refl _ _).alloc (Nat.le_refl _) _).alloc (by simp) _, by omega⟩

theorem Box1.fin {Lo : Nat} {w W : World} {A G : Nat} {u : TD} {pu : Value} (h : Box1 w W A G u pu) {t : TD} {ps : Value} (hp : PartsAt Lo W t ps) :
    PartsAt Lo (set5 W G (.int .i64 (ckind t)) (.int .i64 (cval t)) ps (.int .i64 t.size) (.string (str (showT t)))) t ps ∧ Below w.heap.size w (set5 W G (.int .i64 (ckind t)) (.int .i64 (cval t)) ps (.int .i64 t.size) (.string (str (showT t)))) :=
  ⟨hp.on5 h.rg rfl _ _ _ _ _, set5_below h.keep h.ge _ _ _ _ _⟩

theorem cNumber_some {t : TD} {n : Int} (h : t.isNum = some n) (ps : Value) (w : World) :
    Calls Tryz.prog 179 #[termV t ps] w fun e w' => e = .returned (.tuple #[.int .i64 n, .bool true]) ∧ Below w.heap.size w w' := by
  obtain rfl := isNum_some h
  rw [num_V]
  have := cNumber_any 1 n 1 ps (str (Lib.itoa n)) w
  simpa using this

theorem cNumber_none {t : TD} (hf : t.fine) (h : t.isNum = none) (ps : Value) (w : World) :
    Calls Tryz.prog 179 #[termV t ps] w fun e w' => e = .returned (.tuple #[.int .i64 0, .bool false]) ∧ Below w.heap.size w w' := by
  have hk := (ckind_none hf).2 h
  have := cNumber_any (ckind t) (cval t) t.size ps (str (showT t)) w
  rw [if_neg hk, show (ckind t == 1) = false by simp [hk]] at this
  exact this

theorem PartsAt.slice {Lo : Nat} {w : World} {t : TD} {ps : Value} (h : PartsAt Lo w t ps) : ∃ ao n c, ps = .slice ao n c := by
  cases t with
  | leaf k n => exact ⟨_, _, _, h.1⟩
  | two k a b => obtain ⟨g, pa, pb, e, _⟩ := h; exact ⟨_, _, _, e⟩
  | three k a b c => obtain ⟨g, pa, pb, pc, e, _⟩ := h; exact ⟨_, _, _, e⟩

theorem add_kind {u : TD} (hf : u.fine) (h : ckind u = 3) : ∃ a b, u = .two 3 a b := by
  cases u with
  | leaf k n => simp only [ckind] at h; split at h <;> omega
  | two k a b => simp only [ckind] at h; exact ⟨a, b, by rw [h]⟩
  | three k a b c => obtain ⟨q, _⟩ := hf; simp only [ckind] at h; omega

theorem ckind_store {u : TD} (hf : u.fine) : ckind u = 13 ↔ u.kind = 13 := by
  cases u with
  | leaf k n => obtain ⟨q, _⟩ := hf; simp only [ckind, TD.kind]; split <;> omega
  | two k a b => exact Iff.rfl
  | three k a b c => exact Iff.rfl

set_option maxRecDepth 100000 in
set_option maxHeartbeats 2000000 in
theorem cSum_off (u : TD) (pu : Value) (w : World) (hk : ckind u ≠ 3) (Post : Ending → World → Prop)
    (h2 : ∀ w', Below w.heap.size w w' → Post (.returned (.tuple #[.agg #[.int .i64 0, .int .i64 0, .slice none 0 0, .int .i64 0, .string ⟨#[]⟩], .int .i64 0, .bool false])) w') :
    Calls Tryz.prog 211 #[termV u pu] w Post := by
  have X0 := Box1.start w u pu
  have HF := Lib.hid (h2 _ X0.keep)
  have hd : (ckind u == 3) = false := by simp [hk]
  unfold termV
  clear X0 h2
  generalize str (showT u) = X1 at *
  generalize ckind u = ku at *
  generalize cval u = nu at *
  generalize u.size = zu at *
  go_enter Tryz.func211, Tryz.ntmps211
  go_wp2
  (try simp only [Exit.inBlock, Exit.then])
  exact bodyPost_ret (v := .tuple #[.agg #[.int .i64 0, .int .i64 0, .slice none 0 0, .int .i64 0, .string ⟨#[]⟩], .int .i64 0, .bool false]) (by simp [results, Tryz.results211, go_sem]) rfl HF.out

set_option maxRecDepth 100000 in
set_option maxHeartbeats 2000000 in
theorem cSum_two {Lo : Nat} (u a b : TD) (pu : Value) (w : World) (hu : PartsAt Lo w u pu) (fu : u.fine) (he : u = .two 3 a b) (Post : Ending → World → Prop)
    (h1 : ∀ n pa w', b.isNum = some n → PartsAt Lo w' a pa → Below w.heap.size w w' → Post (.returned (.tuple #[termV a pa, .int .i64 n, .bool true])) w')
    (h2 : ∀ w', b.isNum = none → Below w.heap.size w w' → Post (.returned (.tuple #[.agg #[.int .i64 0, .int .i64 0, .slice none 0 0, .int .i64 0, .string ⟨#[]⟩], .int .i64 0, .bool false])) w') :
    Calls Tryz.prog 211 #[termV u pu] w Post := by
  have X0 := Box1.start w u pu
  obtain ⟨g, pa, pb, rfl, lg, r, ha, hb⟩ : ∃ g pa pb, pu = .slice (some ⟨g, 0, none⟩) 2 2 ∧ Lo ≤ g ∧ Row w g 119 (tcells a pa ++ tcells b pb) ∧ PartsAt Lo w a pa ∧ PartsAt Lo w b pb := by rw [he] at hu; exact hu
  have fb : b.fine := by rw [he] at fu; exact fu.2.2.2
  have hk : ckind u = 3 := by rw [he]; rfl
  have r' := r.keep X0.keep
  have c5 := r'.cell (i := 5) rfl
  have c6 := r'.cell (i := 6) rfl
  have c7 := r'.cell (i := 7) rfl
  have c8 := r'.cell (i := 8) rfl
  have c9 := r'.cell (i := 9) rfl
  have HX := Lib.hid X0
  have HR := Lib.hid r'
  have HA := Lib.hid (ha.keep X0.keep)
  obtain ⟨ao, an, ac, rfl⟩ := ha.slice
  cases hbn : b.isNum with
  | some n =>
    have qn := cNumber_some hbn pb ((w.alloc (.cells #[.int .i64 (ckind u), .int .i64 (cval u), (.slice (some ⟨g, 0, none⟩) 2 2), .int .i64 u.size, .string (str (showT u))] 119)).alloc (.cells #[.int .i64 0, .int .i64 0, .slice none 0 0, .int .i64 0, .string ⟨#[]⟩] 119))
    have HP := Lib.hid (fun pa w' => h1 n pa w' hbn)
    unfold termV at qn ⊢
    rw [hk] at HX HR HA c5 c6 c7 c8 c9 qn ⊢
    clear h1 h2 hu fu he r r' X0 ha hb hk fb hbn
    generalize str (showT b) = Y1 at *
    generalize ckind b = kb at *
    generalize cval b = nb at *
    generalize b.size = zb at *
    go_enter Tryz.func211, Tryz.ntmps211
    go_wp2_with fail
    refine qn.mono ?_
    rintro e w1 ⟨rfl, b1⟩
    have X := HX.out.next b1
    have rp := HR.out.keep b1
    have pA := HA.out.keep b1
    have c0 := rp.cell (i := 0) rfl
    have c1 := rp.cell (i := 1) rfl
    have c2 := rp.cell (i := 2) rfl
    have c3 := rp.cell (i := 3) rfl
    have c4 := rp.cell (i := 4) rfl
    have a0 := X.ru.cell (i := 0) rfl
    have a1 := X.ru.cell (i := 1) rfl
    have a2 := X.ru.cell (i := 2) rfl
    have a3 := X.ru.cell (i := 3) rfl
    have a4 := X.ru.cell (i := 4) rfl
    have z0 := X.rg.cell (i := 0) rfl
    have f0 := X.rg.frozen 0
    have z1 := X.rg.cell (i := 1) rfl
    have f1 := X.rg.frozen 1
    have z2 := X.rg.cell (i := 2) rfl
    have f2 := X.rg.frozen 2
    have z3 := X.rg.cell (i := 3) rfl
    have f3 := X.rg.frozen 3
    have z4 := X.rg.cell (i := 4) rfl
    have f4 := X.rg.frozen 4
    have y := X.fin pA
    have HF := Lib.hid (HP.out (.slice ao an ac) _ y.1 y.2)
    unfold termV set5 at HF
    clear HP y X rp pA qn b1 HX HR HA c5 c6 c7 c8 c9
    generalize str (showT a) = V1 at *
    generalize ckind a = ka at *
    generalize cval a = na at *
    generalize a.size = za at *
    go_wp2
    (try simp only [Exit.inBlock, Exit.then])
    refine bodyPost_ret (v := .tuple #[.agg #[.int .i64 ka, .int .i64 na, .slice ao an ac, .int .i64 za, .string V1], .int .i64 n, .bool true]) ?_ rfl ?_
    · simp [results, Tryz.results211, go_sem, z0, z1, z2, z3, z4]
    · exact HF.out
  | none =>
    have qn := cNumber_none fb hbn pb ((w.alloc (.cells #[.int .i64 (ckind u), .int .i64 (cval u), (.slice (some ⟨g, 0, none⟩) 2 2), .int .i64 u.size, .string (str (showT u))] 119)).alloc (.cells #[.int .i64 0, .int .i64 0, .slice none 0 0, .int .i64 0, .string ⟨#[]⟩] 119))
    have HP := Lib.hid (fun w' => h2 w' hbn)
    unfold termV at qn ⊢
    rw [hk] at HX HR HA c5 c6 c7 c8 c9 qn ⊢
    clear h1 h2 hu fu he r r' X0 ha hb hk fb hbn
    generalize str (showT b) = Y1 at *
    generalize ckind b = kb at *
    generalize cval b = nb at *
    generalize b.size = zb at *
    go_enter Tryz.func211, Tryz.ntmps211
    go_wp2_with fail
    refine qn.mono ?_
    rintro e w1 ⟨rfl, b1⟩
    have X := HX.out.next b1
    have z0 := X.rg.cell (i := 0) rfl
    have f0 := X.rg.frozen 0
    have z1 := X.rg.cell (i := 1) rfl
    have f1 := X.rg.frozen 1
    have z2 := X.rg.cell (i := 2) rfl
    have f2 := X.rg.frozen 2
    have z3 := X.rg.cell (i := 3) rfl
    have f3 := X.rg.frozen 3
    have z4 := X.rg.cell (i := 4) rfl
    have f4 := X.rg.frozen 4
    have HF := Lib.hid (HP.out _ (set5_below X.keep X.ge (.int .i64 0) (.int .i64 0) (.slice none 0 0) (.int .i64 0) (.string ⟨#[]⟩)))
    unfold set5 at HF
    clear HP X qn b1 HX HR HA c5 c6 c7 c8 c9
    go_wp2
    (try simp only [Exit.inBlock, Exit.then])
    refine bodyPost_ret (v := .tuple #[.agg #[.int .i64 0, .int .i64 0, .slice none 0 0, .int .i64 0, .string ⟨#[]⟩], .int .i64 0, .bool false]) ?_ rfl ?_
    · simp [results, Tryz.results211, go_sem, z0, z1, z2, z3, z4]
    · exact HF.out

theorem cSum_cps {Lo : Nat} (u : TD) (pu : Value) (w : World) (hu : PartsAt Lo w u pu) (fu : u.fine) (Post : Ending → World → Prop)
    (h1 : ∀ a n pa w', u.isPlus = some (a, n) → PartsAt Lo w' a pa → Below w.heap.size w w' → Post (.returned (.tuple #[termV a pa, .int .i64 n, .bool true])) w')
    (h2 : ∀ w', u.isPlus = none → Below w.heap.size w w' → Post (.returned (.tuple #[.agg #[.int .i64 0, .int .i64 0, .slice none 0 0, .int .i64 0, .string ⟨#[]⟩], .int .i64 0, .bool false])) w') :
    Calls Tryz.prog 211 #[termV u pu] w Post := by
  by_cases hk : ckind u = 3
  · obtain ⟨a, b, he⟩ := add_kind fu hk
    refine cSum_two u a b pu w hu fu he Post (fun n pa w' hn p1 p2 => h1 a n pa w' ?_ p1 p2) (fun w' hn p1 => h2 w' ?_ p1)
    · rw [he]; simp [TD.isPlus, hn]
    · rw [he]; simp [TD.isPlus, hn]
  · refine cSum_off u pu w hk Post (fun w' p1 => h2 w' ?_ p1)
    cases u with
    | leaf k n => rfl
    | two k a b => simp only [ckind] at hk; simp [TD.isPlus, hk]
    | three k a b c => rfl

end Go.Proofs.YtblhmeidbjigaaaGreatDoor
