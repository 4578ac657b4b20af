/- What a row's listed tables give: the table of powers. -/
import Derived.Test.YtblhmeidbjigaaaGreatDoorRows
import Derived.WalkKit
import Derived.WalkSpells
import Derived.WalkLawsBesides
import Derived.Laws.BytesArg
import Derived.Deep.QuietTactic
import Derived.BigQuiet
import Derived.Deep.RegionHeld3
import Derived.Lib.ItoaNum
import Derived.Lib.ItoaLen
import Derived.OpenShut
import Derived.Maps.AppendAt
import Derived.Shelf.Strconv.Itoa3
import Derived.Shelf.Lay
import Derived.Ground.NamesProg
import Derived.Lib.SmallJoins
import Derived.ProofKit
import Derived.LaidMore
import Derived.Stop.Joined
import Derived.Stop.LaidErr
import Derived.Test.YtblhmeidbjigaaaGreatDoorTOkToTTreeWarned

set_option linter.unusedSimpArgs false
set_option linter.unusedVariables false
namespace Go.Proofs.YtblhmeidbjigaaaGreatDoor
open Go.ChangeShapes Go.WideShapes Go.ChangeAt Go.WideMaps Go.WideElems Go.RowKit

theorem Tryz.own : ownKnob Tryz.prog.godebug = none := by kernel_rfl
theorem Tryz.laidOut : laidOutB Tryz.prog = true := by kernel_rfl

theorem tab_at0 {W : World} {r : List (String × DataW Unit)} (h : laidMet Tryz.prog (("internal/strconv.uint64pow10", Lib.tabData .u64 Lib.pow10Tab) :: r) W) : TabW W :=
  Lib.tabIs_of_head (g := 0) (t := 209) (e := 193) (n := 20) (by kernel_rfl) (by kernel_rfl) Tryz.underlying209 Tryz.underlying193 (by kernel_rfl) (by kernel_rfl) h
theorem tab_at1 {W : World} {x : String × DataW Unit} {r : List (String × DataW Unit)} (h : laidMet Tryz.prog (x :: ("internal/strconv.uint64pow10", Lib.tabData .u64 Lib.pow10Tab) :: r) W) : TabW W := tab_at0 (laidMet.tail h)
theorem tab_at2 {W : World} {x y : String × DataW Unit} {r : List (String × DataW Unit)} (h : laidMet Tryz.prog (x :: y :: ("internal/strconv.uint64pow10", Lib.tabData .u64 Lib.pow10Tab) :: r) W) : TabW W := tab_at1 (laidMet.tail h)

end Go.Proofs.YtblhmeidbjigaaaGreatDoor

/- The reference's terms: Show. -/
set_option linter.unusedSimpArgs false
set_option linter.unusedVariables false
namespace Go.Proofs.YtblhmeidbjigaaaGreatDoor
open Go.RowKit

theorem show_size {t : TD} (h : t.fine) (hs : t.size ≤ 4000000000000) : (str (showT t)).size ≤ 96000000000000 := by
  have := show_length h
  simp only [str, ByteArray.size, List.size_toArray]
  omega

theorem show_two (k : Int) (a b : TD) : (⟨#[40]⟩ : ByteArray) ++ str [signT k] ++ ⟨#[32]⟩ ++ str (showT a) ++ ⟨#[32]⟩ ++ str (showT b) ++ ⟨#[41]⟩ = str (showT (.two k a b)) := by
  show str [40] ++ str [signT k] ++ str [32] ++ str (showT a) ++ str [32] ++ str (showT b) ++ str [41] = _
  simp only [str_append, showT]
  congr 1
  simp

theorem show_three (k : Int) (a b c : TD) : (⟨#[40]⟩ : ByteArray) ++ str [signT k] ++ ⟨#[32]⟩ ++ str (showT a) ++ ⟨#[32]⟩ ++ str (showT b) ++ ⟨#[32]⟩ ++ str (showT c) ++ ⟨#[41]⟩ = str (showT (.three k a b c)) := by
  show str [40] ++ str [signT k] ++ str [32] ++ str (showT a) ++ str [32] ++ str (showT b) ++ str [32] ++ str (showT c) ++ str [41] = _
  simp only [str_append, showT]
  congr 1
  simp

theorem itoa_size {n : Int} (h : W64 n) : (str (Lib.itoa n)).size ≤ 21 := by
  have := Lib.itoa_length_le n h.1 h.2
  simp only [str, ByteArray.size, List.size_toArray]
  omega

end Go.Proofs.YtblhmeidbjigaaaGreatDoor

/- A block traps at the first of its marks that fails: pure. -/
set_option linter.unusedSimpArgs false
set_option linter.unusedVariables false
noncomputable section
namespace Go.Proofs.YtblhmeidbjigaaaGreatDoor
open Go.RowKit Classical

/-- A mark: a cell's number, or two words that are divided. -/
inductive MD where
  | cell (u : TD)
  | div (u v : TD)

/-- The mark of the operation behind the first k ones, as it is before any is left out. -/
def rawMark (regs slots : Int) (names : List Int) (ops : List OpD) (k : Nat) : Option MD :=
  if (ops.getD k oz).kind = 11 then some (.div (behindT regs slots names ops k (ops.getD k oz).b) (behindT regs slots names ops k (ops.getD k oz).c))
  else if (ops.getD k oz).kind = 12 then some (.cell (behindT regs slots names ops k (ops.getD k oz).b))
  else if (ops.getD k oz).kind = 13 then some (.cell (behindT regs slots names ops k (ops.getD k oz).a))
  else none

/-- How a mark fails, worked out: 0: it does not. -/
def fails (r : EnvD) (data : Int) : MD → Int
  | .cell u => if 0 ≤ evW r u ∧ evW r u < data then 0 else 2
  | .div _ v => if evW r v = 0 then 3 else 0

/-- The first that fails. -/
def firstFail (r : EnvD) (data : Int) : List MD → Int
  | [] => 0
  | m :: l => if fails r data m ≠ 0 then fails r data m else firstFail r data l

theorem firstFail_snoc (r : EnvD) (data : Int) (l : List MD) (m : MD) : firstFail r data (l ++ [m]) = if firstFail r data l ≠ 0 then firstFail r data l else fails r data m := by
  induction l with
  | nil => simp only [List.nil_append, firstFail]; split <;> simp_all
  | cons x l ih =>
    simp only [List.cons_append, firstFail]
    by_cases h : fails r data x = 0
    · simp only [h, ne_eq, not_true_eq_false, if_false]; exact ih
    · simp only [ne_eq, h, not_false_eq_true, if_true]

theorem firstFail_mem {r : EnvD} {data : Int} {l : List MD} (h : firstFail r data l = 0) {m : MD} (hm : m ∈ l) : fails r data m = 0 := by
  induction l with
  | nil => cases hm
  | cons x l ih =>
    simp only [firstFail] at h
    by_cases hx : fails r data x = 0
    · simp only [hx, ne_eq, not_true_eq_false, if_false] at h
      rcases List.mem_cons.1 hm with rfl | hm
      · exact hx
      · exact ih h hm
    · simp only [ne_eq, hx, not_false_eq_true, if_true] at h

/-- An operation traps as its mark fails. -/
theorem step_fails {r : EnvD} {regs slots data : Int} {names : List Int} {ops : List OpD} {k : Nat} {s : RunD} (h : Holds r regs slots data names ops k s) (hg : opsGood regs slots ops = true) (hk : k < ops.length) (hz : Sized s regs data slots) (ht : s.trap = 0) :
    (stepOp s (ops.getD k oz)).trap = match rawMark regs slots names ops k with | some m => fails r data m | none => 0 := by
  have hf := good_fields (opsGood_getD hg hk)
  obtain ⟨zr, zc, zs⟩ := hz
  unfold rawMark
  generalize ops.getD k oz = o at *
  by_cases h11 : o.kind = 11
  · have hc : (0 ≤ o.c ∧ o.c < regs) := by omega
    rw [if_pos h11]
    simp only [fails]
    rw [h.reg _ hc.1 hc.2]
    unfold stepOp
    rw [if_neg (by omega), if_neg (by omega), if_neg (by omega), if_neg (by omega), if_neg (by omega), if_neg (by omega), if_pos h11]
    split
    · rfl
    · exact ht
  rw [if_neg h11]
  by_cases h12 : o.kind = 12
  · have hb : (0 ≤ o.b ∧ o.b < regs) := by omega
    rw [if_pos h12]
    simp only [fails]
    rw [h.reg _ hb.1 hb.2]
    unfold stepOp
    rw [if_neg (by omega), if_neg (by omega), if_pos h12, zc]
    split
    · exact ht
    · rfl
  rw [if_neg h12]
  by_cases h13 : o.kind = 13
  · have ha : (0 ≤ o.a ∧ o.a < regs) := by omega
    rw [if_pos h13]
    simp only [fails]
    rw [h.reg _ ha.1 ha.2]
    unfold stepOp
    rw [if_neg (by omega), if_neg (by omega), if_neg (by omega), if_pos h13, zc]
    split
    · exact ht
    · rfl
  rw [if_neg h13]
  simp only
  unfold stepOp
  repeat' split
  all_goals first | exact ht | omega

/-- The marks of the first k operations, none left out. -/
def rawMarks (regs slots : Int) (names : List Int) (ops : List OpD) : Nat → List MD
  | 0 => []
  | k + 1 => match rawMark regs slots names ops k with
    | some m => rawMarks regs slots names ops k ++ [m]
    | none => rawMarks regs slots names ops k

/-- A run of a block ends as the first of its marks that fails says. -/
theorem block_fails {r : EnvD} (hw : r.wide) {regs slots data : Int} {names : List Int} {ops : List OpD} {s : RunD} (h : Holds r regs slots data names ops 0 s) (hr : 0 ≤ regs ∧ regs ≤ 100) (hs : 0 ≤ slots ∧ slots ≤ 100) (hn : ∀ x ∈ names, x ≤ 1000) (hg : opsGood regs slots ops = true)
    (hz : Sized s regs data slots) (ht : s.trap = 0) : ∀ k, k ≤ ops.length → (doOps (ops.take k) s).trap = firstFail r data (rawMarks regs slots names ops k) := by
  intro k
  induction k with
  | zero => intro _; exact ht
  | succ k ih =>
    intro hk
    have ih := ih (by omega)
    have e := doOps_take (show k < ops.length by omega) s
    have ho : (⟨okind ops k, oa ops k, ob ops k, oc ops k⟩ : OpD) = ops.getD k oz := rfl
    rw [ho] at e
    rw [e]
    by_cases h0 : (doOps (ops.take k) s).trap = 0
    · rw [if_pos h0]
      have hh := h.all hw hr hs hn hg hz k (by omega) h0
      rw [step_fails hh hg (by omega) (hz.doOps _) h0]
      rw [h0] at ih
      simp only [rawMarks]
      cases hm : rawMark regs slots names ops k with
      | none => exact ih
      | some m => simp only; rw [firstFail_snoc, if_neg (by simp [← ih])]
    · rw [if_neg h0]
      simp only [rawMarks]
      cases hm : rawMark regs slots names ops k with
      | none => exact ih
      | some m => simp only; rw [firstFail_snoc, if_pos (by rw [← ih]; exact h0)]; exact ih

/-- A mark that is left out for its numbers. -/
def idle (data : Int) : MD → Bool
  | .cell u => match u.isNum with | some n => decide (0 ≤ n ∧ n < data) | none => false
  | .div u v => match u.isNum, v.isNum with | some _, some y => decide (y ≠ 0) | _, _ => false

theorem idle_fails {r : EnvD} {data : Int} {m : MD} (h : idle data m = true) : fails r data m = 0 := by
  cases m with
  | cell u =>
    simp only [idle] at h
    split at h
    · rename_i n hn
      simp only [decide_eq_true_eq] at h
      simp only [fails]
      rw [isNum_some hn, ev_num, if_pos h]
    · cases h
  | div u v =>
    simp only [idle] at h
    split at h
    · rename_i a y ha hy
      simp only [decide_eq_true_eq] at h
      simp only [fails]
      rw [isNum_some hy, ev_num, if_neg h]
    · cases h

/-- P11: the marks of the first k operations. -/
def marksD (regs slots data : Int) (names : List Int) (ops : List OpD) : Nat → List MD
  | 0 => []
  | k + 1 => match rawMark regs slots names ops k with
    | some m => if idle data m = true ∨ m ∈ marksD regs slots data names ops k then marksD regs slots data names ops k else marksD regs slots data names ops k ++ [m]
    | none => marksD regs slots data names ops k

/-- Marks that are left out never fail first. -/
theorem marks_fail (r : EnvD) (regs slots data : Int) (names : List Int) (ops : List OpD) (k : Nat) : firstFail r data (marksD regs slots data names ops k) = firstFail r data (rawMarks regs slots names ops k) := by
  induction k with
  | zero => rfl
  | succ k ih =>
    simp only [marksD, rawMarks]
    cases hm : rawMark regs slots names ops k with
    | none => exact ih
    | some m =>
      simp only
      rw [firstFail_snoc, ← ih]
      split
      · rename_i h
        split
        · rfl
        · rename_i h0
          have h0' : firstFail r data (marksD regs slots data names ops k) = 0 := by simpa using h0
          rw [h0']
          rcases h with h | h
          · exact (idle_fails h).symm
          · exact (firstFail_mem h0' h).symm
      · rw [firstFail_snoc]

/-- A block's run ends with the kind of the first of its marks that fails; it goes on if none does. -/
theorem block_marks {r : EnvD} (hw : r.wide) {regs slots data : Int} {names : List Int} {ops : List OpD} {s : RunD} (h : Holds r regs slots data names ops 0 s) (hr : 0 ≤ regs ∧ regs ≤ 100) (hs : 0 ≤ slots ∧ slots ≤ 100) (hn : ∀ x ∈ names, x ≤ 1000) (hg : opsGood regs slots ops = true)
    (hz : Sized s regs data slots) (ht : s.trap = 0) : (doOps ops s).trap = firstFail r data (marksD regs slots data names ops ops.length) := by
  have := block_fails hw h hr hs hn hg hz ht ops.length (Nat.le_refl _)
  rw [List.take_length] at this
  rw [this, marks_fail]

end Go.Proofs.YtblhmeidbjigaaaGreatDoor

/- Terms that can be worked out by reading: sorts, letters that there are, cells that there are, no division by 0; pure. -/
set_option linter.unusedSimpArgs false
set_option linter.unusedVariables false
noncomputable section
namespace Go.Proofs.YtblhmeidbjigaaaGreatDoor
open Go.RowKit Classical

/-- Is it a term of all cells? -/
def cellsT : TD → Prop
  | .leaf k _ => k = 103
  | .two _ _ _ => False
  | .three _ _ _ _ => True

/-- Is it a term of a word? -/
def wordT : TD → Prop
  | .leaf k _ => k ≠ 103
  | .two _ _ _ => True
  | .three _ _ _ _ => False

/-- It can be worked out. -/
def safeT (r : EnvD) (regs slots data : Int) : TD → Prop
  | .leaf k n => (k = 101 → 0 ≤ n ∧ n < regs) ∧ (k = 102 → regs ≤ n ∧ n < regs + slots)
  | .two k a b => safeT r regs slots data a ∧ safeT r regs slots data b ∧ wordT b ∧ (if k = 12 then cellsT a ∧ 0 ≤ evW r b ∧ evW r b < data else wordT a) ∧ (k = 11 → evW r b ≠ 0)
  | .three _ c a v => safeT r regs slots data c ∧ safeT r regs slots data a ∧ safeT r regs slots data v ∧ cellsT c ∧ wordT a ∧ wordT v ∧ 0 ≤ evW r a ∧ evW r a < data

section
variable {r : EnvD} {regs slots data : Int}

theorem num_safe (n : Int) : safeT r regs slots data (tnum n) ∧ wordT (tnum n) := by simp [tnum, safeT, wordT]

theorem two_safe {k : Int} {a b : TD} (hk : k ≠ 12) (ha : safeT r regs slots data a ∧ wordT a) (hb : safeT r regs slots data b ∧ wordT b) (hd : k = 11 → evW r b ≠ 0) : safeT r regs slots data (.two k a b) ∧ wordT (.two k a b) :=
  ⟨⟨ha.1, hb.1, hb.2, by rw [if_neg hk]; exact ha.2, hd⟩, trivial⟩

theorem addN_safe : ∀ (u : TD) (k : Int), safeT r regs slots data u ∧ wordT u → safeT r regs slots data (addN u k) ∧ wordT (addN u k) := by
  intro u
  induction u with
  | leaf q n =>
    intro k h
    simp only [addN]
    split
    · exact num_safe _
    split
    · exact h
    · exact two_safe (by omega) h (num_safe _) (by omega)
  | two q a b iha ihb =>
    intro k h
    simp only [addN]
    split
    · exact h
    split
    · rename_i m e1
      have h4 := h.1.2.2.2.1
      exact iha _ ⟨h.1.1, by simpa using h4⟩
    · exact two_safe (by omega) h (num_safe _) (by omega)
  | three q a b c => intro k h; exact absurd h.2 (by simp [wordT])

theorem beside_safe {kind n : Int} {u t : TD} (h : besideT kind u n = some t) (hu : safeT r regs slots data u ∧ wordT u) : safeT r regs slots data t ∧ wordT t := by
  unfold besideT at h
  repeat' split at h
  all_goals first | cases h; done | (simp only [Option.some.injEq] at h; subst h) | skip
  all_goals first | exact addN_safe _ _ hu | exact hu | exact num_safe _ | skip
  cases hp : u.isPlus with
  | none => rw [hp] at h; cases h
  | some p =>
    obtain ⟨a, m⟩ := p
    rw [hp] at h
    simp only [Option.map_some, Option.some.injEq] at h
    subst h
    obtain rfl := isPlus_some hp
    have h4 := hu.1.2.2.2.1
    exact addN_safe _ _ ⟨hu.1.1, by simpa using h4⟩

theorem row_safe {kind : Int} {u v : TD} (hk : 3 ≤ kind ∧ kind ≤ 11) (hu : safeT r regs slots data u ∧ wordT u) (hv : safeT r regs slots data v ∧ wordT v) (hd : kind = 11 → evW r v ≠ 0) : safeT r regs slots data (rowT kind u v) ∧ wordT (rowT kind u v) := by
  unfold rowT
  split
  · rename_i t e
    cases hn : v.isNum with
    | none => rw [hn] at e; cases e
    | some n => rw [hn] at e; exact beside_safe e hu
  · repeat' split
    all_goals first | exact num_safe _ | exact hu | exact two_safe (by omega) hu hv hd

theorem made_safe {kind : Int} {u v : TD} (hk : 3 ≤ kind ∧ kind ≤ 11) (hu : safeT r regs slots data u ∧ wordT u) (hv : safeT r regs slots data v ∧ wordT v) (hd : kind = 11 → evW r v ≠ 0) : safeT r regs slots data (madeT kind u v) ∧ wordT (madeT kind u v) := by
  have ht : turnsT kind = true → kind ≠ 11 := fun h e => by subst e; simp [turnsT] at h
  unfold madeT
  split
  · split
    · exact row_safe hk hu hv hd
    · exact num_safe _
  · split
    · rename_i h; exact row_safe hk hv hu (fun e => absurd e (ht h))
    · exact row_safe hk hu hv hd
  · exact row_safe hk hu hv hd
  · split
    · rename_i h; exact row_safe hk hv hu (fun e => absurd e (ht h.1))
    · exact row_safe hk hu hv hd

theorem read_safe (m u : TD) (hm : safeT r regs slots data m ∧ cellsT m) (hu : safeT r regs slots data u ∧ wordT u) (hi : 0 ≤ evW r u ∧ evW r u < data) : safeT r regs slots data (readT m u) ∧ wordT (readT m u) := by
  have key : ∀ m, safeT r regs slots data m ∧ cellsT m → safeT r regs slots data (.two 12 m u) ∧ wordT (.two 12 m u) := fun m hm =>
    ⟨⟨hm.1, hu.1, hu.2, by rw [if_pos rfl]; exact ⟨hm.2, hi⟩, by omega⟩, trivial⟩
  induction m with
  | leaf k n => exact key _ hm
  | two k a b => exact absurd hm.2 (by simp [cellsT])
  | three k c a v ihc iha ihv =>
    unfold readT
    split
    · rename_i e
      cases e
      split
      · exact ⟨hm.1.2.2.1, hm.1.2.2.2.2.2.1⟩
      split
      · exact ihc ⟨hm.1.1, hm.1.2.2.2.1⟩
      · exact key _ hm
    · exact key _ hm

theorem left_safe (m u : TD) (hm : safeT r regs slots data m ∧ cellsT m) : safeT r regs slots data (leftT m u) ∧ cellsT (leftT m u) := by
  induction m with
  | leaf k n => exact hm
  | two k a b => exact absurd hm.2 (by simp [cellsT])
  | three k c a v ihc iha ihv =>
    unfold leftT
    split
    · rename_i e
      cases e
      split
      · exact ⟨hm.1.1, hm.1.2.2.2.1⟩
      split
      · have h := ihc ⟨hm.1.1, hm.1.2.2.2.1⟩
        exact ⟨⟨h.1, hm.1.2.1, hm.1.2.2.1, h.2, hm.1.2.2.2.2⟩, trivial⟩
      · exact hm
    · exact hm

theorem laid_safe (m u v : TD) (hm : safeT r regs slots data m ∧ cellsT m) (hu : safeT r regs slots data u ∧ wordT u) (hv : safeT r regs slots data v ∧ wordT v) (hi : 0 ≤ evW r u ∧ evW r u < data) : safeT r regs slots data (laidT m u v) ∧ cellsT (laidT m u v) := by
  have key : ∀ m, safeT r regs slots data m ∧ cellsT m → safeT r regs slots data (.three 13 m u v) ∧ cellsT (.three 13 m u v) := fun m hm =>
    ⟨⟨hm.1, hu.1, hv.1, hm.2, hu.2, hv.2, hi⟩, trivial⟩
  induction m with
  | leaf k n => exact key _ hm
  | two k a b => exact absurd hm.2 (by simp [cellsT])
  | three k c a w ihc iha ihv =>
    unfold laidT
    split
    · rename_i e
      cases e
      split
      · split
        · have h := ihc ⟨hm.1.1, hm.1.2.2.2.1⟩
          exact ⟨⟨h.1, hm.1.2.1, hm.1.2.2.1, h.2, hm.1.2.2.2.2⟩, trivial⟩
        · exact key _ hm
      · exact key _ hm
    · exact key _ hm

theorem written_safe (m u v : TD) (hm : safeT r regs slots data m ∧ cellsT m) (hu : safeT r regs slots data u ∧ wordT u) (hv : safeT r regs slots data v ∧ wordT v) (hi : 0 ≤ evW r u ∧ evW r u < data) : safeT r regs slots data (writtenT m u v) ∧ cellsT (writtenT m u v) := by
  unfold writtenT
  split
  · exact hm
  · exact laid_safe _ u v (left_safe m u hm) hu hv hi

theorem raw_mono {names : List Int} {ops : List OpD} {j : Nat} {m : MD} (h : rawMark regs slots names ops j = some m) : ∀ k, j < k → m ∈ rawMarks regs slots names ops k := by
  intro k
  induction k with
  | zero => intro hj; omega
  | succ k ih =>
    intro hj
    simp only [rawMarks]
    by_cases e : j = k
    · subst e; rw [h]; simp
    · have := ih (by omega)
      split
      · simp [this]
      · exact this

/-- Where no mark of the first k operations fails, what stands behind them can be worked out. -/
theorem behind_safe {ops : List OpD} (hr : 0 ≤ regs) (hs : 0 ≤ slots) (hg : opsGood regs slots ops = true) : ∀ (k : Nat), k ≤ ops.length → firstFail r data (rawMarks regs slots (plainNames regs slots) ops k) = 0 →
    ∀ place : Int, 0 ≤ place → place ≤ regs + slots → safeT r regs slots data (behindT regs slots (plainNames regs slots) ops k place) ∧ (place < regs + slots → wordT (behindT regs slots (plainNames regs slots) ops k place)) ∧ (place = regs + slots → cellsT (behindT regs slots (plainNames regs slots) ops k place)) := by
  intro k
  induction k with
  | zero =>
    intro _ _ place h0 h1
    have hl : (plainNames regs slots).length = (regs + slots).toNat := by simp [plainNames]
    simp only [behindT, firstT]
    by_cases hp : ((plainNames regs slots).length : Int) ≤ place
    · rw [if_pos hp]; exact ⟨by simp [safeT], fun h => by omega, fun _ => rfl⟩
    · rw [if_neg hp]
      have hlt : place.toNat < (regs + slots).toNat := by omega
      have hget : (plainNames regs slots).getD place.toNat 0 = if place < regs then place else -1 := by
        simp only [plainNames, List.getD, List.getElem?_map, List.getElem?_range hlt]
        simp only [Option.map_some, Option.getD_some]
        rw [Int.toNat_of_nonneg h0]
      rw [hget]
      by_cases hpr : place < regs
      · rw [if_pos hpr, if_neg (by omega)]
        exact ⟨by simp [safeT]; omega, fun _ => by simp [wordT], fun h => by omega⟩
      · rw [if_neg hpr, if_pos (by omega)]
        exact ⟨by simp [safeT]; omega, fun _ => by simp [wordT], fun h => by omega⟩
  | succ k ih =>
    intro hk hf place h0 h1
    have hf' : firstFail r data (rawMarks regs slots (plainNames regs slots) ops k) = 0 := by
      simp only [rawMarks] at hf
      split at hf
      · rw [firstFail_snoc] at hf
        split at hf
        · rename_i h; exact absurd hf h
        · rename_i h; exact Classical.not_not.1 h
      · exact hf
    have ih := ih (by omega) hf'
    have hgo := good_fields (opsGood_getD hg (show k < ops.length by omega))
    have hno : ∀ m, rawMark regs slots (plainNames regs slots) ops k = some m → fails r data m = 0 := fun m hm => firstFail_mem hf (raw_mono hm (k + 1) (by omega))
    rw [behindT_succ]
    unfold rawMark at hno
    generalize ops.getD k oz = o at *
    generalize behindT regs slots (plainNames regs slots) ops k = W at *
    by_cases hw : writesT regs slots o ≠ place
    · rw [if_pos hw]; exact ih place h0 h1
    rw [if_neg hw]
    have hw : writesT regs slots o = place := Classical.not_not.1 hw
    unfold writesT at hw
    have reg : ∀ i, 0 ≤ i → i < regs → safeT r regs slots data (W i) ∧ wordT (W i) := fun i hi hj => ⟨(ih i hi (by omega)).1, (ih i hi (by omega)).2.1 (by omega)⟩
    have mem : safeT r regs slots data (W (regs + slots)) ∧ cellsT (W (regs + slots)) := ⟨(ih _ (by omega) (by omega)).1, (ih _ (by omega) (by omega)).2.2 rfl⟩
    rcases hgo with ⟨h, ha, hb, hc⟩ | ⟨h, ha, hb⟩ | ⟨h, ha, hb, hc⟩ | ⟨h, ha, hb⟩ | ⟨h, ha, hb⟩
    · rw [if_neg (by omega), if_neg (by omega)] at hw
      rw [if_pos h]
      exact ⟨(num_safe _).1, fun _ => (num_safe (r := r) (regs := regs) (slots := slots) (data := data) _).2, fun e => by omega⟩
    · rw [if_neg (by omega)]
      rcases h with h | h | h
      · rw [if_neg (by omega), if_neg (by omega)] at hw
        rw [if_pos (.inl h)]
        exact ⟨(reg _ hb.1 hb.2).1, fun _ => (reg _ hb.1 hb.2).2, fun e => by omega⟩
      · rw [if_neg (by omega), if_neg (by omega)] at hw
        rw [if_neg (by omega), if_neg (by omega), if_pos h]
        have hf := hno (.cell (W o.b)) (by rw [if_neg (by omega), if_pos h])
        simp only [fails] at hf
        have hi : 0 ≤ evW r (W o.b) ∧ evW r (W o.b) < data := by
          split at hf
          · assumption
          · omega
        have q := read_safe _ _ mem (reg _ hb.1 hb.2) hi
        exact ⟨q.1, fun _ => q.2, fun e => by omega⟩
      · rw [if_pos h] at hw
        rw [if_neg (by omega), if_neg (by omega), if_neg (by omega), if_pos h]
        have hf := hno (.cell (W o.a)) (by rw [if_neg (by omega), if_neg (by omega), if_pos h])
        simp only [fails] at hf
        have hi : 0 ≤ evW r (W o.a) ∧ evW r (W o.a) < data := by
          split at hf
          · assumption
          · omega
        have q := written_safe _ _ _ mem (reg _ ha.1 ha.2) (reg _ hb.1 hb.2) hi
        exact ⟨q.1, fun e => by omega, fun _ => q.2⟩
    · rw [if_neg (by omega), if_neg (by omega)] at hw
      rw [if_neg (by omega), if_neg (by omega), if_neg (by omega), if_neg (by omega), if_neg (by omega)]
      have hd : o.kind = 11 → evW r (W o.c) ≠ 0 := fun e => by
        have hf := hno (.div (W o.b) (W o.c)) (by rw [if_pos e])
        simp only [fails] at hf
        split at hf
        · omega
        · assumption
      have q := made_safe h (reg _ hb.1 hb.2) (reg _ hc.1 hc.2) hd
      exact ⟨q.1, fun _ => q.2, fun e => by omega⟩
    · rw [if_neg (by omega), if_pos h] at hw
      rw [if_neg (by omega), if_pos (.inr h)]
      exact ⟨(reg _ hb.1 hb.2).1, fun _ => (reg _ hb.1 hb.2).2, fun e => by omega⟩
    · rw [if_neg (by omega), if_neg (by omega)] at hw
      rw [if_neg (by omega), if_neg (by omega), if_pos h]
      have q := ih (regs + o.b) (by omega) (by omega)
      exact ⟨q.1, fun _ => q.2.1 (by omega), fun e => by omega⟩
end

end Go.Proofs.YtblhmeidbjigaaaGreatDoor

/- Texts of terms that are read: one, calc, byteAt. -/
set_option linter.unusedSimpArgs false
set_option linter.unusedVariables false
namespace Go.Proofs.YtblhmeidbjigaaaGreatDoor
open Go.RowKit

theorem kOne_any (b : Bool) (w : World) : Calls Tryz.prog 124 #[.bool b] w fun e w' => e = .returned (.int .i64 (if b = true then 1 else 0)) ∧ w = w' := by
  cases b
  all_goals
    go_enter Tryz.func124, Tryz.ntmps124
    go_wp2
    go_ret
    exact ⟨rfl, rfl⟩

set_option maxRecDepth 100000 in
set_option maxHeartbeats 2000000 in
theorem kCalc_any (k x y : Int) (w : World) (hk : 3 ≤ k ∧ k ≤ 11) (hy : k = 11 → y ≠ 0) : Calls Tryz.prog 83 #[.int .u8 (signT k).toNat, .int .i64 x, .int .i64 y] w fun e w' => e = .returned (.tuple #[.int .i64 (calcW k x y), .bool true]) ∧ w = w' := by
  obtain rfl | rfl | rfl | rfl | rfl | rfl | rfl | rfl | rfl : k = 9 ∨ k = 10 ∨ k = 3 ∨ k = 4 ∨ k = 5 ∨ k = 6 ∨ k = 7 ∨ k = 8 ∨ k = 11 := by omega
  · have e : ((signT 9).toNat : Int) = 60 := by simp [signT]
    rw [e]
    by_cases h : x < y
    all_goals
      go_enter Tryz.func83, Tryz.ntmps83
      go_wp2_with (first | (go_at_call 124; refine (kOne_any _ _).mono ?_; rintro e w' ⟨rfl, rfl⟩))
      go_ret2
      exact ⟨by simp [calcW, h], rfl⟩
  · have e : ((signT 10).toNat : Int) = 61 := by simp [signT]
    rw [e]
    by_cases h : x = y
    all_goals
      go_enter Tryz.func83, Tryz.ntmps83
      go_wp2_with (first | (go_at_call 124; refine (kOne_any _ _).mono ?_; rintro e w' ⟨rfl, rfl⟩))
      go_ret2
      exact ⟨by simp [calcW, h], rfl⟩
  · have e : ((signT 3).toNat : Int) = 43 := by simp [signT]
    rw [e]
    go_enter Tryz.func83, Tryz.ntmps83
    go_wp2
    go_ret2
    exact ⟨by simp [calcW], rfl⟩
  · have e : ((signT 4).toNat : Int) = 45 := by simp [signT]
    rw [e]
    go_enter Tryz.func83, Tryz.ntmps83
    go_wp2
    go_ret2
    exact ⟨by simp [calcW], rfl⟩
  · have e : ((signT 5).toNat : Int) = 42 := by simp [signT]
    rw [e]
    go_enter Tryz.func83, Tryz.ntmps83
    go_wp2
    go_ret2
    exact ⟨by simp [calcW], rfl⟩
  · have e : ((signT 6).toNat : Int) = 38 := by simp [signT]
    rw [e]
    go_enter Tryz.func83, Tryz.ntmps83
    go_wp2
    go_ret2
    exact ⟨by simp [calcW], rfl⟩
  · have e : ((signT 7).toNat : Int) = 124 := by simp [signT]
    rw [e]
    go_enter Tryz.func83, Tryz.ntmps83
    go_wp2
    go_ret2
    exact ⟨by simp [calcW], rfl⟩
  · have e : ((signT 8).toNat : Int) = 94 := by simp [signT]
    rw [e]
    go_enter Tryz.func83, Tryz.ntmps83
    go_wp2
    go_ret2
    exact ⟨by simp [calcW], rfl⟩
  · have e : ((signT 11).toNat : Int) = 47 := by simp [signT]
    have h0 := hy rfl
    rw [e]
    go_enter Tryz.func83, Tryz.ntmps83
    go_wp2
    go_ret2
    exact ⟨by simp [calcW], rfl⟩

/-- A reading's cells. -/
def rdgC (L : List UInt8) (pos : Int) (bad : Bool) (rv sv mv : Value) : List Value := [.string (str L), .int .i64 pos, .bool bad, rv, sv, mv]

/-- The byte that is next; 0: there is none. -/
def nextB (L : List UInt8) (n : Nat) : Int := ((L.getD n 0).toNat : Int)

theorem str_at (L : List UInt8) (n : Nat) (h : n < L.length) : (str L).size = L.length ∧ ∀ hq, (((str L)[n]'hq).toNat : Int) = nextB L n := by
  refine ⟨by simp [str, ByteArray.size], fun hq => ?_⟩
  unfold nextB
  have e1 : (str L)[n]'hq = L[n]'h := rfl
  have e2 : L.getD n 0 = L[n]'h := by simp only [List.getD, List.getElem?_eq_getElem h, Option.getD_some]
  rw [e1, e2]

set_option maxRecDepth 100000 in
set_option maxHeartbeats 1000000 in
theorem kByteAt_any (R : Nat) (L : List UInt8) (n : Nat) (bad : Bool) (rv sv mv : Value) (w : World) (h : Row w R 57 (rdgC L n bad rv sv mv)) (hL : L.length ≤ 1000000000) :
    Calls Tryz.prog 50 #[.pointer (some ⟨R, 0, none⟩)] w fun e w' => e = .returned (.int .u8 (nextB L n)) ∧ ∃ m, w' = w.drewN m := by
  have c0 := h.cell (i := 0) rfl
  have c1 := h.cell (i := 1) rfl
  have hs : (str L).size = L.length := by simp [str, ByteArray.size]
  clear h
  by_cases hn : n < L.length
  · obtain ⟨_, hb⟩ := str_at L n hn
    have hn1 : (n : Int) < ((str L).size : Int) := by rw [hs]; omega
    have hn2 : n < (str L).size := by rw [hs]; exact hn
    have hn0 : (0 : Int) ≤ (n : Int) := by omega
    have HB := Lib.hid (hb hn2)
    clear hb
    generalize nextB L n = B at *
    generalize str L = S at *
    go_enter Tryz.func50, Tryz.ntmps50
    go_wp2
    go_quiet (fail)
    revert nq
    intro n1
    go_wp2
    go_quiet (fail)
    go_wp2
    go_ret
    refine ⟨?_, ⟨_, by first | rfl | rw [World.drewN_drewN]⟩⟩
    rw [← HB.out]
    rfl
  · have hn1 : ((str L).size : Int) ≤ (n : Int) := by rw [hs]; omega
    have hb : nextB L n = 0 := by unfold nextB; simp [List.getD, hn]
    rw [hb]
    generalize str L = S at *
    go_enter Tryz.func50, Tryz.ntmps50
    go_wp2
    go_quiet (fail)
    go_wp2
    go_ret
    exact ⟨rfl, ⟨_, rfl⟩⟩

end Go.Proofs.YtblhmeidbjigaaaGreatDoor

/- Texts of terms that are read: take; what a row of digits says. -/
set_option linter.unusedSimpArgs false
set_option linter.unusedVariables false
namespace Go.Proofs.YtblhmeidbjigaaaGreatDoor
open Go.RowKit

set_option maxRecDepth 100000 in
set_option maxHeartbeats 1000000 in
theorem kTake_cps (R : Nat) (L : List UInt8) (n : Nat) (bad : Bool) (rv sv mv : Value) (c : Int) (w : World) (h : Row w R 57 (rdgC L n bad rv sv mv)) (hL : L.length ≤ 1000000000) (hn : n < L.length) (hc : nextB L n = c) (Post : Ending → World → Prop)
    (hp : ∀ w', Row w' R 57 (rdgC L ((n : Int) + 1) bad rv sv mv) → Keep (fun g => g = R) w w' → Post (.returned (.tuple #[])) w') :
    Calls Tryz.prog 53 #[.pointer (some ⟨R, 0, none⟩), .int .u8 c] w Post := by
  have q := kByteAt_any R L n bad rv sv mv w h hL
  rw [hc] at q
  have hs : (str L).size = L.length := by simp [str, ByteArray.size]
  have hn1 : (n : Int) < ((str L).size : Int) := by rw [hs]; omega
  have rN : ∀ m, Row (w.drewN m) R 57 (rdgC L n bad rv sv mv) := fun m => h.keep (below_drewN (Below.refl _ _) m)
  have HF : Hid (∀ m, Post (.returned (.tuple #[])) ((w.drewN m).setCell ⟨R, 1, none⟩ (.int .i64 ((n : Int) + 1)))) := fun m =>
    hp _ ((rN m).set 1 _) (((Keep.refl (fun g => g = R) w).below (below_drewN (Below.refl w.heap.size w) m) (Nat.le_refl _)).setCell (p := ⟨R, 1, none⟩) (.inl rfl) _)
  have c0 := fun m => (rN m).cell (i := 0) rfl
  have c1 := fun m => (rN m).cell (i := 1) rfl
  have f1 := fun m => (rN m).frozen 1
  clear h hp rN hc
  generalize str L = S at *
  go_enter Tryz.func53, Tryz.ntmps53
  go_wp2_with fail
  refine q.mono ?_
  rintro e w1 ⟨rfl, m, rfl⟩
  have d0 := c0 m
  have d1 := c1 m
  go_wp2
  go_quiet (fail)
  have e1 := c1 (m + nq)
  have g1 := f1 (m + nq)
  try rw [World.drewN_drewN]
  go_wp2
  go_end0
  exact HF.out (m + nq)

/-- The word of a row of digits. -/
def digW : List UInt8 → Int → Int
  | [], a => a
  | d :: ds, a => digW ds (wrap64 (10 * a + ((d.toNat : Int) - 48)))

theorem digW_snoc (ds : List UInt8) (d : UInt8) (a : Int) : digW (ds ++ [d]) a = wrap64 (10 * digW ds a + ((d.toNat : Int) - 48)) := by
  induction ds generalizing a with
  | nil => rfl
  | cons x ds ih => exact ih _

/-- From place n on the text has the digits ds, and then none. -/
structure DigitsAt (L : List UInt8) (n : Nat) (ds : List UInt8) : Prop where
  len : n + ds.length ≤ L.length
  each : ∀ j, j < ds.length → L.getD (n + j) 0 = ds.getD j 0
  digit : ∀ d ∈ ds, 48 ≤ d.toNat ∧ d.toNat ≤ 57
  stop : n + ds.length < L.length → ¬ (48 ≤ (L.getD (n + ds.length) 0).toNat ∧ (L.getD (n + ds.length) 0).toNat ≤ 57)
  some : ds ≠ []

end Go.Proofs.YtblhmeidbjigaaaGreatDoor

/- Texts of terms that are read: digits. -/
set_option linter.unusedSimpArgs false
set_option linter.unusedVariables false
namespace Go.Proofs.YtblhmeidbjigaaaGreatDoor
open Go.RowKit Go.Deep

theorem digW_take (ds : List UInt8) {j : Nat} (hj : j < ds.length) (a : Int) : digW (ds.take (j + 1)) a = wrap64 (10 * digW (ds.take j) a + (((ds.getD j 0).toNat : Int) - 48)) := by
  rw [List.take_succ_eq_append_getElem hj, digW_snoc]
  simp [List.getD, hj]

set_option maxRecDepth 100000 in
set_option maxHeartbeats 1000000 in
theorem kDigits_cps (R : Nat) (L : List UInt8) (n : Nat) (bad : Bool) (rv sv mv : Value) (ds : List UInt8) (w : World) (h : Row w R 57 (rdgC L n bad rv sv mv)) (hL : L.length ≤ 1000000000) (hd : DigitsAt L n ds) (Post : Ending → World → Prop)
    (hp : ∀ w', Row w' R 57 (rdgC L ((n + ds.length : Nat) : Int) bad rv sv mv) → Keep (fun g => g = R) w w' → Post (.returned (.int .i64 (digW ds 0))) w') :
    Calls Tryz.prog 51 #[.pointer (some ⟨R, 0, none⟩)] w Post := by
  have HD := Lib.hid hd
  have HP := Lib.hid hp
  have HL := Lib.hid hL
  have HR := Lib.hid h
  have HS : Hid ((str L).size = L.length) := by show _ = _; simp [str, ByteArray.size]
  have HLT : Hid (n + ds.length ≤ 1000000000) := by show _ ≤ _; have := hd.len; omega
  clear hp hd hL h
  go_enter Tryz.func51, Tryz.ntmps51
  go_wp2
  go_loopw [3, 4] (fun nv kv wi => ∃ (j : Nat), j ≤ ds.length ∧ nv = .int .i64 (digW (ds.take j) 0) ∧ kv = .int .i64 j ∧ Row wi R 57 (rdgC L ((n + j : Nat) : Int) bad rv sv mv) ∧ Keep (fun g => g = R) w wi)
    (fun _ kv _ => ds.length - (intOf kv).toNat)
  case atStart => exact ⟨0, by omega, rfl, rfl, HR.out, Keep.refl _ _⟩
  case round =>
    clear HR
    obtain ⟨j, hj, rfl, rfl, rX, ke⟩ := hrel
    obtain ⟨q, hq⟩ : ∃ q, q = n + j := ⟨_, rfl⟩
    have HQ := Lib.hid hq
    rw [← hq] at rX
    obtain ⟨V, hV⟩ : ∃ V, V = digW (ds.take j) 0 := ⟨_, rfl⟩
    rw [← hV]
    by_cases hjd : j < ds.length
    · have HB : Hid (nextB L q = ((ds.getD j 0).toNat : Int)) := by
        show _ = _
        unfold nextB
        rw [hq, HD.out.each j hjd]
      have hdg : 48 ≤ (ds.getD j 0).toNat ∧ (ds.getD j 0).toNat ≤ 57 := HD.out.digit _ (by simp [List.getD, hjd])
      have HN : Hid (digW (ds.take (j + 1)) 0 = wrap64 (10 * V + (((ds.getD j 0).toNat : Int) - 48))) := by show _ = _; rw [hV, digW_take ds hjd]
      have hql : q < L.length := by have := HD.out.len; omega
      obtain ⟨_, hb⟩ := str_at L q hql
      have hn1 : (q : Int) < ((str L).size : Int) := by rw [HS.out]; omega
      have hn2 : q < (str L).size := by rw [HS.out]; exact hql
      have hb2 := hb hn2
      rw [HB.out] at hb2
      have hn0 : (0 : Int) ≤ (q : Int) := by omega
      have c0 := rX.cell (i := 0) rfl
      have c1 := rX.cell (i := 1) rfl
      have rN : ∀ m, Row (wr.drewN m) R 57 (rdgC L q bad rv sv mv) := fun m => rX.keep (below_drewN (Below.refl _ _) m)
      have d0 := fun m => (rN m).cell (i := 0) rfl
      have d1 := fun m => (rN m).cell (i := 1) rfl
      have f1 := fun m => (rN m).frozen 1
      generalize (ds.getD j 0).toNat = B at *
      clear hq hb rX
      have hqld : decide (q < L.length) = true := by simpa using hql
      generalize str L = S at *
      have hB1 : (48 : Int) ≤ (B : Int) := by omega
      have hB2 : (B : Int) ≤ 57 := by omega
      have hB3 : decide ((48 : Int) ≤ (B : Int)) = true := by simpa using hB1
      have hB4 : decide ((B : Int) ≤ 57) = true := by simpa using hB2
      have hj9 : j ≤ 1000000000 := by have := HLT.out; omega
      have hq9 : q ≤ 1000000000 := by have := HLT.out; have := HQ.out; omega
      have HE : Hid (wrap64 (wrap64 (10 * V) + ((B : Int) - 48)) = wrap64 (10 * V + ((B : Int) - 48))) := by show _ = _; unfold wrap64; omega
      have hws : IntKind.i64.wrap ((q : Int) + 1) = (q : Int) + 1 := by rw [IntKind.wrap_i64]; omega
      go_wp2
      go_quiet (fail)
      revert nq
      intro n1
      have c0' := d0 n1
      have c1' := d1 n1
      go_wp2
      go_quiet (fail)
      try rw [World.drewN_drewN]
      have c2' := d1 (n1 + nq)
      have c3' := f1 (n1 + nq)
      have HR2 := Lib.hid ((rN (n1 + nq)).set 1 (.int .i64 ((q : Int) + 1)))
      have HK2 := Lib.hid ((ke.below (below_drewN (Below.refl wr.heap.size wr) (n1 + nq)) ke.size).setCell (p := ⟨R, 1, none⟩) (.inl rfl) (.int .i64 ((q : Int) + 1)))
      clear rN d0 d1 f1
      go_wp2
      go_roundw
      case rel =>
        have eq1 : ((n + (j + 1) : Nat) : Int) = (q : Int) + 1 := by rw [HQ.out]; omega
        refine ⟨j + 1, by omega, ?_, by go_num, ?_, ?_⟩
        · rw [HN.out, ← HE.out]
          first | rfl | (rw [hV]) | skip
        · rw [eq1]; exact HR2.out
        · exact HK2.out
      case measure => simp [intOf]; omega
    · have hje : j = ds.length := by omega
      have hj1 : 1 ≤ j := by
        have := HD.out.some
        cases hds : ds with
        | nil => exact absurd hds this
        | cons x r => rw [hje, hds]; simp
      have hj9 : j ≤ 1000000000 := by have := HLT.out; omega
      have hk0 : ¬ ((j : Int) = 0) := by omega
      have HV : Hid (V = digW ds 0) := by show _ = _; rw [hV, hje, List.take_length]
      have hn0 : (0 : Int) ≤ (q : Int) := by omega
      have c0 := rX.cell (i := 0) rfl
      have c1 := rX.cell (i := 1) rfl
      have rN : ∀ m, Row (wr.drewN m) R 57 (rdgC L q bad rv sv mv) := fun m => rX.keep (below_drewN (Below.refl _ _) m)
      have HF : Hid (∀ m, Post (.returned (.int .i64 V)) (wr.drewN m)) := fun m => by
        rw [HV.out]
        refine HP.out _ ?_ (ke.below (below_drewN (Below.refl wr.heap.size wr) m) ke.size)
        rw [← hje, ← hq]
        exact rN m
      clear rN ke rX
      by_cases hql : q < L.length
      · obtain ⟨hS, hb⟩ := str_at L q hql
        have hn1 : (q : Int) < ((str L).size : Int) := by rw [HS.out]; omega
        have hn2 : q < (str L).size := by rw [HS.out]; exact hql
        have hb2 := hb hn2
        have hst := HD.out.stop (by rw [← hje, ← hq]; exact hql)
        rw [← hje, ← hq] at hst
        have HNB : Hid (nextB L q = ((L.getD q 0).toNat : Int)) := rfl
        rw [HNB.out] at hb2
        generalize (L.getD q 0).toNat = B at *
        have hqld : decide (q < L.length) = true := by simpa using hql
        clear hq hb hje hV hjd hj
        generalize str L = S at *
        by_cases hB : (48 : Int) ≤ (B : Int)
        · have hB2 : ¬ (B : Int) ≤ 57 := by omega
          have hB3 : decide ((48 : Int) ≤ (B : Int)) = true := by simpa using hB
          have hB4 : decide ((B : Int) ≤ 57) = false := by simpa using hB2
          go_wp2
          go_quiet (fail)
          go_wp2
          exact HF.out _
        · have hB3 : decide ((48 : Int) ≤ (B : Int)) = false := by simpa using hB
          go_wp2
          go_quiet (fail)
          go_wp2
          exact HF.out _
      · have hS := HS.out
        have hqld : decide (q < L.length) = false := by simpa using hql
        have hn1 : ((str L).size : Int) ≤ (q : Int) := by rw [HS.out]; omega
        clear hq hje hV hjd hj
        generalize str L = S at *
        go_wp2
        go_quiet (fail)
        go_wp2
        exact HF.out _

end Go.Proofs.YtblhmeidbjigaaaGreatDoor
