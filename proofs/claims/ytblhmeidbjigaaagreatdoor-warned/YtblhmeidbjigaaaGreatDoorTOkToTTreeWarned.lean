/- Terms as they are made: their kinds, their numbers, how long their texts are; pure. -/
import Derived.Test.YtblhmeidbjigaaaGreatDoorRows
import Derived.WalkKit
import Derived.WalkSpells
import Derived.WalkLawsBesides
import Derived.Laws.BytesArg
import Derived.Deep.QuietTactic
import Derived.BigQuiet
import Derived.Deep.RegionHeld3
import Derived.Lib.ItoaNum
import Derived.Lib.ItoaLen
import Derived.OpenShut
import Derived.Maps.AppendAt
import Derived.Shelf.Strconv.Itoa3
import Derived.Shelf.Lay
import Derived.Ground.NamesProg
import Derived.Lib.SmallJoins
import Derived.Test.YtblhmeidbjigaaaGreatDoorCodAToTInjWarned

set_option linter.unusedSimpArgs false
set_option linter.unusedVariables false
noncomputable section
namespace Go.Proofs.YtblhmeidbjigaaaGreatDoor
open Go.RowKit Classical

def W64 (n : Int) : Prop := -9223372036854775808 ≤ n ∧ n ≤ 9223372036854775807

theorem w64_of {n : Int} (h : (Lit.int .i64 n).wf = true) : W64 n := by
  simp only [Lit.wf, Bool.and_eq_true, decide_eq_true_eq] at h
  exact ⟨Int.le_trans (by decide) h.1, Int.le_trans h.2 (by decide)⟩

theorem w64_wrap (n : Int) : W64 (wrap64 n) := w64_of (wrap64_wf n)

theorem w64_small {n : Int} (h : -1000000 ≤ n ∧ n ≤ 1000000) : W64 n := ⟨by omega, by omega⟩

theorem w64_calc (k x y : Int) : W64 (calcW k x y) := by
  unfold calcW
  repeat' split
  all_goals first | exact w64_wrap _ | exact w64_of (wf_bits _ _ _ _) | exact w64_small (by omega)

/-- A term as it is made. -/
def TD.fine : TD → Prop
  | .leaf k n => (k = 100 ∨ k = 101 ∨ k = 102 ∨ (k = 103 ∧ n = 0)) ∧ W64 n
  | .two k a b => 3 ≤ k ∧ k ≤ 12 ∧ a.fine ∧ b.fine
  | .three k a b c => k = 13 ∧ a.fine ∧ b.fine ∧ c.fine

theorem TD.fine.ok {t : TD} (h : t.fine) : t.ok := by
  induction t with
  | leaf k n => exact h.1
  | two k a b iha ihb => exact ⟨h.1, h.2.1, iha h.2.2.1, ihb h.2.2.2⟩
  | three k a b c iha ihb ihc => exact ⟨h.1, iha h.2.1, ihb h.2.2.1, ihc h.2.2.2⟩

theorem TD.size_pos (t : TD) : 1 ≤ t.size := by cases t <;> simp only [TD.size] <;> omega

theorem show_length {t : TD} (h : t.fine) : (showT t).length ≤ 24 * t.size := by
  induction t with
  | leaf k n =>
    have hl := Lib.itoa_length_le n h.2.1 h.2.2
    simp only [showT, TD.size]
    repeat' split
    all_goals (try simp only [List.length_cons, List.length_nil]); omega
  | two k a b iha ihb =>
    have h1 := iha h.2.2.1
    have h2 := ihb h.2.2.2
    simp only [showT, TD.size, List.length_cons, List.length_append, List.length_nil]
    omega
  | three k a b c iha ihb ihc =>
    have h1 := iha h.2.1
    have h2 := ihb h.2.2.1
    have h3 := ihc h.2.2.2
    simp only [showT, TD.size, List.length_cons, List.length_append, List.length_nil]
    omega

theorem tnum_fine {n : Int} (h : W64 n) : (tnum n).fine := ⟨.inl rfl, h⟩

theorem isNum_some {t : TD} {n : Int} (h : t.isNum = some n) : t = tnum n := by
  cases t with
  | leaf k m =>
    simp only [TD.isNum] at h
    split at h
    · rename_i e; subst e; cases h; rfl
    · cases h
  | two k a b => cases h
  | three k a b c => cases h

theorem isNum_fine {t : TD} {n : Int} (h : t.isNum = some n) (hf : t.fine) : W64 n := by
  rw [isNum_some h] at hf
  exact hf.2

theorem isPlus_some {t a : TD} {n : Int} (h : t.isPlus = some (a, n)) : t = .two 3 a (tnum n) := by
  cases t with
  | leaf k m => cases h
  | two k x y =>
    simp only [TD.isPlus] at h
    split at h
    · rename_i e
      subst e
      cases hy : y.isNum with
      | none => rw [hy] at h; cases h
      | some m =>
        rw [hy] at h
        simp only [Option.map_some, Option.some.injEq, Prod.mk.injEq] at h
        obtain ⟨rfl, rfl⟩ := h
        rw [isNum_some hy]
    · cases h
  | three k x y z => cases h

theorem addN_fine : ∀ (u : TD) (k : Int), u.fine → W64 k → (addN u k).fine := by
  intro u
  induction u with
  | leaf q n =>
    intro k hu hk
    simp only [addN]
    repeat' split
    · exact tnum_fine (w64_wrap _)
    · exact hu
    · exact ⟨by omega, by omega, hu, tnum_fine hk⟩
  | two q a b iha ihb =>
    intro k hu hk
    simp only [addN]
    split
    · exact hu
    · split
      · exact iha _ hu.2.2.1 (w64_wrap _)
      · exact ⟨by omega, by omega, hu, tnum_fine hk⟩
  | three q a b c =>
    intro k hu hk
    simp only [addN]
    split
    · exact hu
    · exact ⟨by omega, by omega, hu, tnum_fine hk⟩

theorem besideT_fine {kind n : Int} {u t : TD} (h : besideT kind u n = some t) (hu : u.fine) (hn : W64 n) : t.fine := by
  unfold besideT at h
  repeat' split at h
  all_goals first
    | (cases h; done)
    | (simp only [Option.some.injEq] at h; subst h; first | exact hu | exact addN_fine _ _ hu (w64_wrap _) | exact tnum_fine (w64_small (by omega)))
    | skip
  cases hp : u.isPlus with
  | none => rw [hp] at h; cases h
  | some p =>
    obtain ⟨a, m⟩ := p
    rw [hp] at h
    simp only [Option.map_some, Option.some.injEq] at h
    subst h
    have e := isPlus_some hp
    subst e
    exact addN_fine _ _ hu.2.2.1 (w64_wrap _)

theorem rowT_fine {kind : Int} {u v : TD} (hk : 3 ≤ kind ∧ kind ≤ 11) (hu : u.fine) (hv : v.fine) : (rowT kind u v).fine := by
  unfold rowT
  split
  · rename_i t ht
    cases hn : v.isNum with
    | none => rw [hn] at ht; cases ht
    | some n =>
      rw [hn] at ht
      exact besideT_fine (by simpa using ht) hu (isNum_fine hn hv)
  · repeat' split
    · exact tnum_fine (w64_small (by omega))
    · exact hu
    · exact tnum_fine (w64_small (by omega))
    · exact tnum_fine (w64_small (by omega))
    · exact ⟨hk.1, by omega, hu, hv⟩

theorem madeT_fine {kind : Int} {u v : TD} (hk : 3 ≤ kind ∧ kind ≤ 11) (hu : u.fine) (hv : v.fine) : (madeT kind u v).fine := by
  unfold madeT
  split
  · split
    · exact rowT_fine hk hu hv
    · exact tnum_fine (w64_calc _ _ _)
  · split
    · exact rowT_fine hk hv hu
    · exact rowT_fine hk hu hv
  · exact rowT_fine hk hu hv
  · split
    · exact rowT_fine hk hv hu
    · exact rowT_fine hk hu hv

theorem readT_fine (m u : TD) (hm : m.fine) (hu : u.fine) : (readT m u).fine := by
  induction m with
  | leaf k n => exact ⟨by omega, by omega, hm, hu⟩
  | two k a b => exact ⟨by omega, by omega, hm, hu⟩
  | three k c a v ihc iha ihv =>
    obtain rfl : k = 13 := hm.1
    simp only [readT]
    repeat' split
    · exact hm.2.2.2
    · exact ihc hm.2.1
    · exact ⟨by omega, by omega, hm, hu⟩

theorem leftT_fine (m u : TD) (hm : m.fine) : (leftT m u).fine := by
  induction m with
  | leaf k n => exact hm
  | two k a b => exact hm
  | three k c a v ihc iha ihv =>
    obtain rfl : k = 13 := hm.1
    simp only [leftT]
    repeat' split
    · exact hm.2.1
    · exact ⟨rfl, ihc hm.2.1, hm.2.2.1, hm.2.2.2⟩
    · exact hm

theorem laidT_fine (m u v : TD) (hm : m.fine) (hu : u.fine) (hv : v.fine) : (laidT m u v).fine := by
  induction m with
  | leaf k n => exact ⟨rfl, hm, hu, hv⟩
  | two k a b => exact ⟨rfl, hm, hu, hv⟩
  | three k c a w ihc iha ihw =>
    obtain rfl : k = 13 := hm.1
    simp only [laidT]
    split
    · split
      · exact ⟨rfl, ihc hm.2.1, hm.2.2.1, hm.2.2.2⟩
      · exact ⟨rfl, hm, hu, hv⟩
    · exact ⟨rfl, hm, hu, hv⟩

theorem writtenT_fine (m u v : TD) (hm : m.fine) (hu : u.fine) (hv : v.fine) : (writtenT m u v).fine := by
  unfold writtenT
  split
  · exact hm
  · exact laidT_fine _ _ _ (leftT_fine _ _ hm) hu hv

end Go.Proofs.YtblhmeidbjigaaaGreatDoor

/- Words bit by bit; sums within 64 bits: pure. -/
set_option linter.unusedSimpArgs false
set_option linter.unusedVariables false
noncomputable section
namespace Go.Proofs.YtblhmeidbjigaaaGreatDoor
open Go.RowKit Classical

theorem wrap_bv (v : BitVec 64) : IntKind.i64.wrap (v.toNat : Int) = v.toInt := by
  have h := v.isLt
  simp only [IntKind.wrap, IntKind.signed, IntKind.bits, BitVec.toInt]
  simp
  split <;> split <;> omega

theorem bits_and (x y : Int) : bits .and .i64 x y = (BitVec.ofInt 64 x &&& BitVec.ofInt 64 y).toInt := by
  show IntKind.i64.wrap _ = _
  exact wrap_bv _
theorem bits_or (x y : Int) : bits .or .i64 x y = (BitVec.ofInt 64 x ||| BitVec.ofInt 64 y).toInt := by
  show IntKind.i64.wrap _ = _
  exact wrap_bv _
theorem bits_xor (x y : Int) : bits .xor .i64 x y = (BitVec.ofInt 64 x ^^^ BitVec.ofInt 64 y).toInt := by
  show IntKind.i64.wrap _ = _
  exact wrap_bv _

theorem ofInt_toInt64 {x : Int} (h : W64 x) : (BitVec.ofInt 64 x).toInt = x := by
  rw [BitVec.toInt_ofInt]
  obtain ⟨h1, h2⟩ := h
  simp only [Int.bmod]
  split <;> omega

theorem wrap_in {n : Int} (h : W64 n) : wrap64 n = n := by
  obtain ⟨h1, h2⟩ := h
  unfold wrap64
  omega

theorem and_comm64 (x y : Int) : bits .and .i64 x y = bits .and .i64 y x := by rw [bits_and, bits_and, BitVec.and_comm]
theorem or_comm64 (x y : Int) : bits .or .i64 x y = bits .or .i64 y x := by rw [bits_or, bits_or, BitVec.or_comm]
theorem xor_comm64 (x y : Int) : bits .xor .i64 x y = bits .xor .i64 y x := by rw [bits_xor, bits_xor, BitVec.xor_comm]
theorem and_zero64 (x : Int) : bits .and .i64 x 0 = 0 := by rw [bits_and]; simp
theorem and_ones64 {x : Int} (h : W64 x) : bits .and .i64 x (-1) = x := by
  rw [bits_and, show BitVec.ofInt 64 (-1) = BitVec.allOnes 64 by decide, BitVec.and_allOnes]
  exact ofInt_toInt64 h
theorem or_zero64 {x : Int} (h : W64 x) : bits .or .i64 x 0 = x := by
  rw [bits_or, show BitVec.ofInt 64 0 = 0#64 by rfl, BitVec.or_zero]; exact ofInt_toInt64 h
theorem or_ones64 (x : Int) : bits .or .i64 x (-1) = -1 := by
  rw [bits_or, show BitVec.ofInt 64 (-1) = BitVec.allOnes 64 by decide, BitVec.or_allOnes]
  decide
theorem xor_zero64 {x : Int} (h : W64 x) : bits .xor .i64 x 0 = x := by
  rw [bits_xor, show BitVec.ofInt 64 0 = 0#64 by rfl, BitVec.xor_zero]; exact ofInt_toInt64 h
theorem and_self64 {x : Int} (h : W64 x) : bits .and .i64 x x = x := by
  rw [bits_and, BitVec.and_self]; exact ofInt_toInt64 h
theorem or_self64 {x : Int} (h : W64 x) : bits .or .i64 x x = x := by
  rw [bits_or, BitVec.or_self]; exact ofInt_toInt64 h
theorem xor_self64 (x : Int) : bits .xor .i64 x x = 0 := by
  rw [bits_xor, BitVec.xor_self]; rfl

/-- The parts of a sign that may change places. -/
theorem calc_comm {k : Int} (h : turnsT k = true) (x y : Int) : calcW k x y = calcW k y x := by
  simp only [turnsT, decide_eq_true_eq] at h
  rcases h with rfl | rfl | rfl | rfl | rfl | rfl
  · simp only [calcW, if_true]; rw [Int.add_comm]
  · simp [calcW]; rw [Int.mul_comm]
  · simp [calcW]; exact and_comm64 x y
  · simp [calcW]; exact or_comm64 x y
  · simp [calcW]; exact xor_comm64 x y
  · simp [calcW, eq_comm]

end Go.Proofs.YtblhmeidbjigaaaGreatDoor

/- What terms stand for: the rules of P9 keep it; pure. -/
set_option linter.unusedSimpArgs false
set_option linter.unusedVariables false
noncomputable section
namespace Go.Proofs.YtblhmeidbjigaaaGreatDoor
open Go.RowKit Classical

/-- What stood in the registers, in the unknown places, in the cells (a map from all words). -/
structure EnvD where
  reg : Int → Int
  unk : Int → Int
  mem : Int → Int

structure EnvD.wide (r : EnvD) : Prop where
  reg : ∀ n, W64 (r.reg n)
  unk : ∀ n, W64 (r.unk n)
  mem : ∀ n, W64 (r.mem n)

/-- The word that a term stands for, and the cells. A division by 0 is 0 here. -/
def evT (r : EnvD) : TD → Int × (Int → Int)
  | .leaf k n => (if k = 100 then n else if k = 101 then r.reg n else if k = 102 then r.unk n else 0, r.mem)
  | .two k a b => (if k = 12 then (evT r a).2 (evT r b).1 else calcW k (evT r a).1 (evT r b).1, r.mem)
  | .three _ c a v => (0, fun i => if i = (evT r a).1 then (evT r v).1 else (evT r c).2 i)

def evW (r : EnvD) (t : TD) : Int := (evT r t).1
def evM (r : EnvD) (t : TD) : Int → Int := (evT r t).2

theorem ev_num (r : EnvD) (n : Int) : evW r (tnum n) = n := by simp [evW, evT, tnum]

theorem ev_wide {r : EnvD} (hr : r.wide) : ∀ t : TD, t.fine → W64 (evW r t) ∧ ∀ i, W64 (evM r t i) := by
  intro t
  induction t with
  | leaf k n =>
    intro h
    refine ⟨?_, hr.mem⟩
    simp only [evW, evT]
    repeat' split
    · exact h.2
    · exact hr.reg _
    · exact hr.unk _
    · exact w64_small (by omega)
  | two k a b iha ihb =>
    intro h
    refine ⟨?_, hr.mem⟩
    simp only [evW, evT]
    split
    · exact (iha h.2.2.1).2 _
    · exact w64_calc _ _ _
  | three k c a v ihc iha ihv =>
    intro h
    refine ⟨w64_small (by simp only [evW, evT]; omega), fun i => ?_⟩
    simp only [evM, evT]
    split
    · exact (ihv h.2.2.2).1
    · exact (ihc h.2.1).2 i

theorem wrap_add (a b : Int) : wrap64 (wrap64 a + b) = wrap64 (a + b) := by unfold wrap64; omega
theorem wrap_add' (a b : Int) : wrap64 (a + wrap64 b) = wrap64 (a + b) := by unfold wrap64; omega

theorem ev_addN {r : EnvD} (hr : r.wide) : ∀ (u : TD) (k : Int), u.fine → W64 k → evW r (addN u k) = wrap64 (evW r u + k) := by
  intro u
  induction u with
  | leaf q n =>
    intro k hu hk
    have hw := (ev_wide hr _ hu).1
    simp only [addN]
    split
    · rename_i e; subst e
      rw [ev_num]
      simp [evW, evT]
    · split
      · rename_i e; subst e
        rw [Int.add_zero, wrap_in hw]
      · simp [evW, evT, calcW, tnum]
  | two q a b iha ihb =>
    intro k hu hk
    have hw := (ev_wide hr _ hu).1
    simp only [addN]
    split
    · rename_i e; subst e
      rw [Int.add_zero, wrap_in hw]
    · split
      · rename_i m hm
        rw [iha _ hu.2.2.1 (w64_wrap _)]
        have e := isNum_some hm
        subst e
        have : evW r (.two 3 a (tnum m)) = wrap64 (evW r a + m) := by simp [evW, evT, calcW, tnum]
        rw [this, wrap_add, wrap_add', Int.add_assoc]
      · simp [evW, evT, calcW, tnum]
  | three q a b c =>
    intro k hu hk
    have hw := (ev_wide hr _ hu).1
    simp only [addN]
    split
    · rename_i e; subst e
      rw [Int.add_zero, wrap_in hw]
    · simp [evW, evT, calcW, tnum]

theorem ev_beside {r : EnvD} (hr : r.wide) {kind n : Int} {u t : TD} (h : besideT kind u n = some t) (hu : u.fine) (hn : W64 n) : evW r t = calcW kind (evW r u) n := by
  have hw := (ev_wide hr _ hu).1
  unfold besideT at h
  by_cases h4 : kind = 4
  · subst h4
    simp only [if_true, Option.some.injEq] at h
    subst h
    rw [ev_addN hr _ _ hu (w64_wrap _), wrap_add']
    simp only [calcW]
    rw [show evW r u + (0 - n) = evW r u - n by omega]
    simp
  rw [if_neg h4] at h
  by_cases h3 : kind = 3
  · subst h3
    simp only [if_true] at h
    split at h
    · rename_i e; subst e
      simp only [Option.some.injEq] at h
      subst h
      simp only [calcW, if_true]
      rw [Int.add_zero, wrap_in hw]
    · cases hp : u.isPlus with
      | none => rw [hp] at h; cases h
      | some p =>
        obtain ⟨a, m⟩ := p
        rw [hp] at h
        simp only [Option.map_some, Option.some.injEq] at h
        subst h
        have e := isPlus_some hp
        subst e
        rw [ev_addN hr _ _ hu.2.2.1 (w64_wrap _)]
        have : evW r (.two 3 a (tnum m)) = wrap64 (evW r a + m) := by simp [evW, evT, calcW, tnum]
        rw [this]
        simp only [calcW, if_true]
        rw [wrap_add, wrap_add', Int.add_assoc]
  rw [if_neg h3] at h
  by_cases h5 : kind = 5
  · subst h5
    simp only [if_true] at h
    repeat' split at h
    · rename_i e; subst e
      cases h
      rw [ev_num]
      simp [calcW, wrap_in (w64_small (show -1000000 ≤ (0 : Int) ∧ (0 : Int) ≤ 1000000 by omega))]
    · rename_i e; subst e
      cases h
      simp [calcW, wrap_in hw]
    · cases h
  rw [if_neg h5] at h
  by_cases h6 : kind = 6
  · subst h6
    simp only [if_true] at h
    repeat' split at h
    · rename_i e; subst e
      cases h
      rw [ev_num]
      simp [calcW, and_zero64]
    · rename_i e; subst e
      cases h
      simp [calcW, and_ones64 hw]
    · cases h
  rw [if_neg h6] at h
  by_cases h7 : kind = 7
  · subst h7
    simp only [if_true] at h
    repeat' split at h
    · rename_i e; subst e
      cases h
      simp [calcW, or_zero64 hw]
    · rename_i e; subst e
      cases h
      rw [ev_num]
      simp [calcW, or_ones64]
    · cases h
  rw [if_neg h7] at h
  by_cases h8 : kind = 8
  · subst h8
    simp only [if_true] at h
    split at h
    · rename_i e; subst e
      cases h
      simp [calcW, xor_zero64 hw]
    · cases h
  rw [if_neg h8] at h
  by_cases h11 : kind = 11
  · subst h11
    simp only [if_true] at h
    split at h
    · rename_i e; subst e
      cases h
      simp [calcW, wrap_in hw]
    · cases h
  · rw [if_neg h11] at h
    cases h

/-- What a word is plus a number. -/
theorem ev_thing {r : EnvD} (hr : r.wide) (u : TD) (hu : u.fine) : evW r u = wrap64 ((match (thingT u).1 with | some a => evW r a | none => 0) + (thingT u).2) ∧ W64 (thingT u).2 ∧ ∀ a, (thingT u).1 = some a → a.fine := by
  have hw := (ev_wide hr _ hu).1
  unfold thingT
  cases hn : u.isNum with
  | some n =>
    have e := isNum_some hn
    subst e
    have := isNum_fine hn hu
    simp only [Int.zero_add]
    exact ⟨by rw [ev_num, wrap_in this], this, fun a h => by cases h⟩
  | none =>
    cases hp : u.isPlus with
    | none => exact ⟨by simp only [Int.add_zero]; rw [wrap_in hw], w64_small (by simp only; omega), fun a h => by cases h; exact hu⟩
    | some p =>
      obtain ⟨a, m⟩ := p
      have e := isPlus_some hp
      subst e
      refine ⟨?_, hu.2.2.2.2, fun x h => by cases h; exact hu.2.2.1⟩
      simp [evW, evT, calcW, tnum]

/-- Words that are apart differ. -/
theorem ev_apart {r : EnvD} (hr : r.wide) {u v : TD} (hu : u.fine) (hv : v.fine) (h : apartT u v = true) : evW r u ≠ evW r v := by
  simp only [apartT, decide_eq_true_eq] at h
  obtain ⟨h1, h2⟩ := h
  obtain ⟨e1, ⟨w1, w1'⟩, _⟩ := ev_thing hr u hu
  obtain ⟨e2, ⟨w2, w2'⟩, _⟩ := ev_thing hr v hv
  rw [e1, e2, h1]
  generalize (thingT u).2 = m at *
  generalize (thingT v).2 = n at *
  generalize (match (thingT v).1 with | some a => evW r a | none => 0) = x at *
  unfold wrap64
  omega

theorem ev_row {r : EnvD} (hr : r.wide) {kind : Int} {u v : TD} (hk : 3 ≤ kind ∧ kind ≤ 11) (hu : u.fine) (hv : v.fine) : evW r (rowT kind u v) = calcW kind (evW r u) (evW r v) := by
  have hw := (ev_wide hr _ hu).1
  unfold rowT
  split
  · rename_i t ht
    cases hn : v.isNum with
    | none => rw [hn] at ht; cases ht
    | some n =>
      rw [hn] at ht
      rw [ev_beside hr (by simpa using ht) hu (isNum_fine hn hv), isNum_some hn, ev_num]
  · by_cases e : u = v
    · subst e
      split
      · rename_i h
        rw [ev_num]
        rcases h.2 with rfl | rfl | rfl
        · simp [calcW, wrap_in (w64_small (show -1000000 ≤ (0 : Int) ∧ (0 : Int) ≤ 1000000 by omega))]
        · simp [calcW, xor_self64]
        · simp [calcW]
      · split
        · rename_i h
          rcases h.2 with rfl | rfl
          · simp [calcW, and_self64 hw]
          · simp [calcW, or_self64 hw]
        · split
          · rename_i h
            obtain rfl := h.2
            rw [ev_num]
            simp [calcW]
          · split
            · rename_i h
              exact absurd rfl (ev_apart hr hu hu h.2)
            · simp only [evW, evT]
              rw [if_neg (by omega)]
    · rw [if_neg (fun h => e h.1), if_neg (fun h => e h.1), if_neg (fun h => e h.1)]
      split
      · rename_i h
        obtain rfl := h.1
        have := ev_apart hr hu hv h.2
        rw [ev_num]
        simp [calcW, this]
      · simp only [evW, evT]
        rw [if_neg (by omega)]

/-- What is made of a sign and words stands for what the operation gives. -/
theorem ev_made {r : EnvD} (hr : r.wide) {kind : Int} {u v : TD} (hk : 3 ≤ kind ∧ kind ≤ 11) (hu : u.fine) (hv : v.fine) : evW r (madeT kind u v) = calcW kind (evW r u) (evW r v) := by
  unfold madeT
  split
  · rename_i a b ha hb
    split
    · exact ev_row hr hk hu hv
    · rw [isNum_some ha, isNum_some hb, ev_num, ev_num, ev_num]
  · split
    · rename_i ht
      rw [ev_row hr hk hv hu, calc_comm ht]
    · exact ev_row hr hk hu hv
  · exact ev_row hr hk hu hv
  · split
    · rename_i ht
      rw [ev_row hr hk hv hu, calc_comm ht.1]
    · exact ev_row hr hk hu hv

/-- What is read. -/
theorem ev_read {r : EnvD} (hr : r.wide) (m u : TD) (hm : m.fine) (hu : u.fine) : evW r (readT m u) = evM r m (evW r u) := by
  induction m with
  | leaf k n => simp [readT, evW, evM, evT]
  | two k a b => simp [readT, evW, evM, evT]
  | three k c a v ihc iha ihv =>
    obtain rfl : k = 13 := hm.1
    simp only [readT]
    split
    · rename_i e; subst e
      simp [evW, evM, evT]
    · split
      · rename_i h
        have := ev_apart hr hm.2.2.1 hu h
        rw [ihc hm.2.1]
        have h2 : ¬ ((evT r u).1 = (evT r a).1) := fun e => this e.symm
        simp only [evW, evM, evT]
        rw [if_neg h2]
      · simp [evW, evM, evT]

theorem ev_left {r : EnvD} (hr : r.wide) (m u : TD) (hm : m.fine) (hu : u.fine) : ∀ i, i ≠ evW r u → evM r (leftT m u) i = evM r m i := by
  induction m with
  | leaf k n => intro i _; rfl
  | two k a b => intro i _; rfl
  | three k c a v ihc iha ihv =>
    intro i hi
    obtain rfl : k = 13 := hm.1
    simp only [leftT]
    split
    · rename_i e; subst e
      have hi' : ¬ (i = (evT r a).1) := hi
      simp only [evM, evT]
      rw [if_neg hi']
    · split
      · have := ihc hm.2.1 i hi
        simp only [evM, evT] at this ⊢
        rw [this]
      · rfl

theorem ev_laid {r : EnvD} (hr : r.wide) (m u v : TD) (hm : m.fine) (hu : u.fine) : ∀ i, evM r (laidT m u v) i = if i = evW r u then evW r v else evM r m i := by
  induction m with
  | leaf k n => intro i; rfl
  | two k a b => intro i; rfl
  | three k c a w ihc iha ihw =>
    intro i
    obtain rfl : k = 13 := hm.1
    simp only [laidT]
    split
    · rename_i n q hn hq
      split
      · rename_i hgt
        have e1 : (evT r u).1 = n := by rw [isNum_some hn]; exact ev_num r n
        have e2 : (evT r a).1 = q := by rw [isNum_some hq]; exact ev_num r q
        have h1 : (evT r (laidT c u v)).2 i = if i = (evT r u).1 then (evT r v).1 else (evT r c).2 i := ihc hm.2.1 i
        show (if i = (evT r a).1 then (evT r w).1 else (evT r (laidT c u v)).2 i) = if i = (evT r u).1 then (evT r v).1 else (if i = (evT r a).1 then (evT r w).1 else (evT r c).2 i)
        by_cases ha : i = (evT r a).1
        · have hu' : ¬ i = (evT r u).1 := by omega
          rw [if_pos ha, if_neg hu', if_pos ha]
        · rw [if_neg ha, h1, if_neg ha]
      · rfl
    · rfl

/-- What is written. -/
theorem ev_written {r : EnvD} (hr : r.wide) (m u v : TD) (hm : m.fine) (hu : u.fine) : ∀ i, evM r (writtenT m u v) i = if i = evW r u then evW r v else evM r m i := by
  intro i
  unfold writtenT
  split
  · rename_i e
    split
    · rename_i hi
      subst hi
      rw [← e, ev_read hr m u hm hu]
    · rfl
  · rw [ev_laid hr _ _ _ (leftT_fine _ _ hm) hu]
    split
    · rfl
    · rename_i hi
      exact ev_left hr m u hm hu i hi

end Go.Proofs.YtblhmeidbjigaaaGreatDoor

/- Runs as plain data; a run underway in memory: four lists of words, each in a block of its own. -/
set_option linter.unusedSimpArgs false
set_option linter.unusedVariables false
namespace Go.Proofs.YtblhmeidbjigaaaGreatDoor
open Go.RowKit

/-! ### Runs, pure -/

structure RunD where
  regs : List Int
  cells : List Int
  slots : List Int
  leak : List Int
  trap : Int

structure OutD where
  kind : Int
  result : Int
  mem : List Int
  leak : List Int

def rg (l : List Int) (i : Int) : Int := l.getD i.toNat 0
def stI (l : List Int) (i v : Int) : List Int := l.set i.toNat v

theorem stI_length (l : List Int) (i v : Int) : (stI l i v).length = l.length := by simp [stI]

/-- A Load or Store of the cell n: it is let out. -/
def RunD.out (s : RunD) (n : Int) : RunD := ⟨s.regs, s.cells, s.slots, s.leak ++ [n], s.trap⟩
def RunD.reg (s : RunD) (i v : Int) : RunD := ⟨stI s.regs i v, s.cells, s.slots, s.leak, s.trap⟩
def RunD.cell (s : RunD) (i v : Int) : RunD := ⟨s.regs, stI s.cells i v, s.slots, s.leak, s.trap⟩
def RunD.slot (s : RunD) (i v : Int) : RunD := ⟨s.regs, s.cells, stI s.slots i v, s.leak, s.trap⟩
def RunD.die (s : RunD) (t : Int) : RunD := ⟨s.regs, s.cells, s.slots, s.leak, t⟩

def stepOp (s : RunD) (o : OpD) : RunD :=
  if o.kind = 1 then s.reg o.a (256 * o.b + o.c - 32768)
  else if o.kind = 2 then s.reg o.a (rg s.regs o.b)
  else if o.kind = 12 then
    if 0 ≤ rg s.regs o.b ∧ rg s.regs o.b < s.cells.length then (s.out (rg s.regs o.b)).reg o.a (rg s.cells (rg s.regs o.b)) else (s.out (rg s.regs o.b)).die 2
  else if o.kind = 13 then
    if 0 ≤ rg s.regs o.a ∧ rg s.regs o.a < s.cells.length then (s.out (rg s.regs o.a)).cell (rg s.regs o.a) (rg s.regs o.b) else (s.out (rg s.regs o.a)).die 2
  else if o.kind = 14 then s.slot o.a (rg s.regs o.b)
  else if o.kind = 15 then s.reg o.a (rg s.slots o.b)
  else if o.kind = 11 then
    if rg s.regs o.c = 0 then ((s.out (rg s.regs o.b)).out (rg s.regs o.c)).die 3
    else ((s.out (rg s.regs o.b)).out (rg s.regs o.c)).reg o.a (calcW 11 (rg s.regs o.b) (rg s.regs o.c))
  else s.reg o.a (calcW o.kind (rg s.regs o.b) (rg s.regs o.c))

def doOps : List OpD → RunD → RunD
  | [], s => s
  | o :: r, s => if s.trap = 0 then doOps r (stepOp s o) else s

theorem doOps_trap (l : List OpD) {s : RunD} (h : s.trap ≠ 0) : doOps l s = s := by
  cases l with
  | nil => rfl
  | cons o r => simp [doOps, h]

theorem doOps_snoc (l : List OpD) (o : OpD) (s : RunD) : doOps (l ++ [o]) s = if (doOps l s).trap = 0 then stepOp (doOps l s) o else doOps l s := by
  induction l generalizing s with
  | nil => rfl
  | cons p r ih =>
    simp only [doOps, List.cons_append]
    by_cases h : s.trap = 0
    · simp only [h, if_true]; exact ih _
    · simp only [h, if_false]

theorem doOps_take {l : List OpD} {k : Nat} (h : k < l.length) (s : RunD) : doOps (l.take (k + 1)) s = if (doOps (l.take k) s).trap = 0 then stepOp (doOps (l.take k) s) ⟨okind l k, oa l k, ob l k, oc l k⟩ else doOps (l.take k) s := by
  rw [take_getD l oz k h, doOps_snoc]; rfl

/-- A trap stays. -/
theorem doOps_stop {l : List OpD} {k : Nat} {s : RunD} (h : (doOps (l.take k) s).trap ≠ 0) : doOps l s = doOps (l.take k) s := by
  have e : ∀ (a b : List OpD) (s : RunD), doOps (a ++ b) s = doOps b (doOps a s) := by
    intro a
    induction a with
    | nil => intro b s; rfl
    | cons o r ih =>
      intro b s
      simp only [doOps, List.cons_append]
      by_cases ht : s.trap = 0
      · simp only [ht, if_true]; exact ih _ _
      · simp only [ht, if_false]; exact (doOps_trap b ht).symm
  conv => lhs; rw [← List.take_append_drop k l, e]
  exact doOps_trap _ h

/-- Where a run is: the sizes of its lists. -/
structure Sized (s : RunD) (r c k : Int) : Prop where
  regs : (s.regs.length : Int) = r
  cells : (s.cells.length : Int) = c
  slots : (s.slots.length : Int) = k

theorem Sized.out {s : RunD} {r c k : Int} (h : Sized s r c k) (n : Int) : Sized (s.out n) r c k := ⟨h.regs, h.cells, h.slots⟩
theorem Sized.die {s : RunD} {r c k : Int} (h : Sized s r c k) (n : Int) : Sized (s.die n) r c k := ⟨h.regs, h.cells, h.slots⟩
theorem Sized.reg {s : RunD} {r c k : Int} (h : Sized s r c k) (i n : Int) : Sized (s.reg i n) r c k := ⟨by simp only [RunD.reg, stI_length]; exact h.regs, h.cells, h.slots⟩
theorem Sized.cell {s : RunD} {r c k : Int} (h : Sized s r c k) (i n : Int) : Sized (s.cell i n) r c k := ⟨h.regs, by simp only [RunD.cell, stI_length]; exact h.cells, h.slots⟩
theorem Sized.slot {s : RunD} {r c k : Int} (h : Sized s r c k) (i n : Int) : Sized (s.slot i n) r c k := ⟨h.regs, h.cells, by simp only [RunD.slot, stI_length]; exact h.slots⟩

theorem Sized.step {s : RunD} {r c k : Int} (h : Sized s r c k) (o : OpD) : Sized (stepOp s o) r c k := by
  unfold stepOp
  repeat' split
  · exact h.reg _ _
  · exact h.reg _ _
  · exact (h.out _).reg _ _
  · exact (h.out _).die _
  · exact (h.out _).cell _ _
  · exact (h.out _).die _
  · exact h.slot _ _
  · exact h.reg _ _
  · exact ((h.out _).out _).die _
  · exact ((h.out _).out _).reg _ _
  · exact h.reg _ _

theorem step_leak (s : RunD) (o : OpD) : (stepOp s o).leak.length ≤ s.leak.length + 2 := by
  unfold stepOp
  repeat' split
  all_goals simp [RunD.reg, RunD.out, RunD.die, RunD.cell, RunD.slot]

theorem Sized.doOps {s : RunD} {r c k : Int} (l : List OpD) (h : Sized s r c k) : Sized (doOps l s) r c k := by
  induction l generalizing s with
  | nil => exact h
  | cons o t ih =>
    simp only [Go.Proofs.YtblhmeidbjigaaaGreatDoor.doOps]
    split
    · exact ih (h.step o)
    · exact h

theorem doOps_leak (l : List OpD) (s : RunD) : (doOps l s).leak.length ≤ s.leak.length + 2 * l.length := by
  induction l generalizing s with
  | nil => simp [doOps]
  | cons o t ih =>
    simp only [doOps, List.length_cons]
    split
    · have := ih (stepOp s o); have := step_leak s o; omega
    · omega

/-- Where a run goes on, behind a Jump or a Branch. -/
def goesOn (s : RunD) (e : EndD) : RunD := if e.kind = 2 then s.out (if rg s.regs e.r = 0 then 0 else 1) else s
def goesTo (s : RunD) (e : EndD) : Int := if e.kind = 2 then (if rg s.regs e.r = 0 then e.y else e.x) else e.x

def runN (bs : List BlockD) : Nat → Int → RunD → OutD
  | 0, _, s => ⟨4, 0, s.cells, s.leak⟩
  | f + 1, i, s =>
    if (doOps (bops bs i.toNat) s).trap ≠ 0 then ⟨(doOps (bops bs i.toNat) s).trap, 0, [], (doOps (bops bs i.toNat) s).leak⟩
    else if bek bs i.toNat = 3 then ⟨1, rg (doOps (bops bs i.toNat) s).regs (ber bs i.toNat), (doOps (bops bs i.toNat) s).cells, (doOps (bops bs i.toNat) s).leak⟩
    else runN bs f (goesTo (doOps (bops bs i.toNat) s) (bfin bs i.toNat)) (goesOn (doOps (bops bs i.toNat) s) (bfin bs i.toNat))

theorem Sized.on {s : RunD} {r c k : Int} (h : Sized s r c k) (e : EndD) : Sized (goesOn s e) r c k := by
  unfold goesOn
  split
  · exact h.out _
  · exact h

/-! ### In memory -/

def ints (l : List Int) : List Value := l.map (.int .i64)

theorem ints_length (l : List Int) : (ints l).length = l.length := by simp [ints]
theorem ints_set (l : List Int) (i : Nat) (v : Int) : ints (l.set i v) = (ints l).set i (.int .i64 v) := by simp [ints, List.map_set]
theorem ints_snoc (l : List Int) (v : Int) : ints (l ++ [v]) = ints l ++ [.int .i64 v] := by simp [ints]

theorem Tryz.infoInt : (Tryz.prog.info? 3).map (fun i => (i.zero, i.size, i.bytes)) = some (some (.int .i64 0), 1, 8) := by kernel_rfl

/-- A list of words in a block of its own. -/
abbrev OwnW (w : World) (v : Value) (l : List Int) : Prop := w.ownsRow 0 3 1 v l.length (ints l)

/-- A word of a list of one's own. -/
theorem OwnW.at {w : World} {v : Value} {l : List Int} (h : OwnW w v l) {i : Nat} (hi : i < l.length) :
    ∃ b cap, v = .slice (some ⟨b, 0, none⟩) l.length cap ∧ v.ownBlock = some b ∧ w.cell? ⟨b, i, none⟩ = some (.int .i64 (l.getD i 0)) ∧ ∀ o, w.frozen? ⟨b, o, none⟩ = false := by
  obtain ⟨ao, cap, rfl⟩ := owns_slice h
  obtain ⟨b, rfl, _, hb, hc⟩ := owns_cell h rfl (i := i) (by rw [ints_length]; exact hi)
  refine ⟨b, cap, rfl, hb, ?_, fun o => owns_frozen h hb o⟩
  rw [hc]
  simp [ints, List.getD, hi]

theorem OwnW.set {w : World} {v : Value} {l : List Int} (h : OwnW w v l) {g i : Nat} (hg : v.ownBlock = some g) (hi : i < l.length) (u : Int) : OwnW (w.setCell ⟨g, i, none⟩ (.int .i64 u)) v (l.set i u) := by
  have := owns_set h hg (i := i) (by rw [ints_length]; exact hi) (.int .i64 u)
  rw [← ints_set] at this
  show World.ownsRow _ _ _ _ _ _ _
  rw [List.length_set]
  exact this

/-- A row of another type lies elsewhere. -/
theorem row_owns_apart {w : World} {H : Nat} {t : TypeId} {xs : List Value} {v : Value} {l : List Int} (hr : Row w H t xs) (h : OwnW w v l) (ht : t ≠ 3) : v.ownBlock ≠ some H := by
  intro e
  rcases h.2 with ⟨rfl, _⟩ | ⟨k, cap, cur, rfl, _, hh, _⟩
  · simp [Value.ownBlock] at e
  · simp only [Value.ownBlock, Option.some.injEq] at e
    subst e
    have := hr.symm.trans hh
    simp at this
    exact ht this.2

/-- Four lists of words, each in a block of its own; none of them a block of K. -/
structure Bunch (K : Nat → Prop) (w : World) (rv cv sv lv : Value) (s : RunD) : Prop where
  regs : OwnW w rv s.regs
  cells : OwnW w cv s.cells
  slots : OwnW w sv s.slots
  leak : OwnW w lv s.leak
  rc : ∀ g, rv.ownBlock = some g → cv.ownBlock ≠ some g
  rs : ∀ g, rv.ownBlock = some g → sv.ownBlock ≠ some g
  rl : ∀ g, rv.ownBlock = some g → lv.ownBlock ≠ some g
  cs : ∀ g, cv.ownBlock = some g → sv.ownBlock ≠ some g
  cl : ∀ g, cv.ownBlock = some g → lv.ownBlock ≠ some g
  sl : ∀ g, sv.ownBlock = some g → lv.ownBlock ≠ some g
  kr : ∀ g, rv.ownBlock = some g → ¬ K g
  kc : ∀ g, cv.ownBlock = some g → ¬ K g
  ks : ∀ g, sv.ownBlock = some g → ¬ K g
  kl : ∀ g, lv.ownBlock = some g → ¬ K g
  lt : ∀ g, K g → g < w.heap.size

section
variable {K : Nat → Prop} {w w' : World} {rv cv sv lv : Value} {s : RunD}

theorem Bunch.same (h : Bunch K w rv cv sv lv s) (hs : w.heap.size ≤ w'.heap.size) (hb : ∀ g, (rv.ownBlock = some g ∨ cv.ownBlock = some g ∨ sv.ownBlock = some g ∨ lv.ownBlock = some g) → w'.heap[g]? = w.heap[g]?) : Bunch K w' rv cv sv lv s :=
  ⟨owns_same h.regs fun g e => hb g (.inl e), owns_same h.cells fun g e => hb g (.inr (.inl e)), owns_same h.slots fun g e => hb g (.inr (.inr (.inl e))), owns_same h.leak fun g e => hb g (.inr (.inr (.inr e))),
    h.rc, h.rs, h.rl, h.cs, h.cl, h.sl, h.kr, h.kc, h.ks, h.kl, fun g hg => Nat.lt_of_lt_of_le (h.lt g hg) hs⟩

theorem Bunch.inHeap (h : Bunch K w rv cv sv lv s) {g : Nat} (hg : rv.ownBlock = some g ∨ cv.ownBlock = some g ∨ sv.ownBlock = some g ∨ lv.ownBlock = some g) : g < w.heap.size := by
  rcases hg with e | e | e | e
  · exact (World.ownsRow.lt h.regs g e).2
  · exact (World.ownsRow.lt h.cells g e).2
  · exact (World.ownsRow.lt h.slots g e).2
  · exact (World.ownsRow.lt h.leak g e).2

theorem Bunch.keep (h : Bunch K w rv cv sv lv s) (hb : Below w.heap.size w w') : Bunch K w' rv cv sv lv s :=
  h.same hb.size fun g hg => hb.block g (h.inHeap hg)

/-- A store elsewhere. -/
theorem Bunch.far (h : Bunch K w rv cv sv lv s) {H : Nat} {t : TypeId} {xs : List Value} (hr : Row w H t xs) (ht : t ≠ 3) (i : Nat) (u : Value) : Bunch K (w.setCell ⟨H, i, none⟩ u) rv cv sv lv s :=
  h.same (by simp) fun g hg => Below.heap_setCell _ _ _ _ (fun e => by
    subst e
    rcases hg with e | e | e | e
    · exact row_owns_apart hr h.regs ht e
    · exact row_owns_apart hr h.cells ht e
    · exact row_owns_apart hr h.slots ht e
    · exact row_owns_apart hr h.leak ht e)

theorem Bunch.setReg (h : Bunch K w rv cv sv lv s) {g i : Nat} (hg : rv.ownBlock = some g) (hi : i < s.regs.length) (u : Int) : Bunch K (w.setCell ⟨g, i, none⟩ (.int .i64 u)) rv cv sv lv ⟨s.regs.set i u, s.cells, s.slots, s.leak, s.trap⟩ :=
  ⟨h.regs.set hg hi u, owns_unset h.cells (h.rc g hg) _, owns_unset h.slots (h.rs g hg) _, owns_unset h.leak (h.rl g hg) _, h.rc, h.rs, h.rl, h.cs, h.cl, h.sl, h.kr, h.kc, h.ks, h.kl, fun g hg => by simpa using h.lt g hg⟩

theorem Bunch.setMem (h : Bunch K w rv cv sv lv s) {g i : Nat} (hg : cv.ownBlock = some g) (hi : i < s.cells.length) (u : Int) : Bunch K (w.setCell ⟨g, i, none⟩ (.int .i64 u)) rv cv sv lv ⟨s.regs, s.cells.set i u, s.slots, s.leak, s.trap⟩ :=
  ⟨owns_unset h.regs (fun e => h.rc g e hg) _, h.cells.set hg hi u, owns_unset h.slots (h.cs g hg) _, owns_unset h.leak (h.cl g hg) _, h.rc, h.rs, h.rl, h.cs, h.cl, h.sl, h.kr, h.kc, h.ks, h.kl, fun g hg => by simpa using h.lt g hg⟩

theorem Bunch.setSlot (h : Bunch K w rv cv sv lv s) {g i : Nat} (hg : sv.ownBlock = some g) (hi : i < s.slots.length) (u : Int) : Bunch K (w.setCell ⟨g, i, none⟩ (.int .i64 u)) rv cv sv lv ⟨s.regs, s.cells, s.slots.set i u, s.leak, s.trap⟩ :=
  ⟨owns_unset h.regs (fun e => h.rs g e hg) _, owns_unset h.cells (fun e => h.cs g e hg) _, h.slots.set hg hi u, owns_unset h.leak (h.sl g hg) _, h.rc, h.rs, h.rl, h.cs, h.cl, h.sl, h.kr, h.kc, h.ks, h.kl, fun g hg => by simpa using h.lt g hg⟩

/-- A word is let out. -/
theorem Bunch.app (h : Bunch K w rv cv sv lv s) {lv' : Value} {x : Int} (hown : w'.ownsRow 0 3 1 lv' (s.leak.length + 1) (ints s.leak ++ [.int .i64 x])) (hg : w.grownBy w' lv.ownBlock) (hat : lv'.ownBlock = lv.ownBlock ∨ lv'.ownBlock = some w.heap.size) : Bunch K w' rv cv sv lv' (s.out x) := by
  have kp : ∀ {v : Value} {l : List Int}, OwnW w v l → (∀ g, v.ownBlock = some g → lv.ownBlock ≠ some g) → OwnW w' v l := by
    intro v l hv ha
    refine World.ownsRow.kept hv hg ?_
    cases hb : v.ownBlock with
    | none => exact .inl rfl
    | some g => exact .inr (fun e => ha g hb e.symm)
  have nw : ∀ {v : Value} {l : List Int}, OwnW w v l → (∀ g, v.ownBlock = some g → lv.ownBlock ≠ some g) → ∀ g, v.ownBlock = some g → lv'.ownBlock ≠ some g := by
    intro v l hv ha g hg' e
    rcases hat with q | q
    · exact ha g hg' (q.symm.trans e)
    · rw [q] at e
      simp only [Option.some.injEq] at e
      have := (World.ownsRow.lt hv g hg').2
      omega
  refine ⟨kp h.regs h.rl, kp h.cells h.cl, kp h.slots h.sl, ?_, h.rc, h.rs, nw h.regs h.rl, h.cs, nw h.cells h.cl, nw h.slots h.sl, h.kr, h.kc, h.ks, ?_, fun g hg' => Nat.lt_of_lt_of_le (h.lt g hg') hg.size⟩
  · show World.ownsRow _ _ _ _ _ _ _
    simp only [RunD.out, List.length_append, List.length_cons, List.length_nil, Nat.zero_add]
    rw [ints_snoc]
    exact hown
  · intro g e hk
    rcases hat with q | q
    · exact h.kl g (q.symm.trans e) hk
    · rw [q] at e
      simp only [Option.some.injEq] at e
      have := h.lt g hk
      omega

theorem Bunch.trapped (h : Bunch K w rv cv sv lv s) (t : Int) : Bunch K w rv cv sv lv (s.die t) := ⟨h.regs, h.cells, h.slots, h.leak, h.rc, h.rs, h.rl, h.cs, h.cl, h.sl, h.kr, h.kc, h.ks, h.kl, h.lt⟩

/-- Fewer or other blocks are kept. -/
theorem Bunch.kept {K' : Nat → Prop} (h : Bunch K w rv cv sv lv s) (hk : ∀ g, K' g → K g ∨ w.heap.size ≤ g) (hl : ∀ g, K' g → g < w'.heap.size) (hb : Below w.heap.size w w') : Bunch K' w' rv cv sv lv s := by
  have n : ∀ {v : Value} {l : List Int}, OwnW w v l → (∀ g, v.ownBlock = some g → ¬ K g) → ∀ g, v.ownBlock = some g → ¬ K' g := by
    intro v l hv ha g e hk'
    rcases hk g hk' with q | q
    · exact ha g e q
    · have := (World.ownsRow.lt hv g e).2
      omega
  have h2 := h.keep hb
  exact ⟨h2.regs, h2.cells, h2.slots, h2.leak, h.rc, h.rs, h.rl, h.cs, h.cl, h.sl, n h.regs h.kr, n h.cells h.kc, n h.slots h.ks, n h.leak h.kl, hl⟩

end

end Go.Proofs.YtblhmeidbjigaaaGreatDoor

/- A block's terms, worked out, are what its run leaves: pure. -/
set_option linter.unusedSimpArgs false
set_option linter.unusedVariables false
noncomputable section
namespace Go.Proofs.YtblhmeidbjigaaaGreatDoor
open Go.RowKit Classical

theorem rg_st {l : List Int} {a : Int} (ha : 0 ≤ a ∧ a < l.length) (v : Int) {i : Int} (hi : 0 ≤ i) : rg (stI l a v) i = if i = a then v else rg l i := by
  unfold rg stI
  by_cases e : i = a
  · subst e
    rw [if_pos rfl]
    simp [List.getD, show i.toNat < l.length by omega]
  · rw [if_neg e]
    simp only [List.getD]
    rw [List.getElem?_set_ne (by omega)]

theorem firstT_fine {names : List Int} (hn : ∀ x ∈ names, x ≤ 1000) {place : Int} (hp : 0 ≤ place ∧ place ≤ 1000) : (firstT names place).fine := by
  unfold firstT
  split
  · exact ⟨.inr (.inr (.inr ⟨rfl, rfl⟩)), w64_small (by omega)⟩
  · split
    · exact ⟨.inr (.inr (.inl rfl)), w64_small (by omega)⟩
    · rename_i h1 h2
      have hm : names.getD place.toNat 0 ∈ names := getD_mem' (by omega)
      have := hn _ hm
      exact ⟨.inr (.inl rfl), w64_small (by omega)⟩

/-- The fields of a good operation. -/
theorem good_fields {regs slots : Int} {o : OpD} (h : opGood regs slots o = true) :
    (o.kind = 1 ∧ (0 ≤ o.a ∧ o.a < regs) ∧ (0 ≤ o.b ∧ o.b < 256) ∧ (0 ≤ o.c ∧ o.c < 256)) ∨
    ((o.kind = 2 ∨ o.kind = 12 ∨ o.kind = 13) ∧ (0 ≤ o.a ∧ o.a < regs) ∧ (0 ≤ o.b ∧ o.b < regs)) ∨
    ((3 ≤ o.kind ∧ o.kind ≤ 11) ∧ (0 ≤ o.a ∧ o.a < regs) ∧ (0 ≤ o.b ∧ o.b < regs) ∧ (0 ≤ o.c ∧ o.c < regs)) ∨
    (o.kind = 14 ∧ (0 ≤ o.a ∧ o.a < slots) ∧ (0 ≤ o.b ∧ o.b < regs)) ∨
    (o.kind = 15 ∧ (0 ≤ o.a ∧ o.a < regs) ∧ (0 ≤ o.b ∧ o.b < slots)) := by
  unfold opGood at h
  repeat' split at h
  all_goals simp [below] at h
  all_goals omega

theorem opsGood_getD {regs slots : Int} {ops : List OpD} (h : opsGood regs slots ops = true) {k : Nat} (hk : k < ops.length) : opGood regs slots (ops.getD k oz) = true :=
  List.all_eq_true.1 h _ (getD_mem' hk)

theorem behindT_fine {regs slots : Int} {names : List Int} {ops : List OpD} (hr : 0 ≤ regs ∧ regs ≤ 100) (hs : 0 ≤ slots ∧ slots ≤ 100) (hn : ∀ x ∈ names, x ≤ 1000) (hg : opsGood regs slots ops = true) :
    ∀ (k : Nat), k ≤ ops.length → ∀ place : Int, 0 ≤ place → place ≤ regs + slots → (behindT regs slots names ops k place).fine := by
  intro k
  induction k with
  | zero => intro _ place h0 h1; exact firstT_fine hn ⟨h0, by omega⟩
  | succ k ih =>
    intro hk place h0 h1
    have ih := ih (by omega)
    have hf := good_fields (opsGood_getD hg (show k < ops.length by omega))
    simp only [behindT]
    generalize ops.getD k oz = o at *
    repeat' split
    · exact ih place h0 h1
    · exact tnum_fine (w64_small (by omega))
    · exact ih _ (by omega) (by omega)
    · exact ih _ (by omega) (by omega)
    · exact readT_fine _ _ (ih _ (by omega) (by omega)) (ih _ (by omega) (by omega))
    · exact writtenT_fine _ _ _ (ih _ (by omega) (by omega)) (ih _ (by omega) (by omega)) (ih _ (by omega) (by omega))
    · exact madeT_fine (by omega) (ih _ (by omega) (by omega)) (ih _ (by omega) (by omega))

/-- Behind k operations the terms stand for what the run has come to. -/
structure Holds (r : EnvD) (regs slots data : Int) (names : List Int) (ops : List OpD) (k : Nat) (s : RunD) : Prop where
  reg : ∀ i : Int, 0 ≤ i → i < regs → evW r (behindT regs slots names ops k i) = rg s.regs i
  slot : ∀ j : Int, 0 ≤ j → j < slots → evW r (behindT regs slots names ops k (regs + j)) = rg s.slots j
  cell : ∀ n : Int, 0 ≤ n → n < data → evM r (behindT regs slots names ops k (regs + slots)) n = rg s.cells n

/-- An operation that writes a register. -/
theorem Holds.toReg {r : EnvD} {regs slots data : Int} {names : List Int} {ops : List OpD} {k : Nat} {s s' : RunD} (h : Holds r regs slots data names ops k s) (hs : 0 ≤ slots) {a v : Int} (ha : 0 ≤ a ∧ a < regs) (hl : (s.regs.length : Int) = regs)
    (he : s'.regs = stI s.regs a v ∧ s'.slots = s.slots ∧ s'.cells = s.cells)
    (hb : ∀ place, place ≠ a → behindT regs slots names ops (k + 1) place = behindT regs slots names ops k place) (hv : evW r (behindT regs slots names ops (k + 1) a) = v) : Holds r regs slots data names ops (k + 1) s' := by
  obtain ⟨e1, e2, e3⟩ := he
  refine ⟨fun i h0 h1 => ?_, fun j h0 h1 => ?_, fun n h0 h1 => ?_⟩
  · rw [e1, rg_st (by omega) v h0]
    split
    · rename_i e; subst e; exact hv
    · rename_i e; rw [hb i e]; exact h.reg i h0 h1
  · rw [e2, hb _ (by omega)]; exact h.slot j h0 h1
  · rw [e3, hb _ (by omega)]; exact h.cell n h0 h1

theorem behindT_succ (regs slots : Int) (names : List Int) (ops : List OpD) (k : Nat) (place : Int) : behindT regs slots names ops (k + 1) place =
    if writesT regs slots (ops.getD k oz) ≠ place then behindT regs slots names ops k place
    else if (ops.getD k oz).kind = 1 then tnum (256 * (ops.getD k oz).b + (ops.getD k oz).c - 32768)
    else if (ops.getD k oz).kind = 2 ∨ (ops.getD k oz).kind = 14 then behindT regs slots names ops k (ops.getD k oz).b
    else if (ops.getD k oz).kind = 15 then behindT regs slots names ops k (regs + (ops.getD k oz).b)
    else if (ops.getD k oz).kind = 12 then readT (behindT regs slots names ops k (regs + slots)) (behindT regs slots names ops k (ops.getD k oz).b)
    else if (ops.getD k oz).kind = 13 then writtenT (behindT regs slots names ops k (regs + slots)) (behindT regs slots names ops k (ops.getD k oz).a) (behindT regs slots names ops k (ops.getD k oz).b)
    else madeT (ops.getD k oz).kind (behindT regs slots names ops k (ops.getD k oz).b) (behindT regs slots names ops k (ops.getD k oz).c) := rfl

theorem Holds.step {r : EnvD} (hw : r.wide) {regs slots data : Int} {names : List Int} {ops : List OpD} {k : Nat} {s : RunD} (h : Holds r regs slots data names ops k s) (hr : 0 ≤ regs ∧ regs ≤ 100) (hs : 0 ≤ slots ∧ slots ≤ 100) (hn : ∀ x ∈ names, x ≤ 1000) (hg : opsGood regs slots ops = true) (hk : k < ops.length)
    (hz : Sized s regs data slots) (ht : (stepOp s (ops.getD k oz)).trap = 0) : Holds r regs slots data names ops (k + 1) (stepOp s (ops.getD k oz)) := by
  have hf := good_fields (opsGood_getD hg hk)
  have fine := behindT_fine hr hs hn hg k (by omega)
  have hbt := behindT_succ regs slots names ops k
  obtain ⟨zr, zc, zs⟩ := hz
  generalize ops.getD k oz = o at *
  rcases hf with ⟨k1, fa, fb, fc⟩ | ⟨k2, fa, fb⟩ | ⟨k3, fa, fb, fc⟩ | ⟨k4, fa, fb⟩ | ⟨k5, fa, fb⟩
  · have hwr : writesT regs slots o = o.a := by simp [writesT, k1]
    refine h.toReg hs.1 fa zr (v := 256 * o.b + o.c - 32768) ⟨by simp [stepOp, k1, RunD.reg], by simp [stepOp, k1, RunD.reg], by simp [stepOp, k1, RunD.reg]⟩ (fun place hp => ?_) ?_
    · rw [hbt, hwr, if_pos (Ne.symm hp)]
    · rw [hbt, hwr, if_neg (by simp), if_pos k1, ev_num]
  · rcases k2 with k2 | k2 | k2
    · have hwr : writesT regs slots o = o.a := by simp [writesT, k2]
      refine h.toReg hs.1 fa zr (v := rg s.regs o.b) ⟨by simp [stepOp, k2, RunD.reg], by simp [stepOp, k2, RunD.reg], by simp [stepOp, k2, RunD.reg]⟩ (fun place hp => ?_) ?_
      · rw [hbt, hwr, if_pos (Ne.symm hp)]
      · rw [hbt, hwr, if_neg (by simp), if_neg (by omega), if_pos (.inl k2)]
        exact h.reg _ fb.1 fb.2
    · have hwr : writesT regs slots o = o.a := by simp [writesT, k2]
      have hin : 0 ≤ rg s.regs o.b ∧ rg s.regs o.b < s.cells.length := by
        rcases Classical.em (0 ≤ rg s.regs o.b ∧ rg s.regs o.b < s.cells.length) with q | q
        · exact q
        · exfalso
          have e : stepOp s o = (s.out (rg s.regs o.b)).die 2 := by unfold stepOp; rw [if_neg (by omega), if_neg (by omega), if_pos k2, if_neg q]
          rw [e] at ht
          simp [RunD.die] at ht
      have hst : stepOp s o = (s.out (rg s.regs o.b)).reg o.a (rg s.cells (rg s.regs o.b)) := by unfold stepOp; rw [if_neg (by omega), if_neg (by omega), if_pos k2, if_pos hin]
      refine h.toReg hs.1 fa zr (v := rg s.cells (rg s.regs o.b)) ⟨by rw [hst]; rfl, by rw [hst]; rfl, by rw [hst]; rfl⟩ (fun place hp => ?_) ?_
      · rw [hbt, hwr, if_pos (Ne.symm hp)]
      · rw [hbt, hwr, if_neg (by simp), if_neg (by omega), if_neg (by omega), if_neg (by omega), if_pos k2]
        rw [ev_read hw _ _ (fine _ (by omega) (by omega)) (fine _ (by omega) (by omega)), h.reg _ fb.1 fb.2]
        exact h.cell _ hin.1 (by omega)
    · have hwr : writesT regs slots o = regs + slots := by simp [writesT, k2]
      have hin : 0 ≤ rg s.regs o.a ∧ rg s.regs o.a < s.cells.length := by
        rcases Classical.em (0 ≤ rg s.regs o.a ∧ rg s.regs o.a < s.cells.length) with q | q
        · exact q
        · exfalso
          have e : stepOp s o = (s.out (rg s.regs o.a)).die 2 := by unfold stepOp; rw [if_neg (by omega), if_neg (by omega), if_neg (by omega), if_pos k2, if_neg q]
          rw [e] at ht
          simp [RunD.die] at ht
      have hst : stepOp s o = (s.out (rg s.regs o.a)).cell (rg s.regs o.a) (rg s.regs o.b) := by unfold stepOp; rw [if_neg (by omega), if_neg (by omega), if_neg (by omega), if_pos k2, if_pos hin]
      rw [hst]
      refine ⟨fun i h0 h1 => ?_, fun j h0 h1 => ?_, fun n h0 h1 => ?_⟩
      · rw [hbt, hwr, if_pos (by omega)]; exact h.reg i h0 h1
      · rw [hbt, hwr, if_pos (by omega)]; exact h.slot j h0 h1
      · rw [hbt, hwr, if_neg (by simp), if_neg (by omega), if_neg (by omega), if_neg (by omega), if_neg (by omega), if_pos k2]
        rw [ev_written hw _ _ _ (fine _ (by omega) (by omega)) (fine _ (by omega) (by omega)), h.reg _ fa.1 fa.2, h.reg _ fb.1 fb.2, h.cell n h0 h1]
        show _ = rg (stI s.cells (rg s.regs o.a) (rg s.regs o.b)) n
        rw [rg_st hin _ h0]
  · have hwr : writesT regs slots o = o.a := by unfold writesT; rw [if_neg (by omega), if_neg (by omega)]
    have he : (stepOp s o).regs = stI s.regs o.a (calcW o.kind (rg s.regs o.b) (rg s.regs o.c)) ∧ (stepOp s o).slots = s.slots ∧ (stepOp s o).cells = s.cells := by
      by_cases h11 : o.kind = 11
      · have hy : rg s.regs o.c ≠ 0 := by
          intro q
          have e : stepOp s o = ((s.out (rg s.regs o.b)).out (rg s.regs o.c)).die 3 := by unfold stepOp; rw [if_neg (by omega), if_neg (by omega), if_neg (by omega), if_neg (by omega), if_neg (by omega), if_neg (by omega), if_pos h11, if_pos q]
          rw [e] at ht
          simp [RunD.die] at ht
        have e : stepOp s o = ((s.out (rg s.regs o.b)).out (rg s.regs o.c)).reg o.a (calcW 11 (rg s.regs o.b) (rg s.regs o.c)) := by unfold stepOp; rw [if_neg (by omega), if_neg (by omega), if_neg (by omega), if_neg (by omega), if_neg (by omega), if_neg (by omega), if_pos h11, if_neg hy]
        rw [e, h11]
        exact ⟨rfl, rfl, rfl⟩
      · have e : stepOp s o = s.reg o.a (calcW o.kind (rg s.regs o.b) (rg s.regs o.c)) := by unfold stepOp; rw [if_neg (by omega), if_neg (by omega), if_neg (by omega), if_neg (by omega), if_neg (by omega), if_neg (by omega), if_neg h11]
        rw [e]
        exact ⟨rfl, rfl, rfl⟩
    refine h.toReg hs.1 fa zr he (fun place hp => ?_) ?_
    · rw [hbt, hwr, if_pos (Ne.symm hp)]
    · rw [hbt, hwr, if_neg (by simp), if_neg (by omega), if_neg (by omega), if_neg (by omega), if_neg (by omega), if_neg (by omega)]
      rw [ev_made hw k3 (fine _ (by omega) (by omega)) (fine _ (by omega) (by omega)), h.reg _ fb.1 fb.2, h.reg _ fc.1 fc.2]
  · have hwr : writesT regs slots o = regs + o.a := by simp [writesT, k4]
    have hst : stepOp s o = s.slot o.a (rg s.regs o.b) := by unfold stepOp; rw [if_neg (by omega), if_neg (by omega), if_neg (by omega), if_neg (by omega), if_pos k4]
    rw [hst]
    refine ⟨fun i h0 h1 => ?_, fun j h0 h1 => ?_, fun n h0 h1 => ?_⟩
    · rw [hbt, hwr, if_pos (by omega)]; exact h.reg i h0 h1
    · show _ = rg (stI s.slots o.a (rg s.regs o.b)) j
      rw [rg_st (by omega) _ h0]
      split
      · rename_i e; subst e
        rw [hbt, hwr, if_neg (by simp), if_neg (by omega), if_pos (.inr k4)]
        exact h.reg _ fb.1 fb.2
      · rw [hbt, hwr, if_pos (by omega)]; exact h.slot j h0 h1
    · rw [hbt, hwr, if_pos (by omega)]; exact h.cell n h0 h1
  · have hwr : writesT regs slots o = o.a := by simp [writesT, k5]
    have hst : stepOp s o = s.reg o.a (rg s.slots o.b) := by unfold stepOp; rw [if_neg (by omega), if_neg (by omega), if_neg (by omega), if_neg (by omega), if_neg (by omega), if_pos k5]
    refine h.toReg hs.1 fa zr (v := rg s.slots o.b) ⟨by rw [hst]; rfl, by rw [hst]; rfl, by rw [hst]; rfl⟩ (fun place hp => ?_) ?_
    · rw [hbt, hwr, if_pos (Ne.symm hp)]
    · rw [hbt, hwr, if_neg (by simp), if_neg (by omega), if_neg (by omega), if_pos k5]
      exact h.slot _ fb.1 fb.2

/-- A block that does not trap: its terms stand for what the run leaves. -/
theorem Holds.all {r : EnvD} (hw : r.wide) {regs slots data : Int} {names : List Int} {ops : List OpD} {s : RunD} (h : Holds r regs slots data names ops 0 s) (hr : 0 ≤ regs ∧ regs ≤ 100) (hs : 0 ≤ slots ∧ slots ≤ 100) (hn : ∀ x ∈ names, x ≤ 1000) (hg : opsGood regs slots ops = true)
    (hz : Sized s regs data slots) : ∀ k, k ≤ ops.length → (doOps (ops.take k) s).trap = 0 → Holds r regs slots data names ops k (doOps (ops.take k) s) := by
  intro k
  induction k with
  | zero => intro _ _; exact h
  | succ k ih =>
    intro hk ht
    have e := doOps_take (show k < ops.length by omega) s
    have ho : (⟨okind ops k, oa ops k, ob ops k, oc ops k⟩ : OpD) = ops.getD k oz := rfl
    rw [ho] at e
    by_cases h0 : (doOps (ops.take k) s).trap = 0
    · rw [if_pos h0] at e
      rw [e] at ht ⊢
      exact (ih (by omega) h0).step hw hr hs hn hg (by omega) (hz.doOps _) ht
    · rw [if_neg h0] at e
      rw [e] at ht
      exact absurd ht h0

end Go.Proofs.YtblhmeidbjigaaaGreatDoor

/- How great terms become: pure. -/
set_option linter.unusedSimpArgs false
set_option linter.unusedVariables false
noncomputable section
namespace Go.Proofs.YtblhmeidbjigaaaGreatDoor
open Go.RowKit Classical

theorem addN_size : ∀ (u : TD) (k : Int), (addN u k).size ≤ u.size + 2 := by
  intro u
  induction u with
  | leaf q n =>
    intro k
    simp only [addN]
    repeat' split
    all_goals simp only [tnum, TD.size]; omega
  | two q a b iha ihb =>
    intro k
    simp only [addN]
    split
    · omega
    · split
      · rename_i m _
        have h1 := iha (wrap64 (m + k))
        simp only [TD.size]
        omega
      · simp only [tnum, TD.size]; omega
  | three q a b c =>
    intro k
    simp only [addN]
    split
    · omega
    · simp only [tnum, TD.size]; omega

theorem besideT_size {kind n : Int} {u t : TD} (h : besideT kind u n = some t) : t.size ≤ u.size + 2 := by
  have hp := u.size_pos
  unfold besideT at h
  repeat' split at h
  all_goals first
    | (cases h; done)
    | (simp only [Option.some.injEq] at h; subst h; first | omega | exact addN_size _ _ | (simp only [tnum, TD.size]; omega))
    | skip
  cases hu : u.isPlus with
  | none => rw [hu] at h; cases h
  | some p =>
    obtain ⟨a, m⟩ := p
    rw [hu] at h
    simp only [Option.map_some, Option.some.injEq] at h
    subst h
    have e := isPlus_some hu
    subst e
    have := addN_size a (wrap64 (m + n))
    simp only [tnum, TD.size]
    omega

theorem rowT_size (kind : Int) (u v : TD) : (rowT kind u v).size ≤ 1 + u.size + v.size := by
  have hu := u.size_pos
  have hv := v.size_pos
  unfold rowT
  split
  · rename_i t ht
    cases hn : v.isNum with
    | none => rw [hn] at ht; cases ht
    | some n =>
      rw [hn] at ht
      have := besideT_size (by simpa using ht)
      omega
  · repeat' split
    all_goals (try simp only [tnum, TD.size]); omega

theorem madeT_size (kind : Int) (u v : TD) : (madeT kind u v).size ≤ 1 + u.size + v.size := by
  have h1 := rowT_size kind u v
  have h2 := rowT_size kind v u
  have hu := u.size_pos
  unfold madeT
  repeat' split
  all_goals (try simp only [tnum, TD.size]); omega

theorem readT_size (m u : TD) : (readT m u).size ≤ 1 + m.size + u.size := by
  induction m with
  | leaf k n => simp only [readT, TD.size]; omega
  | two k a b => simp only [readT, TD.size]; omega
  | three k c a v ihc iha ihv =>
    by_cases hk : k = 13
    · subst hk
      simp only [readT]
      repeat' split
      all_goals (try simp only [TD.size] at *); omega
    · have e : readT (.three k c a v) u = .two 12 (.three k c a v) u := by
        unfold readT
        split
        · rename_i h; cases h; exact absurd rfl hk
        · rfl
      rw [e]
      simp only [TD.size]
      omega

theorem leftT_size (m u : TD) : (leftT m u).size ≤ m.size := by
  induction m with
  | leaf k n => simp only [leftT]; omega
  | two k a b => simp only [leftT]; omega
  | three k c a v ihc iha ihv =>
    by_cases hk : k = 13
    · subst hk
      simp only [leftT]
      repeat' split
      all_goals (try simp only [TD.size] at *); omega
    · have e : leftT (.three k c a v) u = .three k c a v := by
        unfold leftT
        split
        · rename_i h; cases h; exact absurd rfl hk
        · rfl
      rw [e]
      omega

theorem laidT_size (m u v : TD) : (laidT m u v).size ≤ 1 + m.size + u.size + v.size := by
  induction m with
  | leaf k n => simp only [laidT, TD.size]; omega
  | two k a b => simp only [laidT, TD.size]; omega
  | three k c a w ihc iha ihw =>
    by_cases hk : k = 13
    · subst hk
      simp only [laidT]
      repeat' split
      all_goals (try simp only [TD.size] at *); omega
    · have e : laidT (.three k c a w) u v = .three 13 (.three k c a w) u v := by
        unfold laidT
        split
        · rename_i h; cases h; exact absurd rfl hk
        · rfl
      rw [e]
      simp only [TD.size]
      omega

theorem writtenT_size (m u v : TD) : (writtenT m u v).size ≤ 1 + m.size + u.size + v.size := by
  have h1 := leftT_size m u
  have h2 := laidT_size (leftT m u) u v
  unfold writtenT
  split <;> omega

/-- Behind k operations a term has at most so many parts. -/
def most : Nat → Nat
  | 0 => 1
  | k + 1 => 1 + 3 * most k

theorem most_pos (k : Nat) : 1 ≤ most k := by cases k <;> simp only [most] <;> omega

theorem behindT_size (regs slots : Int) (names : List Int) (ops : List OpD) : ∀ (k : Nat) (place : Int), (behindT regs slots names ops k place).size ≤ most k := by
  intro k
  induction k with
  | zero =>
    intro place
    simp only [behindT, firstT, most]
    repeat' split
    all_goals simp only [TD.size]; omega
  | succ k ih =>
    intro place
    have hp := most_pos k
    simp only [behindT, most]
    repeat' split
    · have := ih place; omega
    · simp only [tnum, TD.size]; omega
    · have := ih (ops.getD k oz).b; omega
    · have := ih (regs + (ops.getD k oz).b); omega
    · have h1 := readT_size (behindT regs slots names ops k (regs + slots)) (behindT regs slots names ops k (ops.getD k oz).b)
      have := ih (regs + slots)
      have := ih (ops.getD k oz).b
      omega
    · have h1 := writtenT_size (behindT regs slots names ops k (regs + slots)) (behindT regs slots names ops k (ops.getD k oz).a) (behindT regs slots names ops k (ops.getD k oz).b)
      have := ih (regs + slots)
      have := ih (ops.getD k oz).a
      have := ih (ops.getD k oz).b
      omega
    · have h1 := madeT_size (ops.getD k oz).kind (behindT regs slots names ops k (ops.getD k oz).b) (behindT regs slots names ops k (ops.getD k oz).c)
      have := ih (ops.getD k oz).b
      have := ih (ops.getD k oz).c
      omega

theorem most_mono {j k : Nat} (h : j ≤ k) : most j ≤ most k := by
  induction k with
  | zero => obtain rfl : j = 0 := (by omega); exact Nat.le_refl _
  | succ k ih =>
    by_cases e : j = k + 1
    · subst e; exact Nat.le_refl _
    · have := ih (by omega)
      simp only [most]
      omega

/-- A block of up to seven operations is never big. -/
theorem bigT_short {regs slots : Int} {names : List Int} {ops : List OpD} (h : ops.length ≤ 7) : bigT regs slots names ops = false := by
  unfold bigT
  rw [List.any_eq_false]
  intro k hk
  have hk' : k < ops.length := by simpa using hk
  simp only [decide_eq_true_eq]
  rintro ⟨_, _, h3⟩
  have h1 := behindT_size regs slots names ops (k + 1) (writesT regs slots (ops.getD k oz))
  have h2 := most_mono (show k + 1 ≤ 7 by omega)
  have h4 : most 7 = 3280 := by decide
  omega

end Go.Proofs.YtblhmeidbjigaaaGreatDoor

/- Terms in memory: trees of blocks, which nobody writes into; strconv.Itoa and its table. -/
set_option linter.unusedSimpArgs false
set_option linter.unusedVariables false
namespace Go.Proofs
open Go.Shelf
shelf_lay LaysM.n171 Nm 171 at Tryz as Tryz.laysItoa
end Go.Proofs
namespace Go.Proofs.YtblhmeidbjigaaaGreatDoor
open Go.RowKit Go.Shelf

/-- The library's table of the powers of ten lies as its initialiser lays it. -/
def TabW (w : World) : Prop := Lib.TabIs Tryz.prog w "internal/strconv.uint64pow10" .u64 Lib.pow10Tab

theorem tabGlobal : ∃ g, Tryz.prog.globalNamed "internal/strconv.uint64pow10" = some g :=
  Option.isSome_iff_exists.1 (show (Tryz.prog.globalNamed "internal/strconv.uint64pow10").isSome = true by kernel_rfl)

theorem TabW.keep {w w' : World} (h : TabW w) (hb : Below w.heap.size w w') : TabW w' :=
  let ⟨_, hg⟩ := tabGlobal
  Joins.tab_stays hg h hb (Nat.le_refl _)

theorem below_grown_it (w : World) (q : Nat) (os : Array Obj) : Below w.heap.size w (Sort.grow (w.drewN q) os) :=
  ⟨rfl, rfl, rfl, by first | (simp [Sort.grow]; done) | (simp [Sort.grow]; omega), fun i hi => by
    show ((w.drewN q).heap ++ os)[i]? = _
    rw [Array.getElem?_append_left (by show i < w.heap.size; omega)]
    rfl⟩

theorem itoa_any (n : Int) (hn : W64 n) (w : World) (ht : TabW w) :
    Calls Tryz.prog 41 #[.int .i64 n] w fun e w' => e = .returned (.string (str (Lib.itoa n))) ∧ Below w.heap.size w w' :=
  (Any.strconv_Itoa Tryz.laysItoa n hn.1 hn.2 w ht).mono fun e w' ⟨he, k, os, hw⟩ => ⟨he, by
    rw [hw]
    exact below_grown_it _ _ _⟩

end Go.Proofs.YtblhmeidbjigaaaGreatDoor
