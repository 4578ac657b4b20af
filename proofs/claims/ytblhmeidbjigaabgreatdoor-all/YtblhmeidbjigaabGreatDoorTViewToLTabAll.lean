/- What a block computes, as plain data: texts of terms (P8), places behind operations (P10), marks (P11), pure. -/
import Derived.Test.YtblhmeidbjigaabGreatDoorRows
import Derived.WalkKit
import Derived.WalkSpells
import Derived.WalkLawsBesides
import Derived.Laws.BytesArg
import Derived.Deep.QuietTactic
import Derived.BigQuiet
import Derived.Deep.RegionHeld3
import Derived.Lib.ItoaNum
import Derived.Lib.ItoaLen
import Derived.OpenShut
import Derived.Maps.AppendAt
import Derived.Shelf.Strconv.Itoa3
import Derived.Shelf.Lay
import Derived.Ground.NamesProg
import Derived.Lib.SmallJoins
import Derived.ProofKit
import Derived.LaidMore
import Derived.Stop.Joined
import Derived.Stop.LaidErr
import Derived.Test.YtblhmeidbjigaabGreatDoorLawKToTPureAll

set_option linter.unusedSimpArgs false
set_option linter.unusedVariables false
noncomputable section
namespace Go.Proofs.YtblhmeidbjigaabGreatDoor
open Go.RowKit Classical

def signT (k : Int) : UInt8 :=
  if k = 3 then 43 else if k = 4 then 45 else if k = 5 then 42 else if k = 6 then 38 else if k = 7 then 124 else if k = 8 then 94 else if k = 9 then 60 else if k = 10 then 61 else if k = 11 then 47 else if k = 12 then 64 else 33

/-- P8: a term's text. -/
def showT : TD → List UInt8
  | .leaf k n => if k = 100 then Lib.itoa n else if k = 101 then 114 :: Lib.itoa n else if k = 102 then 120 :: Lib.itoa n else [109]
  | .two k a b => 40 :: signT k :: 32 :: (showT a ++ 32 :: (showT b ++ [41]))
  | .three k a b c => 40 :: signT k :: 32 :: (showT a ++ 32 :: (showT b ++ 32 :: (showT c ++ [41])))

/-- P9, of a sign and words. -/
def madeT (kind : Int) (u v : TD) : TD :=
  match u.isNum, v.isNum with
  | some a, some b => if kind = 11 ∧ b = 0 then rowT kind u v else tnum (calcW kind a b)
  | some _, none => if turnsT kind then rowT kind v u else rowT kind u v
  | none, some _ => rowT kind u v
  | none, none => if turnsT kind ∧ showT v < showT u then rowT kind v u else rowT kind u v

/-- What a place holds at the block's begin; names: by place a register of the source, or below 0. -/
def firstT (names : List Int) (place : Int) : TD :=
  if (names.length : Int) ≤ place then .leaf 103 0 else if names.getD place.toNat 0 < 0 then .leaf 102 place else .leaf 101 (names.getD place.toNat 0)

/-- The place that an operation writes. -/
def writesT (regs slots : Int) (o : OpD) : Int := if o.kind = 13 then regs + slots else if o.kind = 14 then regs + o.a else o.a

/-- P10: what a place holds behind the first k operations. -/
def behindT (regs slots : Int) (names : List Int) (ops : List OpD) : Nat → Int → TD
  | 0, place => firstT names place
  | k + 1, place =>
    let o := ops.getD k oz
    let was := behindT regs slots names ops k
    if writesT regs slots o ≠ place then was place
    else if o.kind = 1 then tnum (256 * o.b + o.c - 32768)
    else if o.kind = 2 ∨ o.kind = 14 then was o.b
    else if o.kind = 15 then was (regs + o.b)
    else if o.kind = 12 then readT (was (regs + slots)) (was o.b)
    else if o.kind = 13 then writtenT (was (regs + slots)) (was o.a) (was o.b)
    else madeT o.kind (was o.b) (was o.c)

/-- P10: is a block big? -/
def bigT (regs slots : Int) (names : List Int) (ops : List OpD) : Bool :=
  (List.range ops.length).any fun k => decide (3 ≤ okind ops k ∧ okind ops k ≤ 13 ∧ 4095 < (behindT regs slots names ops (k + 1) (writesT regs slots (ops.getD k oz))).size)

def plainNames (regs slots : Int) : List Int := (List.range (regs + slots).toNat).map fun (i : Nat) => if (i : Int) < regs then (i : Int) else -1

/-- P10: what Term answers. -/
def TermAns (s : ByteArray) (block place : Int) (t : List UInt8) (e : Int) : Prop :=
  (e = 1 ∧ t = [] ∧ ∀ p, progGood p = true → str (progText p) ≠ s) ∨
  ∃ p, progGood p = true ∧ str (progText p) = s ∧
    ((e = 4 ∧ t = [] ∧ ¬ (0 ≤ block ∧ block < p.blocks.length ∧ 0 ≤ place ∧ place ≤ p.regs + p.slots)) ∨
      ((0 ≤ block ∧ block < p.blocks.length ∧ 0 ≤ place ∧ place ≤ p.regs + p.slots) ∧
        ((e = 5 ∧ t = [] ∧ bigT p.regs p.slots (plainNames p.regs p.slots) (bops p.blocks block.toNat) = true) ∨
          (e = 0 ∧ bigT p.regs p.slots (plainNames p.regs p.slots) (bops p.blocks block.toNat) = false ∧
            t = showT (behindT p.regs p.slots (plainNames p.regs p.slots) (bops p.blocks block.toNat) (bops p.blocks block.toNat).length place)))))

/-- P11: the mark of the operation behind the first k ones; []: it has none, or it is left out for its numbers. -/
def markT (regs slots data : Int) (names : List Int) (ops : List OpD) (k : Nat) : List UInt8 :=
  let o := ops.getD k oz
  let was := behindT regs slots names ops k
  if o.kind = 11 then
    match (was o.b).isNum, (was o.c).isNum with
    | some _, some y => if y ≠ 0 then [] else 47 :: 32 :: (showT (was o.b) ++ 32 :: showT (was o.c))
    | _, _ => 47 :: 32 :: (showT (was o.b) ++ 32 :: showT (was o.c))
  else if o.kind = 12 ∨ o.kind = 13 then
    let u := was (if o.kind = 12 then o.b else o.a)
    match u.isNum with
    | some n => if 0 ≤ n ∧ n < data then [] else 64 :: 32 :: showT u
    | none => 64 :: 32 :: showT u
  else []

/-- P11: the marks of the first k operations. -/
def marksT (regs slots data : Int) (names : List Int) (ops : List OpD) : Nat → List (List UInt8)
  | 0 => []
  | k + 1 =>
    let l := marksT regs slots data names ops k
    let s := markT regs slots data names ops k
    if s ≠ [] ∧ s ∉ l then l ++ [s] else l

end Go.Proofs.YtblhmeidbjigaabGreatDoor

/- What is made of '+' and a number; pure. -/
set_option linter.unusedSimpArgs false
set_option linter.unusedVariables false
noncomputable section
namespace Go.Proofs.YtblhmeidbjigaabGreatDoor
open Go.RowKit Classical

theorem num_isNum (k : Int) : (tnum k).isNum = some k := by simp [tnum, TD.isNum]

theorem row_add (u : TD) (k : Int) : rowT 3 u (tnum k) = if k = 0 then u else match u.isPlus with | some p => addN p.1 (wrap64 (p.2 + k)) | none => .two 3 u (tnum k) := by
  unfold rowT
  rw [num_isNum]
  simp only [Option.bind_some, besideT]
  by_cases hk : k = 0
  · simp [hk]
  · cases hp : u.isPlus with
    | none => simp [hk]
    | some p => simp [hk]

theorem made_add (u : TD) (k : Int) : madeT 3 u (tnum k) = addN u k := by
  cases u with
  | leaf q n =>
    by_cases hq : q = 100
    · subst hq
      have h : (TD.leaf 100 n).isNum = some n := num_isNum n
      simp [madeT, h, num_isNum, addN, calcW]
    · have h : (TD.leaf q n).isNum = none := by simp [TD.isNum, hq]
      have hp : (TD.leaf q n).isPlus = none := rfl
      simp only [madeT, h, num_isNum, row_add, hp, addN, if_neg hq]
  | two q a b =>
    have h : (TD.two q a b).isNum = none := rfl
    simp only [madeT, h, num_isNum, row_add, addN]
    by_cases hk : k = 0
    · simp [hk]
    · simp only [if_neg hk]
      by_cases hq : q = 3
      · subst hq
        cases hb : b.isNum with
        | none => simp [TD.isPlus, hb]
        | some m => simp [TD.isPlus, hb]
      · simp only [TD.isPlus, if_neg hq]
        split
        · exact absurd rfl hq
        · rfl
  | three q a b c =>
    have h : (TD.three q a b c).isNum = none := rfl
    have hp : (TD.three q a b c).isPlus = none := rfl
    simp only [madeT, h, num_isNum, row_add, hp, addN]

/-- P9 (3), behind the rows with a number. -/
def restT (kind : Int) (u v : TD) : TD :=
  if u = v ∧ (kind = 4 ∨ kind = 8 ∨ kind = 9) then tnum 0
  else if u = v ∧ (kind = 6 ∨ kind = 7) then u
  else if u = v ∧ kind = 10 then tnum 1
  else if kind = 10 ∧ apartT u v = true then tnum 0
  else .two kind u v

theorem row_rest {kind : Int} {u v : TD} (h : v.isNum.bind (besideT kind u) = none) : rowT kind u v = restT kind u v := by
  unfold rowT restT; rw [h]

theorem row_some {kind : Int} {u v t : TD} (h : v.isNum.bind (besideT kind u) = some t) : rowT kind u v = t := by
  unfold rowT; rw [h]

theorem rest_zero {kind : Int} {u v : TD} (h : u = v) (hk : kind = 4 ∨ kind = 8 ∨ kind = 9) : restT kind u v = tnum 0 := by
  unfold restT; rw [if_pos ⟨h, hk⟩]

theorem rest_self {kind : Int} {u v : TD} (h : u = v) (hk : kind = 6 ∨ kind = 7) : restT kind u v = u := by
  unfold restT; rw [if_neg (by omega), if_pos ⟨h, hk⟩]

theorem rest_one {kind : Int} {u v : TD} (h : u = v) (hk : kind = 10) : restT kind u v = tnum 1 := by
  unfold restT; rw [if_neg (by omega), if_neg (by omega), if_pos ⟨h, hk⟩]

theorem rest_apart {kind : Int} {u v : TD} (h : u ≠ v) (hk : kind = 10) (ha : apartT u v = true) : restT kind u v = tnum 0 := by
  unfold restT; rw [if_neg (fun q => h q.1), if_neg (fun q => h q.1), if_neg (fun q => h q.1), if_pos ⟨hk, ha⟩]

theorem rest_else {kind : Int} {u v : TD} (h : u ≠ v) (ha : ¬ (kind = 10 ∧ apartT u v = true)) : restT kind u v = .two kind u v := by
  unfold restT; rw [if_neg (fun q => h q.1), if_neg (fun q => h q.1), if_neg (fun q => h q.1), if_neg ha]

theorem rest_kind {kind : Int} {u v : TD} (hk : kind = 3 ∨ kind = 5 ∨ kind = 11) : restT kind u v = .two kind u v := by
  unfold restT; rw [if_neg (by omega), if_neg (by omega), if_neg (by omega), if_neg (by omega)]

theorem isNum_bind_none {kind : Int} {u v : TD} (h : v.isNum = none) : v.isNum.bind (besideT kind u) = none := by rw [h]; rfl

end Go.Proofs.YtblhmeidbjigaabGreatDoor

/- Two terms are the same if their texts are: pure. -/
set_option linter.unusedSimpArgs false
set_option linter.unusedVariables false
noncomputable section
namespace Go.Proofs.YtblhmeidbjigaabGreatDoor
open Go.RowKit Classical

/-- Bytes of a numeral. -/
def numByte (c : UInt8) : Bool := decide (c = 45 ∨ (48 ≤ c.toNat ∧ c.toNat ≤ 57))

theorem digit_byte {d : Nat} (h : d < 10) : (UInt8.ofNat (48 + d)).toNat = 48 + d := by
  rw [UInt8.toNat_ofNat']
  omega

theorem decDigits_bytes (u : Nat) : ∀ c ∈ Lib.decDigits u, 48 ≤ c.toNat ∧ c.toNat ≤ 57 := by
  induction u using Nat.strongRecOn with
  | _ u ih =>
    intro c hc
    by_cases h : u < 10
    · rw [Lib.decDigits_one h] at hc
      simp only [List.mem_singleton] at hc
      subst hc
      rw [digit_byte h]
      omega
    · rw [Lib.decDigits, dif_neg h] at hc
      rcases List.mem_append.1 hc with hc | hc
      · exact ih (u / 10) (by omega) c hc
      · simp only [List.mem_singleton] at hc
        subst hc
        rw [digit_byte (Nat.mod_lt _ (by decide))]
        omega

theorem decDigits_ne (u : Nat) : Lib.decDigits u ≠ [] := by
  intro e
  have := congrArg List.length e
  rw [Lib.decDigits_length] at this
  have := Lib.nDigits_pos u
  simp at *
  omega

theorem decDigits_inj {u v : Nat} (h : Lib.decDigits u = Lib.decDigits v) : u = v := by
  induction u using Nat.strongRecOn generalizing v with
  | _ u ih =>
    by_cases hu : u < 10
    · by_cases hv : v < 10
      · rw [Lib.decDigits_one hu, Lib.decDigits_one hv] at h
        have := congrArg UInt8.toNat (List.cons.inj h).1
        rw [digit_byte hu, digit_byte hv] at this
        omega
      · exfalso
        rw [Lib.decDigits_one hu, Lib.decDigits, dif_neg hv] at h
        have h2 := congrArg List.length h
        simp only [List.length_append, List.length_cons, List.length_nil] at h2
        have := decDigits_ne (v / 10)
        have : 0 < (Lib.decDigits (v / 10)).length := List.length_pos_iff.2 this
        omega
    · by_cases hv : v < 10
      · exfalso
        rw [Lib.decDigits_one hv, Lib.decDigits, dif_neg hu] at h
        have h2 := congrArg List.length h
        simp only [List.length_append, List.length_cons, List.length_nil] at h2
        have := decDigits_ne (u / 10)
        have : 0 < (Lib.decDigits (u / 10)).length := List.length_pos_iff.2 this
        omega
      · rw [Lib.decDigits, dif_neg hu] at h
        conv at h => rhs; rw [Lib.decDigits, dif_neg hv]
        obtain ⟨h1, h2⟩ := List.append_inj' h rfl
        have e1 := ih (u / 10) (by omega) h1
        have e2 := congrArg UInt8.toNat (List.cons.inj h2).1
        rw [digit_byte (Nat.mod_lt _ (by decide)), digit_byte (Nat.mod_lt _ (by decide))] at e2
        omega

theorem itoa_bytes (n : Int) : ∀ c ∈ Lib.itoa n, numByte c = true := by
  intro c hc
  unfold Lib.itoa at hc
  simp only [numByte, decide_eq_true_eq]
  split at hc
  · rcases List.mem_cons.1 hc with hc | hc
    · exact .inl hc
    · exact .inr (decDigits_bytes _ c hc)
  · exact .inr (decDigits_bytes _ c hc)

theorem itoa_head (n : Int) : ∃ c l, Lib.itoa n = c :: l ∧ numByte c = true := by
  cases h : Lib.itoa n with
  | nil =>
    exfalso
    unfold Lib.itoa at h
    split at h
    · cases h
    · exact decDigits_ne _ h
  | cons c l => exact ⟨c, l, rfl, itoa_bytes n c (by rw [h]; simp)⟩

theorem itoa_inj {n m : Int} (h : Lib.itoa n = Lib.itoa m) : n = m := by
  have hd : ∀ u : Nat, ∃ c l, Lib.decDigits u = c :: l ∧ 48 ≤ c.toNat := by
    intro u
    cases e : Lib.decDigits u with
    | nil => exact absurd e (decDigits_ne u)
    | cons c l => exact ⟨c, l, rfl, (decDigits_bytes u c (by rw [e]; simp)).1⟩
  unfold Lib.itoa at h
  split at h
  · split at h
    · have := decDigits_inj (List.cons.inj h).2
      omega
    · exfalso
      obtain ⟨c, l, e, hc⟩ := hd m.toNat
      rw [e] at h
      have := (List.cons.inj h).1
      subst this
      simp at hc
  · split at h
    · exfalso
      obtain ⟨c, l, e, hc⟩ := hd n.toNat
      rw [e] at h
      have := (List.cons.inj h).1
      subst this
      simp at hc
    · have := decDigits_inj h
      omega

/-- Nothing, or a byte that no numeral has. -/
def Stops (x : List UInt8) : Prop := ∀ c l, x = c :: l → numByte c = false

theorem takeWhile_stops {l x : List UInt8} (hl : ∀ c ∈ l, numByte c = true) (hx : Stops x) : (l ++ x).takeWhile numByte = l := by
  induction l with
  | nil =>
    cases x with
    | nil => rfl
    | cons c r => simp [hx c r rfl]
  | cons c r ih =>
    simp only [List.cons_append, List.takeWhile_cons, hl c (by simp), if_true]
    rw [ih (fun d hd => hl d (by simp [hd]))]

theorem itoa_cut {n m : Int} {x y : List UInt8} (hx : Stops x) (hy : Stops y) (h : Lib.itoa n ++ x = Lib.itoa m ++ y) : n = m ∧ x = y := by
  have h1 := takeWhile_stops (itoa_bytes n) hx
  have h2 := takeWhile_stops (itoa_bytes m) hy
  rw [h] at h1
  have e : Lib.itoa n = Lib.itoa m := h1.symm.trans h2
  rw [e] at h
  exact ⟨itoa_inj e, List.append_cancel_left h⟩

/-- Terms as they are made. -/
def TD.ok : TD → Prop
  | .leaf k n => k = 100 ∨ k = 101 ∨ k = 102 ∨ (k = 103 ∧ n = 0)
  | .two k a b => 3 ≤ k ∧ k ≤ 12 ∧ a.ok ∧ b.ok
  | .three k a b c => k = 13 ∧ a.ok ∧ b.ok ∧ c.ok

theorem sign_inj {k q : Int} (hk : 3 ≤ k ∧ k ≤ 13) (hq : 3 ≤ q ∧ q ≤ 13) (h : signT k = signT q) : k = q := by
  have a : k = 3 ∨ k = 4 ∨ k = 5 ∨ k = 6 ∨ k = 7 ∨ k = 8 ∨ k = 9 ∨ k = 10 ∨ k = 11 ∨ k = 12 ∨ k = 13 := by omega
  have b : q = 3 ∨ q = 4 ∨ q = 5 ∨ q = 6 ∨ q = 7 ∨ q = 8 ∨ q = 9 ∨ q = 10 ∨ q = 11 ∨ q = 12 ∨ q = 13 := by omega
  rcases a with rfl | rfl | rfl | rfl | rfl | rfl | rfl | rfl | rfl | rfl | rfl <;>
    rcases b with rfl | rfl | rfl | rfl | rfl | rfl | rfl | rfl | rfl | rfl | rfl <;> first | rfl | (exfalso; revert h; decide)

/-- The first byte of a term's text. -/
theorem show_head (t : TD) (h : t.ok) : ∃ c l, showT t = c :: l ∧ ((∃ n, t = .leaf 100 n ∧ numByte c = true) ∨ (∃ n, t = .leaf 101 n ∧ c = 114) ∨ (∃ n, t = .leaf 102 n ∧ c = 120) ∨ (t = .leaf 103 0 ∧ c = 109) ∨ ((∀ k n, t ≠ .leaf k n) ∧ c = 40)) := by
  cases t with
  | leaf k n =>
    rcases h with rfl | rfl | rfl | ⟨rfl, rfl⟩
    · obtain ⟨c, l, e, hc⟩ := itoa_head n
      exact ⟨c, l, by simpa [showT] using e, .inl ⟨n, rfl, hc⟩⟩
    · exact ⟨114, Lib.itoa n, by simp [showT], .inr (.inl ⟨n, rfl, rfl⟩)⟩
    · exact ⟨120, Lib.itoa n, by simp [showT], .inr (.inr (.inl ⟨n, rfl, rfl⟩))⟩
    · exact ⟨109, [], by simp [showT], .inr (.inr (.inr (.inl ⟨rfl, rfl⟩)))⟩
  | two k a b => exact ⟨40, _, rfl, .inr (.inr (.inr (.inr ⟨(fun _ _ e => by cases e), rfl⟩)))⟩
  | three k a b c => exact ⟨40, _, rfl, .inr (.inr (.inr (.inr ⟨(fun _ _ e => by cases e), rfl⟩)))⟩

theorem stops_of {c : UInt8} (l : List UInt8) (h : numByte c = false) : Stops (c :: l) := fun d r e => by
  obtain ⟨rfl, _⟩ := List.cons.inj e
  exact h

/-- A text is read in one way. -/
theorem show_cut : ∀ (t u : TD) (x y : List UInt8), t.ok → u.ok → Stops x → Stops y → showT t ++ x = showT u ++ y → t = u ∧ x = y := by
  intro t
  induction t with
  | leaf k n =>
    intro u x y ht hu hx hy h
    obtain ⟨c, l, e, hc⟩ := show_head _ ht
    obtain ⟨d, r, e', hd⟩ := show_head u hu
    have hcd : c = d := by rw [e, e'] at h; exact (List.cons.inj h).1
    subst hcd
    rcases hc with ⟨n1, e1, hb⟩ | ⟨n1, e1, rfl⟩ | ⟨n1, e1, rfl⟩ | ⟨e1, rfl⟩ | ⟨e1, rfl⟩
    · rcases hd with ⟨m, rfl, _⟩ | ⟨m, rfl, rfl⟩ | ⟨m, rfl, rfl⟩ | ⟨rfl, rfl⟩ | ⟨_, rfl⟩
      · cases e1
        simp only [showT, if_true] at h
        obtain ⟨rfl, rfl⟩ := itoa_cut hx hy h
        exact ⟨rfl, rfl⟩
      all_goals simp [numByte] at hb
    · rcases hd with ⟨m, rfl, hb⟩ | ⟨m, rfl, _⟩ | ⟨m, rfl, hb⟩ | ⟨rfl, hb⟩ | ⟨_, hb⟩
      · simp [numByte] at hb
      · cases e1
        simp [showT] at h
        obtain ⟨rfl, rfl⟩ := itoa_cut hx hy h
        exact ⟨rfl, rfl⟩
      all_goals simp at hb
    · rcases hd with ⟨m, rfl, hb⟩ | ⟨m, rfl, hb⟩ | ⟨m, rfl, _⟩ | ⟨rfl, hb⟩ | ⟨_, hb⟩
      · simp [numByte] at hb
      · simp at hb
      · cases e1
        simp [showT] at h
        obtain ⟨rfl, rfl⟩ := itoa_cut hx hy h
        exact ⟨rfl, rfl⟩
      all_goals simp at hb
    · rcases hd with ⟨m, rfl, hb⟩ | ⟨m, rfl, hb⟩ | ⟨m, rfl, hb⟩ | ⟨rfl, _⟩ | ⟨_, hb⟩
      · simp [numByte] at hb
      · simp at hb
      · simp at hb
      · cases e1
        simp [showT] at h
        exact ⟨rfl, h⟩
      · simp at hb
    · exact absurd rfl (e1 k n)
  | two k a b iha ihb =>
    intro u x y ht hu hx hy h
    obtain ⟨d, r, e', hd⟩ := show_head u hu
    have hcd : (40 : UInt8) = d := by rw [e'] at h; exact (List.cons.inj h).1
    subst hcd
    rcases hd with ⟨m, rfl, hb⟩ | ⟨m, rfl, hb⟩ | ⟨m, rfl, hb⟩ | ⟨rfl, hb⟩ | ⟨hn, _⟩
    · simp [numByte] at hb
    · simp at hb
    · simp at hb
    · simp at hb
    obtain ⟨k1, k2, oa, ob⟩ := ht
    cases u with
    | leaf q m => exact absurd rfl (hn q m)
    | two q a' b' =>
      obtain ⟨q1, q2, oa', ob'⟩ := hu
      simp only [showT, List.cons_append, List.append_assoc, List.cons.injEq, true_and] at h
      obtain ⟨hs, h⟩ := h
      obtain rfl := sign_inj ⟨k1, by omega⟩ ⟨q1, by omega⟩ hs
      obtain ⟨rfl, h2⟩ := iha a' _ _ oa oa' (stops_of _ (by decide)) (stops_of _ (by decide)) h
      have h3 := (List.cons.inj h2).2
      obtain ⟨rfl, h4⟩ := ihb b' _ _ ob ob' (stops_of _ (by decide)) (stops_of _ (by decide)) h3
      exact ⟨rfl, by simpa using h4⟩
    | three q a' b' c' =>
      exfalso
      obtain ⟨rfl, oa', ob', oc'⟩ := hu
      simp only [showT, List.cons_append, List.append_assoc, List.cons.injEq, true_and] at h
      have := sign_inj ⟨k1, by omega⟩ ⟨by omega, by omega⟩ h.1
      omega
  | three k a b c iha ihb ihc =>
    intro u x y ht hu hx hy h
    obtain ⟨d, r, e', hd⟩ := show_head u hu
    have hcd : (40 : UInt8) = d := by rw [e'] at h; exact (List.cons.inj h).1
    subst hcd
    rcases hd with ⟨m, rfl, hb⟩ | ⟨m, rfl, hb⟩ | ⟨m, rfl, hb⟩ | ⟨rfl, hb⟩ | ⟨hn, _⟩
    · simp [numByte] at hb
    · simp at hb
    · simp at hb
    · simp at hb
    obtain ⟨rfl, oa, ob, oc⟩ := ht
    cases u with
    | leaf q m => exact absurd rfl (hn q m)
    | two q a' b' =>
      exfalso
      obtain ⟨q1, q2, oa', ob'⟩ := hu
      simp only [showT, List.cons_append, List.append_assoc, List.cons.injEq, true_and] at h
      have := sign_inj ⟨by omega, by omega⟩ ⟨q1, by omega⟩ h.1
      omega
    | three q a' b' c' =>
      obtain ⟨rfl, oa', ob', oc'⟩ := hu
      simp only [showT, List.cons_append, List.append_assoc, List.cons.injEq, true_and] at h
      obtain ⟨rfl, h2⟩ := iha a' _ _ oa oa' (stops_of _ (by decide)) (stops_of _ (by decide)) h
      have h3 := (List.cons.inj h2).2
      obtain ⟨rfl, h4⟩ := ihb b' _ _ ob ob' (stops_of _ (by decide)) (stops_of _ (by decide)) h3
      have h5 := (List.cons.inj h4).2
      obtain ⟨rfl, h6⟩ := ihc c' _ _ oc oc' (stops_of _ (by decide)) (stops_of _ (by decide)) h5
      exact ⟨rfl, by simpa using h6⟩

/-- P8: two terms are the same if their texts are. -/
theorem show_inj {t u : TD} (ht : t.ok) (hu : u.ok) (h : showT t = showT u) : t = u :=
  (show_cut t u [] [] ht hu (fun _ _ e => by cases e) (fun _ _ e => by cases e) (by simpa using h)).1

end Go.Proofs.YtblhmeidbjigaabGreatDoor

/- Terms as they are made: their kinds, their numbers, how long their texts are; pure. -/
set_option linter.unusedSimpArgs false
set_option linter.unusedVariables false
noncomputable section
namespace Go.Proofs.YtblhmeidbjigaabGreatDoor
open Go.RowKit Classical

def W64 (n : Int) : Prop := -9223372036854775808 ≤ n ∧ n ≤ 9223372036854775807

theorem w64_of {n : Int} (h : (Lit.int .i64 n).wf = true) : W64 n := by
  simp only [Lit.wf, Bool.and_eq_true, decide_eq_true_eq] at h
  exact ⟨Int.le_trans (by decide) h.1, Int.le_trans h.2 (by decide)⟩

theorem w64_wrap (n : Int) : W64 (wrap64 n) := w64_of (wrap64_wf n)

theorem w64_small {n : Int} (h : -1000000 ≤ n ∧ n ≤ 1000000) : W64 n := ⟨by omega, by omega⟩

theorem w64_calc (k x y : Int) : W64 (calcW k x y) := by
  unfold calcW
  repeat' split
  all_goals first | exact w64_wrap _ | exact w64_of (wf_bits _ _ _ _) | exact w64_small (by omega)

/-- A term as it is made. -/
def TD.fine : TD → Prop
  | .leaf k n => (k = 100 ∨ k = 101 ∨ k = 102 ∨ (k = 103 ∧ n = 0)) ∧ W64 n
  | .two k a b => 3 ≤ k ∧ k ≤ 12 ∧ a.fine ∧ b.fine
  | .three k a b c => k = 13 ∧ a.fine ∧ b.fine ∧ c.fine

theorem TD.fine.ok {t : TD} (h : t.fine) : t.ok := by
  induction t with
  | leaf k n => exact h.1
  | two k a b iha ihb => exact ⟨h.1, h.2.1, iha h.2.2.1, ihb h.2.2.2⟩
  | three k a b c iha ihb ihc => exact ⟨h.1, iha h.2.1, ihb h.2.2.1, ihc h.2.2.2⟩

theorem TD.size_pos (t : TD) : 1 ≤ t.size := by cases t <;> simp only [TD.size] <;> omega

theorem show_length {t : TD} (h : t.fine) : (showT t).length ≤ 24 * t.size := by
  induction t with
  | leaf k n =>
    have hl := Lib.itoa_length_le n h.2.1 h.2.2
    simp only [showT, TD.size]
    repeat' split
    all_goals (try simp only [List.length_cons, List.length_nil]); omega
  | two k a b iha ihb =>
    have h1 := iha h.2.2.1
    have h2 := ihb h.2.2.2
    simp only [showT, TD.size, List.length_cons, List.length_append, List.length_nil]
    omega
  | three k a b c iha ihb ihc =>
    have h1 := iha h.2.1
    have h2 := ihb h.2.2.1
    have h3 := ihc h.2.2.2
    simp only [showT, TD.size, List.length_cons, List.length_append, List.length_nil]
    omega

theorem tnum_fine {n : Int} (h : W64 n) : (tnum n).fine := ⟨.inl rfl, h⟩

theorem isNum_some {t : TD} {n : Int} (h : t.isNum = some n) : t = tnum n := by
  cases t with
  | leaf k m =>
    simp only [TD.isNum] at h
    split at h
    · rename_i e; subst e; cases h; rfl
    · cases h
  | two k a b => cases h
  | three k a b c => cases h

theorem isNum_fine {t : TD} {n : Int} (h : t.isNum = some n) (hf : t.fine) : W64 n := by
  rw [isNum_some h] at hf
  exact hf.2

theorem isPlus_some {t a : TD} {n : Int} (h : t.isPlus = some (a, n)) : t = .two 3 a (tnum n) := by
  cases t with
  | leaf k m => cases h
  | two k x y =>
    simp only [TD.isPlus] at h
    split at h
    · rename_i e
      subst e
      cases hy : y.isNum with
      | none => rw [hy] at h; cases h
      | some m =>
        rw [hy] at h
        simp only [Option.map_some, Option.some.injEq, Prod.mk.injEq] at h
        obtain ⟨rfl, rfl⟩ := h
        rw [isNum_some hy]
    · cases h
  | three k x y z => cases h

theorem addN_fine : ∀ (u : TD) (k : Int), u.fine → W64 k → (addN u k).fine := by
  intro u
  induction u with
  | leaf q n =>
    intro k hu hk
    simp only [addN]
    repeat' split
    · exact tnum_fine (w64_wrap _)
    · exact hu
    · exact ⟨by omega, by omega, hu, tnum_fine hk⟩
  | two q a b iha ihb =>
    intro k hu hk
    simp only [addN]
    split
    · exact hu
    · split
      · exact iha _ hu.2.2.1 (w64_wrap _)
      · exact ⟨by omega, by omega, hu, tnum_fine hk⟩
  | three q a b c =>
    intro k hu hk
    simp only [addN]
    split
    · exact hu
    · exact ⟨by omega, by omega, hu, tnum_fine hk⟩

theorem besideT_fine {kind n : Int} {u t : TD} (h : besideT kind u n = some t) (hu : u.fine) (hn : W64 n) : t.fine := by
  unfold besideT at h
  repeat' split at h
  all_goals first
    | (cases h; done)
    | (simp only [Option.some.injEq] at h; subst h; first | exact hu | exact addN_fine _ _ hu (w64_wrap _) | exact tnum_fine (w64_small (by omega)))
    | skip
  cases hp : u.isPlus with
  | none => rw [hp] at h; cases h
  | some p =>
    obtain ⟨a, m⟩ := p
    rw [hp] at h
    simp only [Option.map_some, Option.some.injEq] at h
    subst h
    have e := isPlus_some hp
    subst e
    exact addN_fine _ _ hu.2.2.1 (w64_wrap _)

theorem rowT_fine {kind : Int} {u v : TD} (hk : 3 ≤ kind ∧ kind ≤ 11) (hu : u.fine) (hv : v.fine) : (rowT kind u v).fine := by
  unfold rowT
  split
  · rename_i t ht
    cases hn : v.isNum with
    | none => rw [hn] at ht; cases ht
    | some n =>
      rw [hn] at ht
      exact besideT_fine (by simpa using ht) hu (isNum_fine hn hv)
  · repeat' split
    · exact tnum_fine (w64_small (by omega))
    · exact hu
    · exact tnum_fine (w64_small (by omega))
    · exact tnum_fine (w64_small (by omega))
    · exact ⟨hk.1, by omega, hu, hv⟩

theorem madeT_fine {kind : Int} {u v : TD} (hk : 3 ≤ kind ∧ kind ≤ 11) (hu : u.fine) (hv : v.fine) : (madeT kind u v).fine := by
  unfold madeT
  split
  · split
    · exact rowT_fine hk hu hv
    · exact tnum_fine (w64_calc _ _ _)
  · split
    · exact rowT_fine hk hv hu
    · exact rowT_fine hk hu hv
  · exact rowT_fine hk hu hv
  · split
    · exact rowT_fine hk hv hu
    · exact rowT_fine hk hu hv

theorem readT_fine (m u : TD) (hm : m.fine) (hu : u.fine) : (readT m u).fine := by
  induction m with
  | leaf k n => exact ⟨by omega, by omega, hm, hu⟩
  | two k a b => exact ⟨by omega, by omega, hm, hu⟩
  | three k c a v ihc iha ihv =>
    obtain rfl : k = 13 := hm.1
    simp only [readT]
    repeat' split
    · exact hm.2.2.2
    · exact ihc hm.2.1
    · exact ⟨by omega, by omega, hm, hu⟩

theorem leftT_fine (m u : TD) (hm : m.fine) : (leftT m u).fine := by
  induction m with
  | leaf k n => exact hm
  | two k a b => exact hm
  | three k c a v ihc iha ihv =>
    obtain rfl : k = 13 := hm.1
    simp only [leftT]
    repeat' split
    · exact hm.2.1
    · exact ⟨rfl, ihc hm.2.1, hm.2.2.1, hm.2.2.2⟩
    · exact hm

theorem laidT_fine (m u v : TD) (hm : m.fine) (hu : u.fine) (hv : v.fine) : (laidT m u v).fine := by
  induction m with
  | leaf k n => exact ⟨rfl, hm, hu, hv⟩
  | two k a b => exact ⟨rfl, hm, hu, hv⟩
  | three k c a w ihc iha ihw =>
    obtain rfl : k = 13 := hm.1
    simp only [laidT]
    split
    · split
      · exact ⟨rfl, ihc hm.2.1, hm.2.2.1, hm.2.2.2⟩
      · exact ⟨rfl, hm, hu, hv⟩
    · exact ⟨rfl, hm, hu, hv⟩

theorem writtenT_fine (m u v : TD) (hm : m.fine) (hu : u.fine) (hv : v.fine) : (writtenT m u v).fine := by
  unfold writtenT
  split
  · exact hm
  · exact laidT_fine _ _ _ (leftT_fine _ _ hm) hu hv

end Go.Proofs.YtblhmeidbjigaabGreatDoor

/- Runs as plain data; a run underway in memory: four lists of words, each in a block of its own. -/
set_option linter.unusedSimpArgs false
set_option linter.unusedVariables false
namespace Go.Proofs.YtblhmeidbjigaabGreatDoor
open Go.RowKit

/-! ### Runs, pure -/

structure RunD where
  regs : List Int
  cells : List Int
  slots : List Int
  leak : List Int
  trap : Int

structure OutD where
  kind : Int
  result : Int
  mem : List Int
  leak : List Int

def rg (l : List Int) (i : Int) : Int := l.getD i.toNat 0
def stI (l : List Int) (i v : Int) : List Int := l.set i.toNat v

theorem stI_length (l : List Int) (i v : Int) : (stI l i v).length = l.length := by simp [stI]

/-- A Load or Store of the cell n: it is let out. -/
def RunD.out (s : RunD) (n : Int) : RunD := ⟨s.regs, s.cells, s.slots, s.leak ++ [n], s.trap⟩
def RunD.reg (s : RunD) (i v : Int) : RunD := ⟨stI s.regs i v, s.cells, s.slots, s.leak, s.trap⟩
def RunD.cell (s : RunD) (i v : Int) : RunD := ⟨s.regs, stI s.cells i v, s.slots, s.leak, s.trap⟩
def RunD.slot (s : RunD) (i v : Int) : RunD := ⟨s.regs, s.cells, stI s.slots i v, s.leak, s.trap⟩
def RunD.die (s : RunD) (t : Int) : RunD := ⟨s.regs, s.cells, s.slots, s.leak, t⟩

def stepOp (s : RunD) (o : OpD) : RunD :=
  if o.kind = 1 then s.reg o.a (256 * o.b + o.c - 32768)
  else if o.kind = 2 then s.reg o.a (rg s.regs o.b)
  else if o.kind = 12 then
    if 0 ≤ rg s.regs o.b ∧ rg s.regs o.b < s.cells.length then (s.out (rg s.regs o.b)).reg o.a (rg s.cells (rg s.regs o.b)) else (s.out (rg s.regs o.b)).die 2
  else if o.kind = 13 then
    if 0 ≤ rg s.regs o.a ∧ rg s.regs o.a < s.cells.length then (s.out (rg s.regs o.a)).cell (rg s.regs o.a) (rg s.regs o.b) else (s.out (rg s.regs o.a)).die 2
  else if o.kind = 14 then s.slot o.a (rg s.regs o.b)
  else if o.kind = 15 then s.reg o.a (rg s.slots o.b)
  else if o.kind = 11 then
    if rg s.regs o.c = 0 then ((s.out (rg s.regs o.b)).out (rg s.regs o.c)).die 3
    else ((s.out (rg s.regs o.b)).out (rg s.regs o.c)).reg o.a (calcW 11 (rg s.regs o.b) (rg s.regs o.c))
  else s.reg o.a (calcW o.kind (rg s.regs o.b) (rg s.regs o.c))

def doOps : List OpD → RunD → RunD
  | [], s => s
  | o :: r, s => if s.trap = 0 then doOps r (stepOp s o) else s

theorem doOps_trap (l : List OpD) {s : RunD} (h : s.trap ≠ 0) : doOps l s = s := by
  cases l with
  | nil => rfl
  | cons o r => simp [doOps, h]

theorem doOps_snoc (l : List OpD) (o : OpD) (s : RunD) : doOps (l ++ [o]) s = if (doOps l s).trap = 0 then stepOp (doOps l s) o else doOps l s := by
  induction l generalizing s with
  | nil => rfl
  | cons p r ih =>
    simp only [doOps, List.cons_append]
    by_cases h : s.trap = 0
    · simp only [h, if_true]; exact ih _
    · simp only [h, if_false]

theorem doOps_take {l : List OpD} {k : Nat} (h : k < l.length) (s : RunD) : doOps (l.take (k + 1)) s = if (doOps (l.take k) s).trap = 0 then stepOp (doOps (l.take k) s) ⟨okind l k, oa l k, ob l k, oc l k⟩ else doOps (l.take k) s := by
  rw [take_getD l oz k h, doOps_snoc]; rfl

/-- A trap stays. -/
theorem doOps_stop {l : List OpD} {k : Nat} {s : RunD} (h : (doOps (l.take k) s).trap ≠ 0) : doOps l s = doOps (l.take k) s := by
  have e : ∀ (a b : List OpD) (s : RunD), doOps (a ++ b) s = doOps b (doOps a s) := by
    intro a
    induction a with
    | nil => intro b s; rfl
    | cons o r ih =>
      intro b s
      simp only [doOps, List.cons_append]
      by_cases ht : s.trap = 0
      · simp only [ht, if_true]; exact ih _ _
      · simp only [ht, if_false]; exact (doOps_trap b ht).symm
  conv => lhs; rw [← List.take_append_drop k l, e]
  exact doOps_trap _ h

/-- Where a run is: the sizes of its lists. -/
structure Sized (s : RunD) (r c k : Int) : Prop where
  regs : (s.regs.length : Int) = r
  cells : (s.cells.length : Int) = c
  slots : (s.slots.length : Int) = k

theorem Sized.out {s : RunD} {r c k : Int} (h : Sized s r c k) (n : Int) : Sized (s.out n) r c k := ⟨h.regs, h.cells, h.slots⟩
theorem Sized.die {s : RunD} {r c k : Int} (h : Sized s r c k) (n : Int) : Sized (s.die n) r c k := ⟨h.regs, h.cells, h.slots⟩
theorem Sized.reg {s : RunD} {r c k : Int} (h : Sized s r c k) (i n : Int) : Sized (s.reg i n) r c k := ⟨by simp only [RunD.reg, stI_length]; exact h.regs, h.cells, h.slots⟩
theorem Sized.cell {s : RunD} {r c k : Int} (h : Sized s r c k) (i n : Int) : Sized (s.cell i n) r c k := ⟨h.regs, by simp only [RunD.cell, stI_length]; exact h.cells, h.slots⟩
theorem Sized.slot {s : RunD} {r c k : Int} (h : Sized s r c k) (i n : Int) : Sized (s.slot i n) r c k := ⟨h.regs, h.cells, by simp only [RunD.slot, stI_length]; exact h.slots⟩

theorem Sized.step {s : RunD} {r c k : Int} (h : Sized s r c k) (o : OpD) : Sized (stepOp s o) r c k := by
  unfold stepOp
  repeat' split
  · exact h.reg _ _
  · exact h.reg _ _
  · exact (h.out _).reg _ _
  · exact (h.out _).die _
  · exact (h.out _).cell _ _
  · exact (h.out _).die _
  · exact h.slot _ _
  · exact h.reg _ _
  · exact ((h.out _).out _).die _
  · exact ((h.out _).out _).reg _ _
  · exact h.reg _ _

theorem step_leak (s : RunD) (o : OpD) : (stepOp s o).leak.length ≤ s.leak.length + 2 := by
  unfold stepOp
  repeat' split
  all_goals simp [RunD.reg, RunD.out, RunD.die, RunD.cell, RunD.slot]

theorem Sized.doOps {s : RunD} {r c k : Int} (l : List OpD) (h : Sized s r c k) : Sized (doOps l s) r c k := by
  induction l generalizing s with
  | nil => exact h
  | cons o t ih =>
    simp only [Go.Proofs.YtblhmeidbjigaabGreatDoor.doOps]
    split
    · exact ih (h.step o)
    · exact h

theorem doOps_leak (l : List OpD) (s : RunD) : (doOps l s).leak.length ≤ s.leak.length + 2 * l.length := by
  induction l generalizing s with
  | nil => simp [doOps]
  | cons o t ih =>
    simp only [doOps, List.length_cons]
    split
    · have := ih (stepOp s o); have := step_leak s o; omega
    · omega

/-- Where a run goes on, behind a Jump or a Branch. -/
def goesOn (s : RunD) (e : EndD) : RunD := if e.kind = 2 then s.out (if rg s.regs e.r = 0 then 0 else 1) else s
def goesTo (s : RunD) (e : EndD) : Int := if e.kind = 2 then (if rg s.regs e.r = 0 then e.y else e.x) else e.x

def runN (bs : List BlockD) : Nat → Int → RunD → OutD
  | 0, _, s => ⟨4, 0, s.cells, s.leak⟩
  | f + 1, i, s =>
    if (doOps (bops bs i.toNat) s).trap ≠ 0 then ⟨(doOps (bops bs i.toNat) s).trap, 0, [], (doOps (bops bs i.toNat) s).leak⟩
    else if bek bs i.toNat = 3 then ⟨1, rg (doOps (bops bs i.toNat) s).regs (ber bs i.toNat), (doOps (bops bs i.toNat) s).cells, (doOps (bops bs i.toNat) s).leak⟩
    else runN bs f (goesTo (doOps (bops bs i.toNat) s) (bfin bs i.toNat)) (goesOn (doOps (bops bs i.toNat) s) (bfin bs i.toNat))

theorem Sized.on {s : RunD} {r c k : Int} (h : Sized s r c k) (e : EndD) : Sized (goesOn s e) r c k := by
  unfold goesOn
  split
  · exact h.out _
  · exact h

/-! ### In memory -/

def ints (l : List Int) : List Value := l.map (.int .i64)

theorem ints_length (l : List Int) : (ints l).length = l.length := by simp [ints]
theorem ints_set (l : List Int) (i : Nat) (v : Int) : ints (l.set i v) = (ints l).set i (.int .i64 v) := by simp [ints, List.map_set]
theorem ints_snoc (l : List Int) (v : Int) : ints (l ++ [v]) = ints l ++ [.int .i64 v] := by simp [ints]

theorem Tryz.infoInt : (Tryz.prog.info? 3).map (fun i => (i.zero, i.size, i.bytes)) = some (some (.int .i64 0), 1, 8) := by kernel_rfl

/-- A list of words in a block of its own. -/
abbrev OwnW (w : World) (v : Value) (l : List Int) : Prop := w.ownsRow 0 3 1 v l.length (ints l)

/-- A word of a list of one's own. -/
theorem OwnW.at {w : World} {v : Value} {l : List Int} (h : OwnW w v l) {i : Nat} (hi : i < l.length) :
    ∃ b cap, v = .slice (some ⟨b, 0, none⟩) l.length cap ∧ v.ownBlock = some b ∧ w.cell? ⟨b, i, none⟩ = some (.int .i64 (l.getD i 0)) ∧ ∀ o, w.frozen? ⟨b, o, none⟩ = false := by
  obtain ⟨ao, cap, rfl⟩ := owns_slice h
  obtain ⟨b, rfl, _, hb, hc⟩ := owns_cell h rfl (i := i) (by rw [ints_length]; exact hi)
  refine ⟨b, cap, rfl, hb, ?_, fun o => owns_frozen h hb o⟩
  rw [hc]
  simp [ints, List.getD, hi]

theorem OwnW.set {w : World} {v : Value} {l : List Int} (h : OwnW w v l) {g i : Nat} (hg : v.ownBlock = some g) (hi : i < l.length) (u : Int) : OwnW (w.setCell ⟨g, i, none⟩ (.int .i64 u)) v (l.set i u) := by
  have := owns_set h hg (i := i) (by rw [ints_length]; exact hi) (.int .i64 u)
  rw [← ints_set] at this
  show World.ownsRow _ _ _ _ _ _ _
  rw [List.length_set]
  exact this

/-- A row of another type lies elsewhere. -/
theorem row_owns_apart {w : World} {H : Nat} {t : TypeId} {xs : List Value} {v : Value} {l : List Int} (hr : Row w H t xs) (h : OwnW w v l) (ht : t ≠ 3) : v.ownBlock ≠ some H := by
  intro e
  rcases h.2 with ⟨rfl, _⟩ | ⟨k, cap, cur, rfl, _, hh, _⟩
  · simp [Value.ownBlock] at e
  · simp only [Value.ownBlock, Option.some.injEq] at e
    subst e
    have := hr.symm.trans hh
    simp at this
    exact ht this.2

/-- Four lists of words, each in a block of its own; none of them a block of K. -/
structure Bunch (K : Nat → Prop) (w : World) (rv cv sv lv : Value) (s : RunD) : Prop where
  regs : OwnW w rv s.regs
  cells : OwnW w cv s.cells
  slots : OwnW w sv s.slots
  leak : OwnW w lv s.leak
  rc : ∀ g, rv.ownBlock = some g → cv.ownBlock ≠ some g
  rs : ∀ g, rv.ownBlock = some g → sv.ownBlock ≠ some g
  rl : ∀ g, rv.ownBlock = some g → lv.ownBlock ≠ some g
  cs : ∀ g, cv.ownBlock = some g → sv.ownBlock ≠ some g
  cl : ∀ g, cv.ownBlock = some g → lv.ownBlock ≠ some g
  sl : ∀ g, sv.ownBlock = some g → lv.ownBlock ≠ some g
  kr : ∀ g, rv.ownBlock = some g → ¬ K g
  kc : ∀ g, cv.ownBlock = some g → ¬ K g
  ks : ∀ g, sv.ownBlock = some g → ¬ K g
  kl : ∀ g, lv.ownBlock = some g → ¬ K g
  lt : ∀ g, K g → g < w.heap.size

section
variable {K : Nat → Prop} {w w' : World} {rv cv sv lv : Value} {s : RunD}

theorem Bunch.same (h : Bunch K w rv cv sv lv s) (hs : w.heap.size ≤ w'.heap.size) (hb : ∀ g, (rv.ownBlock = some g ∨ cv.ownBlock = some g ∨ sv.ownBlock = some g ∨ lv.ownBlock = some g) → w'.heap[g]? = w.heap[g]?) : Bunch K w' rv cv sv lv s :=
  ⟨owns_same h.regs fun g e => hb g (.inl e), owns_same h.cells fun g e => hb g (.inr (.inl e)), owns_same h.slots fun g e => hb g (.inr (.inr (.inl e))), owns_same h.leak fun g e => hb g (.inr (.inr (.inr e))),
    h.rc, h.rs, h.rl, h.cs, h.cl, h.sl, h.kr, h.kc, h.ks, h.kl, fun g hg => Nat.lt_of_lt_of_le (h.lt g hg) hs⟩

theorem Bunch.inHeap (h : Bunch K w rv cv sv lv s) {g : Nat} (hg : rv.ownBlock = some g ∨ cv.ownBlock = some g ∨ sv.ownBlock = some g ∨ lv.ownBlock = some g) : g < w.heap.size := by
  rcases hg with e | e | e | e
  · exact (World.ownsRow.lt h.regs g e).2
  · exact (World.ownsRow.lt h.cells g e).2
  · exact (World.ownsRow.lt h.slots g e).2
  · exact (World.ownsRow.lt h.leak g e).2

theorem Bunch.keep (h : Bunch K w rv cv sv lv s) (hb : Below w.heap.size w w') : Bunch K w' rv cv sv lv s :=
  h.same hb.size fun g hg => hb.block g (h.inHeap hg)

/-- A store elsewhere. -/
theorem Bunch.far (h : Bunch K w rv cv sv lv s) {H : Nat} {t : TypeId} {xs : List Value} (hr : Row w H t xs) (ht : t ≠ 3) (i : Nat) (u : Value) : Bunch K (w.setCell ⟨H, i, none⟩ u) rv cv sv lv s :=
  h.same (by simp) fun g hg => Below.heap_setCell _ _ _ _ (fun e => by
    subst e
    rcases hg with e | e | e | e
    · exact row_owns_apart hr h.regs ht e
    · exact row_owns_apart hr h.cells ht e
    · exact row_owns_apart hr h.slots ht e
    · exact row_owns_apart hr h.leak ht e)

theorem Bunch.setReg (h : Bunch K w rv cv sv lv s) {g i : Nat} (hg : rv.ownBlock = some g) (hi : i < s.regs.length) (u : Int) : Bunch K (w.setCell ⟨g, i, none⟩ (.int .i64 u)) rv cv sv lv ⟨s.regs.set i u, s.cells, s.slots, s.leak, s.trap⟩ :=
  ⟨h.regs.set hg hi u, owns_unset h.cells (h.rc g hg) _, owns_unset h.slots (h.rs g hg) _, owns_unset h.leak (h.rl g hg) _, h.rc, h.rs, h.rl, h.cs, h.cl, h.sl, h.kr, h.kc, h.ks, h.kl, fun g hg => by simpa using h.lt g hg⟩

theorem Bunch.setMem (h : Bunch K w rv cv sv lv s) {g i : Nat} (hg : cv.ownBlock = some g) (hi : i < s.cells.length) (u : Int) : Bunch K (w.setCell ⟨g, i, none⟩ (.int .i64 u)) rv cv sv lv ⟨s.regs, s.cells.set i u, s.slots, s.leak, s.trap⟩ :=
  ⟨owns_unset h.regs (fun e => h.rc g e hg) _, h.cells.set hg hi u, owns_unset h.slots (h.cs g hg) _, owns_unset h.leak (h.cl g hg) _, h.rc, h.rs, h.rl, h.cs, h.cl, h.sl, h.kr, h.kc, h.ks, h.kl, fun g hg => by simpa using h.lt g hg⟩

theorem Bunch.setSlot (h : Bunch K w rv cv sv lv s) {g i : Nat} (hg : sv.ownBlock = some g) (hi : i < s.slots.length) (u : Int) : Bunch K (w.setCell ⟨g, i, none⟩ (.int .i64 u)) rv cv sv lv ⟨s.regs, s.cells, s.slots.set i u, s.leak, s.trap⟩ :=
  ⟨owns_unset h.regs (fun e => h.rs g e hg) _, owns_unset h.cells (fun e => h.cs g e hg) _, h.slots.set hg hi u, owns_unset h.leak (h.sl g hg) _, h.rc, h.rs, h.rl, h.cs, h.cl, h.sl, h.kr, h.kc, h.ks, h.kl, fun g hg => by simpa using h.lt g hg⟩

/-- A word is let out. -/
theorem Bunch.app (h : Bunch K w rv cv sv lv s) {lv' : Value} {x : Int} (hown : w'.ownsRow 0 3 1 lv' (s.leak.length + 1) (ints s.leak ++ [.int .i64 x])) (hg : w.grownBy w' lv.ownBlock) (hat : lv'.ownBlock = lv.ownBlock ∨ lv'.ownBlock = some w.heap.size) : Bunch K w' rv cv sv lv' (s.out x) := by
  have kp : ∀ {v : Value} {l : List Int}, OwnW w v l → (∀ g, v.ownBlock = some g → lv.ownBlock ≠ some g) → OwnW w' v l := by
    intro v l hv ha
    refine World.ownsRow.kept hv hg ?_
    cases hb : v.ownBlock with
    | none => exact .inl rfl
    | some g => exact .inr (fun e => ha g hb e.symm)
  have nw : ∀ {v : Value} {l : List Int}, OwnW w v l → (∀ g, v.ownBlock = some g → lv.ownBlock ≠ some g) → ∀ g, v.ownBlock = some g → lv'.ownBlock ≠ some g := by
    intro v l hv ha g hg' e
    rcases hat with q | q
    · exact ha g hg' (q.symm.trans e)
    · rw [q] at e
      simp only [Option.some.injEq] at e
      have := (World.ownsRow.lt hv g hg').2
      omega
  refine ⟨kp h.regs h.rl, kp h.cells h.cl, kp h.slots h.sl, ?_, h.rc, h.rs, nw h.regs h.rl, h.cs, nw h.cells h.cl, nw h.slots h.sl, h.kr, h.kc, h.ks, ?_, fun g hg' => Nat.lt_of_lt_of_le (h.lt g hg') hg.size⟩
  · show World.ownsRow _ _ _ _ _ _ _
    simp only [RunD.out, List.length_append, List.length_cons, List.length_nil, Nat.zero_add]
    rw [ints_snoc]
    exact hown
  · intro g e hk
    rcases hat with q | q
    · exact h.kl g (q.symm.trans e) hk
    · rw [q] at e
      simp only [Option.some.injEq] at e
      have := h.lt g hk
      omega

theorem Bunch.trapped (h : Bunch K w rv cv sv lv s) (t : Int) : Bunch K w rv cv sv lv (s.die t) := ⟨h.regs, h.cells, h.slots, h.leak, h.rc, h.rs, h.rl, h.cs, h.cl, h.sl, h.kr, h.kc, h.ks, h.kl, h.lt⟩

/-- Fewer or other blocks are kept. -/
theorem Bunch.kept {K' : Nat → Prop} (h : Bunch K w rv cv sv lv s) (hk : ∀ g, K' g → K g ∨ w.heap.size ≤ g) (hl : ∀ g, K' g → g < w'.heap.size) (hb : Below w.heap.size w w') : Bunch K' w' rv cv sv lv s := by
  have n : ∀ {v : Value} {l : List Int}, OwnW w v l → (∀ g, v.ownBlock = some g → ¬ K g) → ∀ g, v.ownBlock = some g → ¬ K' g := by
    intro v l hv ha g e hk'
    rcases hk g hk' with q | q
    · exact ha g e q
    · have := (World.ownsRow.lt hv g e).2
      omega
  have h2 := h.keep hb
  exact ⟨h2.regs, h2.cells, h2.slots, h2.leak, h.rc, h.rs, h.rl, h.cs, h.cl, h.sl, n h.regs h.kr, n h.cells h.kc, n h.slots h.ks, n h.leak h.kl, hl⟩

end

end Go.Proofs.YtblhmeidbjigaabGreatDoor

/- A block's terms, worked out, are what its run leaves: pure. -/
set_option linter.unusedSimpArgs false
set_option linter.unusedVariables false
noncomputable section
namespace Go.Proofs.YtblhmeidbjigaabGreatDoor
open Go.RowKit Classical

theorem firstT_fine {names : List Int} (hn : ∀ x ∈ names, x ≤ 1000) {place : Int} (hp : 0 ≤ place ∧ place ≤ 1000) : (firstT names place).fine := by
  unfold firstT
  split
  · exact ⟨.inr (.inr (.inr ⟨rfl, rfl⟩)), w64_small (by omega)⟩
  · split
    · exact ⟨.inr (.inr (.inl rfl)), w64_small (by omega)⟩
    · rename_i h1 h2
      have hm : names.getD place.toNat 0 ∈ names := getD_mem' (by omega)
      have := hn _ hm
      exact ⟨.inr (.inl rfl), w64_small (by omega)⟩

/-- The fields of a good operation. -/
theorem good_fields {regs slots : Int} {o : OpD} (h : opGood regs slots o = true) :
    (o.kind = 1 ∧ (0 ≤ o.a ∧ o.a < regs) ∧ (0 ≤ o.b ∧ o.b < 256) ∧ (0 ≤ o.c ∧ o.c < 256)) ∨
    ((o.kind = 2 ∨ o.kind = 12 ∨ o.kind = 13) ∧ (0 ≤ o.a ∧ o.a < regs) ∧ (0 ≤ o.b ∧ o.b < regs)) ∨
    ((3 ≤ o.kind ∧ o.kind ≤ 11) ∧ (0 ≤ o.a ∧ o.a < regs) ∧ (0 ≤ o.b ∧ o.b < regs) ∧ (0 ≤ o.c ∧ o.c < regs)) ∨
    (o.kind = 14 ∧ (0 ≤ o.a ∧ o.a < slots) ∧ (0 ≤ o.b ∧ o.b < regs)) ∨
    (o.kind = 15 ∧ (0 ≤ o.a ∧ o.a < regs) ∧ (0 ≤ o.b ∧ o.b < slots)) := by
  unfold opGood at h
  repeat' split at h
  all_goals simp [below] at h
  all_goals omega

theorem opsGood_getD {regs slots : Int} {ops : List OpD} (h : opsGood regs slots ops = true) {k : Nat} (hk : k < ops.length) : opGood regs slots (ops.getD k oz) = true :=
  List.all_eq_true.1 h _ (getD_mem' hk)

theorem behindT_fine {regs slots : Int} {names : List Int} {ops : List OpD} (hr : 0 ≤ regs ∧ regs ≤ 100) (hs : 0 ≤ slots ∧ slots ≤ 100) (hn : ∀ x ∈ names, x ≤ 1000) (hg : opsGood regs slots ops = true) :
    ∀ (k : Nat), k ≤ ops.length → ∀ place : Int, 0 ≤ place → place ≤ regs + slots → (behindT regs slots names ops k place).fine := by
  intro k
  induction k with
  | zero => intro _ place h0 h1; exact firstT_fine hn ⟨h0, by omega⟩
  | succ k ih =>
    intro hk place h0 h1
    have ih := ih (by omega)
    have hf := good_fields (opsGood_getD hg (show k < ops.length by omega))
    simp only [behindT]
    generalize ops.getD k oz = o at *
    repeat' split
    · exact ih place h0 h1
    · exact tnum_fine (w64_small (by omega))
    · exact ih _ (by omega) (by omega)
    · exact ih _ (by omega) (by omega)
    · exact readT_fine _ _ (ih _ (by omega) (by omega)) (ih _ (by omega) (by omega))
    · exact writtenT_fine _ _ _ (ih _ (by omega) (by omega)) (ih _ (by omega) (by omega)) (ih _ (by omega) (by omega))
    · exact madeT_fine (by omega) (ih _ (by omega) (by omega)) (ih _ (by omega) (by omega))

end Go.Proofs.YtblhmeidbjigaabGreatDoor

/- How great terms become: pure. -/
set_option linter.unusedSimpArgs false
set_option linter.unusedVariables false
noncomputable section
namespace Go.Proofs.YtblhmeidbjigaabGreatDoor
open Go.RowKit Classical

theorem addN_size : ∀ (u : TD) (k : Int), (addN u k).size ≤ u.size + 2 := by
  intro u
  induction u with
  | leaf q n =>
    intro k
    simp only [addN]
    repeat' split
    all_goals simp only [tnum, TD.size]; omega
  | two q a b iha ihb =>
    intro k
    simp only [addN]
    split
    · omega
    · split
      · rename_i m _
        have h1 := iha (wrap64 (m + k))
        simp only [TD.size]
        omega
      · simp only [tnum, TD.size]; omega
  | three q a b c =>
    intro k
    simp only [addN]
    split
    · omega
    · simp only [tnum, TD.size]; omega

theorem besideT_size {kind n : Int} {u t : TD} (h : besideT kind u n = some t) : t.size ≤ u.size + 2 := by
  have hp := u.size_pos
  unfold besideT at h
  repeat' split at h
  all_goals first
    | (cases h; done)
    | (simp only [Option.some.injEq] at h; subst h; first | omega | exact addN_size _ _ | (simp only [tnum, TD.size]; omega))
    | skip
  cases hu : u.isPlus with
  | none => rw [hu] at h; cases h
  | some p =>
    obtain ⟨a, m⟩ := p
    rw [hu] at h
    simp only [Option.map_some, Option.some.injEq] at h
    subst h
    have e := isPlus_some hu
    subst e
    have := addN_size a (wrap64 (m + n))
    simp only [tnum, TD.size]
    omega

theorem rowT_size (kind : Int) (u v : TD) : (rowT kind u v).size ≤ 1 + u.size + v.size := by
  have hu := u.size_pos
  have hv := v.size_pos
  unfold rowT
  split
  · rename_i t ht
    cases hn : v.isNum with
    | none => rw [hn] at ht; cases ht
    | some n =>
      rw [hn] at ht
      have := besideT_size (by simpa using ht)
      omega
  · repeat' split
    all_goals (try simp only [tnum, TD.size]); omega

theorem madeT_size (kind : Int) (u v : TD) : (madeT kind u v).size ≤ 1 + u.size + v.size := by
  have h1 := rowT_size kind u v
  have h2 := rowT_size kind v u
  have hu := u.size_pos
  unfold madeT
  repeat' split
  all_goals (try simp only [tnum, TD.size]); omega

theorem readT_size (m u : TD) : (readT m u).size ≤ 1 + m.size + u.size := by
  induction m with
  | leaf k n => simp only [readT, TD.size]; omega
  | two k a b => simp only [readT, TD.size]; omega
  | three k c a v ihc iha ihv =>
    by_cases hk : k = 13
    · subst hk
      simp only [readT]
      repeat' split
      all_goals (try simp only [TD.size] at *); omega
    · have e : readT (.three k c a v) u = .two 12 (.three k c a v) u := by
        unfold readT
        split
        · rename_i h; cases h; exact absurd rfl hk
        · rfl
      rw [e]
      simp only [TD.size]
      omega

theorem leftT_size (m u : TD) : (leftT m u).size ≤ m.size := by
  induction m with
  | leaf k n => simp only [leftT]; omega
  | two k a b => simp only [leftT]; omega
  | three k c a v ihc iha ihv =>
    by_cases hk : k = 13
    · subst hk
      simp only [leftT]
      repeat' split
      all_goals (try simp only [TD.size] at *); omega
    · have e : leftT (.three k c a v) u = .three k c a v := by
        unfold leftT
        split
        · rename_i h; cases h; exact absurd rfl hk
        · rfl
      rw [e]
      omega

theorem laidT_size (m u v : TD) : (laidT m u v).size ≤ 1 + m.size + u.size + v.size := by
  induction m with
  | leaf k n => simp only [laidT, TD.size]; omega
  | two k a b => simp only [laidT, TD.size]; omega
  | three k c a w ihc iha ihw =>
    by_cases hk : k = 13
    · subst hk
      simp only [laidT]
      repeat' split
      all_goals (try simp only [TD.size] at *); omega
    · have e : laidT (.three k c a w) u v = .three 13 (.three k c a w) u v := by
        unfold laidT
        split
        · rename_i h; cases h; exact absurd rfl hk
        · rfl
      rw [e]
      simp only [TD.size]
      omega

theorem writtenT_size (m u v : TD) : (writtenT m u v).size ≤ 1 + m.size + u.size + v.size := by
  have h1 := leftT_size m u
  have h2 := laidT_size (leftT m u) u v
  unfold writtenT
  split <;> omega

/-- Behind k operations a term has at most so many parts. -/
def most : Nat → Nat
  | 0 => 1
  | k + 1 => 1 + 3 * most k

theorem most_pos (k : Nat) : 1 ≤ most k := by cases k <;> simp only [most] <;> omega

theorem behindT_size (regs slots : Int) (names : List Int) (ops : List OpD) : ∀ (k : Nat) (place : Int), (behindT regs slots names ops k place).size ≤ most k := by
  intro k
  induction k with
  | zero =>
    intro place
    simp only [behindT, firstT, most]
    repeat' split
    all_goals simp only [TD.size]; omega
  | succ k ih =>
    intro place
    have hp := most_pos k
    simp only [behindT, most]
    repeat' split
    · have := ih place; omega
    · simp only [tnum, TD.size]; omega
    · have := ih (ops.getD k oz).b; omega
    · have := ih (regs + (ops.getD k oz).b); omega
    · have h1 := readT_size (behindT regs slots names ops k (regs + slots)) (behindT regs slots names ops k (ops.getD k oz).b)
      have := ih (regs + slots)
      have := ih (ops.getD k oz).b
      omega
    · have h1 := writtenT_size (behindT regs slots names ops k (regs + slots)) (behindT regs slots names ops k (ops.getD k oz).a) (behindT regs slots names ops k (ops.getD k oz).b)
      have := ih (regs + slots)
      have := ih (ops.getD k oz).a
      have := ih (ops.getD k oz).b
      omega
    · have h1 := madeT_size (ops.getD k oz).kind (behindT regs slots names ops k (ops.getD k oz).b) (behindT regs slots names ops k (ops.getD k oz).c)
      have := ih (ops.getD k oz).b
      have := ih (ops.getD k oz).c
      omega

theorem most_mono {j k : Nat} (h : j ≤ k) : most j ≤ most k := by
  induction k with
  | zero => obtain rfl : j = 0 := (by omega); exact Nat.le_refl _
  | succ k ih =>
    by_cases e : j = k + 1
    · subst e; exact Nat.le_refl _
    · have := ih (by omega)
      simp only [most]
      omega

end Go.Proofs.YtblhmeidbjigaabGreatDoor

/- Terms in memory: trees of blocks, which nobody writes into; strconv.Itoa and its table. -/
set_option linter.unusedSimpArgs false
set_option linter.unusedVariables false
namespace Go.Proofs
open Go.Shelf
shelf_lay LaysM.n171 Nm 171 at Tryz as Tryz.laysItoa
end Go.Proofs
namespace Go.Proofs.YtblhmeidbjigaabGreatDoor
open Go.RowKit Go.Shelf

/-- The library's table of the powers of ten lies as its initialiser lays it. -/
def TabW (w : World) : Prop := Lib.TabIs Tryz.prog w "internal/strconv.uint64pow10" .u64 Lib.pow10Tab

theorem tabGlobal : ∃ g, Tryz.prog.globalNamed "internal/strconv.uint64pow10" = some g :=
  Option.isSome_iff_exists.1 (show (Tryz.prog.globalNamed "internal/strconv.uint64pow10").isSome = true by kernel_rfl)

theorem TabW.keep {w w' : World} (h : TabW w) (hb : Below w.heap.size w w') : TabW w' :=
  let ⟨_, hg⟩ := tabGlobal
  Joins.tab_stays hg h hb (Nat.le_refl _)

theorem below_grown_it (w : World) (q : Nat) (os : Array Obj) : Below w.heap.size w (Sort.grow (w.drewN q) os) :=
  ⟨rfl, rfl, rfl, by first | (simp [Sort.grow]; done) | (simp [Sort.grow]; omega), fun i hi => by
    show ((w.drewN q).heap ++ os)[i]? = _
    rw [Array.getElem?_append_left (by show i < w.heap.size; omega)]
    rfl⟩

theorem itoa_any (n : Int) (hn : W64 n) (w : World) (ht : TabW w) :
    Calls Tryz.prog 90 #[.int .i64 n] w fun e w' => e = .returned (.string (str (Lib.itoa n))) ∧ Below w.heap.size w w' :=
  (Any.strconv_Itoa Tryz.laysItoa n hn.1 hn.2 w ht).mono fun e w' ⟨he, k, os, hw⟩ => ⟨he, by
    rw [hw]
    exact below_grown_it _ _ _⟩

/-- A term's tree at block g. -/
def TreeAt (w : World) : TD → Nat → Prop
  | .leaf k n, g => Row w g 200 [.int .i64 k, .int .i64 n, .pointer none, .pointer none, .pointer none]
  | .two k a b, g => ∃ ga gb, Row w g 200 [.int .i64 k, .int .i64 0, .pointer (some ⟨ga, 0, none⟩), .pointer (some ⟨gb, 0, none⟩), .pointer none] ∧ TreeAt w a ga ∧ TreeAt w b gb
  | .three k a b c, g => ∃ ga gb gc, Row w g 200 [.int .i64 k, .int .i64 0, .pointer (some ⟨ga, 0, none⟩), .pointer (some ⟨gb, 0, none⟩), .pointer (some ⟨gc, 0, none⟩)] ∧ TreeAt w a ga ∧ TreeAt w b gb ∧ TreeAt w c gc

theorem TreeAt.keep {w w' : World} {t : TD} {g : Nat} (h : TreeAt w t g) (hb : Below w.heap.size w w') : TreeAt w' t g := by
  induction t generalizing g with
  | leaf k n => exact Row.keep h hb
  | two k a b iha ihb => obtain ⟨ga, gb, h1, h2, h3⟩ := h; exact ⟨ga, gb, h1.keep hb, iha h2, ihb h3⟩
  | three k a b c iha ihb ihc => obtain ⟨ga, gb, gc, h1, h2, h3, h4⟩ := h; exact ⟨ga, gb, gc, h1.keep hb, iha h2, ihb h3, ihc h4⟩

theorem TreeAt.lt {w : World} {t : TD} {g : Nat} (h : TreeAt w t g) : g < w.heap.size := by
  cases t with
  | leaf k n => exact Row.lt h
  | two k a b => obtain ⟨ga, gb, h1, _⟩ := h; exact h1.lt
  | three k a b c => obtain ⟨ga, gb, gc, h1, _⟩ := h; exact h1.lt

theorem TreeAt.drewN {w : World} {t : TD} {g : Nat} (h : TreeAt w t g) (n : Nat) : TreeAt (w.drewN n) t g := h.keep (below_drewN (Below.refl _ _) n)

/-- A term's number: of what is no leaf 0. -/
def TD.num : TD → Int
  | .leaf _ n => n
  | _ => 0

theorem TreeAt.kindc {w : World} {t : TD} {g : Nat} (h : TreeAt w t g) : w.cell? ⟨g, 0, none⟩ = some (.int .i64 t.kind) := by
  cases t with
  | leaf k n => exact Row.cell (i := 0) h rfl
  | two k a b => obtain ⟨ga, gb, h1, _⟩ := h; exact h1.cell (i := 0) rfl
  | three k a b c => obtain ⟨ga, gb, gc, h1, _⟩ := h; exact h1.cell (i := 0) rfl

theorem TreeAt.numc {w : World} {t : TD} {g : Nat} (h : TreeAt w t g) : w.cell? ⟨g, 1, none⟩ = some (.int .i64 t.num) := by
  cases t with
  | leaf k n => exact Row.cell (i := 1) h rfl
  | two k a b => obtain ⟨ga, gb, h1, _⟩ := h; exact h1.cell (i := 1) rfl
  | three k a b c => obtain ⟨ga, gb, gc, h1, _⟩ := h; exact h1.cell (i := 1) rfl

theorem isNum_kind {t : TD} (h : t.fine) : t.kind = 100 ↔ t.isNum = some t.num := by
  cases t with
  | leaf k n => simp [TD.kind, TD.isNum, TD.num]
  | two k a b => obtain ⟨h1, h2, _⟩ := h; simp only [TD.kind, TD.isNum]; constructor; omega; intro e; cases e
  | three k a b c => obtain ⟨h1, _⟩ := h; simp only [TD.kind, TD.isNum]; constructor; omega; intro e; cases e

theorem isNum_none {t : TD} (h : t.fine) : t.kind ≠ 100 ↔ t.isNum = none := by
  cases t with
  | leaf k n => simp [TD.kind, TD.isNum]
  | two k a b => obtain ⟨h1, h2, _⟩ := h; simp only [TD.kind, TD.isNum]; constructor; intro _; trivial; intro _; omega
  | three k a b c => obtain ⟨h1, _⟩ := h; simp only [TD.kind, TD.isNum]; constructor; intro _; trivial; intro _; omega

end Go.Proofs.YtblhmeidbjigaabGreatDoor

/- What a row's listed tables give: the table of powers. -/
set_option linter.unusedSimpArgs false
set_option linter.unusedVariables false
namespace Go.Proofs.YtblhmeidbjigaabGreatDoor
open Go.ChangeShapes Go.WideShapes Go.ChangeAt Go.WideMaps Go.WideElems Go.RowKit

theorem Tryz.own : ownKnob Tryz.prog.godebug = none := by kernel_rfl
theorem Tryz.laidOut : laidOutB Tryz.prog = true := by kernel_rfl

theorem tab_at0 {W : World} {r : List (String × DataW Unit)} (h : laidMet Tryz.prog (("internal/strconv.uint64pow10", Lib.tabData .u64 Lib.pow10Tab) :: r) W) : TabW W :=
  Lib.tabIs_of_head (g := 0) (t := 233) (e := 223) (n := 20) (by kernel_rfl) (by kernel_rfl) Tryz.underlying233 Tryz.underlying223 (by kernel_rfl) (by kernel_rfl) h
theorem tab_at1 {W : World} {x : String × DataW Unit} {r : List (String × DataW Unit)} (h : laidMet Tryz.prog (x :: ("internal/strconv.uint64pow10", Lib.tabData .u64 Lib.pow10Tab) :: r) W) : TabW W := tab_at0 (laidMet.tail h)
theorem tab_at2 {W : World} {x y : String × DataW Unit} {r : List (String × DataW Unit)} (h : laidMet Tryz.prog (x :: y :: ("internal/strconv.uint64pow10", Lib.tabData .u64 Lib.pow10Tab) :: r) W) : TabW W := tab_at1 (laidMet.tail h)

end Go.Proofs.YtblhmeidbjigaabGreatDoor
