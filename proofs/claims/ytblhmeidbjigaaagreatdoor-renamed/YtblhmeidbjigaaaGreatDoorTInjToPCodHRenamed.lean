/- Two terms are the same if their texts are: pure. -/
import Derived.Test.YtblhmeidbjigaaaGreatDoorRows
import Derived.WalkKit
import Derived.WalkSpells
import Derived.WalkLawsBesides
import Derived.Laws.BytesArg
import Derived.Deep.QuietTactic
import Derived.BigQuiet
import Derived.Deep.RegionHeld3
import Derived.Lib.ItoaNum
import Derived.Lib.ItoaLen
import Derived.OpenShut
import Derived.Maps.AppendAt
import Derived.Shelf.Strconv.Itoa3
import Derived.Shelf.Lay
import Derived.Ground.NamesProg
import Derived.Lib.SmallJoins
import Derived.ProofKit
import Derived.LaidMore
import Derived.Stop.Joined
import Derived.Stop.LaidErr
import Derived.Test.YtblhmeidbjigaaaGreatDoorCodKToTMadeRenamed

set_option linter.unusedSimpArgs false
set_option linter.unusedVariables false
noncomputable section
namespace Go.Proofs.YtblhmeidbjigaaaGreatDoor
open Go.RowKit Classical

/-- Bytes of a numeral. -/
def numByte (c : UInt8) : Bool := decide (c = 45 ∨ (48 ≤ c.toNat ∧ c.toNat ≤ 57))

theorem digit_byte {d : Nat} (h : d < 10) : (UInt8.ofNat (48 + d)).toNat = 48 + d := by
  rw [UInt8.toNat_ofNat']
  omega

theorem decDigits_bytes (u : Nat) : ∀ c ∈ Lib.decDigits u, 48 ≤ c.toNat ∧ c.toNat ≤ 57 := by
  induction u using Nat.strongRecOn with
  | _ u ih =>
    intro c hc
    by_cases h : u < 10
    · rw [Lib.decDigits_one h] at hc
      simp only [List.mem_singleton] at hc
      subst hc
      rw [digit_byte h]
      omega
    · rw [Lib.decDigits, dif_neg h] at hc
      rcases List.mem_append.1 hc with hc | hc
      · exact ih (u / 10) (by omega) c hc
      · simp only [List.mem_singleton] at hc
        subst hc
        rw [digit_byte (Nat.mod_lt _ (by decide))]
        omega

theorem decDigits_ne (u : Nat) : Lib.decDigits u ≠ [] := by
  intro e
  have := congrArg List.length e
  rw [Lib.decDigits_length] at this
  have := Lib.nDigits_pos u
  simp at *
  omega

theorem decDigits_inj {u v : Nat} (h : Lib.decDigits u = Lib.decDigits v) : u = v := by
  induction u using Nat.strongRecOn generalizing v with
  | _ u ih =>
    by_cases hu : u < 10
    · by_cases hv : v < 10
      · rw [Lib.decDigits_one hu, Lib.decDigits_one hv] at h
        have := congrArg UInt8.toNat (List.cons.inj h).1
        rw [digit_byte hu, digit_byte hv] at this
        omega
      · exfalso
        rw [Lib.decDigits_one hu, Lib.decDigits, dif_neg hv] at h
        have h2 := congrArg List.length h
        simp only [List.length_append, List.length_cons, List.length_nil] at h2
        have := decDigits_ne (v / 10)
        have : 0 < (Lib.decDigits (v / 10)).length := List.length_pos_iff.2 this
        omega
    · by_cases hv : v < 10
      · exfalso
        rw [Lib.decDigits_one hv, Lib.decDigits, dif_neg hu] at h
        have h2 := congrArg List.length h
        simp only [List.length_append, List.length_cons, List.length_nil] at h2
        have := decDigits_ne (u / 10)
        have : 0 < (Lib.decDigits (u / 10)).length := List.length_pos_iff.2 this
        omega
      · rw [Lib.decDigits, dif_neg hu] at h
        conv at h => rhs; rw [Lib.decDigits, dif_neg hv]
        obtain ⟨h1, h2⟩ := List.append_inj' h rfl
        have e1 := ih (u / 10) (by omega) h1
        have e2 := congrArg UInt8.toNat (List.cons.inj h2).1
        rw [digit_byte (Nat.mod_lt _ (by decide)), digit_byte (Nat.mod_lt _ (by decide))] at e2
        omega

theorem itoa_bytes (n : Int) : ∀ c ∈ Lib.itoa n, numByte c = true := by
  intro c hc
  unfold Lib.itoa at hc
  simp only [numByte, decide_eq_true_eq]
  split at hc
  · rcases List.mem_cons.1 hc with hc | hc
    · exact .inl hc
    · exact .inr (decDigits_bytes _ c hc)
  · exact .inr (decDigits_bytes _ c hc)

theorem itoa_head (n : Int) : ∃ c l, Lib.itoa n = c :: l ∧ numByte c = true := by
  cases h : Lib.itoa n with
  | nil =>
    exfalso
    unfold Lib.itoa at h
    split at h
    · cases h
    · exact decDigits_ne _ h
  | cons c l => exact ⟨c, l, rfl, itoa_bytes n c (by rw [h]; simp)⟩

theorem itoa_inj {n m : Int} (h : Lib.itoa n = Lib.itoa m) : n = m := by
  have hd : ∀ u : Nat, ∃ c l, Lib.decDigits u = c :: l ∧ 48 ≤ c.toNat := by
    intro u
    cases e : Lib.decDigits u with
    | nil => exact absurd e (decDigits_ne u)
    | cons c l => exact ⟨c, l, rfl, (decDigits_bytes u c (by rw [e]; simp)).1⟩
  unfold Lib.itoa at h
  split at h
  · split at h
    · have := decDigits_inj (List.cons.inj h).2
      omega
    · exfalso
      obtain ⟨c, l, e, hc⟩ := hd m.toNat
      rw [e] at h
      have := (List.cons.inj h).1
      subst this
      simp at hc
  · split at h
    · exfalso
      obtain ⟨c, l, e, hc⟩ := hd n.toNat
      rw [e] at h
      have := (List.cons.inj h).1
      subst this
      simp at hc
    · have := decDigits_inj h
      omega

/-- Nothing, or a byte that no numeral has. -/
def Stops (x : List UInt8) : Prop := ∀ c l, x = c :: l → numByte c = false

theorem takeWhile_stops {l x : List UInt8} (hl : ∀ c ∈ l, numByte c = true) (hx : Stops x) : (l ++ x).takeWhile numByte = l := by
  induction l with
  | nil =>
    cases x with
    | nil => rfl
    | cons c r => simp [hx c r rfl]
  | cons c r ih =>
    simp only [List.cons_append, List.takeWhile_cons, hl c (by simp), if_true]
    rw [ih (fun d hd => hl d (by simp [hd]))]

theorem itoa_cut {n m : Int} {x y : List UInt8} (hx : Stops x) (hy : Stops y) (h : Lib.itoa n ++ x = Lib.itoa m ++ y) : n = m ∧ x = y := by
  have h1 := takeWhile_stops (itoa_bytes n) hx
  have h2 := takeWhile_stops (itoa_bytes m) hy
  rw [h] at h1
  have e : Lib.itoa n = Lib.itoa m := h1.symm.trans h2
  rw [e] at h
  exact ⟨itoa_inj e, List.append_cancel_left h⟩

/-- Terms as they are made. -/
def TD.ok : TD → Prop
  | .leaf k n => k = 100 ∨ k = 101 ∨ k = 102 ∨ (k = 103 ∧ n = 0)
  | .two k a b => 3 ≤ k ∧ k ≤ 12 ∧ a.ok ∧ b.ok
  | .three k a b c => k = 13 ∧ a.ok ∧ b.ok ∧ c.ok

theorem sign_inj {k q : Int} (hk : 3 ≤ k ∧ k ≤ 13) (hq : 3 ≤ q ∧ q ≤ 13) (h : signT k = signT q) : k = q := by
  have a : k = 3 ∨ k = 4 ∨ k = 5 ∨ k = 6 ∨ k = 7 ∨ k = 8 ∨ k = 9 ∨ k = 10 ∨ k = 11 ∨ k = 12 ∨ k = 13 := by omega
  have b : q = 3 ∨ q = 4 ∨ q = 5 ∨ q = 6 ∨ q = 7 ∨ q = 8 ∨ q = 9 ∨ q = 10 ∨ q = 11 ∨ q = 12 ∨ q = 13 := by omega
  rcases a with rfl | rfl | rfl | rfl | rfl | rfl | rfl | rfl | rfl | rfl | rfl <;>
    rcases b with rfl | rfl | rfl | rfl | rfl | rfl | rfl | rfl | rfl | rfl | rfl <;> first | rfl | (exfalso; revert h; decide)

/-- The first byte of a term's text. -/
theorem show_head (t : TD) (h : t.ok) : ∃ c l, showT t = c :: l ∧ ((∃ n, t = .leaf 100 n ∧ numByte c = true) ∨ (∃ n, t = .leaf 101 n ∧ c = 114) ∨ (∃ n, t = .leaf 102 n ∧ c = 120) ∨ (t = .leaf 103 0 ∧ c = 109) ∨ ((∀ k n, t ≠ .leaf k n) ∧ c = 40)) := by
  cases t with
  | leaf k n =>
    rcases h with rfl | rfl | rfl | ⟨rfl, rfl⟩
    · obtain ⟨c, l, e, hc⟩ := itoa_head n
      exact ⟨c, l, by simpa [showT] using e, .inl ⟨n, rfl, hc⟩⟩
    · exact ⟨114, Lib.itoa n, by simp [showT], .inr (.inl ⟨n, rfl, rfl⟩)⟩
    · exact ⟨120, Lib.itoa n, by simp [showT], .inr (.inr (.inl ⟨n, rfl, rfl⟩))⟩
    · exact ⟨109, [], by simp [showT], .inr (.inr (.inr (.inl ⟨rfl, rfl⟩)))⟩
  | two k a b => exact ⟨40, _, rfl, .inr (.inr (.inr (.inr ⟨(fun _ _ e => by cases e), rfl⟩)))⟩
  | three k a b c => exact ⟨40, _, rfl, .inr (.inr (.inr (.inr ⟨(fun _ _ e => by cases e), rfl⟩)))⟩

theorem stops_of {c : UInt8} (l : List UInt8) (h : numByte c = false) : Stops (c :: l) := fun d r e => by
  obtain ⟨rfl, _⟩ := List.cons.inj e
  exact h

/-- A text is read in one way. -/
theorem show_cut : ∀ (t u : TD) (x y : List UInt8), t.ok → u.ok → Stops x → Stops y → showT t ++ x = showT u ++ y → t = u ∧ x = y := by
  intro t
  induction t with
  | leaf k n =>
    intro u x y ht hu hx hy h
    obtain ⟨c, l, e, hc⟩ := show_head _ ht
    obtain ⟨d, r, e', hd⟩ := show_head u hu
    have hcd : c = d := by rw [e, e'] at h; exact (List.cons.inj h).1
    subst hcd
    rcases hc with ⟨n1, e1, hb⟩ | ⟨n1, e1, rfl⟩ | ⟨n1, e1, rfl⟩ | ⟨e1, rfl⟩ | ⟨e1, rfl⟩
    · rcases hd with ⟨m, rfl, _⟩ | ⟨m, rfl, rfl⟩ | ⟨m, rfl, rfl⟩ | ⟨rfl, rfl⟩ | ⟨_, rfl⟩
      · cases e1
        simp only [showT, if_true] at h
        obtain ⟨rfl, rfl⟩ := itoa_cut hx hy h
        exact ⟨rfl, rfl⟩
      all_goals simp [numByte] at hb
    · rcases hd with ⟨m, rfl, hb⟩ | ⟨m, rfl, _⟩ | ⟨m, rfl, hb⟩ | ⟨rfl, hb⟩ | ⟨_, hb⟩
      · simp [numByte] at hb
      · cases e1
        simp [showT] at h
        obtain ⟨rfl, rfl⟩ := itoa_cut hx hy h
        exact ⟨rfl, rfl⟩
      all_goals simp at hb
    · rcases hd with ⟨m, rfl, hb⟩ | ⟨m, rfl, hb⟩ | ⟨m, rfl, _⟩ | ⟨rfl, hb⟩ | ⟨_, hb⟩
      · simp [numByte] at hb
      · simp at hb
      · cases e1
        simp [showT] at h
        obtain ⟨rfl, rfl⟩ := itoa_cut hx hy h
        exact ⟨rfl, rfl⟩
      all_goals simp at hb
    · rcases hd with ⟨m, rfl, hb⟩ | ⟨m, rfl, hb⟩ | ⟨m, rfl, hb⟩ | ⟨rfl, _⟩ | ⟨_, hb⟩
      · simp [numByte] at hb
      · simp at hb
      · simp at hb
      · cases e1
        simp [showT] at h
        exact ⟨rfl, h⟩
      · simp at hb
    · exact absurd rfl (e1 k n)
  | two k a b iha ihb =>
    intro u x y ht hu hx hy h
    obtain ⟨d, r, e', hd⟩ := show_head u hu
    have hcd : (40 : UInt8) = d := by rw [e'] at h; exact (List.cons.inj h).1
    subst hcd
    rcases hd with ⟨m, rfl, hb⟩ | ⟨m, rfl, hb⟩ | ⟨m, rfl, hb⟩ | ⟨rfl, hb⟩ | ⟨hn, _⟩
    · simp [numByte] at hb
    · simp at hb
    · simp at hb
    · simp at hb
    obtain ⟨k1, k2, oa, ob⟩ := ht
    cases u with
    | leaf q m => exact absurd rfl (hn q m)
    | two q a' b' =>
      obtain ⟨q1, q2, oa', ob'⟩ := hu
      simp only [showT, List.cons_append, List.append_assoc, List.cons.injEq, true_and] at h
      obtain ⟨hs, h⟩ := h
      obtain rfl := sign_inj ⟨k1, by omega⟩ ⟨q1, by omega⟩ hs
      obtain ⟨rfl, h2⟩ := iha a' _ _ oa oa' (stops_of _ (by decide)) (stops_of _ (by decide)) h
      have h3 := (List.cons.inj h2).2
      obtain ⟨rfl, h4⟩ := ihb b' _ _ ob ob' (stops_of _ (by decide)) (stops_of _ (by decide)) h3
      exact ⟨rfl, by simpa using h4⟩
    | three q a' b' c' =>
      exfalso
      obtain ⟨rfl, oa', ob', oc'⟩ := hu
      simp only [showT, List.cons_append, List.append_assoc, List.cons.injEq, true_and] at h
      have := sign_inj ⟨k1, by omega⟩ ⟨by omega, by omega⟩ h.1
      omega
  | three k a b c iha ihb ihc =>
    intro u x y ht hu hx hy h
    obtain ⟨d, r, e', hd⟩ := show_head u hu
    have hcd : (40 : UInt8) = d := by rw [e'] at h; exact (List.cons.inj h).1
    subst hcd
    rcases hd with ⟨m, rfl, hb⟩ | ⟨m, rfl, hb⟩ | ⟨m, rfl, hb⟩ | ⟨rfl, hb⟩ | ⟨hn, _⟩
    · simp [numByte] at hb
    · simp at hb
    · simp at hb
    · simp at hb
    obtain ⟨rfl, oa, ob, oc⟩ := ht
    cases u with
    | leaf q m => exact absurd rfl (hn q m)
    | two q a' b' =>
      exfalso
      obtain ⟨q1, q2, oa', ob'⟩ := hu
      simp only [showT, List.cons_append, List.append_assoc, List.cons.injEq, true_and] at h
      have := sign_inj ⟨by omega, by omega⟩ ⟨q1, by omega⟩ h.1
      omega
    | three q a' b' c' =>
      obtain ⟨rfl, oa', ob', oc'⟩ := hu
      simp only [showT, List.cons_append, List.append_assoc, List.cons.injEq, true_and] at h
      obtain ⟨rfl, h2⟩ := iha a' _ _ oa oa' (stops_of _ (by decide)) (stops_of _ (by decide)) h
      have h3 := (List.cons.inj h2).2
      obtain ⟨rfl, h4⟩ := ihb b' _ _ ob ob' (stops_of _ (by decide)) (stops_of _ (by decide)) h3
      have h5 := (List.cons.inj h4).2
      obtain ⟨rfl, h6⟩ := ihc c' _ _ oc oc' (stops_of _ (by decide)) (stops_of _ (by decide)) h5
      exact ⟨rfl, by simpa using h6⟩

/-- P8: two terms are the same if their texts are. -/
theorem show_inj {t u : TD} (ht : t.ok) (hu : u.ok) (h : showT t = showT u) : t = u :=
  (show_cut t u [] [] ht hu (fun _ _ e => by cases e) (fun _ _ e => by cases e) (by simpa using h)).1

end Go.Proofs.YtblhmeidbjigaaaGreatDoor

/- Terms as they are made: their kinds, their numbers, how long their texts are; pure. -/
set_option linter.unusedSimpArgs false
set_option linter.unusedVariables false
noncomputable section
namespace Go.Proofs.YtblhmeidbjigaaaGreatDoor
open Go.RowKit Classical

def W64 (n : Int) : Prop := -9223372036854775808 ≤ n ∧ n ≤ 9223372036854775807

theorem w64_of {n : Int} (h : (Lit.int .i64 n).wf = true) : W64 n := by
  simp only [Lit.wf, Bool.and_eq_true, decide_eq_true_eq] at h
  exact ⟨Int.le_trans (by decide) h.1, Int.le_trans h.2 (by decide)⟩

theorem w64_wrap (n : Int) : W64 (wrap64 n) := w64_of (wrap64_wf n)

theorem w64_small {n : Int} (h : -1000000 ≤ n ∧ n ≤ 1000000) : W64 n := ⟨by omega, by omega⟩

theorem w64_calc (k x y : Int) : W64 (calcW k x y) := by
  unfold calcW
  repeat' split
  all_goals first | exact w64_wrap _ | exact w64_of (wf_bits _ _ _ _) | exact w64_small (by omega)

/-- A term as it is made. -/
def TD.fine : TD → Prop
  | .leaf k n => (k = 100 ∨ k = 101 ∨ k = 102 ∨ (k = 103 ∧ n = 0)) ∧ W64 n
  | .two k a b => 3 ≤ k ∧ k ≤ 12 ∧ a.fine ∧ b.fine
  | .three k a b c => k = 13 ∧ a.fine ∧ b.fine ∧ c.fine

theorem TD.fine.ok {t : TD} (h : t.fine) : t.ok := by
  induction t with
  | leaf k n => exact h.1
  | two k a b iha ihb => exact ⟨h.1, h.2.1, iha h.2.2.1, ihb h.2.2.2⟩
  | three k a b c iha ihb ihc => exact ⟨h.1, iha h.2.1, ihb h.2.2.1, ihc h.2.2.2⟩

theorem TD.size_pos (t : TD) : 1 ≤ t.size := by cases t <;> simp only [TD.size] <;> omega

theorem show_length {t : TD} (h : t.fine) : (showT t).length ≤ 24 * t.size := by
  induction t with
  | leaf k n =>
    have hl := Lib.itoa_length_le n h.2.1 h.2.2
    simp only [showT, TD.size]
    repeat' split
    all_goals (try simp only [List.length_cons, List.length_nil]); omega
  | two k a b iha ihb =>
    have h1 := iha h.2.2.1
    have h2 := ihb h.2.2.2
    simp only [showT, TD.size, List.length_cons, List.length_append, List.length_nil]
    omega
  | three k a b c iha ihb ihc =>
    have h1 := iha h.2.1
    have h2 := ihb h.2.2.1
    have h3 := ihc h.2.2.2
    simp only [showT, TD.size, List.length_cons, List.length_append, List.length_nil]
    omega

theorem tnum_fine {n : Int} (h : W64 n) : (tnum n).fine := ⟨.inl rfl, h⟩

theorem isNum_some {t : TD} {n : Int} (h : t.isNum = some n) : t = tnum n := by
  cases t with
  | leaf k m =>
    simp only [TD.isNum] at h
    split at h
    · rename_i e; subst e; cases h; rfl
    · cases h
  | two k a b => cases h
  | three k a b c => cases h

theorem isNum_fine {t : TD} {n : Int} (h : t.isNum = some n) (hf : t.fine) : W64 n := by
  rw [isNum_some h] at hf
  exact hf.2

theorem isPlus_some {t a : TD} {n : Int} (h : t.isPlus = some (a, n)) : t = .two 3 a (tnum n) := by
  cases t with
  | leaf k m => cases h
  | two k x y =>
    simp only [TD.isPlus] at h
    split at h
    · rename_i e
      subst e
      cases hy : y.isNum with
      | none => rw [hy] at h; cases h
      | some m =>
        rw [hy] at h
        simp only [Option.map_some, Option.some.injEq, Prod.mk.injEq] at h
        obtain ⟨rfl, rfl⟩ := h
        rw [isNum_some hy]
    · cases h
  | three k x y z => cases h

theorem addN_fine : ∀ (u : TD) (k : Int), u.fine → W64 k → (addN u k).fine := by
  intro u
  induction u with
  | leaf q n =>
    intro k hu hk
    simp only [addN]
    repeat' split
    · exact tnum_fine (w64_wrap _)
    · exact hu
    · exact ⟨by omega, by omega, hu, tnum_fine hk⟩
  | two q a b iha ihb =>
    intro k hu hk
    simp only [addN]
    split
    · exact hu
    · split
      · exact iha _ hu.2.2.1 (w64_wrap _)
      · exact ⟨by omega, by omega, hu, tnum_fine hk⟩
  | three q a b c =>
    intro k hu hk
    simp only [addN]
    split
    · exact hu
    · exact ⟨by omega, by omega, hu, tnum_fine hk⟩

theorem besideT_fine {kind n : Int} {u t : TD} (h : besideT kind u n = some t) (hu : u.fine) (hn : W64 n) : t.fine := by
  unfold besideT at h
  repeat' split at h
  all_goals first
    | (cases h; done)
    | (simp only [Option.some.injEq] at h; subst h; first | exact hu | exact addN_fine _ _ hu (w64_wrap _) | exact tnum_fine (w64_small (by omega)))
    | skip
  cases hp : u.isPlus with
  | none => rw [hp] at h; cases h
  | some p =>
    obtain ⟨a, m⟩ := p
    rw [hp] at h
    simp only [Option.map_some, Option.some.injEq] at h
    subst h
    have e := isPlus_some hp
    subst e
    exact addN_fine _ _ hu.2.2.1 (w64_wrap _)

theorem rowT_fine {kind : Int} {u v : TD} (hk : 3 ≤ kind ∧ kind ≤ 11) (hu : u.fine) (hv : v.fine) : (rowT kind u v).fine := by
  unfold rowT
  split
  · rename_i t ht
    cases hn : v.isNum with
    | none => rw [hn] at ht; cases ht
    | some n =>
      rw [hn] at ht
      exact besideT_fine (by simpa using ht) hu (isNum_fine hn hv)
  · repeat' split
    · exact tnum_fine (w64_small (by omega))
    · exact hu
    · exact tnum_fine (w64_small (by omega))
    · exact tnum_fine (w64_small (by omega))
    · exact ⟨hk.1, by omega, hu, hv⟩

theorem madeT_fine {kind : Int} {u v : TD} (hk : 3 ≤ kind ∧ kind ≤ 11) (hu : u.fine) (hv : v.fine) : (madeT kind u v).fine := by
  unfold madeT
  split
  · split
    · exact rowT_fine hk hu hv
    · exact tnum_fine (w64_calc _ _ _)
  · split
    · exact rowT_fine hk hv hu
    · exact rowT_fine hk hu hv
  · exact rowT_fine hk hu hv
  · split
    · exact rowT_fine hk hv hu
    · exact rowT_fine hk hu hv

theorem readT_fine (m u : TD) (hm : m.fine) (hu : u.fine) : (readT m u).fine := by
  induction m with
  | leaf k n => exact ⟨by omega, by omega, hm, hu⟩
  | two k a b => exact ⟨by omega, by omega, hm, hu⟩
  | three k c a v ihc iha ihv =>
    obtain rfl : k = 13 := hm.1
    simp only [readT]
    repeat' split
    · exact hm.2.2.2
    · exact ihc hm.2.1
    · exact ⟨by omega, by omega, hm, hu⟩

theorem leftT_fine (m u : TD) (hm : m.fine) : (leftT m u).fine := by
  induction m with
  | leaf k n => exact hm
  | two k a b => exact hm
  | three k c a v ihc iha ihv =>
    obtain rfl : k = 13 := hm.1
    simp only [leftT]
    repeat' split
    · exact hm.2.1
    · exact ⟨rfl, ihc hm.2.1, hm.2.2.1, hm.2.2.2⟩
    · exact hm

theorem laidT_fine (m u v : TD) (hm : m.fine) (hu : u.fine) (hv : v.fine) : (laidT m u v).fine := by
  induction m with
  | leaf k n => exact ⟨rfl, hm, hu, hv⟩
  | two k a b => exact ⟨rfl, hm, hu, hv⟩
  | three k c a w ihc iha ihw =>
    obtain rfl : k = 13 := hm.1
    simp only [laidT]
    split
    · split
      · exact ⟨rfl, ihc hm.2.1, hm.2.2.1, hm.2.2.2⟩
      · exact ⟨rfl, hm, hu, hv⟩
    · exact ⟨rfl, hm, hu, hv⟩

theorem writtenT_fine (m u v : TD) (hm : m.fine) (hu : u.fine) (hv : v.fine) : (writtenT m u v).fine := by
  unfold writtenT
  split
  · exact hm
  · exact laidT_fine _ _ _ (leftT_fine _ _ hm) hu hv

end Go.Proofs.YtblhmeidbjigaaaGreatDoor

/- Runs as plain data; a run underway in memory: four lists of words, each in a block of its own. -/
set_option linter.unusedSimpArgs false
set_option linter.unusedVariables false
namespace Go.Proofs.YtblhmeidbjigaaaGreatDoor
open Go.RowKit

/-! ### Runs, pure -/

structure RunD where
  regs : List Int
  cells : List Int
  slots : List Int
  leak : List Int
  trap : Int

def rg (l : List Int) (i : Int) : Int := l.getD i.toNat 0
def stI (l : List Int) (i v : Int) : List Int := l.set i.toNat v

/-- A Load or Store of the cell n: it is let out. -/
def RunD.out (s : RunD) (n : Int) : RunD := ⟨s.regs, s.cells, s.slots, s.leak ++ [n], s.trap⟩
def RunD.reg (s : RunD) (i v : Int) : RunD := ⟨stI s.regs i v, s.cells, s.slots, s.leak, s.trap⟩
def RunD.cell (s : RunD) (i v : Int) : RunD := ⟨s.regs, stI s.cells i v, s.slots, s.leak, s.trap⟩
/-! ### In memory -/

def ints (l : List Int) : List Value := l.map (.int .i64)

theorem ints_length (l : List Int) : (ints l).length = l.length := by simp [ints]
theorem Tryz.infoInt : (Tryz.prog.info? 3).map (fun i => (i.zero, i.size, i.bytes)) = some (some (.int .i64 0), 1, 8) := by kernel_rfl

section
variable {K : Nat → Prop} {w w' : World} {rv cv sv lv : Value} {s : RunD}

end

end Go.Proofs.YtblhmeidbjigaaaGreatDoor

/- A block's terms, worked out, are what its run leaves: pure. -/
set_option linter.unusedSimpArgs false
set_option linter.unusedVariables false
noncomputable section
namespace Go.Proofs.YtblhmeidbjigaaaGreatDoor
open Go.RowKit Classical

theorem firstT_fine {names : List Int} (hn : ∀ x ∈ names, x ≤ 1000) {place : Int} (hp : 0 ≤ place ∧ place ≤ 1000) : (firstT names place).fine := by
  unfold firstT
  split
  · exact ⟨.inr (.inr (.inr ⟨rfl, rfl⟩)), w64_small (by omega)⟩
  · split
    · exact ⟨.inr (.inr (.inl rfl)), w64_small (by omega)⟩
    · rename_i h1 h2
      have hm : names.getD place.toNat 0 ∈ names := getD_mem' (by omega)
      have := hn _ hm
      exact ⟨.inr (.inl rfl), w64_small (by omega)⟩

/-- The fields of a good operation. -/
theorem good_fields {regs slots : Int} {o : OpD} (h : opGood regs slots o = true) :
    (o.kind = 1 ∧ (0 ≤ o.a ∧ o.a < regs) ∧ (0 ≤ o.b ∧ o.b < 256) ∧ (0 ≤ o.c ∧ o.c < 256)) ∨
    ((o.kind = 2 ∨ o.kind = 12 ∨ o.kind = 13) ∧ (0 ≤ o.a ∧ o.a < regs) ∧ (0 ≤ o.b ∧ o.b < regs)) ∨
    ((3 ≤ o.kind ∧ o.kind ≤ 11) ∧ (0 ≤ o.a ∧ o.a < regs) ∧ (0 ≤ o.b ∧ o.b < regs) ∧ (0 ≤ o.c ∧ o.c < regs)) ∨
    (o.kind = 14 ∧ (0 ≤ o.a ∧ o.a < slots) ∧ (0 ≤ o.b ∧ o.b < regs)) ∨
    (o.kind = 15 ∧ (0 ≤ o.a ∧ o.a < regs) ∧ (0 ≤ o.b ∧ o.b < slots)) := by
  unfold opGood at h
  repeat' split at h
  all_goals simp [below] at h
  all_goals omega

theorem opsGood_getD {regs slots : Int} {ops : List OpD} (h : opsGood regs slots ops = true) {k : Nat} (hk : k < ops.length) : opGood regs slots (ops.getD k oz) = true :=
  List.all_eq_true.1 h _ (getD_mem' hk)

theorem behindT_fine {regs slots : Int} {names : List Int} {ops : List OpD} (hr : 0 ≤ regs ∧ regs ≤ 100) (hs : 0 ≤ slots ∧ slots ≤ 100) (hn : ∀ x ∈ names, x ≤ 1000) (hg : opsGood regs slots ops = true) :
    ∀ (k : Nat), k ≤ ops.length → ∀ place : Int, 0 ≤ place → place ≤ regs + slots → (behindT regs slots names ops k place).fine := by
  intro k
  induction k with
  | zero => intro _ place h0 h1; exact firstT_fine hn ⟨h0, by omega⟩
  | succ k ih =>
    intro hk place h0 h1
    have ih := ih (by omega)
    have hf := good_fields (opsGood_getD hg (show k < ops.length by omega))
    simp only [behindT]
    generalize ops.getD k oz = o at *
    repeat' split
    · exact ih place h0 h1
    · exact tnum_fine (w64_small (by omega))
    · exact ih _ (by omega) (by omega)
    · exact ih _ (by omega) (by omega)
    · exact readT_fine _ _ (ih _ (by omega) (by omega)) (ih _ (by omega) (by omega))
    · exact writtenT_fine _ _ _ (ih _ (by omega) (by omega)) (ih _ (by omega) (by omega)) (ih _ (by omega) (by omega))
    · exact madeT_fine (by omega) (ih _ (by omega) (by omega)) (ih _ (by omega) (by omega))

end Go.Proofs.YtblhmeidbjigaaaGreatDoor

/- How great terms become: pure. -/
set_option linter.unusedSimpArgs false
set_option linter.unusedVariables false
noncomputable section
namespace Go.Proofs.YtblhmeidbjigaaaGreatDoor
open Go.RowKit Classical

theorem addN_size : ∀ (u : TD) (k : Int), (addN u k).size ≤ u.size + 2 := by
  intro u
  induction u with
  | leaf q n =>
    intro k
    simp only [addN]
    repeat' split
    all_goals simp only [tnum, TD.size]; omega
  | two q a b iha ihb =>
    intro k
    simp only [addN]
    split
    · omega
    · split
      · rename_i m _
        have h1 := iha (wrap64 (m + k))
        simp only [TD.size]
        omega
      · simp only [tnum, TD.size]; omega
  | three q a b c =>
    intro k
    simp only [addN]
    split
    · omega
    · simp only [tnum, TD.size]; omega

theorem besideT_size {kind n : Int} {u t : TD} (h : besideT kind u n = some t) : t.size ≤ u.size + 2 := by
  have hp := u.size_pos
  unfold besideT at h
  repeat' split at h
  all_goals first
    | (cases h; done)
    | (simp only [Option.some.injEq] at h; subst h; first | omega | exact addN_size _ _ | (simp only [tnum, TD.size]; omega))
    | skip
  cases hu : u.isPlus with
  | none => rw [hu] at h; cases h
  | some p =>
    obtain ⟨a, m⟩ := p
    rw [hu] at h
    simp only [Option.map_some, Option.some.injEq] at h
    subst h
    have e := isPlus_some hu
    subst e
    have := addN_size a (wrap64 (m + n))
    simp only [tnum, TD.size]
    omega

theorem rowT_size (kind : Int) (u v : TD) : (rowT kind u v).size ≤ 1 + u.size + v.size := by
  have hu := u.size_pos
  have hv := v.size_pos
  unfold rowT
  split
  · rename_i t ht
    cases hn : v.isNum with
    | none => rw [hn] at ht; cases ht
    | some n =>
      rw [hn] at ht
      have := besideT_size (by simpa using ht)
      omega
  · repeat' split
    all_goals (try simp only [tnum, TD.size]); omega

theorem madeT_size (kind : Int) (u v : TD) : (madeT kind u v).size ≤ 1 + u.size + v.size := by
  have h1 := rowT_size kind u v
  have h2 := rowT_size kind v u
  have hu := u.size_pos
  unfold madeT
  repeat' split
  all_goals (try simp only [tnum, TD.size]); omega

theorem readT_size (m u : TD) : (readT m u).size ≤ 1 + m.size + u.size := by
  induction m with
  | leaf k n => simp only [readT, TD.size]; omega
  | two k a b => simp only [readT, TD.size]; omega
  | three k c a v ihc iha ihv =>
    by_cases hk : k = 13
    · subst hk
      simp only [readT]
      repeat' split
      all_goals (try simp only [TD.size] at *); omega
    · have e : readT (.three k c a v) u = .two 12 (.three k c a v) u := by
        unfold readT
        split
        · rename_i h; cases h; exact absurd rfl hk
        · rfl
      rw [e]
      simp only [TD.size]
      omega

theorem leftT_size (m u : TD) : (leftT m u).size ≤ m.size := by
  induction m with
  | leaf k n => simp only [leftT]; omega
  | two k a b => simp only [leftT]; omega
  | three k c a v ihc iha ihv =>
    by_cases hk : k = 13
    · subst hk
      simp only [leftT]
      repeat' split
      all_goals (try simp only [TD.size] at *); omega
    · have e : leftT (.three k c a v) u = .three k c a v := by
        unfold leftT
        split
        · rename_i h; cases h; exact absurd rfl hk
        · rfl
      rw [e]
      omega

theorem laidT_size (m u v : TD) : (laidT m u v).size ≤ 1 + m.size + u.size + v.size := by
  induction m with
  | leaf k n => simp only [laidT, TD.size]; omega
  | two k a b => simp only [laidT, TD.size]; omega
  | three k c a w ihc iha ihw =>
    by_cases hk : k = 13
    · subst hk
      simp only [laidT]
      repeat' split
      all_goals (try simp only [TD.size] at *); omega
    · have e : laidT (.three k c a w) u v = .three 13 (.three k c a w) u v := by
        unfold laidT
        split
        · rename_i h; cases h; exact absurd rfl hk
        · rfl
      rw [e]
      simp only [TD.size]
      omega

theorem writtenT_size (m u v : TD) : (writtenT m u v).size ≤ 1 + m.size + u.size + v.size := by
  have h1 := leftT_size m u
  have h2 := laidT_size (leftT m u) u v
  unfold writtenT
  split <;> omega

/-- Behind k operations a term has at most so many parts. -/
def most : Nat → Nat
  | 0 => 1
  | k + 1 => 1 + 3 * most k

theorem most_pos (k : Nat) : 1 ≤ most k := by cases k <;> simp only [most] <;> omega

theorem behindT_size (regs slots : Int) (names : List Int) (ops : List OpD) : ∀ (k : Nat) (place : Int), (behindT regs slots names ops k place).size ≤ most k := by
  intro k
  induction k with
  | zero =>
    intro place
    simp only [behindT, firstT, most]
    repeat' split
    all_goals simp only [TD.size]; omega
  | succ k ih =>
    intro place
    have hp := most_pos k
    simp only [behindT, most]
    repeat' split
    · have := ih place; omega
    · simp only [tnum, TD.size]; omega
    · have := ih (ops.getD k oz).b; omega
    · have := ih (regs + (ops.getD k oz).b); omega
    · have h1 := readT_size (behindT regs slots names ops k (regs + slots)) (behindT regs slots names ops k (ops.getD k oz).b)
      have := ih (regs + slots)
      have := ih (ops.getD k oz).b
      omega
    · have h1 := writtenT_size (behindT regs slots names ops k (regs + slots)) (behindT regs slots names ops k (ops.getD k oz).a) (behindT regs slots names ops k (ops.getD k oz).b)
      have := ih (regs + slots)
      have := ih (ops.getD k oz).a
      have := ih (ops.getD k oz).b
      omega
    · have h1 := madeT_size (ops.getD k oz).kind (behindT regs slots names ops k (ops.getD k oz).b) (behindT regs slots names ops k (ops.getD k oz).c)
      have := ih (ops.getD k oz).b
      have := ih (ops.getD k oz).c
      omega

theorem most_mono {j k : Nat} (h : j ≤ k) : most j ≤ most k := by
  induction k with
  | zero => obtain rfl : j = 0 := (by omega); exact Nat.le_refl _
  | succ k ih =>
    by_cases e : j = k + 1
    · subst e; exact Nat.le_refl _
    · have := ih (by omega)
      simp only [most]
      omega

/-- A block of up to seven operations is never big. -/
theorem bigT_short {regs slots : Int} {names : List Int} {ops : List OpD} (h : ops.length ≤ 7) : bigT regs slots names ops = false := by
  unfold bigT
  rw [List.any_eq_false]
  intro k hk
  have hk' : k < ops.length := by simpa using hk
  simp only [decide_eq_true_eq]
  rintro ⟨_, _, h3⟩
  have h1 := behindT_size regs slots names ops (k + 1) (writesT regs slots (ops.getD k oz))
  have h2 := most_mono (show k + 1 ≤ 7 by omega)
  have h4 : most 7 = 3280 := by decide
  omega

end Go.Proofs.YtblhmeidbjigaaaGreatDoor

/- Terms in memory: trees of blocks, which nobody writes into; strconv.Itoa and its table. -/
set_option linter.unusedSimpArgs false
set_option linter.unusedVariables false
namespace Go.Proofs
open Go.Shelf
shelf_lay LaysM.n171 Nm 171 at Tryz as Tryz.laysItoa
end Go.Proofs
namespace Go.Proofs.YtblhmeidbjigaaaGreatDoor
open Go.RowKit Go.Shelf

/-- The library's table of the powers of ten lies as its initialiser lays it. -/
def TabW (w : World) : Prop := Lib.TabIs Tryz.prog w "internal/strconv.uint64pow10" .u64 Lib.pow10Tab

theorem tabGlobal : ∃ g, Tryz.prog.globalNamed "internal/strconv.uint64pow10" = some g :=
  Option.isSome_iff_exists.1 (show (Tryz.prog.globalNamed "internal/strconv.uint64pow10").isSome = true by kernel_rfl)

theorem TabW.keep {w w' : World} (h : TabW w) (hb : Below w.heap.size w w') : TabW w' :=
  let ⟨_, hg⟩ := tabGlobal
  Joins.tab_stays hg h hb (Nat.le_refl _)

theorem below_grown_it (w : World) (q : Nat) (os : Array Obj) : Below w.heap.size w (Sort.grow (w.drewN q) os) :=
  ⟨rfl, rfl, rfl, by first | (simp [Sort.grow]; done) | (simp [Sort.grow]; omega), fun i hi => by
    show ((w.drewN q).heap ++ os)[i]? = _
    rw [Array.getElem?_append_left (by show i < w.heap.size; omega)]
    rfl⟩

theorem itoa_any (n : Int) (hn : W64 n) (w : World) (ht : TabW w) :
    Calls Tryz.prog 41 #[.int .i64 n] w fun e w' => e = .returned (.string (str (Lib.itoa n))) ∧ Below w.heap.size w w' :=
  (Any.strconv_Itoa Tryz.laysItoa n hn.1 hn.2 w ht).mono fun e w' ⟨he, k, os, hw⟩ => ⟨he, by
    rw [hw]
    exact below_grown_it _ _ _⟩

end Go.Proofs.YtblhmeidbjigaaaGreatDoor

/- What a row's listed tables give: the table of powers. -/
set_option linter.unusedSimpArgs false
set_option linter.unusedVariables false
namespace Go.Proofs.YtblhmeidbjigaaaGreatDoor
open Go.ChangeShapes Go.WideShapes Go.ChangeAt Go.WideMaps Go.WideElems Go.RowKit

theorem Tryz.own : ownKnob Tryz.prog.godebug = none := by kernel_rfl
theorem Tryz.laidOut : laidOutB Tryz.prog = true := by kernel_rfl

theorem tab_at0 {W : World} {r : List (String × DataW Unit)} (h : laidMet Tryz.prog (("internal/strconv.uint64pow10", Lib.tabData .u64 Lib.pow10Tab) :: r) W) : TabW W :=
  Lib.tabIs_of_head (g := 0) (t := 209) (e := 193) (n := 20) (by kernel_rfl) (by kernel_rfl) Tryz.underlying209 Tryz.underlying193 (by kernel_rfl) (by kernel_rfl) h
theorem tab_at1 {W : World} {x : String × DataW Unit} {r : List (String × DataW Unit)} (h : laidMet Tryz.prog (x :: ("internal/strconv.uint64pow10", Lib.tabData .u64 Lib.pow10Tab) :: r) W) : TabW W := tab_at0 (laidMet.tail h)
theorem tab_at2 {W : World} {x y : String × DataW Unit} {r : List (String × DataW Unit)} (h : laidMet Tryz.prog (x :: y :: ("internal/strconv.uint64pow10", Lib.tabData .u64 Lib.pow10Tab) :: r) W) : TabW W := tab_at1 (laidMet.tail h)

end Go.Proofs.YtblhmeidbjigaaaGreatDoor

/- Well made programs, in the codec. -/
set_option linter.unusedSimpArgs false
set_option linter.unusedVariables false
namespace Go.Proofs.YtblhmeidbjigaaaGreatDoor
open Go.RowKit

theorem int_beq0 (c : Int) : (c == 0) = decide (c = 0) := by by_cases h : c = 0 <;> simp [h]

set_option maxRecDepth 100000 in
set_option maxHeartbeats 2000000 in
theorem wmOp1 (args regs data slots : Int) (bo : Option Addr) (bn bc : Nat) (a b c : Int) (w : World) :
    Calls Tryz.prog 161 #[.agg #[.int .i64 args, .int .i64 regs, .int .i64 data, .int .i64 slots, .slice bo bn bc], .agg #[.int .i64 1, .int .i64 a, .int .i64 b, .int .i64 c]] w fun e w' => e = .returned (.bool (opGood regs slots ⟨1, a, b, c⟩)) ∧ Below w.heap.size w w' := by
  cases h1 : below a regs
  · go_enter Tryz.func161, Tryz.ntmps161
    go_wp2_with (go_at_call 133; refine (isBelow_any _ _ _).mono ?_; rintro e w' ⟨rfl, rfl⟩)
    go_ret
    exact ⟨by simp [opGood, h1], ((Below.refl _ _).alloc (Nat.le_refl _) _).alloc (by simp) _⟩
  cases h2 : below b 256
  · go_enter Tryz.func161, Tryz.ntmps161
    go_wp2_with (go_at_call 133; refine (isBelow_any _ _ _).mono ?_; rintro e w' ⟨rfl, rfl⟩)
    go_ret
    exact ⟨by simp [opGood, h1, h2, int_beq0], ((Below.refl _ _).alloc (Nat.le_refl _) _).alloc (by simp) _⟩
  · go_enter Tryz.func161, Tryz.ntmps161
    go_wp2_with (go_at_call 133; refine (isBelow_any _ _ _).mono ?_; rintro e w' ⟨rfl, rfl⟩)
    go_ret
    exact ⟨by simp [opGood, h1, h2, int_beq0], ((Below.refl _ _).alloc (Nat.le_refl _) _).alloc (by simp) _⟩

set_option maxRecDepth 100000 in
set_option maxHeartbeats 2000000 in
theorem wmOp2 (args regs data slots : Int) (bo : Option Addr) (bn bc : Nat) (a b c : Int) (w : World) :
    Calls Tryz.prog 161 #[.agg #[.int .i64 args, .int .i64 regs, .int .i64 data, .int .i64 slots, .slice bo bn bc], .agg #[.int .i64 2, .int .i64 a, .int .i64 b, .int .i64 c]] w fun e w' => e = .returned (.bool (opGood regs slots ⟨2, a, b, c⟩)) ∧ Below w.heap.size w w' := by
  cases h1 : below a regs
  · go_enter Tryz.func161, Tryz.ntmps161
    go_wp2_with (go_at_call 133; refine (isBelow_any _ _ _).mono ?_; rintro e w' ⟨rfl, rfl⟩)
    go_ret
    exact ⟨by simp [opGood, h1], ((Below.refl _ _).alloc (Nat.le_refl _) _).alloc (by simp) _⟩
  cases h2 : below b regs
  · go_enter Tryz.func161, Tryz.ntmps161
    go_wp2_with (go_at_call 133; refine (isBelow_any _ _ _).mono ?_; rintro e w' ⟨rfl, rfl⟩)
    go_ret
    exact ⟨by simp [opGood, h1, h2, int_beq0], ((Below.refl _ _).alloc (Nat.le_refl _) _).alloc (by simp) _⟩
  · go_enter Tryz.func161, Tryz.ntmps161
    go_wp2_with (go_at_call 133; refine (isBelow_any _ _ _).mono ?_; rintro e w' ⟨rfl, rfl⟩)
    go_ret
    exact ⟨by simp [opGood, h1, h2, int_beq0], ((Below.refl _ _).alloc (Nat.le_refl _) _).alloc (by simp) _⟩

set_option maxRecDepth 100000 in
set_option maxHeartbeats 2000000 in
theorem wmOp3 (args regs data slots : Int) (bo : Option Addr) (bn bc : Nat) (a b c : Int) (w : World) :
    Calls Tryz.prog 161 #[.agg #[.int .i64 args, .int .i64 regs, .int .i64 data, .int .i64 slots, .slice bo bn bc], .agg #[.int .i64 3, .int .i64 a, .int .i64 b, .int .i64 c]] w fun e w' => e = .returned (.bool (opGood regs slots ⟨3, a, b, c⟩)) ∧ Below w.heap.size w w' := by
  cases h1 : below a regs
  · go_enter Tryz.func161, Tryz.ntmps161
    go_wp2_with (go_at_call 133; refine (isBelow_any _ _ _).mono ?_; rintro e w' ⟨rfl, rfl⟩)
    go_ret
    exact ⟨by simp [opGood, h1], ((Below.refl _ _).alloc (Nat.le_refl _) _).alloc (by simp) _⟩
  cases h2 : below b regs
  · go_enter Tryz.func161, Tryz.ntmps161
    go_wp2_with (go_at_call 133; refine (isBelow_any _ _ _).mono ?_; rintro e w' ⟨rfl, rfl⟩)
    go_ret
    exact ⟨by simp [opGood, h1, h2, int_beq0], ((Below.refl _ _).alloc (Nat.le_refl _) _).alloc (by simp) _⟩
  · go_enter Tryz.func161, Tryz.ntmps161
    go_wp2_with (go_at_call 133; refine (isBelow_any _ _ _).mono ?_; rintro e w' ⟨rfl, rfl⟩)
    go_ret
    exact ⟨by simp [opGood, h1, h2, int_beq0], ((Below.refl _ _).alloc (Nat.le_refl _) _).alloc (by simp) _⟩

set_option maxRecDepth 100000 in
set_option maxHeartbeats 2000000 in
theorem wmOp4 (args regs data slots : Int) (bo : Option Addr) (bn bc : Nat) (a b c : Int) (w : World) :
    Calls Tryz.prog 161 #[.agg #[.int .i64 args, .int .i64 regs, .int .i64 data, .int .i64 slots, .slice bo bn bc], .agg #[.int .i64 4, .int .i64 a, .int .i64 b, .int .i64 c]] w fun e w' => e = .returned (.bool (opGood regs slots ⟨4, a, b, c⟩)) ∧ Below w.heap.size w w' := by
  cases h1 : below a regs
  · go_enter Tryz.func161, Tryz.ntmps161
    go_wp2_with (go_at_call 133; refine (isBelow_any _ _ _).mono ?_; rintro e w' ⟨rfl, rfl⟩)
    go_ret
    exact ⟨by simp [opGood, h1], ((Below.refl _ _).alloc (Nat.le_refl _) _).alloc (by simp) _⟩
  cases h2 : below b regs
  · go_enter Tryz.func161, Tryz.ntmps161
    go_wp2_with (go_at_call 133; refine (isBelow_any _ _ _).mono ?_; rintro e w' ⟨rfl, rfl⟩)
    go_ret
    exact ⟨by simp [opGood, h1, h2, int_beq0], ((Below.refl _ _).alloc (Nat.le_refl _) _).alloc (by simp) _⟩
  · go_enter Tryz.func161, Tryz.ntmps161
    go_wp2_with (go_at_call 133; refine (isBelow_any _ _ _).mono ?_; rintro e w' ⟨rfl, rfl⟩)
    go_ret
    exact ⟨by simp [opGood, h1, h2, int_beq0], ((Below.refl _ _).alloc (Nat.le_refl _) _).alloc (by simp) _⟩

set_option maxRecDepth 100000 in
set_option maxHeartbeats 2000000 in
theorem wmOp5 (args regs data slots : Int) (bo : Option Addr) (bn bc : Nat) (a b c : Int) (w : World) :
    Calls Tryz.prog 161 #[.agg #[.int .i64 args, .int .i64 regs, .int .i64 data, .int .i64 slots, .slice bo bn bc], .agg #[.int .i64 5, .int .i64 a, .int .i64 b, .int .i64 c]] w fun e w' => e = .returned (.bool (opGood regs slots ⟨5, a, b, c⟩)) ∧ Below w.heap.size w w' := by
  cases h1 : below a regs
  · go_enter Tryz.func161, Tryz.ntmps161
    go_wp2_with (go_at_call 133; refine (isBelow_any _ _ _).mono ?_; rintro e w' ⟨rfl, rfl⟩)
    go_ret
    exact ⟨by simp [opGood, h1], ((Below.refl _ _).alloc (Nat.le_refl _) _).alloc (by simp) _⟩
  cases h2 : below b regs
  · go_enter Tryz.func161, Tryz.ntmps161
    go_wp2_with (go_at_call 133; refine (isBelow_any _ _ _).mono ?_; rintro e w' ⟨rfl, rfl⟩)
    go_ret
    exact ⟨by simp [opGood, h1, h2, int_beq0], ((Below.refl _ _).alloc (Nat.le_refl _) _).alloc (by simp) _⟩
  · go_enter Tryz.func161, Tryz.ntmps161
    go_wp2_with (go_at_call 133; refine (isBelow_any _ _ _).mono ?_; rintro e w' ⟨rfl, rfl⟩)
    go_ret
    exact ⟨by simp [opGood, h1, h2, int_beq0], ((Below.refl _ _).alloc (Nat.le_refl _) _).alloc (by simp) _⟩

set_option maxRecDepth 100000 in
set_option maxHeartbeats 2000000 in
theorem wmOp6 (args regs data slots : Int) (bo : Option Addr) (bn bc : Nat) (a b c : Int) (w : World) :
    Calls Tryz.prog 161 #[.agg #[.int .i64 args, .int .i64 regs, .int .i64 data, .int .i64 slots, .slice bo bn bc], .agg #[.int .i64 6, .int .i64 a, .int .i64 b, .int .i64 c]] w fun e w' => e = .returned (.bool (opGood regs slots ⟨6, a, b, c⟩)) ∧ Below w.heap.size w w' := by
  cases h1 : below a regs
  · go_enter Tryz.func161, Tryz.ntmps161
    go_wp2_with (go_at_call 133; refine (isBelow_any _ _ _).mono ?_; rintro e w' ⟨rfl, rfl⟩)
    go_ret
    exact ⟨by simp [opGood, h1], ((Below.refl _ _).alloc (Nat.le_refl _) _).alloc (by simp) _⟩
  cases h2 : below b regs
  · go_enter Tryz.func161, Tryz.ntmps161
    go_wp2_with (go_at_call 133; refine (isBelow_any _ _ _).mono ?_; rintro e w' ⟨rfl, rfl⟩)
    go_ret
    exact ⟨by simp [opGood, h1, h2, int_beq0], ((Below.refl _ _).alloc (Nat.le_refl _) _).alloc (by simp) _⟩
  · go_enter Tryz.func161, Tryz.ntmps161
    go_wp2_with (go_at_call 133; refine (isBelow_any _ _ _).mono ?_; rintro e w' ⟨rfl, rfl⟩)
    go_ret
    exact ⟨by simp [opGood, h1, h2, int_beq0], ((Below.refl _ _).alloc (Nat.le_refl _) _).alloc (by simp) _⟩

set_option maxRecDepth 100000 in
set_option maxHeartbeats 2000000 in
theorem wmOp7 (args regs data slots : Int) (bo : Option Addr) (bn bc : Nat) (a b c : Int) (w : World) :
    Calls Tryz.prog 161 #[.agg #[.int .i64 args, .int .i64 regs, .int .i64 data, .int .i64 slots, .slice bo bn bc], .agg #[.int .i64 7, .int .i64 a, .int .i64 b, .int .i64 c]] w fun e w' => e = .returned (.bool (opGood regs slots ⟨7, a, b, c⟩)) ∧ Below w.heap.size w w' := by
  cases h1 : below a regs
  · go_enter Tryz.func161, Tryz.ntmps161
    go_wp2_with (go_at_call 133; refine (isBelow_any _ _ _).mono ?_; rintro e w' ⟨rfl, rfl⟩)
    go_ret
    exact ⟨by simp [opGood, h1], ((Below.refl _ _).alloc (Nat.le_refl _) _).alloc (by simp) _⟩
  cases h2 : below b regs
  · go_enter Tryz.func161, Tryz.ntmps161
    go_wp2_with (go_at_call 133; refine (isBelow_any _ _ _).mono ?_; rintro e w' ⟨rfl, rfl⟩)
    go_ret
    exact ⟨by simp [opGood, h1, h2, int_beq0], ((Below.refl _ _).alloc (Nat.le_refl _) _).alloc (by simp) _⟩
  · go_enter Tryz.func161, Tryz.ntmps161
    go_wp2_with (go_at_call 133; refine (isBelow_any _ _ _).mono ?_; rintro e w' ⟨rfl, rfl⟩)
    go_ret
    exact ⟨by simp [opGood, h1, h2, int_beq0], ((Below.refl _ _).alloc (Nat.le_refl _) _).alloc (by simp) _⟩

set_option maxRecDepth 100000 in
set_option maxHeartbeats 2000000 in
theorem wmOp8 (args regs data slots : Int) (bo : Option Addr) (bn bc : Nat) (a b c : Int) (w : World) :
    Calls Tryz.prog 161 #[.agg #[.int .i64 args, .int .i64 regs, .int .i64 data, .int .i64 slots, .slice bo bn bc], .agg #[.int .i64 8, .int .i64 a, .int .i64 b, .int .i64 c]] w fun e w' => e = .returned (.bool (opGood regs slots ⟨8, a, b, c⟩)) ∧ Below w.heap.size w w' := by
  cases h1 : below a regs
  · go_enter Tryz.func161, Tryz.ntmps161
    go_wp2_with (go_at_call 133; refine (isBelow_any _ _ _).mono ?_; rintro e w' ⟨rfl, rfl⟩)
    go_ret
    exact ⟨by simp [opGood, h1], ((Below.refl _ _).alloc (Nat.le_refl _) _).alloc (by simp) _⟩
  cases h2 : below b regs
  · go_enter Tryz.func161, Tryz.ntmps161
    go_wp2_with (go_at_call 133; refine (isBelow_any _ _ _).mono ?_; rintro e w' ⟨rfl, rfl⟩)
    go_ret
    exact ⟨by simp [opGood, h1, h2, int_beq0], ((Below.refl _ _).alloc (Nat.le_refl _) _).alloc (by simp) _⟩
  · go_enter Tryz.func161, Tryz.ntmps161
    go_wp2_with (go_at_call 133; refine (isBelow_any _ _ _).mono ?_; rintro e w' ⟨rfl, rfl⟩)
    go_ret
    exact ⟨by simp [opGood, h1, h2, int_beq0], ((Below.refl _ _).alloc (Nat.le_refl _) _).alloc (by simp) _⟩

set_option maxRecDepth 100000 in
set_option maxHeartbeats 2000000 in
theorem wmOp9 (args regs data slots : Int) (bo : Option Addr) (bn bc : Nat) (a b c : Int) (w : World) :
    Calls Tryz.prog 161 #[.agg #[.int .i64 args, .int .i64 regs, .int .i64 data, .int .i64 slots, .slice bo bn bc], .agg #[.int .i64 9, .int .i64 a, .int .i64 b, .int .i64 c]] w fun e w' => e = .returned (.bool (opGood regs slots ⟨9, a, b, c⟩)) ∧ Below w.heap.size w w' := by
  cases h1 : below a regs
  · go_enter Tryz.func161, Tryz.ntmps161
    go_wp2_with (go_at_call 133; refine (isBelow_any _ _ _).mono ?_; rintro e w' ⟨rfl, rfl⟩)
    go_ret
    exact ⟨by simp [opGood, h1], ((Below.refl _ _).alloc (Nat.le_refl _) _).alloc (by simp) _⟩
  cases h2 : below b regs
  · go_enter Tryz.func161, Tryz.ntmps161
    go_wp2_with (go_at_call 133; refine (isBelow_any _ _ _).mono ?_; rintro e w' ⟨rfl, rfl⟩)
    go_ret
    exact ⟨by simp [opGood, h1, h2, int_beq0], ((Below.refl _ _).alloc (Nat.le_refl _) _).alloc (by simp) _⟩
  · go_enter Tryz.func161, Tryz.ntmps161
    go_wp2_with (go_at_call 133; refine (isBelow_any _ _ _).mono ?_; rintro e w' ⟨rfl, rfl⟩)
    go_ret
    exact ⟨by simp [opGood, h1, h2, int_beq0], ((Below.refl _ _).alloc (Nat.le_refl _) _).alloc (by simp) _⟩

set_option maxRecDepth 100000 in
set_option maxHeartbeats 2000000 in
theorem wmOp10 (args regs data slots : Int) (bo : Option Addr) (bn bc : Nat) (a b c : Int) (w : World) :
    Calls Tryz.prog 161 #[.agg #[.int .i64 args, .int .i64 regs, .int .i64 data, .int .i64 slots, .slice bo bn bc], .agg #[.int .i64 10, .int .i64 a, .int .i64 b, .int .i64 c]] w fun e w' => e = .returned (.bool (opGood regs slots ⟨10, a, b, c⟩)) ∧ Below w.heap.size w w' := by
  cases h1 : below a regs
  · go_enter Tryz.func161, Tryz.ntmps161
    go_wp2_with (go_at_call 133; refine (isBelow_any _ _ _).mono ?_; rintro e w' ⟨rfl, rfl⟩)
    go_ret
    exact ⟨by simp [opGood, h1], ((Below.refl _ _).alloc (Nat.le_refl _) _).alloc (by simp) _⟩
  cases h2 : below b regs
  · go_enter Tryz.func161, Tryz.ntmps161
    go_wp2_with (go_at_call 133; refine (isBelow_any _ _ _).mono ?_; rintro e w' ⟨rfl, rfl⟩)
    go_ret
    exact ⟨by simp [opGood, h1, h2, int_beq0], ((Below.refl _ _).alloc (Nat.le_refl _) _).alloc (by simp) _⟩
  · go_enter Tryz.func161, Tryz.ntmps161
    go_wp2_with (go_at_call 133; refine (isBelow_any _ _ _).mono ?_; rintro e w' ⟨rfl, rfl⟩)
    go_ret
    exact ⟨by simp [opGood, h1, h2, int_beq0], ((Below.refl _ _).alloc (Nat.le_refl _) _).alloc (by simp) _⟩

set_option maxRecDepth 100000 in
set_option maxHeartbeats 2000000 in
theorem wmOp11 (args regs data slots : Int) (bo : Option Addr) (bn bc : Nat) (a b c : Int) (w : World) :
    Calls Tryz.prog 161 #[.agg #[.int .i64 args, .int .i64 regs, .int .i64 data, .int .i64 slots, .slice bo bn bc], .agg #[.int .i64 11, .int .i64 a, .int .i64 b, .int .i64 c]] w fun e w' => e = .returned (.bool (opGood regs slots ⟨11, a, b, c⟩)) ∧ Below w.heap.size w w' := by
  cases h1 : below a regs
  · go_enter Tryz.func161, Tryz.ntmps161
    go_wp2_with (go_at_call 133; refine (isBelow_any _ _ _).mono ?_; rintro e w' ⟨rfl, rfl⟩)
    go_ret
    exact ⟨by simp [opGood, h1], ((Below.refl _ _).alloc (Nat.le_refl _) _).alloc (by simp) _⟩
  cases h2 : below b regs
  · go_enter Tryz.func161, Tryz.ntmps161
    go_wp2_with (go_at_call 133; refine (isBelow_any _ _ _).mono ?_; rintro e w' ⟨rfl, rfl⟩)
    go_ret
    exact ⟨by simp [opGood, h1, h2, int_beq0], ((Below.refl _ _).alloc (Nat.le_refl _) _).alloc (by simp) _⟩
  · go_enter Tryz.func161, Tryz.ntmps161
    go_wp2_with (go_at_call 133; refine (isBelow_any _ _ _).mono ?_; rintro e w' ⟨rfl, rfl⟩)
    go_ret
    exact ⟨by simp [opGood, h1, h2, int_beq0], ((Below.refl _ _).alloc (Nat.le_refl _) _).alloc (by simp) _⟩

set_option maxRecDepth 100000 in
set_option maxHeartbeats 2000000 in
theorem wmOp12 (args regs data slots : Int) (bo : Option Addr) (bn bc : Nat) (a b c : Int) (w : World) :
    Calls Tryz.prog 161 #[.agg #[.int .i64 args, .int .i64 regs, .int .i64 data, .int .i64 slots, .slice bo bn bc], .agg #[.int .i64 12, .int .i64 a, .int .i64 b, .int .i64 c]] w fun e w' => e = .returned (.bool (opGood regs slots ⟨12, a, b, c⟩)) ∧ Below w.heap.size w w' := by
  cases h1 : below a regs
  · go_enter Tryz.func161, Tryz.ntmps161
    go_wp2_with (go_at_call 133; refine (isBelow_any _ _ _).mono ?_; rintro e w' ⟨rfl, rfl⟩)
    go_ret
    exact ⟨by simp [opGood, h1], ((Below.refl _ _).alloc (Nat.le_refl _) _).alloc (by simp) _⟩
  cases h2 : below b regs
  · go_enter Tryz.func161, Tryz.ntmps161
    go_wp2_with (go_at_call 133; refine (isBelow_any _ _ _).mono ?_; rintro e w' ⟨rfl, rfl⟩)
    go_ret
    exact ⟨by simp [opGood, h1, h2, int_beq0], ((Below.refl _ _).alloc (Nat.le_refl _) _).alloc (by simp) _⟩
  · go_enter Tryz.func161, Tryz.ntmps161
    go_wp2_with (go_at_call 133; refine (isBelow_any _ _ _).mono ?_; rintro e w' ⟨rfl, rfl⟩)
    go_ret
    exact ⟨by simp [opGood, h1, h2, int_beq0], ((Below.refl _ _).alloc (Nat.le_refl _) _).alloc (by simp) _⟩

set_option maxRecDepth 100000 in
set_option maxHeartbeats 2000000 in
theorem wmOp13 (args regs data slots : Int) (bo : Option Addr) (bn bc : Nat) (a b c : Int) (w : World) :
    Calls Tryz.prog 161 #[.agg #[.int .i64 args, .int .i64 regs, .int .i64 data, .int .i64 slots, .slice bo bn bc], .agg #[.int .i64 13, .int .i64 a, .int .i64 b, .int .i64 c]] w fun e w' => e = .returned (.bool (opGood regs slots ⟨13, a, b, c⟩)) ∧ Below w.heap.size w w' := by
  cases h1 : below a regs
  · go_enter Tryz.func161, Tryz.ntmps161
    go_wp2_with (go_at_call 133; refine (isBelow_any _ _ _).mono ?_; rintro e w' ⟨rfl, rfl⟩)
    go_ret
    exact ⟨by simp [opGood, h1], ((Below.refl _ _).alloc (Nat.le_refl _) _).alloc (by simp) _⟩
  cases h2 : below b regs
  · go_enter Tryz.func161, Tryz.ntmps161
    go_wp2_with (go_at_call 133; refine (isBelow_any _ _ _).mono ?_; rintro e w' ⟨rfl, rfl⟩)
    go_ret
    exact ⟨by simp [opGood, h1, h2, int_beq0], ((Below.refl _ _).alloc (Nat.le_refl _) _).alloc (by simp) _⟩
  · go_enter Tryz.func161, Tryz.ntmps161
    go_wp2_with (go_at_call 133; refine (isBelow_any _ _ _).mono ?_; rintro e w' ⟨rfl, rfl⟩)
    go_ret
    exact ⟨by simp [opGood, h1, h2, int_beq0], ((Below.refl _ _).alloc (Nat.le_refl _) _).alloc (by simp) _⟩

set_option maxRecDepth 100000 in
set_option maxHeartbeats 2000000 in
theorem wmOp14 (args regs data slots : Int) (bo : Option Addr) (bn bc : Nat) (a b c : Int) (w : World) :
    Calls Tryz.prog 161 #[.agg #[.int .i64 args, .int .i64 regs, .int .i64 data, .int .i64 slots, .slice bo bn bc], .agg #[.int .i64 14, .int .i64 a, .int .i64 b, .int .i64 c]] w fun e w' => e = .returned (.bool (opGood regs slots ⟨14, a, b, c⟩)) ∧ Below w.heap.size w w' := by
  cases h1 : below a slots
  · go_enter Tryz.func161, Tryz.ntmps161
    go_wp2_with (go_at_call 133; refine (isBelow_any _ _ _).mono ?_; rintro e w' ⟨rfl, rfl⟩)
    go_ret
    exact ⟨by simp [opGood, h1], ((Below.refl _ _).alloc (Nat.le_refl _) _).alloc (by simp) _⟩
  cases h2 : below b regs
  · go_enter Tryz.func161, Tryz.ntmps161
    go_wp2_with (go_at_call 133; refine (isBelow_any _ _ _).mono ?_; rintro e w' ⟨rfl, rfl⟩)
    go_ret
    exact ⟨by simp [opGood, h1, h2, int_beq0], ((Below.refl _ _).alloc (Nat.le_refl _) _).alloc (by simp) _⟩
  · go_enter Tryz.func161, Tryz.ntmps161
    go_wp2_with (go_at_call 133; refine (isBelow_any _ _ _).mono ?_; rintro e w' ⟨rfl, rfl⟩)
    go_ret
    exact ⟨by simp [opGood, h1, h2, int_beq0], ((Below.refl _ _).alloc (Nat.le_refl _) _).alloc (by simp) _⟩

set_option maxRecDepth 100000 in
set_option maxHeartbeats 2000000 in
theorem wmOp15 (args regs data slots : Int) (bo : Option Addr) (bn bc : Nat) (a b c : Int) (w : World) :
    Calls Tryz.prog 161 #[.agg #[.int .i64 args, .int .i64 regs, .int .i64 data, .int .i64 slots, .slice bo bn bc], .agg #[.int .i64 15, .int .i64 a, .int .i64 b, .int .i64 c]] w fun e w' => e = .returned (.bool (opGood regs slots ⟨15, a, b, c⟩)) ∧ Below w.heap.size w w' := by
  cases h1 : below a regs
  · go_enter Tryz.func161, Tryz.ntmps161
    go_wp2_with (go_at_call 133; refine (isBelow_any _ _ _).mono ?_; rintro e w' ⟨rfl, rfl⟩)
    go_ret
    exact ⟨by simp [opGood, h1], ((Below.refl _ _).alloc (Nat.le_refl _) _).alloc (by simp) _⟩
  cases h2 : below b slots
  · go_enter Tryz.func161, Tryz.ntmps161
    go_wp2_with (go_at_call 133; refine (isBelow_any _ _ _).mono ?_; rintro e w' ⟨rfl, rfl⟩)
    go_ret
    exact ⟨by simp [opGood, h1, h2, int_beq0], ((Below.refl _ _).alloc (Nat.le_refl _) _).alloc (by simp) _⟩
  · go_enter Tryz.func161, Tryz.ntmps161
    go_wp2_with (go_at_call 133; refine (isBelow_any _ _ _).mono ?_; rintro e w' ⟨rfl, rfl⟩)
    go_ret
    exact ⟨by simp [opGood, h1, h2, int_beq0], ((Below.refl _ _).alloc (Nat.le_refl _) _).alloc (by simp) _⟩

set_option maxRecDepth 100000 in
set_option maxHeartbeats 2000000 in
theorem wmOpNo (args regs data slots : Int) (bo : Option Addr) (bn bc : Nat) (k a b c : Int) (w : World) (hk : ¬ (1 ≤ k ∧ k ≤ 15)) :
    Calls Tryz.prog 161 #[.agg #[.int .i64 args, .int .i64 regs, .int .i64 data, .int .i64 slots, .slice bo bn bc], .agg #[.int .i64 k, .int .i64 a, .int .i64 b, .int .i64 c]] w fun e w' => e = .returned (.bool (opGood regs slots ⟨k, a, b, c⟩)) ∧ Below w.heap.size w w' := by
  have hg : opGood regs slots ⟨k, a, b, c⟩ = false := by
    unfold opGood
    rw [if_neg (by simp only []; omega), if_neg (by simp only []; omega), if_neg (by simp only []; omega), if_neg (by simp only []; omega), if_neg (by simp only []; omega)]
  have n1 : (k == 1) = false := by rw [beq_eq_false_iff_ne]; omega
  have n2 : (k == 2) = false := by rw [beq_eq_false_iff_ne]; omega
  have n3 : (k == 3) = false := by rw [beq_eq_false_iff_ne]; omega
  have n4 : (k == 4) = false := by rw [beq_eq_false_iff_ne]; omega
  have n5 : (k == 5) = false := by rw [beq_eq_false_iff_ne]; omega
  have n6 : (k == 6) = false := by rw [beq_eq_false_iff_ne]; omega
  have n7 : (k == 7) = false := by rw [beq_eq_false_iff_ne]; omega
  have n8 : (k == 8) = false := by rw [beq_eq_false_iff_ne]; omega
  have n9 : (k == 9) = false := by rw [beq_eq_false_iff_ne]; omega
  have n10 : (k == 10) = false := by rw [beq_eq_false_iff_ne]; omega
  have n11 : (k == 11) = false := by rw [beq_eq_false_iff_ne]; omega
  have n12 : (k == 12) = false := by rw [beq_eq_false_iff_ne]; omega
  have n13 : (k == 13) = false := by rw [beq_eq_false_iff_ne]; omega
  have n14 : (k == 14) = false := by rw [beq_eq_false_iff_ne]; omega
  have n15 : (k == 15) = false := by rw [beq_eq_false_iff_ne]; omega
  go_enter Tryz.func161, Tryz.ntmps161
  go_wp2
  go_ret
  exact ⟨by simp [hg], ((Below.refl _ _).alloc (Nat.le_refl _) _).alloc (by simp) _⟩

theorem wmOp_any (args regs data slots : Int) (bo : Option Addr) (bn bc : Nat) (k a b c : Int) (w : World) :
    Calls Tryz.prog 161 #[.agg #[.int .i64 args, .int .i64 regs, .int .i64 data, .int .i64 slots, .slice bo bn bc], .agg #[.int .i64 k, .int .i64 a, .int .i64 b, .int .i64 c]] w fun e w' => e = .returned (.bool (opGood regs slots ⟨k, a, b, c⟩)) ∧ Below w.heap.size w w' := by
  by_cases hk : 1 ≤ k ∧ k ≤ 15
  · have : k = 1 ∨ k = 2 ∨ k = 3 ∨ k = 4 ∨ k = 5 ∨ k = 6 ∨ k = 7 ∨ k = 8 ∨ k = 9 ∨ k = 10 ∨ k = 11 ∨ k = 12 ∨ k = 13 ∨ k = 14 ∨ k = 15 := by omega
    rcases this with rfl | rfl | rfl | rfl | rfl | rfl | rfl | rfl | rfl | rfl | rfl | rfl | rfl | rfl | rfl
    · exact wmOp1 args regs data slots bo bn bc a b c w
    · exact wmOp2 args regs data slots bo bn bc a b c w
    · exact wmOp3 args regs data slots bo bn bc a b c w
    · exact wmOp4 args regs data slots bo bn bc a b c w
    · exact wmOp5 args regs data slots bo bn bc a b c w
    · exact wmOp6 args regs data slots bo bn bc a b c w
    · exact wmOp7 args regs data slots bo bn bc a b c w
    · exact wmOp8 args regs data slots bo bn bc a b c w
    · exact wmOp9 args regs data slots bo bn bc a b c w
    · exact wmOp10 args regs data slots bo bn bc a b c w
    · exact wmOp11 args regs data slots bo bn bc a b c w
    · exact wmOp12 args regs data slots bo bn bc a b c w
    · exact wmOp13 args regs data slots bo bn bc a b c w
    · exact wmOp14 args regs data slots bo bn bc a b c w
    · exact wmOp15 args regs data slots bo bn bc a b c w
  · exact wmOpNo args regs data slots bo bn bc k a b c w hk

end Go.Proofs.YtblhmeidbjigaaaGreatDoor
