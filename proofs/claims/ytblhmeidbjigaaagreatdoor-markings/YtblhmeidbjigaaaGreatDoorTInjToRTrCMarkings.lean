/- Two terms are the same if their texts are: pure. -/
import Derived.Test.YtblhmeidbjigaaaGreatDoorRows
import Derived.WalkKit
import Derived.WalkSpells
import Derived.WalkLawsBesides
import Derived.Laws.BytesArg
import Derived.Deep.QuietTactic
import Derived.BigQuiet
import Derived.Deep.RegionHeld3
import Derived.Lib.ItoaNum
import Derived.Lib.ItoaLen
import Derived.OpenShut
import Derived.Maps.AppendAt
import Derived.Shelf.Strconv.Itoa3
import Derived.Shelf.Lay
import Derived.Ground.NamesProg
import Derived.Lib.SmallJoins
import Derived.ProofKit
import Derived.LaidMore
import Derived.Stop.Joined
import Derived.Stop.LaidErr
import Derived.Test.YtblhmeidbjigaaaGreatDoorCodAToTMadeMarkings

set_option linter.unusedSimpArgs false
set_option linter.unusedVariables false
noncomputable section
namespace Go.Proofs.YtblhmeidbjigaaaGreatDoor
open Go.RowKit Classical

/-- Bytes of a numeral. -/
def numByte (c : UInt8) : Bool := decide (c = 45 ∨ (48 ≤ c.toNat ∧ c.toNat ≤ 57))

theorem digit_byte {d : Nat} (h : d < 10) : (UInt8.ofNat (48 + d)).toNat = 48 + d := by
  rw [UInt8.toNat_ofNat']
  omega

theorem decDigits_bytes (u : Nat) : ∀ c ∈ Lib.decDigits u, 48 ≤ c.toNat ∧ c.toNat ≤ 57 := by
  induction u using Nat.strongRecOn with
  | _ u ih =>
    intro c hc
    by_cases h : u < 10
    · rw [Lib.decDigits_one h] at hc
      simp only [List.mem_singleton] at hc
      subst hc
      rw [digit_byte h]
      omega
    · rw [Lib.decDigits, dif_neg h] at hc
      rcases List.mem_append.1 hc with hc | hc
      · exact ih (u / 10) (by omega) c hc
      · simp only [List.mem_singleton] at hc
        subst hc
        rw [digit_byte (Nat.mod_lt _ (by decide))]
        omega

theorem decDigits_ne (u : Nat) : Lib.decDigits u ≠ [] := by
  intro e
  have := congrArg List.length e
  rw [Lib.decDigits_length] at this
  have := Lib.nDigits_pos u
  simp at *
  omega

theorem decDigits_inj {u v : Nat} (h : Lib.decDigits u = Lib.decDigits v) : u = v := by
  induction u using Nat.strongRecOn generalizing v with
  | _ u ih =>
    by_cases hu : u < 10
    · by_cases hv : v < 10
      · rw [Lib.decDigits_one hu, Lib.decDigits_one hv] at h
        have := congrArg UInt8.toNat (List.cons.inj h).1
        rw [digit_byte hu, digit_byte hv] at this
        omega
      · exfalso
        rw [Lib.decDigits_one hu, Lib.decDigits, dif_neg hv] at h
        have h2 := congrArg List.length h
        simp only [List.length_append, List.length_cons, List.length_nil] at h2
        have := decDigits_ne (v / 10)
        have : 0 < (Lib.decDigits (v / 10)).length := List.length_pos_iff.2 this
        omega
    · by_cases hv : v < 10
      · exfalso
        rw [Lib.decDigits_one hv, Lib.decDigits, dif_neg hu] at h
        have h2 := congrArg List.length h
        simp only [List.length_append, List.length_cons, List.length_nil] at h2
        have := decDigits_ne (u / 10)
        have : 0 < (Lib.decDigits (u / 10)).length := List.length_pos_iff.2 this
        omega
      · rw [Lib.decDigits, dif_neg hu] at h
        conv at h => rhs; rw [Lib.decDigits, dif_neg hv]
        obtain ⟨h1, h2⟩ := List.append_inj' h rfl
        have e1 := ih (u / 10) (by omega) h1
        have e2 := congrArg UInt8.toNat (List.cons.inj h2).1
        rw [digit_byte (Nat.mod_lt _ (by decide)), digit_byte (Nat.mod_lt _ (by decide))] at e2
        omega

theorem itoa_bytes (n : Int) : ∀ c ∈ Lib.itoa n, numByte c = true := by
  intro c hc
  unfold Lib.itoa at hc
  simp only [numByte, decide_eq_true_eq]
  split at hc
  · rcases List.mem_cons.1 hc with hc | hc
    · exact .inl hc
    · exact .inr (decDigits_bytes _ c hc)
  · exact .inr (decDigits_bytes _ c hc)

theorem itoa_head (n : Int) : ∃ c l, Lib.itoa n = c :: l ∧ numByte c = true := by
  cases h : Lib.itoa n with
  | nil =>
    exfalso
    unfold Lib.itoa at h
    split at h
    · cases h
    · exact decDigits_ne _ h
  | cons c l => exact ⟨c, l, rfl, itoa_bytes n c (by rw [h]; simp)⟩

theorem itoa_inj {n m : Int} (h : Lib.itoa n = Lib.itoa m) : n = m := by
  have hd : ∀ u : Nat, ∃ c l, Lib.decDigits u = c :: l ∧ 48 ≤ c.toNat := by
    intro u
    cases e : Lib.decDigits u with
    | nil => exact absurd e (decDigits_ne u)
    | cons c l => exact ⟨c, l, rfl, (decDigits_bytes u c (by rw [e]; simp)).1⟩
  unfold Lib.itoa at h
  split at h
  · split at h
    · have := decDigits_inj (List.cons.inj h).2
      omega
    · exfalso
      obtain ⟨c, l, e, hc⟩ := hd m.toNat
      rw [e] at h
      have := (List.cons.inj h).1
      subst this
      simp at hc
  · split at h
    · exfalso
      obtain ⟨c, l, e, hc⟩ := hd n.toNat
      rw [e] at h
      have := (List.cons.inj h).1
      subst this
      simp at hc
    · have := decDigits_inj h
      omega

/-- Nothing, or a byte that no numeral has. -/
def Stops (x : List UInt8) : Prop := ∀ c l, x = c :: l → numByte c = false

theorem takeWhile_stops {l x : List UInt8} (hl : ∀ c ∈ l, numByte c = true) (hx : Stops x) : (l ++ x).takeWhile numByte = l := by
  induction l with
  | nil =>
    cases x with
    | nil => rfl
    | cons c r => simp [hx c r rfl]
  | cons c r ih =>
    simp only [List.cons_append, List.takeWhile_cons, hl c (by simp), if_true]
    rw [ih (fun d hd => hl d (by simp [hd]))]

theorem itoa_cut {n m : Int} {x y : List UInt8} (hx : Stops x) (hy : Stops y) (h : Lib.itoa n ++ x = Lib.itoa m ++ y) : n = m ∧ x = y := by
  have h1 := takeWhile_stops (itoa_bytes n) hx
  have h2 := takeWhile_stops (itoa_bytes m) hy
  rw [h] at h1
  have e : Lib.itoa n = Lib.itoa m := h1.symm.trans h2
  rw [e] at h
  exact ⟨itoa_inj e, List.append_cancel_left h⟩

/-- Terms as they are made. -/
def TD.ok : TD → Prop
  | .leaf k n => k = 100 ∨ k = 101 ∨ k = 102 ∨ (k = 103 ∧ n = 0)
  | .two k a b => 3 ≤ k ∧ k ≤ 12 ∧ a.ok ∧ b.ok
  | .three k a b c => k = 13 ∧ a.ok ∧ b.ok ∧ c.ok

theorem sign_inj {k q : Int} (hk : 3 ≤ k ∧ k ≤ 13) (hq : 3 ≤ q ∧ q ≤ 13) (h : signT k = signT q) : k = q := by
  have a : k = 3 ∨ k = 4 ∨ k = 5 ∨ k = 6 ∨ k = 7 ∨ k = 8 ∨ k = 9 ∨ k = 10 ∨ k = 11 ∨ k = 12 ∨ k = 13 := by omega
  have b : q = 3 ∨ q = 4 ∨ q = 5 ∨ q = 6 ∨ q = 7 ∨ q = 8 ∨ q = 9 ∨ q = 10 ∨ q = 11 ∨ q = 12 ∨ q = 13 := by omega
  rcases a with rfl | rfl | rfl | rfl | rfl | rfl | rfl | rfl | rfl | rfl | rfl <;>
    rcases b with rfl | rfl | rfl | rfl | rfl | rfl | rfl | rfl | rfl | rfl | rfl <;> first | rfl | (exfalso; revert h; decide)

/-- The first byte of a term's text. -/
theorem show_head (t : TD) (h : t.ok) : ∃ c l, showT t = c :: l ∧ ((∃ n, t = .leaf 100 n ∧ numByte c = true) ∨ (∃ n, t = .leaf 101 n ∧ c = 114) ∨ (∃ n, t = .leaf 102 n ∧ c = 120) ∨ (t = .leaf 103 0 ∧ c = 109) ∨ ((∀ k n, t ≠ .leaf k n) ∧ c = 40)) := by
  cases t with
  | leaf k n =>
    rcases h with rfl | rfl | rfl | ⟨rfl, rfl⟩
    · obtain ⟨c, l, e, hc⟩ := itoa_head n
      exact ⟨c, l, by simpa [showT] using e, .inl ⟨n, rfl, hc⟩⟩
    · exact ⟨114, Lib.itoa n, by simp [showT], .inr (.inl ⟨n, rfl, rfl⟩)⟩
    · exact ⟨120, Lib.itoa n, by simp [showT], .inr (.inr (.inl ⟨n, rfl, rfl⟩))⟩
    · exact ⟨109, [], by simp [showT], .inr (.inr (.inr (.inl ⟨rfl, rfl⟩)))⟩
  | two k a b => exact ⟨40, _, rfl, .inr (.inr (.inr (.inr ⟨(fun _ _ e => by cases e), rfl⟩)))⟩
  | three k a b c => exact ⟨40, _, rfl, .inr (.inr (.inr (.inr ⟨(fun _ _ e => by cases e), rfl⟩)))⟩

theorem stops_of {c : UInt8} (l : List UInt8) (h : numByte c = false) : Stops (c :: l) := fun d r e => by
  obtain ⟨rfl, _⟩ := List.cons.inj e
  exact h

/-- A text is read in one way. -/
theorem show_cut : ∀ (t u : TD) (x y : List UInt8), t.ok → u.ok → Stops x → Stops y → showT t ++ x = showT u ++ y → t = u ∧ x = y := by
  intro t
  induction t with
  | leaf k n =>
    intro u x y ht hu hx hy h
    obtain ⟨c, l, e, hc⟩ := show_head _ ht
    obtain ⟨d, r, e', hd⟩ := show_head u hu
    have hcd : c = d := by rw [e, e'] at h; exact (List.cons.inj h).1
    subst hcd
    rcases hc with ⟨n1, e1, hb⟩ | ⟨n1, e1, rfl⟩ | ⟨n1, e1, rfl⟩ | ⟨e1, rfl⟩ | ⟨e1, rfl⟩
    · rcases hd with ⟨m, rfl, _⟩ | ⟨m, rfl, rfl⟩ | ⟨m, rfl, rfl⟩ | ⟨rfl, rfl⟩ | ⟨_, rfl⟩
      · cases e1
        simp only [showT, if_true] at h
        obtain ⟨rfl, rfl⟩ := itoa_cut hx hy h
        exact ⟨rfl, rfl⟩
      all_goals simp [numByte] at hb
    · rcases hd with ⟨m, rfl, hb⟩ | ⟨m, rfl, _⟩ | ⟨m, rfl, hb⟩ | ⟨rfl, hb⟩ | ⟨_, hb⟩
      · simp [numByte] at hb
      · cases e1
        simp [showT] at h
        obtain ⟨rfl, rfl⟩ := itoa_cut hx hy h
        exact ⟨rfl, rfl⟩
      all_goals simp at hb
    · rcases hd with ⟨m, rfl, hb⟩ | ⟨m, rfl, hb⟩ | ⟨m, rfl, _⟩ | ⟨rfl, hb⟩ | ⟨_, hb⟩
      · simp [numByte] at hb
      · simp at hb
      · cases e1
        simp [showT] at h
        obtain ⟨rfl, rfl⟩ := itoa_cut hx hy h
        exact ⟨rfl, rfl⟩
      all_goals simp at hb
    · rcases hd with ⟨m, rfl, hb⟩ | ⟨m, rfl, hb⟩ | ⟨m, rfl, hb⟩ | ⟨rfl, _⟩ | ⟨_, hb⟩
      · simp [numByte] at hb
      · simp at hb
      · simp at hb
      · cases e1
        simp [showT] at h
        exact ⟨rfl, h⟩
      · simp at hb
    · exact absurd rfl (e1 k n)
  | two k a b iha ihb =>
    intro u x y ht hu hx hy h
    obtain ⟨d, r, e', hd⟩ := show_head u hu
    have hcd : (40 : UInt8) = d := by rw [e'] at h; exact (List.cons.inj h).1
    subst hcd
    rcases hd with ⟨m, rfl, hb⟩ | ⟨m, rfl, hb⟩ | ⟨m, rfl, hb⟩ | ⟨rfl, hb⟩ | ⟨hn, _⟩
    · simp [numByte] at hb
    · simp at hb
    · simp at hb
    · simp at hb
    obtain ⟨k1, k2, oa, ob⟩ := ht
    cases u with
    | leaf q m => exact absurd rfl (hn q m)
    | two q a' b' =>
      obtain ⟨q1, q2, oa', ob'⟩ := hu
      simp only [showT, List.cons_append, List.append_assoc, List.cons.injEq, true_and] at h
      obtain ⟨hs, h⟩ := h
      obtain rfl := sign_inj ⟨k1, by omega⟩ ⟨q1, by omega⟩ hs
      obtain ⟨rfl, h2⟩ := iha a' _ _ oa oa' (stops_of _ (by decide)) (stops_of _ (by decide)) h
      have h3 := (List.cons.inj h2).2
      obtain ⟨rfl, h4⟩ := ihb b' _ _ ob ob' (stops_of _ (by decide)) (stops_of _ (by decide)) h3
      exact ⟨rfl, by simpa using h4⟩
    | three q a' b' c' =>
      exfalso
      obtain ⟨rfl, oa', ob', oc'⟩ := hu
      simp only [showT, List.cons_append, List.append_assoc, List.cons.injEq, true_and] at h
      have := sign_inj ⟨k1, by omega⟩ ⟨by omega, by omega⟩ h.1
      omega
  | three k a b c iha ihb ihc =>
    intro u x y ht hu hx hy h
    obtain ⟨d, r, e', hd⟩ := show_head u hu
    have hcd : (40 : UInt8) = d := by rw [e'] at h; exact (List.cons.inj h).1
    subst hcd
    rcases hd with ⟨m, rfl, hb⟩ | ⟨m, rfl, hb⟩ | ⟨m, rfl, hb⟩ | ⟨rfl, hb⟩ | ⟨hn, _⟩
    · simp [numByte] at hb
    · simp at hb
    · simp at hb
    · simp at hb
    obtain ⟨rfl, oa, ob, oc⟩ := ht
    cases u with
    | leaf q m => exact absurd rfl (hn q m)
    | two q a' b' =>
      exfalso
      obtain ⟨q1, q2, oa', ob'⟩ := hu
      simp only [showT, List.cons_append, List.append_assoc, List.cons.injEq, true_and] at h
      have := sign_inj ⟨by omega, by omega⟩ ⟨q1, by omega⟩ h.1
      omega
    | three q a' b' c' =>
      obtain ⟨rfl, oa', ob', oc'⟩ := hu
      simp only [showT, List.cons_append, List.append_assoc, List.cons.injEq, true_and] at h
      obtain ⟨rfl, h2⟩ := iha a' _ _ oa oa' (stops_of _ (by decide)) (stops_of _ (by decide)) h
      have h3 := (List.cons.inj h2).2
      obtain ⟨rfl, h4⟩ := ihb b' _ _ ob ob' (stops_of _ (by decide)) (stops_of _ (by decide)) h3
      have h5 := (List.cons.inj h4).2
      obtain ⟨rfl, h6⟩ := ihc c' _ _ oc oc' (stops_of _ (by decide)) (stops_of _ (by decide)) h5
      exact ⟨rfl, by simpa using h6⟩

/-- P8: two terms are the same if their texts are. -/
theorem show_inj {t u : TD} (ht : t.ok) (hu : u.ok) (h : showT t = showT u) : t = u :=
  (show_cut t u [] [] ht hu (fun _ _ e => by cases e) (fun _ _ e => by cases e) (by simpa using h)).1

end Go.Proofs.YtblhmeidbjigaaaGreatDoor

/- Terms as they are made: their kinds, their numbers, how long their texts are; pure. -/
set_option linter.unusedSimpArgs false
set_option linter.unusedVariables false
noncomputable section
namespace Go.Proofs.YtblhmeidbjigaaaGreatDoor
open Go.RowKit Classical

def W64 (n : Int) : Prop := -9223372036854775808 ≤ n ∧ n ≤ 9223372036854775807

theorem w64_of {n : Int} (h : (Lit.int .i64 n).wf = true) : W64 n := by
  simp only [Lit.wf, Bool.and_eq_true, decide_eq_true_eq] at h
  exact ⟨Int.le_trans (by decide) h.1, Int.le_trans h.2 (by decide)⟩

theorem w64_wrap (n : Int) : W64 (wrap64 n) := w64_of (wrap64_wf n)

theorem w64_small {n : Int} (h : -1000000 ≤ n ∧ n ≤ 1000000) : W64 n := ⟨by omega, by omega⟩

theorem w64_calc (k x y : Int) : W64 (calcW k x y) := by
  unfold calcW
  repeat' split
  all_goals first | exact w64_wrap _ | exact w64_of (wf_bits _ _ _ _) | exact w64_small (by omega)

/-- A term as it is made. -/
def TD.fine : TD → Prop
  | .leaf k n => (k = 100 ∨ k = 101 ∨ k = 102 ∨ (k = 103 ∧ n = 0)) ∧ W64 n
  | .two k a b => 3 ≤ k ∧ k ≤ 12 ∧ a.fine ∧ b.fine
  | .three k a b c => k = 13 ∧ a.fine ∧ b.fine ∧ c.fine

theorem TD.fine.ok {t : TD} (h : t.fine) : t.ok := by
  induction t with
  | leaf k n => exact h.1
  | two k a b iha ihb => exact ⟨h.1, h.2.1, iha h.2.2.1, ihb h.2.2.2⟩
  | three k a b c iha ihb ihc => exact ⟨h.1, iha h.2.1, ihb h.2.2.1, ihc h.2.2.2⟩

theorem TD.size_pos (t : TD) : 1 ≤ t.size := by cases t <;> simp only [TD.size] <;> omega

theorem show_length {t : TD} (h : t.fine) : (showT t).length ≤ 24 * t.size := by
  induction t with
  | leaf k n =>
    have hl := Lib.itoa_length_le n h.2.1 h.2.2
    simp only [showT, TD.size]
    repeat' split
    all_goals (try simp only [List.length_cons, List.length_nil]); omega
  | two k a b iha ihb =>
    have h1 := iha h.2.2.1
    have h2 := ihb h.2.2.2
    simp only [showT, TD.size, List.length_cons, List.length_append, List.length_nil]
    omega
  | three k a b c iha ihb ihc =>
    have h1 := iha h.2.1
    have h2 := ihb h.2.2.1
    have h3 := ihc h.2.2.2
    simp only [showT, TD.size, List.length_cons, List.length_append, List.length_nil]
    omega

theorem tnum_fine {n : Int} (h : W64 n) : (tnum n).fine := ⟨.inl rfl, h⟩

theorem isNum_some {t : TD} {n : Int} (h : t.isNum = some n) : t = tnum n := by
  cases t with
  | leaf k m =>
    simp only [TD.isNum] at h
    split at h
    · rename_i e; subst e; cases h; rfl
    · cases h
  | two k a b => cases h
  | three k a b c => cases h

theorem isNum_fine {t : TD} {n : Int} (h : t.isNum = some n) (hf : t.fine) : W64 n := by
  rw [isNum_some h] at hf
  exact hf.2

theorem isPlus_some {t a : TD} {n : Int} (h : t.isPlus = some (a, n)) : t = .two 3 a (tnum n) := by
  cases t with
  | leaf k m => cases h
  | two k x y =>
    simp only [TD.isPlus] at h
    split at h
    · rename_i e
      subst e
      cases hy : y.isNum with
      | none => rw [hy] at h; cases h
      | some m =>
        rw [hy] at h
        simp only [Option.map_some, Option.some.injEq, Prod.mk.injEq] at h
        obtain ⟨rfl, rfl⟩ := h
        rw [isNum_some hy]
    · cases h
  | three k x y z => cases h

theorem addN_fine : ∀ (u : TD) (k : Int), u.fine → W64 k → (addN u k).fine := by
  intro u
  induction u with
  | leaf q n =>
    intro k hu hk
    simp only [addN]
    repeat' split
    · exact tnum_fine (w64_wrap _)
    · exact hu
    · exact ⟨by omega, by omega, hu, tnum_fine hk⟩
  | two q a b iha ihb =>
    intro k hu hk
    simp only [addN]
    split
    · exact hu
    · split
      · exact iha _ hu.2.2.1 (w64_wrap _)
      · exact ⟨by omega, by omega, hu, tnum_fine hk⟩
  | three q a b c =>
    intro k hu hk
    simp only [addN]
    split
    · exact hu
    · exact ⟨by omega, by omega, hu, tnum_fine hk⟩

theorem besideT_fine {kind n : Int} {u t : TD} (h : besideT kind u n = some t) (hu : u.fine) (hn : W64 n) : t.fine := by
  unfold besideT at h
  repeat' split at h
  all_goals first
    | (cases h; done)
    | (simp only [Option.some.injEq] at h; subst h; first | exact hu | exact addN_fine _ _ hu (w64_wrap _) | exact tnum_fine (w64_small (by omega)))
    | skip
  cases hp : u.isPlus with
  | none => rw [hp] at h; cases h
  | some p =>
    obtain ⟨a, m⟩ := p
    rw [hp] at h
    simp only [Option.map_some, Option.some.injEq] at h
    subst h
    have e := isPlus_some hp
    subst e
    exact addN_fine _ _ hu.2.2.1 (w64_wrap _)

theorem rowT_fine {kind : Int} {u v : TD} (hk : 3 ≤ kind ∧ kind ≤ 11) (hu : u.fine) (hv : v.fine) : (rowT kind u v).fine := by
  unfold rowT
  split
  · rename_i t ht
    cases hn : v.isNum with
    | none => rw [hn] at ht; cases ht
    | some n =>
      rw [hn] at ht
      exact besideT_fine (by simpa using ht) hu (isNum_fine hn hv)
  · repeat' split
    · exact tnum_fine (w64_small (by omega))
    · exact hu
    · exact tnum_fine (w64_small (by omega))
    · exact tnum_fine (w64_small (by omega))
    · exact ⟨hk.1, by omega, hu, hv⟩

theorem madeT_fine {kind : Int} {u v : TD} (hk : 3 ≤ kind ∧ kind ≤ 11) (hu : u.fine) (hv : v.fine) : (madeT kind u v).fine := by
  unfold madeT
  split
  · split
    · exact rowT_fine hk hu hv
    · exact tnum_fine (w64_calc _ _ _)
  · split
    · exact rowT_fine hk hv hu
    · exact rowT_fine hk hu hv
  · exact rowT_fine hk hu hv
  · split
    · exact rowT_fine hk hv hu
    · exact rowT_fine hk hu hv

theorem readT_fine (m u : TD) (hm : m.fine) (hu : u.fine) : (readT m u).fine := by
  induction m with
  | leaf k n => exact ⟨by omega, by omega, hm, hu⟩
  | two k a b => exact ⟨by omega, by omega, hm, hu⟩
  | three k c a v ihc iha ihv =>
    obtain rfl : k = 13 := hm.1
    simp only [readT]
    repeat' split
    · exact hm.2.2.2
    · exact ihc hm.2.1
    · exact ⟨by omega, by omega, hm, hu⟩

theorem leftT_fine (m u : TD) (hm : m.fine) : (leftT m u).fine := by
  induction m with
  | leaf k n => exact hm
  | two k a b => exact hm
  | three k c a v ihc iha ihv =>
    obtain rfl : k = 13 := hm.1
    simp only [leftT]
    repeat' split
    · exact hm.2.1
    · exact ⟨rfl, ihc hm.2.1, hm.2.2.1, hm.2.2.2⟩
    · exact hm

theorem laidT_fine (m u v : TD) (hm : m.fine) (hu : u.fine) (hv : v.fine) : (laidT m u v).fine := by
  induction m with
  | leaf k n => exact ⟨rfl, hm, hu, hv⟩
  | two k a b => exact ⟨rfl, hm, hu, hv⟩
  | three k c a w ihc iha ihw =>
    obtain rfl : k = 13 := hm.1
    simp only [laidT]
    split
    · split
      · exact ⟨rfl, ihc hm.2.1, hm.2.2.1, hm.2.2.2⟩
      · exact ⟨rfl, hm, hu, hv⟩
    · exact ⟨rfl, hm, hu, hv⟩

theorem writtenT_fine (m u v : TD) (hm : m.fine) (hu : u.fine) (hv : v.fine) : (writtenT m u v).fine := by
  unfold writtenT
  split
  · exact hm
  · exact laidT_fine _ _ _ (leftT_fine _ _ hm) hu hv

end Go.Proofs.YtblhmeidbjigaaaGreatDoor

/- Runs as plain data; a run underway in memory: four lists of words, each in a block of its own. -/
set_option linter.unusedSimpArgs false
set_option linter.unusedVariables false
namespace Go.Proofs.YtblhmeidbjigaaaGreatDoor
open Go.RowKit

/-! ### Runs, pure -/

structure RunD where
  regs : List Int
  cells : List Int
  slots : List Int
  leak : List Int
  trap : Int

def rg (l : List Int) (i : Int) : Int := l.getD i.toNat 0
def stI (l : List Int) (i v : Int) : List Int := l.set i.toNat v

/-- A Load or Store of the cell n: it is let out. -/
def RunD.out (s : RunD) (n : Int) : RunD := ⟨s.regs, s.cells, s.slots, s.leak ++ [n], s.trap⟩
def RunD.reg (s : RunD) (i v : Int) : RunD := ⟨stI s.regs i v, s.cells, s.slots, s.leak, s.trap⟩
def RunD.cell (s : RunD) (i v : Int) : RunD := ⟨s.regs, stI s.cells i v, s.slots, s.leak, s.trap⟩
/-! ### In memory -/

def ints (l : List Int) : List Value := l.map (.int .i64)

theorem ints_length (l : List Int) : (ints l).length = l.length := by simp [ints]
theorem ints_snoc (l : List Int) (v : Int) : ints (l ++ [v]) = ints l ++ [.int .i64 v] := by simp [ints]

theorem Tryz.infoInt : (Tryz.prog.info? 3).map (fun i => (i.zero, i.size, i.bytes)) = some (some (.int .i64 0), 1, 8) := by kernel_rfl

section
variable {K : Nat → Prop} {w w' : World} {rv cv sv lv : Value} {s : RunD}

end

end Go.Proofs.YtblhmeidbjigaaaGreatDoor

/- A block's terms, worked out, are what its run leaves: pure. -/
set_option linter.unusedSimpArgs false
set_option linter.unusedVariables false
noncomputable section
namespace Go.Proofs.YtblhmeidbjigaaaGreatDoor
open Go.RowKit Classical

theorem firstT_fine {names : List Int} (hn : ∀ x ∈ names, x ≤ 1000) {place : Int} (hp : 0 ≤ place ∧ place ≤ 1000) : (firstT names place).fine := by
  unfold firstT
  split
  · exact ⟨.inr (.inr (.inr ⟨rfl, rfl⟩)), w64_small (by omega)⟩
  · split
    · exact ⟨.inr (.inr (.inl rfl)), w64_small (by omega)⟩
    · rename_i h1 h2
      have hm : names.getD place.toNat 0 ∈ names := getD_mem' (by omega)
      have := hn _ hm
      exact ⟨.inr (.inl rfl), w64_small (by omega)⟩

/-- The fields of a good operation. -/
theorem good_fields {regs slots : Int} {o : OpD} (h : opGood regs slots o = true) :
    (o.kind = 1 ∧ (0 ≤ o.a ∧ o.a < regs) ∧ (0 ≤ o.b ∧ o.b < 256) ∧ (0 ≤ o.c ∧ o.c < 256)) ∨
    ((o.kind = 2 ∨ o.kind = 12 ∨ o.kind = 13) ∧ (0 ≤ o.a ∧ o.a < regs) ∧ (0 ≤ o.b ∧ o.b < regs)) ∨
    ((3 ≤ o.kind ∧ o.kind ≤ 11) ∧ (0 ≤ o.a ∧ o.a < regs) ∧ (0 ≤ o.b ∧ o.b < regs) ∧ (0 ≤ o.c ∧ o.c < regs)) ∨
    (o.kind = 14 ∧ (0 ≤ o.a ∧ o.a < slots) ∧ (0 ≤ o.b ∧ o.b < regs)) ∨
    (o.kind = 15 ∧ (0 ≤ o.a ∧ o.a < regs) ∧ (0 ≤ o.b ∧ o.b < slots)) := by
  unfold opGood at h
  repeat' split at h
  all_goals simp [below] at h
  all_goals omega

theorem opsGood_getD {regs slots : Int} {ops : List OpD} (h : opsGood regs slots ops = true) {k : Nat} (hk : k < ops.length) : opGood regs slots (ops.getD k oz) = true :=
  List.all_eq_true.1 h _ (getD_mem' hk)

theorem behindT_fine {regs slots : Int} {names : List Int} {ops : List OpD} (hr : 0 ≤ regs ∧ regs ≤ 100) (hs : 0 ≤ slots ∧ slots ≤ 100) (hn : ∀ x ∈ names, x ≤ 1000) (hg : opsGood regs slots ops = true) :
    ∀ (k : Nat), k ≤ ops.length → ∀ place : Int, 0 ≤ place → place ≤ regs + slots → (behindT regs slots names ops k place).fine := by
  intro k
  induction k with
  | zero => intro _ place h0 h1; exact firstT_fine hn ⟨h0, by omega⟩
  | succ k ih =>
    intro hk place h0 h1
    have ih := ih (by omega)
    have hf := good_fields (opsGood_getD hg (show k < ops.length by omega))
    simp only [behindT]
    generalize ops.getD k oz = o at *
    repeat' split
    · exact ih place h0 h1
    · exact tnum_fine (w64_small (by omega))
    · exact ih _ (by omega) (by omega)
    · exact ih _ (by omega) (by omega)
    · exact readT_fine _ _ (ih _ (by omega) (by omega)) (ih _ (by omega) (by omega))
    · exact writtenT_fine _ _ _ (ih _ (by omega) (by omega)) (ih _ (by omega) (by omega)) (ih _ (by omega) (by omega))
    · exact madeT_fine (by omega) (ih _ (by omega) (by omega)) (ih _ (by omega) (by omega))

end Go.Proofs.YtblhmeidbjigaaaGreatDoor

/- How great terms become: pure. -/
set_option linter.unusedSimpArgs false
set_option linter.unusedVariables false
noncomputable section
namespace Go.Proofs.YtblhmeidbjigaaaGreatDoor
open Go.RowKit Classical

theorem addN_size : ∀ (u : TD) (k : Int), (addN u k).size ≤ u.size + 2 := by
  intro u
  induction u with
  | leaf q n =>
    intro k
    simp only [addN]
    repeat' split
    all_goals simp only [tnum, TD.size]; omega
  | two q a b iha ihb =>
    intro k
    simp only [addN]
    split
    · omega
    · split
      · rename_i m _
        have h1 := iha (wrap64 (m + k))
        simp only [TD.size]
        omega
      · simp only [tnum, TD.size]; omega
  | three q a b c =>
    intro k
    simp only [addN]
    split
    · omega
    · simp only [tnum, TD.size]; omega

theorem besideT_size {kind n : Int} {u t : TD} (h : besideT kind u n = some t) : t.size ≤ u.size + 2 := by
  have hp := u.size_pos
  unfold besideT at h
  repeat' split at h
  all_goals first
    | (cases h; done)
    | (simp only [Option.some.injEq] at h; subst h; first | omega | exact addN_size _ _ | (simp only [tnum, TD.size]; omega))
    | skip
  cases hu : u.isPlus with
  | none => rw [hu] at h; cases h
  | some p =>
    obtain ⟨a, m⟩ := p
    rw [hu] at h
    simp only [Option.map_some, Option.some.injEq] at h
    subst h
    have e := isPlus_some hu
    subst e
    have := addN_size a (wrap64 (m + n))
    simp only [tnum, TD.size]
    omega

theorem rowT_size (kind : Int) (u v : TD) : (rowT kind u v).size ≤ 1 + u.size + v.size := by
  have hu := u.size_pos
  have hv := v.size_pos
  unfold rowT
  split
  · rename_i t ht
    cases hn : v.isNum with
    | none => rw [hn] at ht; cases ht
    | some n =>
      rw [hn] at ht
      have := besideT_size (by simpa using ht)
      omega
  · repeat' split
    all_goals (try simp only [tnum, TD.size]); omega

theorem madeT_size (kind : Int) (u v : TD) : (madeT kind u v).size ≤ 1 + u.size + v.size := by
  have h1 := rowT_size kind u v
  have h2 := rowT_size kind v u
  have hu := u.size_pos
  unfold madeT
  repeat' split
  all_goals (try simp only [tnum, TD.size]); omega

theorem readT_size (m u : TD) : (readT m u).size ≤ 1 + m.size + u.size := by
  induction m with
  | leaf k n => simp only [readT, TD.size]; omega
  | two k a b => simp only [readT, TD.size]; omega
  | three k c a v ihc iha ihv =>
    by_cases hk : k = 13
    · subst hk
      simp only [readT]
      repeat' split
      all_goals (try simp only [TD.size] at *); omega
    · have e : readT (.three k c a v) u = .two 12 (.three k c a v) u := by
        unfold readT
        split
        · rename_i h; cases h; exact absurd rfl hk
        · rfl
      rw [e]
      simp only [TD.size]
      omega

theorem leftT_size (m u : TD) : (leftT m u).size ≤ m.size := by
  induction m with
  | leaf k n => simp only [leftT]; omega
  | two k a b => simp only [leftT]; omega
  | three k c a v ihc iha ihv =>
    by_cases hk : k = 13
    · subst hk
      simp only [leftT]
      repeat' split
      all_goals (try simp only [TD.size] at *); omega
    · have e : leftT (.three k c a v) u = .three k c a v := by
        unfold leftT
        split
        · rename_i h; cases h; exact absurd rfl hk
        · rfl
      rw [e]
      omega

theorem laidT_size (m u v : TD) : (laidT m u v).size ≤ 1 + m.size + u.size + v.size := by
  induction m with
  | leaf k n => simp only [laidT, TD.size]; omega
  | two k a b => simp only [laidT, TD.size]; omega
  | three k c a w ihc iha ihw =>
    by_cases hk : k = 13
    · subst hk
      simp only [laidT]
      repeat' split
      all_goals (try simp only [TD.size] at *); omega
    · have e : laidT (.three k c a w) u v = .three 13 (.three k c a w) u v := by
        unfold laidT
        split
        · rename_i h; cases h; exact absurd rfl hk
        · rfl
      rw [e]
      simp only [TD.size]
      omega

theorem writtenT_size (m u v : TD) : (writtenT m u v).size ≤ 1 + m.size + u.size + v.size := by
  have h1 := leftT_size m u
  have h2 := laidT_size (leftT m u) u v
  unfold writtenT
  split <;> omega

/-- Behind k operations a term has at most so many parts. -/
def most : Nat → Nat
  | 0 => 1
  | k + 1 => 1 + 3 * most k

theorem most_pos (k : Nat) : 1 ≤ most k := by cases k <;> simp only [most] <;> omega

theorem behindT_size (regs slots : Int) (names : List Int) (ops : List OpD) : ∀ (k : Nat) (place : Int), (behindT regs slots names ops k place).size ≤ most k := by
  intro k
  induction k with
  | zero =>
    intro place
    simp only [behindT, firstT, most]
    repeat' split
    all_goals simp only [TD.size]; omega
  | succ k ih =>
    intro place
    have hp := most_pos k
    simp only [behindT, most]
    repeat' split
    · have := ih place; omega
    · simp only [tnum, TD.size]; omega
    · have := ih (ops.getD k oz).b; omega
    · have := ih (regs + (ops.getD k oz).b); omega
    · have h1 := readT_size (behindT regs slots names ops k (regs + slots)) (behindT regs slots names ops k (ops.getD k oz).b)
      have := ih (regs + slots)
      have := ih (ops.getD k oz).b
      omega
    · have h1 := writtenT_size (behindT regs slots names ops k (regs + slots)) (behindT regs slots names ops k (ops.getD k oz).a) (behindT regs slots names ops k (ops.getD k oz).b)
      have := ih (regs + slots)
      have := ih (ops.getD k oz).a
      have := ih (ops.getD k oz).b
      omega
    · have h1 := madeT_size (ops.getD k oz).kind (behindT regs slots names ops k (ops.getD k oz).b) (behindT regs slots names ops k (ops.getD k oz).c)
      have := ih (ops.getD k oz).b
      have := ih (ops.getD k oz).c
      omega

theorem most_mono {j k : Nat} (h : j ≤ k) : most j ≤ most k := by
  induction k with
  | zero => obtain rfl : j = 0 := (by omega); exact Nat.le_refl _
  | succ k ih =>
    by_cases e : j = k + 1
    · subst e; exact Nat.le_refl _
    · have := ih (by omega)
      simp only [most]
      omega

end Go.Proofs.YtblhmeidbjigaaaGreatDoor

/- Terms in memory: trees of blocks, which nobody writes into; strconv.Itoa and its table. -/
set_option linter.unusedSimpArgs false
set_option linter.unusedVariables false
namespace Go.Proofs
open Go.Shelf
shelf_lay LaysM.n171 Nm 171 at Tryz as Tryz.laysItoa
end Go.Proofs
namespace Go.Proofs.YtblhmeidbjigaaaGreatDoor
open Go.RowKit Go.Shelf

/-- The library's table of the powers of ten lies as its initialiser lays it. -/
def TabW (w : World) : Prop := Lib.TabIs Tryz.prog w "internal/strconv.uint64pow10" .u64 Lib.pow10Tab

theorem tabGlobal : ∃ g, Tryz.prog.globalNamed "internal/strconv.uint64pow10" = some g :=
  Option.isSome_iff_exists.1 (show (Tryz.prog.globalNamed "internal/strconv.uint64pow10").isSome = true by kernel_rfl)

theorem TabW.keep {w w' : World} (h : TabW w) (hb : Below w.heap.size w w') : TabW w' :=
  let ⟨_, hg⟩ := tabGlobal
  Joins.tab_stays hg h hb (Nat.le_refl _)

theorem below_grown_it (w : World) (q : Nat) (os : Array Obj) : Below w.heap.size w (Sort.grow (w.drewN q) os) :=
  ⟨rfl, rfl, rfl, by first | (simp [Sort.grow]; done) | (simp [Sort.grow]; omega), fun i hi => by
    show ((w.drewN q).heap ++ os)[i]? = _
    rw [Array.getElem?_append_left (by show i < w.heap.size; omega)]
    rfl⟩

theorem itoa_any (n : Int) (hn : W64 n) (w : World) (ht : TabW w) :
    Calls Tryz.prog 41 #[.int .i64 n] w fun e w' => e = .returned (.string (str (Lib.itoa n))) ∧ Below w.heap.size w w' :=
  (Any.strconv_Itoa Tryz.laysItoa n hn.1 hn.2 w ht).mono fun e w' ⟨he, k, os, hw⟩ => ⟨he, by
    rw [hw]
    exact below_grown_it _ _ _⟩

/-- A term's tree at block g. -/
def TreeAt (w : World) : TD → Nat → Prop
  | .leaf k n, g => Row w g 131 [.int .i64 k, .int .i64 n, .pointer none, .pointer none, .pointer none]
  | .two k a b, g => ∃ ga gb, Row w g 131 [.int .i64 k, .int .i64 0, .pointer (some ⟨ga, 0, none⟩), .pointer (some ⟨gb, 0, none⟩), .pointer none] ∧ TreeAt w a ga ∧ TreeAt w b gb
  | .three k a b c, g => ∃ ga gb gc, Row w g 131 [.int .i64 k, .int .i64 0, .pointer (some ⟨ga, 0, none⟩), .pointer (some ⟨gb, 0, none⟩), .pointer (some ⟨gc, 0, none⟩)] ∧ TreeAt w a ga ∧ TreeAt w b gb ∧ TreeAt w c gc

theorem TreeAt.keep {w w' : World} {t : TD} {g : Nat} (h : TreeAt w t g) (hb : Below w.heap.size w w') : TreeAt w' t g := by
  induction t generalizing g with
  | leaf k n => exact Row.keep h hb
  | two k a b iha ihb => obtain ⟨ga, gb, h1, h2, h3⟩ := h; exact ⟨ga, gb, h1.keep hb, iha h2, ihb h3⟩
  | three k a b c iha ihb ihc => obtain ⟨ga, gb, gc, h1, h2, h3, h4⟩ := h; exact ⟨ga, gb, gc, h1.keep hb, iha h2, ihb h3, ihc h4⟩

theorem TreeAt.lt {w : World} {t : TD} {g : Nat} (h : TreeAt w t g) : g < w.heap.size := by
  cases t with
  | leaf k n => exact Row.lt h
  | two k a b => obtain ⟨ga, gb, h1, _⟩ := h; exact h1.lt
  | three k a b c => obtain ⟨ga, gb, gc, h1, _⟩ := h; exact h1.lt

theorem TreeAt.drewN {w : World} {t : TD} {g : Nat} (h : TreeAt w t g) (n : Nat) : TreeAt (w.drewN n) t g := h.keep (below_drewN (Below.refl _ _) n)

/-- A term's number: of what is no leaf 0. -/
def TD.num : TD → Int
  | .leaf _ n => n
  | _ => 0

theorem TreeAt.kindc {w : World} {t : TD} {g : Nat} (h : TreeAt w t g) : w.cell? ⟨g, 0, none⟩ = some (.int .i64 t.kind) := by
  cases t with
  | leaf k n => exact Row.cell (i := 0) h rfl
  | two k a b => obtain ⟨ga, gb, h1, _⟩ := h; exact h1.cell (i := 0) rfl
  | three k a b c => obtain ⟨ga, gb, gc, h1, _⟩ := h; exact h1.cell (i := 0) rfl

theorem TreeAt.numc {w : World} {t : TD} {g : Nat} (h : TreeAt w t g) : w.cell? ⟨g, 1, none⟩ = some (.int .i64 t.num) := by
  cases t with
  | leaf k n => exact Row.cell (i := 1) h rfl
  | two k a b => obtain ⟨ga, gb, h1, _⟩ := h; exact h1.cell (i := 1) rfl
  | three k a b c => obtain ⟨ga, gb, gc, h1, _⟩ := h; exact h1.cell (i := 1) rfl

theorem isNum_kind {t : TD} (h : t.fine) : t.kind = 100 ↔ t.isNum = some t.num := by
  cases t with
  | leaf k n => simp [TD.kind, TD.isNum, TD.num]
  | two k a b => obtain ⟨h1, h2, _⟩ := h; simp only [TD.kind, TD.isNum]; constructor; omega; intro e; cases e
  | three k a b c => obtain ⟨h1, _⟩ := h; simp only [TD.kind, TD.isNum]; constructor; omega; intro e; cases e

theorem isNum_none {t : TD} (h : t.fine) : t.kind ≠ 100 ↔ t.isNum = none := by
  cases t with
  | leaf k n => simp [TD.kind, TD.isNum]
  | two k a b => obtain ⟨h1, h2, _⟩ := h; simp only [TD.kind, TD.isNum]; constructor; intro _; trivial; intro _; omega
  | three k a b c => obtain ⟨h1, _⟩ := h; simp only [TD.kind, TD.isNum]; constructor; intro _; trivial; intro _; omega

end Go.Proofs.YtblhmeidbjigaaaGreatDoor

/- What a row's listed tables give: the table of powers. -/
set_option linter.unusedSimpArgs false
set_option linter.unusedVariables false
namespace Go.Proofs.YtblhmeidbjigaaaGreatDoor
open Go.ChangeShapes Go.WideShapes Go.ChangeAt Go.WideMaps Go.WideElems Go.RowKit

def laid3 : List (String × DataW Unit) := [("math/bits.deBruijn32tab", Rows.laid_math_bits_deBruijn32tab), ("math/bits.deBruijn64tab", Rows.laid_math_bits_deBruijn64tab), ("internal/strconv.uint64pow10", Rows.laid_internal_strconv_uint64pow10)]

theorem Tryz.own : ownKnob Tryz.prog.godebug = none := by kernel_rfl
set_option maxRecDepth 100000 in
theorem door_met (os : Os) (args : Array Value) : laidMetH Tryz.prog laid3 ((World.doorLaid Tryz.prog 400 os).forCall (fun _ _ => 0) ⟨#[], args, []⟩).memory :=
  laidMetH_of_parts3 (fuel := 8) (laidMet_of_run' 8 (by kernel_rfl) (by kernel_rfl)) (by kernel_rfl) (by kernel_rfl)

set_option maxRecDepth 100000 in
theorem tab_of_laid {W : World} (h : laidMetH Tryz.prog laid3 W) : TabW W := by
  have h0 : laidMet Tryz.prog laid3 W := h
  have h1 : laidMet Tryz.prog (("internal/strconv.uint64pow10", Lib.tabData .u64 Lib.pow10Tab) :: []) W := laidMet.tail (laidMet.tail h0)
  exact Lib.tabIs_of_head (g := 0) (t := 209) (e := 193) (n := 20) (by kernel_rfl) (by kernel_rfl) Tryz.underlying209 Tryz.underlying193 (by kernel_rfl) (by kernel_rfl) h1

end Go.Proofs.YtblhmeidbjigaaaGreatDoor

/- The reference's terms: num, sign, Size, Same, Show, turns, plus. -/
set_option linter.unusedSimpArgs false
set_option linter.unusedVariables false
namespace Go.Proofs.YtblhmeidbjigaaaGreatDoor
open Go.RowKit

set_option maxRecDepth 100000 in
theorem rNum_cps (n : Int) (w : World) (Post : Ending → World → Prop) (hp : ∀ g w', TreeAt w' (tnum n) g → Below w.heap.size w w' → Post (.returned (.pointer (some ⟨g, 0, none⟩))) w') :
    Calls Tryz.prog 111 #[.int .i64 n] w Post := by
  have HF : Hid (Post (.returned (.pointer (some ⟨w.heap.size, 0, none⟩))) (w.alloc (.cells #[.int .i64 100, .int .i64 n, .pointer none, .pointer none, .pointer none] 131))) :=
    hp _ _ (heap_alloc_new w _) ((Below.refl _ _).alloc (Nat.le_refl _) _)
  clear hp
  go_enter Tryz.func111, Tryz.ntmps111
  go_wp2
  exact HF.out

set_option maxRecDepth 100000 in
set_option maxHeartbeats 1000000 in
theorem rSign_any (k : Int) (hk : 3 ≤ k ∧ k ≤ 13) (w : World) : Calls Tryz.prog 75 #[.int .i64 k] w fun e w' => e = .returned (.string (str [signT k])) ∧ w = w' := by
  have h : k = 3 ∨ k = 4 ∨ k = 5 ∨ k = 6 ∨ k = 7 ∨ k = 8 ∨ k = 9 ∨ k = 10 ∨ k = 11 ∨ k = 12 ∨ k = 13 := by omega
  rcases h with rfl | rfl | rfl | rfl | rfl | rfl | rfl | rfl | rfl | rfl | rfl
  all_goals
    go_enter Tryz.func75, Tryz.ntmps75
    go_wp2
    go_ret
    exact ⟨rfl, rfl⟩

set_option maxRecDepth 100000 in
set_option maxHeartbeats 1000000 in
theorem rSize_any (t : TD) : ∀ (g : Nat) (w : World), TreeAt w t g → t.fine → t.size ≤ 4000000000000 →
    Calls Tryz.prog 74 #[.pointer (some ⟨g, 0, none⟩)] w fun e w' => e = .returned (.int .i64 t.size) ∧ w = w' := by
  induction t with
  | leaf k n =>
    intro g w h hf hs
    have c0 := h.kindc
    have hk : 100 ≤ k := by obtain ⟨hf, _⟩ := hf; omega
    simp only [TD.kind] at c0
    go_enter Tryz.func74, Tryz.ntmps74
    go_wp2
    go_ret
    exact ⟨rfl, rfl⟩
  | two k a b iha ihb =>
    intro g w h hf hs
    obtain ⟨ga, gb, hr, h1, h2⟩ := h
    obtain ⟨hk1, hk2, f1, f2⟩ := hf
    have hk : ¬ (100 ≤ k) := by omega
    have hk3 : k ≠ 13 := by omega
    simp only [TD.size] at hs ⊢
    have q1 := iha ga w h1 f1 (by omega)
    have q2 := ihb gb w h2 f2 (by omega)
    have c0 := hr.cell (i := 0) rfl
    have c2 := hr.cell (i := 2) rfl
    have c3 := hr.cell (i := 3) rfl
    have ha := a.size_pos
    have hb := b.size_pos
    clear iha ihb hr h1 h2 f1 f2
    generalize a.size = x at *
    generalize b.size = y at *
    go_enter Tryz.func74, Tryz.ntmps74
    go_wp2_with fail
    refine q1.mono ?_
    rintro e w1 ⟨rfl, rfl⟩
    go_wp2_with fail
    refine q2.mono ?_
    rintro e w1 ⟨rfl, rfl⟩
    go_wp2
    go_ret
    refine ⟨?_, rfl⟩
    congr 2
  | three k a b c iha ihb ihc =>
    intro g w h hf hs
    obtain ⟨ga, gb, gc, hr, h1, h2, h3⟩ := h
    obtain ⟨rfl, f1, f2, f3⟩ := hf
    simp only [TD.size] at hs ⊢
    have q1 := iha ga w h1 f1 (by omega)
    have q2 := ihb gb w h2 f2 (by omega)
    have q3 := ihc gc w h3 f3 (by omega)
    have c0 := hr.cell (i := 0) rfl
    have c2 := hr.cell (i := 2) rfl
    have c3 := hr.cell (i := 3) rfl
    have c4 := hr.cell (i := 4) rfl
    have ha := a.size_pos
    have hb := b.size_pos
    have hc := c.size_pos
    clear iha ihb ihc hr h1 h2 h3 f1 f2 f3
    generalize a.size = x at *
    generalize b.size = y at *
    generalize c.size = z at *
    go_enter Tryz.func74, Tryz.ntmps74
    go_wp2_with fail
    refine q1.mono ?_
    rintro e w1 ⟨rfl, rfl⟩
    go_wp2_with fail
    refine q2.mono ?_
    rintro e w1 ⟨rfl, rfl⟩
    go_wp2_with fail
    refine q3.mono ?_
    rintro e w1 ⟨rfl, rfl⟩
    go_wp2
    go_ret
    refine ⟨?_, rfl⟩
    congr 2

end Go.Proofs.YtblhmeidbjigaaaGreatDoor

/- The reference's terms: Show. -/
set_option linter.unusedSimpArgs false
set_option linter.unusedVariables false
namespace Go.Proofs.YtblhmeidbjigaaaGreatDoor
open Go.RowKit

theorem show_size {t : TD} (h : t.fine) (hs : t.size ≤ 4000000000000) : (str (showT t)).size ≤ 96000000000000 := by
  have := show_length h
  simp only [str, ByteArray.size, List.size_toArray]
  omega

theorem show_two (k : Int) (a b : TD) : (⟨#[40]⟩ : ByteArray) ++ str [signT k] ++ ⟨#[32]⟩ ++ str (showT a) ++ ⟨#[32]⟩ ++ str (showT b) ++ ⟨#[41]⟩ = str (showT (.two k a b)) := by
  show str [40] ++ str [signT k] ++ str [32] ++ str (showT a) ++ str [32] ++ str (showT b) ++ str [41] = _
  simp only [str_append, showT]
  congr 1
  simp

theorem show_three (k : Int) (a b c : TD) : (⟨#[40]⟩ : ByteArray) ++ str [signT k] ++ ⟨#[32]⟩ ++ str (showT a) ++ ⟨#[32]⟩ ++ str (showT b) ++ ⟨#[32]⟩ ++ str (showT c) ++ ⟨#[41]⟩ = str (showT (.three k a b c)) := by
  show str [40] ++ str [signT k] ++ str [32] ++ str (showT a) ++ str [32] ++ str (showT b) ++ str [32] ++ str (showT c) ++ str [41] = _
  simp only [str_append, showT]
  congr 1
  simp

theorem itoa_size {n : Int} (h : W64 n) : (str (Lib.itoa n)).size ≤ 21 := by
  have := Lib.itoa_length_le n h.1 h.2
  simp only [str, ByteArray.size, List.size_toArray]
  omega

set_option maxRecDepth 100000 in
set_option maxHeartbeats 2000000 in
theorem rShow_any (t : TD) : ∀ (g : Nat) (w : World), TreeAt w t g → TabW w → t.fine → t.size ≤ 4000000000000 →
    Calls Tryz.prog 38 #[.pointer (some ⟨g, 0, none⟩)] w fun e w' => e = .returned (.string (str (showT t))) ∧ Below w.heap.size w w' := by
  induction t with
  | leaf k n =>
    intro g w h htab hf hs
    have c0 := Row.cell (i := 0) h rfl
    have c1 := Row.cell (i := 1) h rfl
    obtain ⟨hk, hn⟩ := hf
    have hi := itoa_any n hn w htab
    have hz := itoa_size hn
    have H1 : Hid (∀ x : ByteArray, x = str (Lib.itoa n) → (⟨#[114]⟩ : ByteArray) ++ x = str (showT (.leaf 101 n)) ∧ (⟨#[120]⟩ : ByteArray) ++ x = str (showT (.leaf 102 n))) := by
      intro x hx
      subst hx
      constructor
      · show str [114] ++ _ = _
        rw [str_append]; simp [showT]
      · show str [120] ++ _ = _
        rw [str_append]; simp [showT]
    have H2 : Hid (str (Lib.itoa n) = str (showT (.leaf 100 n))) := by show _ = _; simp [showT]
    have H3 : Hid ((⟨#[109]⟩ : ByteArray) = str (showT (.leaf 103 n))) := by show str [109] = _; simp [showT]
    have H4 : Hid (∃ S, S = str (Lib.itoa n)) := ⟨_, rfl⟩
    obtain ⟨S, hS⟩ := H4.out
    rw [← hS] at hi hz H2
    have H1' := H1.out S hS
    clear H1 H4 hS
    have H1 : Hid (((⟨#[114]⟩ : ByteArray) ++ S = str (showT (.leaf 101 n)) ∧ (⟨#[120]⟩ : ByteArray) ++ S = str (showT (.leaf 102 n)))) := H1'
    clear H1'
    rcases hk with rfl | rfl | rfl | ⟨rfl, _⟩
    · generalize str (showT (.leaf 100 n)) = R at *
      go_enter Tryz.func38, Tryz.ntmps38
      go_wp2_with fail
      refine hi.mono ?_
      rintro e w1 ⟨rfl, hb⟩
      go_wp2
      go_ret
      exact ⟨by rw [← H2.out]; rfl, hb⟩
    · generalize str (showT (.leaf 101 n)) = R at *
      go_enter Tryz.func38, Tryz.ntmps38
      go_wp2_with fail
      refine hi.mono ?_
      rintro e w1 ⟨rfl, hb⟩
      go_wp2
      go_ret
      exact ⟨by rw [← H1.out.1]; rfl, hb⟩
    · generalize str (showT (.leaf 102 n)) = R at *
      go_enter Tryz.func38, Tryz.ntmps38
      go_wp2_with fail
      refine hi.mono ?_
      rintro e w1 ⟨rfl, hb⟩
      go_wp2
      go_ret
      exact ⟨by rw [← H1.out.2]; rfl, hb⟩
    · generalize str (showT (.leaf 103 n)) = R at *
      go_enter Tryz.func38, Tryz.ntmps38
      go_wp2
      go_ret
      exact ⟨by rw [← H3.out]; rfl, Below.refl _ _⟩
  | two k a b iha ihb =>
    intro g w h htab hf hs
    obtain ⟨ga, gb, hr, h1, h2⟩ := h
    obtain ⟨hk1, hk2, f1, f2⟩ := hf
    have hn0 : k ≠ 100 := by omega
    have hn1 : k ≠ 101 := by omega
    have hn2 : k ≠ 102 := by omega
    have hn3 : k ≠ 103 := by omega
    have hn4 : k ≠ 13 := by omega
    simp only [TD.size] at hs
    have z1 := show_size f1 (by omega)
    have z2 := show_size f2 (by omega)
    have HR : Hid (_ = _) := show_two k a b
    have q1 := iha ga w h1 htab f1 (by omega)
    have q2 := fun w' (hb : Below w.heap.size w w') => ihb gb w' (h2.keep hb) (htab.keep hb) f2 (by omega)
    have q3 := fun w' => rSign_any k ⟨hk1, by omega⟩ w'
    have zs : (str [signT k]).size = 1 := rfl
    generalize str [signT k] = S at *
    generalize str (showT a) = A at *
    generalize str (showT b) = B at *
    generalize str (showT (.two k a b)) = R at *
    have c0 := hr.cell (i := 0) rfl
    have c2 := hr.cell (i := 2) rfl
    clear iha ihb h1 h2 f1 f2
    go_enter Tryz.func38, Tryz.ntmps38
    go_wp2_with fail
    refine q1.mono ?_
    rintro e w1 ⟨rfl, hb1⟩
    have r1 := hr.keep hb1
    have d3 := r1.cell (i := 3) rfl
    clear c0 c2 q1
    go_wp2_with fail
    refine (q2 w1 hb1).mono ?_
    rintro e w2 ⟨rfl, hb2⟩
    have e0 := (r1.keep hb2).cell (i := 0) rfl
    have hb : Below w.heap.size w w2 := hb1.trans (hb2.mono hb1.size)
    clear d3 q2 hb1 hb2 r1 hr
    go_wp2_with fail
    refine (q3 w2).mono ?_
    rintro e w3 ⟨rfl, rfl⟩
    go_wp2
    go_ret
    refine ⟨?_, hb⟩
    rw [← HR.out]
    rfl
  | three k a b c iha ihb ihc =>
    intro g w h htab hf hs
    obtain ⟨ga, gb, gc, hr, h1, h2, h3⟩ := h
    obtain ⟨rfl, f1, f2, f3⟩ := hf
    simp only [TD.size] at hs
    have z1 := show_size f1 (by omega)
    have z2 := show_size f2 (by omega)
    have z3 := show_size f3 (by omega)
    have HR : Hid (_ = _) := show_three 13 a b c
    have q1 := iha ga w h1 htab f1 (by omega)
    have q2 := fun w' (hb : Below w.heap.size w w') => ihb gb w' (h2.keep hb) (htab.keep hb) f2 (by omega)
    have q4 := fun w' (hb : Below w.heap.size w w') => ihc gc w' (h3.keep hb) (htab.keep hb) f3 (by omega)
    have q3 := fun w' => rSign_any 13 (by omega) w'
    have zs : (str [signT 13]).size = 1 := rfl
    generalize str [signT 13] = S at *
    generalize str (showT a) = A at *
    generalize str (showT b) = B at *
    generalize str (showT c) = C at *
    generalize str (showT (.three 13 a b c)) = R at *
    have c0 := hr.cell (i := 0) rfl
    have c2 := hr.cell (i := 2) rfl
    clear iha ihb ihc h1 h2 h3 f1 f2 f3
    go_enter Tryz.func38, Tryz.ntmps38
    go_wp2_with fail
    refine q1.mono ?_
    rintro e w1 ⟨rfl, hb1⟩
    have r1 := hr.keep hb1
    have d3 := r1.cell (i := 3) rfl
    clear c0 c2 q1
    go_wp2_with fail
    refine (q2 w1 hb1).mono ?_
    rintro e w2 ⟨rfl, hb2⟩
    have r2 := r1.keep hb2
    have e0 := r2.cell (i := 0) rfl
    have e4 := r2.cell (i := 4) rfl
    have hb : Below w.heap.size w w2 := hb1.trans (hb2.mono hb1.size)
    clear d3 q2 hb1 hb2 r1 hr
    go_wp2_with fail
    refine (q3 w2).mono ?_
    rintro e w3 ⟨rfl, rfl⟩
    go_wp2_with fail
    refine (q4 w2 hb).mono ?_
    rintro e w3 ⟨rfl, hb3⟩
    have hb' : Below w.heap.size w w3 := hb.trans (hb3.mono hb.size)
    clear e0 e4 q4 hb hb3
    go_wp2
    go_ret
    refine ⟨?_, hb'⟩
    rw [← HR.out]
    rfl

end Go.Proofs.YtblhmeidbjigaaaGreatDoor

/- The reference's terms: Same, turns, plus, thing, Apart. -/
set_option linter.unusedSimpArgs false
set_option linter.unusedVariables false
namespace Go.Proofs.YtblhmeidbjigaaaGreatDoor
open Go.RowKit

noncomputable def sameT (t u : TD) : Bool := @decide (t = u) (Classical.propDecidable _)

theorem sameT_self (t : TD) : sameT t t = true := by unfold sameT; simp
theorem sameT_ne {t u : TD} (h : t ≠ u) : sameT t u = false := by unfold sameT; simp [h]
theorem sameT_iff (t u : TD) : sameT t u = true ↔ t = u := by unfold sameT; simp

theorem quiet1 {P : Program} {f : FuncId} {args : Array Value} {w : World} {a n : Nat} {v : Value}
    (h : Calls P f args (w.drewN (a + n)) fun e w' => e = .returned v ∧ ∃ m, w' = (w.drewN (a + n)).drewN m) : Calls P f args (w.drewN (a + n)) fun e w'' => e = .returned v ∧ ∃ m, w'' = w.drewN (a + m) :=
  h.mono fun _ _ ⟨he, m, hm⟩ => ⟨he, n + m, by rw [hm, World.drewN_drewN, Nat.add_assoc]⟩

theorem quiet2 {P : Program} {f : FuncId} {args : Array Value} {w : World} {a b n : Nat} {v : Value}
    (h : Calls P f args (w.drewN (a + (b + n))) fun e w' => e = .returned v ∧ ∃ m, w' = (w.drewN (a + (b + n))).drewN m) : Calls P f args (w.drewN (a + (b + n))) fun e w'' => e = .returned v ∧ ∃ m, w'' = w.drewN (a + (b + m)) :=
  h.mono fun _ _ ⟨he, m, hm⟩ => ⟨he, n + m, by rw [hm, World.drewN_drewN]; congr 1; omega⟩

theorem quiet3 {P : Program} {f : FuncId} {args : Array Value} {w : World} {a b c n : Nat} {v : Value}
    (h : Calls P f args (w.drewN (a + (b + (c + n)))) fun e w' => e = .returned v ∧ ∃ m, w' = (w.drewN (a + (b + (c + n)))).drewN m) : Calls P f args (w.drewN (a + (b + (c + n)))) fun e w'' => e = .returned v ∧ ∃ m, w'' = w.drewN (a + (b + (c + m))) :=
  h.mono fun _ _ ⟨he, m, hm⟩ => ⟨he, n + m, by rw [hm, World.drewN_drewN]; congr 1; omega⟩

set_option maxRecDepth 100000 in
set_option maxHeartbeats 1000000 in
theorem rSame_off (t u : TD) (g h : Nat) (w : World) (h1 : TreeAt w t g) (h2 : TreeAt w u h) (hd : t.kind ≠ u.kind ∨ t.num ≠ u.num) :
    Calls Tryz.prog 91 #[.pointer (some ⟨g, 0, none⟩), .pointer (some ⟨h, 0, none⟩)] w fun e w' => e = .returned (.bool false) ∧ ∃ m, w' = w.drewN m := by
  have c0 := h1.kindc
  have c1 := h1.numc
  have d0 := h2.kindc
  have d1 := h2.numc
  clear h1 h2
  generalize t.kind = k at *
  generalize t.num = n at *
  generalize u.kind = k' at *
  generalize u.num = n' at *
  by_cases hk : k = k'
  · subst hk
    have hn : n ≠ n' := by simpa using hd
    have hn1 : decide (n = n') = false := by simp [hn]
    have hn2 : (n == n') = false := by simp [hn]
    go_enter Tryz.func91, Tryz.ntmps91
    go_wp2
    go_quiet (fail)
    go_wp2
    go_ret
    first | exact ⟨rfl, ⟨_, rfl⟩⟩ | exact ⟨rfl, ⟨_, by rw [World.drewN_drewN]⟩⟩
  · have hn1 : decide (k = k') = false := by simp [hk]
    have hn2 : (k == k') = false := by simp [hk]
    go_enter Tryz.func91, Tryz.ntmps91
    go_wp2
    go_quiet (fail)
    go_wp2
    go_ret
    first | exact ⟨rfl, ⟨_, rfl⟩⟩ | exact ⟨rfl, ⟨_, by rw [World.drewN_drewN]⟩⟩

set_option maxRecDepth 100000 in
set_option maxHeartbeats 2000000 in
theorem rSame_any (t : TD) : ∀ (u : TD) (g h : Nat) (w : World), TreeAt w t g → TreeAt w u h → t.fine → u.fine →
    Calls Tryz.prog 91 #[.pointer (some ⟨g, 0, none⟩), .pointer (some ⟨h, 0, none⟩)] w fun e w' => e = .returned (.bool (sameT t u)) ∧ ∃ m, w' = w.drewN m := by
  induction t with
  | leaf k n =>
    intro u g h w h1 h2 f1 f2
    by_cases hd : k ≠ u.kind ∨ n ≠ u.num
    · have hne : TD.leaf k n ≠ u := by intro e; subst e; simp [TD.kind, TD.num] at hd
      rw [sameT_ne hne]
      exact rSame_off _ _ _ _ _ h1 h2 hd
    · have hk : 100 ≤ k := by obtain ⟨hf, _⟩ := f1; omega
      have e : TD.leaf k n = u := by
        cases u with
        | leaf k' n' => simp [TD.kind, TD.num] at hd; rw [hd.1, hd.2]
        | two k' a b => simp [TD.kind] at hd; obtain ⟨_, q, _⟩ := f2; omega
        | three k' a b c => simp [TD.kind] at hd; obtain ⟨q, _⟩ := f2; omega
      subst e
      rw [sameT_self]
      have c0 := Row.cell (i := 0) h1 rfl
      have c1 := Row.cell (i := 1) h1 rfl
      have d0 := Row.cell (i := 0) h2 rfl
      have d1 := Row.cell (i := 1) h2 rfl
      go_enter Tryz.func91, Tryz.ntmps91
      go_wp2
      go_quiet (fail)
      go_wp2
      go_ret
      first | exact ⟨rfl, ⟨_, rfl⟩⟩ | exact ⟨rfl, ⟨_, by rw [World.drewN_drewN]⟩⟩
  | two k a b iha ihb =>
    intro u g h w h1 h2 f1 f2
    by_cases hd : k ≠ u.kind ∨ (0 : Int) ≠ u.num
    · have hne : TD.two k a b ≠ u := by intro e; subst e; simp [TD.kind, TD.num] at hd
      rw [sameT_ne hne]
      exact rSame_off _ _ _ _ _ h1 h2 hd
    · obtain ⟨hk1, hk2, fa, fb⟩ := f1
      obtain ⟨a', b', e⟩ : ∃ a' b', u = TD.two k a' b' := by
        cases u with
        | leaf k' n' => simp [TD.kind] at hd; obtain ⟨q, _⟩ := f2; omega
        | two k' a' b' => simp [TD.kind] at hd; exact ⟨a', b', by rw [hd.1]⟩
        | three k' a' b' c' => simp [TD.kind] at hd; obtain ⟨q, _⟩ := f2; omega
      subst e
      clear hd
      obtain ⟨ga, gb, r1, ta, tb⟩ := h1
      obtain ⟨ga', gb', r2, ta', tb'⟩ := h2
      obtain ⟨_, _, fa', fb'⟩ := f2
      have hk : ¬ (100 ≤ k) := by omega
      have hk3 : k ≠ 13 := by omega
      have q1 := fun w' (e : Below w.heap.size w w') => iha a' ga ga' w' (ta.keep e) (ta'.keep e) fa fa'
      have q2 := fun w' (e : Below w.heap.size w w') => ihb b' gb gb' w' (tb.keep e) (tb'.keep e) fb fb'
      clear iha ihb ta tb ta' tb'
      have c0 := r1.cell (i := 0) rfl
      have c1 := r1.cell (i := 1) rfl
      have c2 := r1.cell (i := 2) rfl
      have c3 := r1.cell (i := 3) rfl
      have d0 := r2.cell (i := 0) rfl
      have d1 := r2.cell (i := 1) rfl
      have d2 := r2.cell (i := 2) rfl
      have d3 := r2.cell (i := 3) rfl
      clear r1 r2
      have B1 : ∀ n, Below w.heap.size w (w.drewN n) := fun n => below_drewN (Below.refl _ _) n
      by_cases ea : a = a'
      · subst ea
        rw [sameT_self] at q1
        by_cases eb : b = b'
        · subst eb
          rw [sameT_self] at q2
          rw [sameT_self]
          go_enter Tryz.func91, Tryz.ntmps91
          go_wp2
          go_quiet (fail)
          revert nq
          intro n1
          go_wp2
          go_quiet (first | exact Calls.quiet_of (q1 _ (B1 _)) | exact quiet1 (q1 _ (B1 _)) | exact quiet2 (q1 _ (B1 _)) | exact quiet3 (q1 _ (B1 _)))
          revert nq
          intro n2
          go_wp2
          go_quiet (first | exact Calls.quiet_of (q2 _ (B1 _)) | exact quiet1 (q2 _ (B1 _)) | exact quiet2 (q2 _ (B1 _)) | exact quiet3 (q2 _ (B1 _)))
          go_wp2
          go_ret
          first | exact ⟨rfl, ⟨_, rfl⟩⟩ | exact ⟨rfl, ⟨_, by rw [World.drewN_drewN]⟩⟩
        · rw [sameT_ne eb] at q2
          rw [sameT_ne (by intro e; cases e; exact eb rfl)]
          go_enter Tryz.func91, Tryz.ntmps91
          go_wp2
          go_quiet (fail)
          revert nq
          intro n1
          go_wp2
          go_quiet (first | exact Calls.quiet_of (q1 _ (B1 _)) | exact quiet1 (q1 _ (B1 _)) | exact quiet2 (q1 _ (B1 _)) | exact quiet3 (q1 _ (B1 _)))
          revert nq
          intro n2
          go_wp2
          go_quiet (first | exact Calls.quiet_of (q2 _ (B1 _)) | exact quiet1 (q2 _ (B1 _)) | exact quiet2 (q2 _ (B1 _)) | exact quiet3 (q2 _ (B1 _)))
          go_wp2
          go_ret
          first | exact ⟨rfl, ⟨_, rfl⟩⟩ | exact ⟨rfl, ⟨_, by rw [World.drewN_drewN]⟩⟩
      · rw [sameT_ne ea] at q1
        rw [sameT_ne (by intro e; cases e; exact ea rfl)]
        go_enter Tryz.func91, Tryz.ntmps91
        go_wp2
        go_quiet (fail)
        revert nq
        intro n1
        go_wp2
        go_quiet (first | exact Calls.quiet_of (q1 _ (B1 _)) | exact quiet1 (q1 _ (B1 _)) | exact quiet2 (q1 _ (B1 _)) | exact quiet3 (q1 _ (B1 _)))
        go_wp2
        go_ret
        first | exact ⟨rfl, ⟨_, rfl⟩⟩ | exact ⟨rfl, ⟨_, by rw [World.drewN_drewN]⟩⟩
  | three k a b c iha ihb ihc =>
    intro u g h w h1 h2 f1 f2
    by_cases hd : k ≠ u.kind ∨ (0 : Int) ≠ u.num
    · have hne : TD.three k a b c ≠ u := by intro e; subst e; simp [TD.kind, TD.num] at hd
      rw [sameT_ne hne]
      exact rSame_off _ _ _ _ _ h1 h2 hd
    · obtain ⟨rfl, fa, fb, fc⟩ := f1
      obtain ⟨a', b', c', e⟩ : ∃ a' b' c', u = TD.three 13 a' b' c' := by
        cases u with
        | leaf k' n' => simp [TD.kind] at hd; obtain ⟨q, _⟩ := f2; omega
        | two k' a' b' => simp [TD.kind] at hd; obtain ⟨q, q', _⟩ := f2; omega
        | three k' a' b' c' => simp [TD.kind] at hd; exact ⟨a', b', c', by rw [hd.1]⟩
      subst e
      clear hd
      obtain ⟨ga, gb, gc, r1, ta, tb, tc⟩ := h1
      obtain ⟨ga', gb', gc', r2, ta', tb', tc'⟩ := h2
      obtain ⟨_, fa', fb', fc'⟩ := f2
      have q1 := fun w' (e : Below w.heap.size w w') => iha a' ga ga' w' (ta.keep e) (ta'.keep e) fa fa'
      have q2 := fun w' (e : Below w.heap.size w w') => ihb b' gb gb' w' (tb.keep e) (tb'.keep e) fb fb'
      have q3 := fun w' (e : Below w.heap.size w w') => ihc c' gc gc' w' (tc.keep e) (tc'.keep e) fc fc'
      clear iha ihb ihc ta tb tc ta' tb' tc'
      have c0 := r1.cell (i := 0) rfl
      have c1 := r1.cell (i := 1) rfl
      have c2 := r1.cell (i := 2) rfl
      have c3 := r1.cell (i := 3) rfl
      have c4 := r1.cell (i := 4) rfl
      have d0 := r2.cell (i := 0) rfl
      have d1 := r2.cell (i := 1) rfl
      have d2 := r2.cell (i := 2) rfl
      have d3 := r2.cell (i := 3) rfl
      have d4 := r2.cell (i := 4) rfl
      clear r1 r2
      have B1 : ∀ n, Below w.heap.size w (w.drewN n) := fun n => below_drewN (Below.refl _ _) n
      by_cases ea : a = a'
      · subst ea
        rw [sameT_self] at q1
        by_cases eb : b = b'
        · subst eb
          rw [sameT_self] at q2
          have es : sameT (.three 13 a b c) (.three 13 a b c') = sameT c c' := by
            by_cases ec : c = c'
            · subst ec; rw [sameT_self, sameT_self]
            · rw [sameT_ne ec, sameT_ne (by intro e; cases e; exact ec rfl)]
          rw [es]
          generalize sameT c c' = z at *
          go_enter Tryz.func91, Tryz.ntmps91
          go_wp2
          go_quiet (fail)
          revert nq
          intro n1
          go_wp2
          go_quiet (first | exact Calls.quiet_of (q1 _ (B1 _)) | exact quiet1 (q1 _ (B1 _)) | exact quiet2 (q1 _ (B1 _)) | exact quiet3 (q1 _ (B1 _)))
          revert nq
          intro n2
          go_wp2
          go_quiet (first | exact Calls.quiet_of (q2 _ (B1 _)) | exact quiet1 (q2 _ (B1 _)) | exact quiet2 (q2 _ (B1 _)) | exact quiet3 (q2 _ (B1 _)))
          revert nq
          intro n3
          go_wp2
          go_quiet (first | exact Calls.quiet_of (q3 _ (B1 _)) | exact quiet1 (q3 _ (B1 _)) | exact quiet2 (q3 _ (B1 _)) | exact quiet3 (q3 _ (B1 _)))
          go_wp2
          go_ret
          first | exact ⟨rfl, ⟨_, rfl⟩⟩ | exact ⟨rfl, ⟨_, by rw [World.drewN_drewN]⟩⟩
        · rw [sameT_ne eb] at q2
          rw [sameT_ne (by intro e; cases e; exact eb rfl)]
          go_enter Tryz.func91, Tryz.ntmps91
          go_wp2
          go_quiet (fail)
          revert nq
          intro n1
          go_wp2
          go_quiet (first | exact Calls.quiet_of (q1 _ (B1 _)) | exact quiet1 (q1 _ (B1 _)) | exact quiet2 (q1 _ (B1 _)) | exact quiet3 (q1 _ (B1 _)))
          revert nq
          intro n2
          go_wp2
          go_quiet (first | exact Calls.quiet_of (q2 _ (B1 _)) | exact quiet1 (q2 _ (B1 _)) | exact quiet2 (q2 _ (B1 _)) | exact quiet3 (q2 _ (B1 _)))
          go_wp2
          go_ret
          first | exact ⟨rfl, ⟨_, rfl⟩⟩ | exact ⟨rfl, ⟨_, by rw [World.drewN_drewN]⟩⟩
      · rw [sameT_ne ea] at q1
        rw [sameT_ne (by intro e; cases e; exact ea rfl)]
        go_enter Tryz.func91, Tryz.ntmps91
        go_wp2
        go_quiet (fail)
        revert nq
        intro n1
        go_wp2
        go_quiet (first | exact Calls.quiet_of (q1 _ (B1 _)) | exact quiet1 (q1 _ (B1 _)) | exact quiet2 (q1 _ (B1 _)) | exact quiet3 (q1 _ (B1 _)))
        go_wp2
        go_ret
        first | exact ⟨rfl, ⟨_, rfl⟩⟩ | exact ⟨rfl, ⟨_, by rw [World.drewN_drewN]⟩⟩

end Go.Proofs.YtblhmeidbjigaaaGreatDoor
