/- The reference's terms: Show. -/
import Derived.Test.YtblhmeidbjigaabGreatDoorRows
import Derived.WalkKit
import Derived.WalkSpells
import Derived.WalkLawsBesides
import Derived.Laws.BytesArg
import Derived.Deep.QuietTactic
import Derived.BigQuiet
import Derived.Deep.RegionHeld3
import Derived.Lib.ItoaNum
import Derived.Lib.ItoaLen
import Derived.OpenShut
import Derived.Maps.AppendAt
import Derived.Shelf.Strconv.Itoa3
import Derived.Shelf.Lay
import Derived.Ground.NamesProg
import Derived.Lib.SmallJoins
import Derived.Lib.Hide
import Derived.Test.YtblhmeidbjigaabGreatDoorPStoToRTrAAll

set_option linter.unusedSimpArgs false
set_option linter.unusedVariables false
namespace Go.Proofs.YtblhmeidbjigaabGreatDoor
open Go.RowKit

theorem show_size {t : TD} (h : t.fine) (hs : t.size ≤ 4000000000000) : (str (showT t)).size ≤ 96000000000000 := by
  have := show_length h
  simp only [str, ByteArray.size, List.size_toArray]
  omega

theorem show_two (k : Int) (a b : TD) : (⟨#[40]⟩ : ByteArray) ++ str [signT k] ++ ⟨#[32]⟩ ++ str (showT a) ++ ⟨#[32]⟩ ++ str (showT b) ++ ⟨#[41]⟩ = str (showT (.two k a b)) := by
  show str [40] ++ str [signT k] ++ str [32] ++ str (showT a) ++ str [32] ++ str (showT b) ++ str [41] = _
  simp only [str_append, showT]
  congr 1
  simp

theorem show_three (k : Int) (a b c : TD) : (⟨#[40]⟩ : ByteArray) ++ str [signT k] ++ ⟨#[32]⟩ ++ str (showT a) ++ ⟨#[32]⟩ ++ str (showT b) ++ ⟨#[32]⟩ ++ str (showT c) ++ ⟨#[41]⟩ = str (showT (.three k a b c)) := by
  show str [40] ++ str [signT k] ++ str [32] ++ str (showT a) ++ str [32] ++ str (showT b) ++ str [32] ++ str (showT c) ++ str [41] = _
  simp only [str_append, showT]
  congr 1
  simp

theorem itoa_size {n : Int} (h : W64 n) : (str (Lib.itoa n)).size ≤ 21 := by
  have := Lib.itoa_length_le n h.1 h.2
  simp only [str, ByteArray.size, List.size_toArray]
  omega

set_option maxRecDepth 100000 in
set_option maxHeartbeats 2000000 in
theorem rShow_any (t : TD) : ∀ (g : Nat) (w : World), TreeAt w t g → TabW w → t.fine → t.size ≤ 4000000000000 →
    Calls Tryz.prog 118 #[.pointer (some ⟨g, 0, none⟩)] w fun e w' => e = .returned (.string (str (showT t))) ∧ Below w.heap.size w w' := by
  induction t with
  | leaf k n =>
    intro g w h htab hf hs
    have c0 := Row.cell (i := 0) h rfl
    have c1 := Row.cell (i := 1) h rfl
    obtain ⟨hk, hn⟩ := hf
    have hi := itoa_any n hn w htab
    have hz := itoa_size hn
    have H1 : Hid (∀ x : ByteArray, x = str (Lib.itoa n) → (⟨#[114]⟩ : ByteArray) ++ x = str (showT (.leaf 101 n)) ∧ (⟨#[120]⟩ : ByteArray) ++ x = str (showT (.leaf 102 n))) := by
      intro x hx
      subst hx
      constructor
      · show str [114] ++ _ = _
        rw [str_append]; simp [showT]
      · show str [120] ++ _ = _
        rw [str_append]; simp [showT]
    have H2 : Hid (str (Lib.itoa n) = str (showT (.leaf 100 n))) := by show _ = _; simp [showT]
    have H3 : Hid ((⟨#[109]⟩ : ByteArray) = str (showT (.leaf 103 n))) := by show str [109] = _; simp [showT]
    have H4 : Hid (∃ S, S = str (Lib.itoa n)) := ⟨_, rfl⟩
    obtain ⟨S, hS⟩ := H4.out
    rw [← hS] at hi hz H2
    have H1' := H1.out S hS
    clear H1 H4 hS
    have H1 : Hid (((⟨#[114]⟩ : ByteArray) ++ S = str (showT (.leaf 101 n)) ∧ (⟨#[120]⟩ : ByteArray) ++ S = str (showT (.leaf 102 n)))) := H1'
    clear H1'
    rcases hk with rfl | rfl | rfl | ⟨rfl, _⟩
    · generalize str (showT (.leaf 100 n)) = R at *
      go_enter Tryz.func118, Tryz.ntmps118
      go_wp2_with fail
      refine hi.mono ?_
      rintro e w1 ⟨rfl, hb⟩
      go_wp2
      go_ret
      exact ⟨by rw [← H2.out]; rfl, hb⟩
    · generalize str (showT (.leaf 101 n)) = R at *
      go_enter Tryz.func118, Tryz.ntmps118
      go_wp2_with fail
      refine hi.mono ?_
      rintro e w1 ⟨rfl, hb⟩
      go_wp2
      go_ret
      exact ⟨by rw [← H1.out.1]; rfl, hb⟩
    · generalize str (showT (.leaf 102 n)) = R at *
      go_enter Tryz.func118, Tryz.ntmps118
      go_wp2_with fail
      refine hi.mono ?_
      rintro e w1 ⟨rfl, hb⟩
      go_wp2
      go_ret
      exact ⟨by rw [← H1.out.2]; rfl, hb⟩
    · generalize str (showT (.leaf 103 n)) = R at *
      go_enter Tryz.func118, Tryz.ntmps118
      go_wp2
      go_ret
      exact ⟨by rw [← H3.out]; rfl, Below.refl _ _⟩
  | two k a b iha ihb =>
    intro g w h htab hf hs
    obtain ⟨ga, gb, hr, h1, h2⟩ := h
    obtain ⟨hk1, hk2, f1, f2⟩ := hf
    have hn0 : k ≠ 100 := by omega
    have hn1 : k ≠ 101 := by omega
    have hn2 : k ≠ 102 := by omega
    have hn3 : k ≠ 103 := by omega
    have hn4 : k ≠ 13 := by omega
    simp only [TD.size] at hs
    have z1 := show_size f1 (by omega)
    have z2 := show_size f2 (by omega)
    have HR : Hid (_ = _) := show_two k a b
    have q1 := iha ga w h1 htab f1 (by omega)
    have q2 := fun w' (hb : Below w.heap.size w w') => ihb gb w' (h2.keep hb) (htab.keep hb) f2 (by omega)
    have q3 := fun w' => rSign_any k ⟨hk1, by omega⟩ w'
    have zs : (str [signT k]).size = 1 := rfl
    generalize str [signT k] = S at *
    generalize str (showT a) = A at *
    generalize str (showT b) = B at *
    generalize str (showT (.two k a b)) = R at *
    have c0 := hr.cell (i := 0) rfl
    have c2 := hr.cell (i := 2) rfl
    clear iha ihb h1 h2 f1 f2
    go_enter Tryz.func118, Tryz.ntmps118
    go_wp2_with fail
    refine q1.mono ?_
    rintro e w1 ⟨rfl, hb1⟩
    have r1 := hr.keep hb1
    have d3 := r1.cell (i := 3) rfl
    clear c0 c2 q1
    go_wp2_with fail
    refine (q2 w1 hb1).mono ?_
    rintro e w2 ⟨rfl, hb2⟩
    have e0 := (r1.keep hb2).cell (i := 0) rfl
    have hb : Below w.heap.size w w2 := hb1.trans (hb2.mono hb1.size)
    clear d3 q2 hb1 hb2 r1 hr
    go_wp2_with fail
    refine (q3 w2).mono ?_
    rintro e w3 ⟨rfl, rfl⟩
    go_wp2
    go_ret
    refine ⟨?_, hb⟩
    rw [← HR.out]
    rfl
  | three k a b c iha ihb ihc =>
    intro g w h htab hf hs
    obtain ⟨ga, gb, gc, hr, h1, h2, h3⟩ := h
    obtain ⟨rfl, f1, f2, f3⟩ := hf
    simp only [TD.size] at hs
    have z1 := show_size f1 (by omega)
    have z2 := show_size f2 (by omega)
    have z3 := show_size f3 (by omega)
    have HR : Hid (_ = _) := show_three 13 a b c
    have q1 := iha ga w h1 htab f1 (by omega)
    have q2 := fun w' (hb : Below w.heap.size w w') => ihb gb w' (h2.keep hb) (htab.keep hb) f2 (by omega)
    have q4 := fun w' (hb : Below w.heap.size w w') => ihc gc w' (h3.keep hb) (htab.keep hb) f3 (by omega)
    have q3 := fun w' => rSign_any 13 (by omega) w'
    have zs : (str [signT 13]).size = 1 := rfl
    generalize str [signT 13] = S at *
    generalize str (showT a) = A at *
    generalize str (showT b) = B at *
    generalize str (showT c) = C at *
    generalize str (showT (.three 13 a b c)) = R at *
    have c0 := hr.cell (i := 0) rfl
    have c2 := hr.cell (i := 2) rfl
    clear iha ihb ihc h1 h2 h3 f1 f2 f3
    go_enter Tryz.func118, Tryz.ntmps118
    go_wp2_with fail
    refine q1.mono ?_
    rintro e w1 ⟨rfl, hb1⟩
    have r1 := hr.keep hb1
    have d3 := r1.cell (i := 3) rfl
    clear c0 c2 q1
    go_wp2_with fail
    refine (q2 w1 hb1).mono ?_
    rintro e w2 ⟨rfl, hb2⟩
    have r2 := r1.keep hb2
    have e0 := r2.cell (i := 0) rfl
    have e4 := r2.cell (i := 4) rfl
    have hb : Below w.heap.size w w2 := hb1.trans (hb2.mono hb1.size)
    clear d3 q2 hb1 hb2 r1 hr
    go_wp2_with fail
    refine (q3 w2).mono ?_
    rintro e w3 ⟨rfl, rfl⟩
    go_wp2_with fail
    refine (q4 w2 hb).mono ?_
    rintro e w3 ⟨rfl, hb3⟩
    have hb' : Below w.heap.size w w3 := hb.trans (hb3.mono hb.size)
    clear e0 e4 q4 hb hb3
    go_wp2
    go_ret
    refine ⟨?_, hb'⟩
    rw [← HR.out]
    rfl

end Go.Proofs.YtblhmeidbjigaabGreatDoor

/- The reference's terms: Same, turns, plus, thing, Apart. -/
set_option linter.unusedSimpArgs false
set_option linter.unusedVariables false
namespace Go.Proofs.YtblhmeidbjigaabGreatDoor
open Go.RowKit

noncomputable def sameT (t u : TD) : Bool := @decide (t = u) (Classical.propDecidable _)

theorem sameT_self (t : TD) : sameT t t = true := by unfold sameT; simp
theorem sameT_ne {t u : TD} (h : t ≠ u) : sameT t u = false := by unfold sameT; simp [h]
theorem sameT_iff (t u : TD) : sameT t u = true ↔ t = u := by unfold sameT; simp

theorem quiet1 {P : Program} {f : FuncId} {args : Array Value} {w : World} {a n : Nat} {v : Value}
    (h : Calls P f args (w.drewN (a + n)) fun e w' => e = .returned v ∧ ∃ m, w' = (w.drewN (a + n)).drewN m) : Calls P f args (w.drewN (a + n)) fun e w'' => e = .returned v ∧ ∃ m, w'' = w.drewN (a + m) :=
  h.mono fun _ _ ⟨he, m, hm⟩ => ⟨he, n + m, by rw [hm, World.drewN_drewN, Nat.add_assoc]⟩

theorem quiet2 {P : Program} {f : FuncId} {args : Array Value} {w : World} {a b n : Nat} {v : Value}
    (h : Calls P f args (w.drewN (a + (b + n))) fun e w' => e = .returned v ∧ ∃ m, w' = (w.drewN (a + (b + n))).drewN m) : Calls P f args (w.drewN (a + (b + n))) fun e w'' => e = .returned v ∧ ∃ m, w'' = w.drewN (a + (b + m)) :=
  h.mono fun _ _ ⟨he, m, hm⟩ => ⟨he, n + m, by rw [hm, World.drewN_drewN]; congr 1; omega⟩

theorem quiet3 {P : Program} {f : FuncId} {args : Array Value} {w : World} {a b c n : Nat} {v : Value}
    (h : Calls P f args (w.drewN (a + (b + (c + n)))) fun e w' => e = .returned v ∧ ∃ m, w' = (w.drewN (a + (b + (c + n)))).drewN m) : Calls P f args (w.drewN (a + (b + (c + n)))) fun e w'' => e = .returned v ∧ ∃ m, w'' = w.drewN (a + (b + (c + m))) :=
  h.mono fun _ _ ⟨he, m, hm⟩ => ⟨he, n + m, by rw [hm, World.drewN_drewN]; congr 1; omega⟩

set_option maxRecDepth 100000 in
set_option maxHeartbeats 1000000 in
theorem rSame_off (t u : TD) (g h : Nat) (w : World) (h1 : TreeAt w t g) (h2 : TreeAt w u h) (hd : t.kind ≠ u.kind ∨ t.num ≠ u.num) :
    Calls Tryz.prog 157 #[.pointer (some ⟨g, 0, none⟩), .pointer (some ⟨h, 0, none⟩)] w fun e w' => e = .returned (.bool false) ∧ ∃ m, w' = w.drewN m := by
  have c0 := h1.kindc
  have c1 := h1.numc
  have d0 := h2.kindc
  have d1 := h2.numc
  clear h1 h2
  generalize t.kind = k at *
  generalize t.num = n at *
  generalize u.kind = k' at *
  generalize u.num = n' at *
  by_cases hk : k = k'
  · subst hk
    have hn : n ≠ n' := by simpa using hd
    have hn1 : decide (n = n') = false := by simp [hn]
    have hn2 : (n == n') = false := by simp [hn]
    go_enter Tryz.func157, Tryz.ntmps157
    go_wp2
    go_quiet (fail)
    go_wp2
    go_ret
    first | exact ⟨rfl, ⟨_, rfl⟩⟩ | exact ⟨rfl, ⟨_, by rw [World.drewN_drewN]⟩⟩
  · have hn1 : decide (k = k') = false := by simp [hk]
    have hn2 : (k == k') = false := by simp [hk]
    go_enter Tryz.func157, Tryz.ntmps157
    go_wp2
    go_quiet (fail)
    go_wp2
    go_ret
    first | exact ⟨rfl, ⟨_, rfl⟩⟩ | exact ⟨rfl, ⟨_, by rw [World.drewN_drewN]⟩⟩

set_option maxRecDepth 100000 in
set_option maxHeartbeats 2000000 in
theorem rSame_any (t : TD) : ∀ (u : TD) (g h : Nat) (w : World), TreeAt w t g → TreeAt w u h → t.fine → u.fine →
    Calls Tryz.prog 157 #[.pointer (some ⟨g, 0, none⟩), .pointer (some ⟨h, 0, none⟩)] w fun e w' => e = .returned (.bool (sameT t u)) ∧ ∃ m, w' = w.drewN m := by
  induction t with
  | leaf k n =>
    intro u g h w h1 h2 f1 f2
    by_cases hd : k ≠ u.kind ∨ n ≠ u.num
    · have hne : TD.leaf k n ≠ u := by intro e; subst e; simp [TD.kind, TD.num] at hd
      rw [sameT_ne hne]
      exact rSame_off _ _ _ _ _ h1 h2 hd
    · have hk : 100 ≤ k := by obtain ⟨hf, _⟩ := f1; omega
      have e : TD.leaf k n = u := by
        cases u with
        | leaf k' n' => simp [TD.kind, TD.num] at hd; rw [hd.1, hd.2]
        | two k' a b => simp [TD.kind] at hd; obtain ⟨_, q, _⟩ := f2; omega
        | three k' a b c => simp [TD.kind] at hd; obtain ⟨q, _⟩ := f2; omega
      subst e
      rw [sameT_self]
      have c0 := Row.cell (i := 0) h1 rfl
      have c1 := Row.cell (i := 1) h1 rfl
      have d0 := Row.cell (i := 0) h2 rfl
      have d1 := Row.cell (i := 1) h2 rfl
      go_enter Tryz.func157, Tryz.ntmps157
      go_wp2
      go_quiet (fail)
      go_wp2
      go_ret
      first | exact ⟨rfl, ⟨_, rfl⟩⟩ | exact ⟨rfl, ⟨_, by rw [World.drewN_drewN]⟩⟩
  | two k a b iha ihb =>
    intro u g h w h1 h2 f1 f2
    by_cases hd : k ≠ u.kind ∨ (0 : Int) ≠ u.num
    · have hne : TD.two k a b ≠ u := by intro e; subst e; simp [TD.kind, TD.num] at hd
      rw [sameT_ne hne]
      exact rSame_off _ _ _ _ _ h1 h2 hd
    · obtain ⟨hk1, hk2, fa, fb⟩ := f1
      obtain ⟨a', b', e⟩ : ∃ a' b', u = TD.two k a' b' := by
        cases u with
        | leaf k' n' => simp [TD.kind] at hd; obtain ⟨q, _⟩ := f2; omega
        | two k' a' b' => simp [TD.kind] at hd; exact ⟨a', b', by rw [hd.1]⟩
        | three k' a' b' c' => simp [TD.kind] at hd; obtain ⟨q, _⟩ := f2; omega
      subst e
      clear hd
      obtain ⟨ga, gb, r1, ta, tb⟩ := h1
      obtain ⟨ga', gb', r2, ta', tb'⟩ := h2
      obtain ⟨_, _, fa', fb'⟩ := f2
      have hk : ¬ (100 ≤ k) := by omega
      have hk3 : k ≠ 13 := by omega
      have q1 := fun w' (e : Below w.heap.size w w') => iha a' ga ga' w' (ta.keep e) (ta'.keep e) fa fa'
      have q2 := fun w' (e : Below w.heap.size w w') => ihb b' gb gb' w' (tb.keep e) (tb'.keep e) fb fb'
      clear iha ihb ta tb ta' tb'
      have c0 := r1.cell (i := 0) rfl
      have c1 := r1.cell (i := 1) rfl
      have c2 := r1.cell (i := 2) rfl
      have c3 := r1.cell (i := 3) rfl
      have d0 := r2.cell (i := 0) rfl
      have d1 := r2.cell (i := 1) rfl
      have d2 := r2.cell (i := 2) rfl
      have d3 := r2.cell (i := 3) rfl
      clear r1 r2
      have B1 : ∀ n, Below w.heap.size w (w.drewN n) := fun n => below_drewN (Below.refl _ _) n
      by_cases ea : a = a'
      · subst ea
        rw [sameT_self] at q1
        by_cases eb : b = b'
        · subst eb
          rw [sameT_self] at q2
          rw [sameT_self]
          go_enter Tryz.func157, Tryz.ntmps157
          go_wp2
          go_quiet (fail)
          revert nq
          intro n1
          go_wp2
          go_quiet (first | exact Calls.quiet_of (q1 _ (B1 _)) | exact quiet1 (q1 _ (B1 _)) | exact quiet2 (q1 _ (B1 _)) | exact quiet3 (q1 _ (B1 _)))
          revert nq
          intro n2
          go_wp2
          go_quiet (first | exact Calls.quiet_of (q2 _ (B1 _)) | exact quiet1 (q2 _ (B1 _)) | exact quiet2 (q2 _ (B1 _)) | exact quiet3 (q2 _ (B1 _)))
          go_wp2
          go_ret
          first | exact ⟨rfl, ⟨_, rfl⟩⟩ | exact ⟨rfl, ⟨_, by rw [World.drewN_drewN]⟩⟩
        · rw [sameT_ne eb] at q2
          rw [sameT_ne (by intro e; cases e; exact eb rfl)]
          go_enter Tryz.func157, Tryz.ntmps157
          go_wp2
          go_quiet (fail)
          revert nq
          intro n1
          go_wp2
          go_quiet (first | exact Calls.quiet_of (q1 _ (B1 _)) | exact quiet1 (q1 _ (B1 _)) | exact quiet2 (q1 _ (B1 _)) | exact quiet3 (q1 _ (B1 _)))
          revert nq
          intro n2
          go_wp2
          go_quiet (first | exact Calls.quiet_of (q2 _ (B1 _)) | exact quiet1 (q2 _ (B1 _)) | exact quiet2 (q2 _ (B1 _)) | exact quiet3 (q2 _ (B1 _)))
          go_wp2
          go_ret
          first | exact ⟨rfl, ⟨_, rfl⟩⟩ | exact ⟨rfl, ⟨_, by rw [World.drewN_drewN]⟩⟩
      · rw [sameT_ne ea] at q1
        rw [sameT_ne (by intro e; cases e; exact ea rfl)]
        go_enter Tryz.func157, Tryz.ntmps157
        go_wp2
        go_quiet (fail)
        revert nq
        intro n1
        go_wp2
        go_quiet (first | exact Calls.quiet_of (q1 _ (B1 _)) | exact quiet1 (q1 _ (B1 _)) | exact quiet2 (q1 _ (B1 _)) | exact quiet3 (q1 _ (B1 _)))
        go_wp2
        go_ret
        first | exact ⟨rfl, ⟨_, rfl⟩⟩ | exact ⟨rfl, ⟨_, by rw [World.drewN_drewN]⟩⟩
  | three k a b c iha ihb ihc =>
    intro u g h w h1 h2 f1 f2
    by_cases hd : k ≠ u.kind ∨ (0 : Int) ≠ u.num
    · have hne : TD.three k a b c ≠ u := by intro e; subst e; simp [TD.kind, TD.num] at hd
      rw [sameT_ne hne]
      exact rSame_off _ _ _ _ _ h1 h2 hd
    · obtain ⟨rfl, fa, fb, fc⟩ := f1
      obtain ⟨a', b', c', e⟩ : ∃ a' b' c', u = TD.three 13 a' b' c' := by
        cases u with
        | leaf k' n' => simp [TD.kind] at hd; obtain ⟨q, _⟩ := f2; omega
        | two k' a' b' => simp [TD.kind] at hd; obtain ⟨q, q', _⟩ := f2; omega
        | three k' a' b' c' => simp [TD.kind] at hd; exact ⟨a', b', c', by rw [hd.1]⟩
      subst e
      clear hd
      obtain ⟨ga, gb, gc, r1, ta, tb, tc⟩ := h1
      obtain ⟨ga', gb', gc', r2, ta', tb', tc'⟩ := h2
      obtain ⟨_, fa', fb', fc'⟩ := f2
      have q1 := fun w' (e : Below w.heap.size w w') => iha a' ga ga' w' (ta.keep e) (ta'.keep e) fa fa'
      have q2 := fun w' (e : Below w.heap.size w w') => ihb b' gb gb' w' (tb.keep e) (tb'.keep e) fb fb'
      have q3 := fun w' (e : Below w.heap.size w w') => ihc c' gc gc' w' (tc.keep e) (tc'.keep e) fc fc'
      clear iha ihb ihc ta tb tc ta' tb' tc'
      have c0 := r1.cell (i := 0) rfl
      have c1 := r1.cell (i := 1) rfl
      have c2 := r1.cell (i := 2) rfl
      have c3 := r1.cell (i := 3) rfl
      have c4 := r1.cell (i := 4) rfl
      have d0 := r2.cell (i := 0) rfl
      have d1 := r2.cell (i := 1) rfl
      have d2 := r2.cell (i := 2) rfl
      have d3 := r2.cell (i := 3) rfl
      have d4 := r2.cell (i := 4) rfl
      clear r1 r2
      have B1 : ∀ n, Below w.heap.size w (w.drewN n) := fun n => below_drewN (Below.refl _ _) n
      by_cases ea : a = a'
      · subst ea
        rw [sameT_self] at q1
        by_cases eb : b = b'
        · subst eb
          rw [sameT_self] at q2
          have es : sameT (.three 13 a b c) (.three 13 a b c') = sameT c c' := by
            by_cases ec : c = c'
            · subst ec; rw [sameT_self, sameT_self]
            · rw [sameT_ne ec, sameT_ne (by intro e; cases e; exact ec rfl)]
          rw [es]
          generalize sameT c c' = z at *
          go_enter Tryz.func157, Tryz.ntmps157
          go_wp2
          go_quiet (fail)
          revert nq
          intro n1
          go_wp2
          go_quiet (first | exact Calls.quiet_of (q1 _ (B1 _)) | exact quiet1 (q1 _ (B1 _)) | exact quiet2 (q1 _ (B1 _)) | exact quiet3 (q1 _ (B1 _)))
          revert nq
          intro n2
          go_wp2
          go_quiet (first | exact Calls.quiet_of (q2 _ (B1 _)) | exact quiet1 (q2 _ (B1 _)) | exact quiet2 (q2 _ (B1 _)) | exact quiet3 (q2 _ (B1 _)))
          revert nq
          intro n3
          go_wp2
          go_quiet (first | exact Calls.quiet_of (q3 _ (B1 _)) | exact quiet1 (q3 _ (B1 _)) | exact quiet2 (q3 _ (B1 _)) | exact quiet3 (q3 _ (B1 _)))
          go_wp2
          go_ret
          first | exact ⟨rfl, ⟨_, rfl⟩⟩ | exact ⟨rfl, ⟨_, by rw [World.drewN_drewN]⟩⟩
        · rw [sameT_ne eb] at q2
          rw [sameT_ne (by intro e; cases e; exact eb rfl)]
          go_enter Tryz.func157, Tryz.ntmps157
          go_wp2
          go_quiet (fail)
          revert nq
          intro n1
          go_wp2
          go_quiet (first | exact Calls.quiet_of (q1 _ (B1 _)) | exact quiet1 (q1 _ (B1 _)) | exact quiet2 (q1 _ (B1 _)) | exact quiet3 (q1 _ (B1 _)))
          revert nq
          intro n2
          go_wp2
          go_quiet (first | exact Calls.quiet_of (q2 _ (B1 _)) | exact quiet1 (q2 _ (B1 _)) | exact quiet2 (q2 _ (B1 _)) | exact quiet3 (q2 _ (B1 _)))
          go_wp2
          go_ret
          first | exact ⟨rfl, ⟨_, rfl⟩⟩ | exact ⟨rfl, ⟨_, by rw [World.drewN_drewN]⟩⟩
      · rw [sameT_ne ea] at q1
        rw [sameT_ne (by intro e; cases e; exact ea rfl)]
        go_enter Tryz.func157, Tryz.ntmps157
        go_wp2
        go_quiet (fail)
        revert nq
        intro n1
        go_wp2
        go_quiet (first | exact Calls.quiet_of (q1 _ (B1 _)) | exact quiet1 (q1 _ (B1 _)) | exact quiet2 (q1 _ (B1 _)) | exact quiet3 (q1 _ (B1 _)))
        go_wp2
        go_ret
        first | exact ⟨rfl, ⟨_, rfl⟩⟩ | exact ⟨rfl, ⟨_, by rw [World.drewN_drewN]⟩⟩

end Go.Proofs.YtblhmeidbjigaabGreatDoor

/- The reference's terms: turns, plus, thing, Apart. -/
set_option linter.unusedSimpArgs false
set_option linter.unusedVariables false
namespace Go.Proofs.YtblhmeidbjigaabGreatDoor
open Go.RowKit

theorem turnsT_eq (k : Int) : turnsT k = true ↔ (k = 3 ∨ k = 5 ∨ k = 6 ∨ k = 7 ∨ k = 8 ∨ k = 10) := by unfold turnsT; simp

theorem turnsT_no {k : Int} (h : ¬ (k = 3 ∨ k = 5 ∨ k = 6 ∨ k = 7 ∨ k = 8 ∨ k = 10)) : turnsT k = false := by unfold turnsT; simpa using h

set_option maxRecDepth 100000 in
set_option maxHeartbeats 1000000 in
theorem rTurns_any (k : Int) (hk : 3 ≤ k ∧ k ≤ 11) (w : World) : Calls Tryz.prog 192 #[.int .i64 k] w fun e w' => e = .returned (.bool (turnsT k)) ∧ w = w' := by
  have h : k = 3 ∨ k = 4 ∨ k = 5 ∨ k = 6 ∨ k = 7 ∨ k = 8 ∨ k = 9 ∨ k = 10 ∨ k = 11 := by omega
  have ht : ∀ j : Int, (j = 3 ∨ j = 5 ∨ j = 6 ∨ j = 7 ∨ j = 8 ∨ j = 10) → turnsT j = true := fun j h => (turnsT_eq j).2 h
  rcases h with rfl | rfl | rfl | rfl | rfl | rfl | rfl | rfl | rfl
  all_goals
    first | rw [ht _ (by omega)] | rw [turnsT_no (by omega)]
    go_enter Tryz.func192, Tryz.ntmps192
    go_wp2
    go_ret
    exact ⟨rfl, rfl⟩

theorem plus_kind {u : TD} (hf : u.fine) (h : u.kind = 3) : ∃ a b, u = .two 3 a b := by
  cases u with
  | leaf k n => obtain ⟨q, _⟩ := hf; simp only [TD.kind] at h; omega
  | two k a b => simp only [TD.kind] at h; exact ⟨a, b, by rw [h]⟩
  | three k a b c => obtain ⟨q, _⟩ := hf; simp only [TD.kind] at h; omega

set_option maxRecDepth 100000 in
set_option maxHeartbeats 1000000 in
theorem rPlus_any (u : TD) (g : Nat) (w : World) (h : TreeAt w u g) (hf : u.fine) : Calls Tryz.prog 215 #[.pointer (some ⟨g, 0, none⟩)] w fun e w' => e = .returned (.bool u.isPlus.isSome) ∧ w = w' := by
  have c0 := h.kindc
  by_cases hk : u.kind = 3
  · obtain ⟨a, b, rfl⟩ := plus_kind hf hk
    obtain ⟨ga, gb, r, ta, tb⟩ := h
    have c3 := r.cell (i := 3) rfl
    have d0 := tb.kindc
    simp only [TD.kind] at c0
    clear r ta tb
    by_cases hb : b.kind = 100
    · have e : b.isNum = some b.num := (isNum_kind hf.2.2.2).1 hb
      have e2 : ((TD.two 3 a b).isPlus).isSome = true := by simp [TD.isPlus, e]
      rw [e2]
      rw [hb] at d0
      go_enter Tryz.func215, Tryz.ntmps215
      go_wp2
      go_ret
      exact ⟨rfl, rfl⟩
    · have e : b.isNum = none := (isNum_none hf.2.2.2).1 hb
      have e2 : ((TD.two 3 a b).isPlus).isSome = false := by simp [TD.isPlus, e]
      rw [e2]
      have hd : decide (b.kind = 100) = false := by simp [hb]
      have hd2 : (b.kind == 100) = false := by simp [hb]
      clear e e2
      generalize b.kind = q at *
      go_enter Tryz.func215, Tryz.ntmps215
      go_wp2
      go_ret
      exact ⟨by simp [hb], rfl⟩
  · have e2 : u.isPlus.isSome = false := by
      cases u with
      | leaf k n => rfl
      | two k a b => simp only [TD.kind] at hk; simp [TD.isPlus, hk]
      | three k a b c => rfl
    rw [e2]
    have hd : decide (u.kind = 3) = false := by simp [hk]
    have hd2 : (u.kind == 3) = false := by simp [hk]
    clear e2
    generalize u.kind = q at *
    go_enter Tryz.func215, Tryz.ntmps215
    go_wp2
    go_ret
    exact ⟨rfl, rfl⟩

/-- What thing answers, in memory. -/
def ThingAt (w : World) (u : TD) (x : Value) : Prop :=
  match (thingT u).1 with
  | none => x = .pointer none
  | some a => ∃ ga, x = .pointer (some ⟨ga, 0, none⟩) ∧ TreeAt w a ga ∧ a.fine

set_option maxRecDepth 100000 in
set_option maxHeartbeats 1000000 in
theorem rThing_any (u : TD) (g : Nat) (w : World) (h : TreeAt w u g) (hf : u.fine) :
    ∃ x, ThingAt w u x ∧ ∀ w', Below w.heap.size w w' → Calls Tryz.prog 205 #[.pointer (some ⟨g, 0, none⟩)] w' fun e w'' => e = .returned (.tuple #[x, .int .i64 (thingT u).2]) ∧ ∃ m, w'' = w'.drewN m := by
  by_cases hk : u.kind = 100
  · have e := (isNum_kind hf).1 hk
    have e1 : thingT u = (none, u.num) := by simp [thingT, e]
    refine ⟨.pointer none, by simp [ThingAt, e1], fun w' hb => ?_⟩
    have c0 := (h.keep hb).kindc
    have c1 := (h.keep hb).numc
    rw [e1]
    rw [hk] at c0
    clear hk e e1 h hb
    generalize u.num = n at *
    go_enter Tryz.func205, Tryz.ntmps205
    go_wp2
    go_quiet (fail)
    go_wp2
    go_ret2
    exact ⟨rfl, ⟨_, rfl⟩⟩
  · have e := (isNum_none hf).1 hk
    have hd : decide (u.kind = 100) = false := by simp [hk]
    have hd2 : (u.kind == 100) = false := by simp [hk]
    cases hp : u.isPlus with
    | none =>
      have e1 : thingT u = (some u, 0) := by simp [thingT, e, hp]
      refine ⟨.pointer (some ⟨g, 0, none⟩), by simp only [ThingAt, e1]; exact ⟨g, rfl, h, hf⟩, fun w' hb => ?_⟩
      have c0 := (h.keep hb).kindc
      have q := rPlus_any u g w' (h.keep hb) hf
      rw [e1]
      rw [hp] at q
      simp only [Option.isSome_none] at q
      clear e e1 h hb hp
      generalize u.kind = n at *
      go_enter Tryz.func205, Tryz.ntmps205
      go_wp2_with fail
      refine q.mono ?_
      rintro e w1 ⟨rfl, rfl⟩
      go_wp2
      go_ret2
      exact ⟨rfl, ⟨0, rfl⟩⟩
    | some p =>
      obtain ⟨a, n⟩ := p
      have e0 := isPlus_some hp
      subst e0
      have e1 : thingT (.two 3 a (tnum n)) = (some a, n) := by simp [thingT, e, hp]
      obtain ⟨ga, gb, r, ta, tb⟩ := id h
      refine ⟨.pointer (some ⟨ga, 0, none⟩), by simp only [ThingAt, e1]; exact ⟨ga, rfl, ta, hf.2.2.1⟩, fun w' hb => ?_⟩
      have q := rPlus_any _ g w' (h.keep hb) hf
      rw [e1]
      rw [hp] at q
      simp only [Option.isSome_some] at q
      have r' := r.keep hb
      have tb' := tb.keep hb
      have c0 := r'.cell (i := 0) rfl
      have c2 := r'.cell (i := 2) rfl
      have c3 := r'.cell (i := 3) rfl
      have d1 := tb'.numc
      simp only [tnum, TD.num] at d1
      clear e e1 h hb hp r ta tb r' tb' hd hd2 hk
      go_enter Tryz.func205, Tryz.ntmps205
      go_wp2_with fail
      refine q.mono ?_
      rintro e w1 ⟨rfl, rfl⟩
      go_wp2
      go_quiet (fail)
      go_wp2
      go_ret2
      exact ⟨rfl, ⟨_, rfl⟩⟩

theorem apartT_iff (u v : TD) : apartT u v = true ↔ (thingT u).1 = (thingT v).1 ∧ (thingT u).2 ≠ (thingT v).2 := by unfold apartT; simp

theorem apartT_no {u v : TD} (h : ¬ ((thingT u).1 = (thingT v).1 ∧ (thingT u).2 ≠ (thingT v).2)) : apartT u v = false := by
  cases e : apartT u v with
  | false => rfl
  | true => exact absurd ((apartT_iff u v).1 e) h

set_option maxRecDepth 100000 in
set_option maxHeartbeats 2000000 in
theorem rApart_any (u v : TD) (g h : Nat) (w : World) (h1 : TreeAt w u g) (h2 : TreeAt w v h) (f1 : u.fine) (f2 : v.fine) :
    Calls Tryz.prog 189 #[.pointer (some ⟨g, 0, none⟩), .pointer (some ⟨h, 0, none⟩)] w fun e w' => e = .returned (.bool (apartT u v)) ∧ ∃ m, w' = w.drewN m := by
  obtain ⟨x, hx, qx⟩ := rThing_any u g w h1 f1
  obtain ⟨y, hy, qy⟩ := rThing_any v h w h2 f2
  have B1 : ∀ n, Below w.heap.size w (w.drewN n) := fun n => below_drewN (Below.refl _ _) n
  have qx := qx w (Below.refl _ _)
  have qy := fun n => qy (w.drewN n) (B1 n)
  have HA : Hid (∀ z, ((thingT u).1 = (thingT v).1 ∧ (thingT u).2 ≠ (thingT v).2 ↔ z = true) → apartT u v = z) := by
    intro z hz
    cases z with
    | true => exact (apartT_iff u v).2 (hz.2 rfl)
    | false => exact apartT_no (fun q => by have := hz.1 q; cases this)
  unfold ThingAt at hx hy
  obtain ⟨a, ea⟩ : ∃ a, (thingT u).1 = a := ⟨_, rfl⟩
  obtain ⟨b, eb⟩ : ∃ b, (thingT v).1 = b := ⟨_, rfl⟩
  rw [ea] at hx HA
  rw [eb] at hy HA
  generalize (thingT u).2 = m at *
  generalize (thingT v).2 = n at *
  generalize apartT u v = R at *
  clear ea eb h1 h2 f1 f2
  cases a with
  | none =>
    simp only at hx
    subst hx
    cases b with
    | none =>
      simp only at hy
      subst hy
      by_cases hmn : m = n
      · subst hmn
        obtain rfl := HA.out false (by simp)
        go_enter Tryz.func189, Tryz.ntmps189
        go_wp2_with fail
        refine qx.mono ?_
        rintro e w1 ⟨rfl, k, rfl⟩
        go_wp2_with fail
        refine (qy k).mono ?_
        rintro e w1 ⟨rfl, j, rfl⟩
        go_wp2
        go_ret
        first | exact ⟨rfl, ⟨_, rfl⟩⟩ | exact ⟨rfl, ⟨_, by rw [World.drewN_drewN]⟩⟩
      · obtain rfl := HA.out true (by simp [hmn])
        have hd : decide (m = n) = false := by simp [hmn]
        have hd2 : (m == n) = false := by simp [hmn]
        go_enter Tryz.func189, Tryz.ntmps189
        go_wp2_with fail
        refine qx.mono ?_
        rintro e w1 ⟨rfl, k, rfl⟩
        go_wp2_with fail
        refine (qy k).mono ?_
        rintro e w1 ⟨rfl, j, rfl⟩
        go_wp2
        go_ret
        first | exact ⟨by simp [hmn], ⟨_, rfl⟩⟩ | exact ⟨by simp [hmn], ⟨_, by rw [World.drewN_drewN]⟩⟩
    | some b =>
      obtain ⟨gb, rfl, tb, fb⟩ := hy
      obtain rfl := HA.out false (by simp)
      go_enter Tryz.func189, Tryz.ntmps189
      go_wp2_with fail
      refine qx.mono ?_
      rintro e w1 ⟨rfl, k, rfl⟩
      go_wp2_with fail
      refine (qy k).mono ?_
      rintro e w1 ⟨rfl, j, rfl⟩
      go_wp2
      go_ret
      first | exact ⟨rfl, ⟨_, rfl⟩⟩ | exact ⟨rfl, ⟨_, by rw [World.drewN_drewN]⟩⟩
  | some a =>
    obtain ⟨ga, rfl, ta, fa⟩ := hx
    cases b with
    | none =>
      simp only at hy
      subst hy
      obtain rfl := HA.out false (by simp)
      go_enter Tryz.func189, Tryz.ntmps189
      go_wp2_with fail
      refine qx.mono ?_
      rintro e w1 ⟨rfl, k, rfl⟩
      go_wp2_with fail
      refine (qy k).mono ?_
      rintro e w1 ⟨rfl, j, rfl⟩
      go_wp2
      go_ret
      first | exact ⟨rfl, ⟨_, rfl⟩⟩ | exact ⟨rfl, ⟨_, by rw [World.drewN_drewN]⟩⟩
    | some b =>
      obtain ⟨gb, rfl, tb, fb⟩ := hy
      have qs := fun n => rSame_any a b ga gb (w.drewN n) (ta.keep (B1 n)) (tb.keep (B1 n)) fa fb
      by_cases hab : a = b
      · rw [(sameT_iff a b).2 hab] at qs
        by_cases hmn : m = n
        · subst hmn
          obtain rfl := HA.out false (by simp)
          clear HA ta tb fa fb hab
          go_enter Tryz.func189, Tryz.ntmps189
          go_wp2_with fail
          refine qx.mono ?_
          rintro e w1 ⟨rfl, k, rfl⟩
          go_wp2_with fail
          refine (qy k).mono ?_
          rintro e w1 ⟨rfl, j, rfl⟩
          (try rw [World.drewN_drewN])
          go_wp2_with fail
          refine (qs _).mono ?_
          rintro e w1 ⟨rfl, i, rfl⟩
          go_wp2
          go_ret
          first | exact ⟨rfl, ⟨_, rfl⟩⟩ | exact ⟨rfl, ⟨_, by rw [World.drewN_drewN]⟩⟩
        · obtain rfl := HA.out true (by simp [hmn, hab])
          have hd : decide (m = n) = false := by simp [hmn]
          have hd2 : (m == n) = false := by simp [hmn]
          clear HA ta tb fa fb hab
          go_enter Tryz.func189, Tryz.ntmps189
          go_wp2_with fail
          refine qx.mono ?_
          rintro e w1 ⟨rfl, k, rfl⟩
          go_wp2_with fail
          refine (qy k).mono ?_
          rintro e w1 ⟨rfl, j, rfl⟩
          (try rw [World.drewN_drewN])
          go_wp2_with fail
          refine (qs _).mono ?_
          rintro e w1 ⟨rfl, i, rfl⟩
          go_wp2
          go_ret
          first | exact ⟨by simp [hmn], ⟨_, rfl⟩⟩ | exact ⟨by simp [hmn], ⟨_, by rw [World.drewN_drewN]⟩⟩
      · rw [sameT_ne hab] at qs
        obtain rfl := HA.out false (by simp [hab])
        clear HA ta tb fa fb hab
        go_enter Tryz.func189, Tryz.ntmps189
        go_wp2_with fail
        refine qx.mono ?_
        rintro e w1 ⟨rfl, k, rfl⟩
        go_wp2_with fail
        refine (qy k).mono ?_
        rintro e w1 ⟨rfl, j, rfl⟩
        (try rw [World.drewN_drewN])
        go_wp2_with fail
        refine (qs _).mono ?_
        rintro e w1 ⟨rfl, i, rfl⟩
        go_wp2
        go_ret
        first | exact ⟨rfl, ⟨_, rfl⟩⟩ | exact ⟨rfl, ⟨_, by rw [World.drewN_drewN]⟩⟩

end Go.Proofs.YtblhmeidbjigaabGreatDoor

/- The reference's terms: row, given beside. -/
set_option linter.unusedSimpArgs false
set_option linter.unusedVariables false
namespace Go.Proofs.YtblhmeidbjigaabGreatDoor
open Go.RowKit

/-- What beside answers. -/
def BesideC (kind : Int) (u : TD) : Prop := ∀ (g : Nat) (n : Int) (w : World) (Post : Ending → World → Prop), TreeAt w u g → W64 n →
  (∀ t g' w', besideT kind u n = some t → TreeAt w' t g' → Below w.heap.size w w' → Post (.returned (.pointer (some ⟨g', 0, none⟩))) w') →
  (∀ w', besideT kind u n = none → Below w.heap.size w w' → Post (.returned (.pointer none)) w') →
  Calls Tryz.prog 206 #[.int .i64 kind, .pointer (some ⟨g, 0, none⟩), .int .i64 n] w Post

/-- A new term of two parts. -/
theorem tree_two {w w0 : World} {k : Int} {a b : TD} {ga gb : Nat} (ha : TreeAt w a ga) (hb : TreeAt w b gb) (h0 : Below w0.heap.size w0 w) :
    TreeAt (w.alloc (.cells #[.int .i64 k, .int .i64 0, .pointer (some ⟨ga, 0, none⟩), .pointer (some ⟨gb, 0, none⟩), .pointer none] 200)) (.two k a b) w.heap.size ∧
    Below w0.heap.size w0 (w.alloc (.cells #[.int .i64 k, .int .i64 0, .pointer (some ⟨ga, 0, none⟩), .pointer (some ⟨gb, 0, none⟩), .pointer none] 200)) :=
  have hb' : Below w.heap.size w (w.alloc (.cells #[.int .i64 k, .int .i64 0, .pointer (some ⟨ga, 0, none⟩), .pointer (some ⟨gb, 0, none⟩), .pointer none] 200)) := (Below.refl _ _).alloc (Nat.le_refl _) _
  ⟨⟨ga, gb, heap_alloc_new w _, ha.keep hb', hb.keep hb'⟩, h0.trans (hb'.mono h0.size)⟩

theorem tree_three {w w0 : World} {k : Int} {a b c : TD} {ga gb gc : Nat} (ha : TreeAt w a ga) (hb : TreeAt w b gb) (hc : TreeAt w c gc) (h0 : Below w0.heap.size w0 w) :
    TreeAt (w.alloc (.cells #[.int .i64 k, .int .i64 0, .pointer (some ⟨ga, 0, none⟩), .pointer (some ⟨gb, 0, none⟩), .pointer (some ⟨gc, 0, none⟩)] 200)) (.three k a b c) w.heap.size ∧
    Below w0.heap.size w0 (w.alloc (.cells #[.int .i64 k, .int .i64 0, .pointer (some ⟨ga, 0, none⟩), .pointer (some ⟨gb, 0, none⟩), .pointer (some ⟨gc, 0, none⟩)] 200)) :=
  have hb' : Below w.heap.size w (w.alloc (.cells #[.int .i64 k, .int .i64 0, .pointer (some ⟨ga, 0, none⟩), .pointer (some ⟨gb, 0, none⟩), .pointer (some ⟨gc, 0, none⟩)] 200)) := (Below.refl _ _).alloc (Nat.le_refl _) _
  ⟨⟨ga, gb, gc, heap_alloc_new w _, ha.keep hb', hb.keep hb', hc.keep hb'⟩, h0.trans (hb'.mono h0.size)⟩

set_option maxRecDepth 100000 in
set_option maxHeartbeats 2000000 in
theorem rRow_zero (kind : Int) (hk : 3 ≤ kind ∧ kind ≤ 11) (hkk : kind = 4 ∨ kind = 8 ∨ kind = 9) (u v : TD) (g h : Nat) (w : World) (hu : TreeAt w u g) (hv : TreeAt w v h) (fu : u.fine) (fv : v.fine) (HB : BesideC kind u) (huv : u = v) (Post : Ending → World → Prop)
    (hb1 : ∀ t g' w', v.isNum.bind (besideT kind u) = some t → TreeAt w' t g' → Below w.heap.size w w' → Post (.returned (.pointer (some ⟨g', 0, none⟩))) w')
    (hp : ∀ g' w', TreeAt w' (tnum 0) g' → Below w.heap.size w w' → Post (.returned (.pointer (some ⟨g', 0, none⟩))) w') :
    Calls Tryz.prog 193 #[.int .i64 kind, .pointer (some ⟨g, 0, none⟩), .pointer (some ⟨h, 0, none⟩)] w Post := by
  have qs := fun W (a : TreeAt W u g) (b : TreeAt W v h) => rSame_any u v g h W a b fu fv
  rw [(sameT_iff u v).2 huv] at qs
  rcases hkk with rfl | rfl | rfl
  all_goals
    by_cases hvk : v.kind = 100
    · obtain ⟨n, hvn⟩ : ∃ n, v.isNum = some n := ⟨v.num, (isNum_kind fv).1 hvk⟩
      have en : v.num = n := by have := (isNum_kind fv).1 hvk; rw [hvn] at this; exact (Option.some.inj this).symm
      have c0 := hv.kindc
      have c1 := hv.numc
      rw [hvk] at c0
      rw [en] at c1
      rw [hvn] at hb1
      simp only [Option.bind_some] at hb1
      have hw64 : W64 n := isNum_fine hvn fv
      go_enter Tryz.func193, Tryz.ntmps193
      go_wp2_with fail
      refine HB g n w _ hu hw64 ?_ ?_
      · intro t g1 w1 et t1 b1
        have HF : Hid (Post (.returned (.pointer (some ⟨g1, 0, none⟩))) w1) := hb1 t g1 w1 et t1 b1
        clear hb1 hp t1 b1 et
        go_wp2
        exact HF.out
      · intro W _ hb
        have tu := hu.keep hb
        have tv := hv.keep hb
        clear hb1 c0 c1
        go_wp2_with fail
        refine (qs W tu tv).mono ?_
        rintro e w2 ⟨rfl, m, rfl⟩
        go_wp2_with fail
        refine rNum_cps 0 _ _ ?_
        intro g3 w3 t3 b3
        have HF : Hid (Post (.returned (.pointer (some ⟨g3, 0, none⟩))) w3) := hp g3 w3 t3 ((below_drewN hb _).trans (b3.mono (below_drewN hb _).size))
        clear hp t3 b3
        go_wp2
        exact HF.out
    · have hd : (v.kind == 100) = false := by simp [hvk]
      have c0 := hv.kindc
      obtain ⟨W, hW⟩ : ∃ W, W = w := ⟨_, rfl⟩
      have hb : Below w.heap.size w W := by rw [hW]; exact Below.refl _ _
      have tu := hu.keep hb
      have tv := hv.keep hb
      have hpW : Hid (W = w) := hW
      rw [← hW] at c0 ⊢
      clear hb1 hW
      generalize v.kind = vk at *
      go_enter Tryz.func193, Tryz.ntmps193
      go_wp2_with fail
      refine (qs W tu tv).mono ?_
      rintro e w2 ⟨rfl, m, rfl⟩
      go_wp2_with fail
      refine rNum_cps 0 _ _ ?_
      intro g3 w3 t3 b3
      have HF : Hid (Post (.returned (.pointer (some ⟨g3, 0, none⟩))) w3) := hp g3 w3 t3 ((below_drewN hb _).trans (b3.mono (below_drewN hb _).size))
      clear hp t3 b3
      go_wp2
      exact HF.out

set_option maxRecDepth 100000 in
set_option maxHeartbeats 2000000 in
theorem rRow_self (kind : Int) (hk : 3 ≤ kind ∧ kind ≤ 11) (hkk : kind = 6 ∨ kind = 7) (u v : TD) (g h : Nat) (w : World) (hu : TreeAt w u g) (hv : TreeAt w v h) (fu : u.fine) (fv : v.fine) (HB : BesideC kind u) (huv : u = v) (Post : Ending → World → Prop)
    (hb1 : ∀ t g' w', v.isNum.bind (besideT kind u) = some t → TreeAt w' t g' → Below w.heap.size w w' → Post (.returned (.pointer (some ⟨g', 0, none⟩))) w')
    (hp : ∀ g' w', TreeAt w' (u) g' → Below w.heap.size w w' → Post (.returned (.pointer (some ⟨g', 0, none⟩))) w') :
    Calls Tryz.prog 193 #[.int .i64 kind, .pointer (some ⟨g, 0, none⟩), .pointer (some ⟨h, 0, none⟩)] w Post := by
  have qs := fun W (a : TreeAt W u g) (b : TreeAt W v h) => rSame_any u v g h W a b fu fv
  rw [(sameT_iff u v).2 huv] at qs
  rcases hkk with rfl | rfl
  all_goals
    by_cases hvk : v.kind = 100
    · obtain ⟨n, hvn⟩ : ∃ n, v.isNum = some n := ⟨v.num, (isNum_kind fv).1 hvk⟩
      have en : v.num = n := by have := (isNum_kind fv).1 hvk; rw [hvn] at this; exact (Option.some.inj this).symm
      have c0 := hv.kindc
      have c1 := hv.numc
      rw [hvk] at c0
      rw [en] at c1
      rw [hvn] at hb1
      simp only [Option.bind_some] at hb1
      have hw64 : W64 n := isNum_fine hvn fv
      go_enter Tryz.func193, Tryz.ntmps193
      go_wp2_with fail
      refine HB g n w _ hu hw64 ?_ ?_
      · intro t g1 w1 et t1 b1
        have HF : Hid (Post (.returned (.pointer (some ⟨g1, 0, none⟩))) w1) := hb1 t g1 w1 et t1 b1
        clear hb1 hp t1 b1 et
        go_wp2
        exact HF.out
      · intro W _ hb
        have tu := hu.keep hb
        have tv := hv.keep hb
        clear hb1 c0 c1
        go_wp2_with fail
        refine (qs W tu tv).mono ?_
        rintro e w2 ⟨rfl, m, rfl⟩
        have HF : Hid (Post (.returned (.pointer (some ⟨g, 0, none⟩))) (W.drewN m)) := hp g _ (tu.drewN m) (below_drewN hb _)
        clear hp
        go_wp2
        exact HF.out
    · have hd : (v.kind == 100) = false := by simp [hvk]
      have c0 := hv.kindc
      obtain ⟨W, hW⟩ : ∃ W, W = w := ⟨_, rfl⟩
      have hb : Below w.heap.size w W := by rw [hW]; exact Below.refl _ _
      have tu := hu.keep hb
      have tv := hv.keep hb
      have hpW : Hid (W = w) := hW
      rw [← hW] at c0 ⊢
      clear hb1 hW
      generalize v.kind = vk at *
      go_enter Tryz.func193, Tryz.ntmps193
      go_wp2_with fail
      refine (qs W tu tv).mono ?_
      rintro e w2 ⟨rfl, m, rfl⟩
      have HF : Hid (Post (.returned (.pointer (some ⟨g, 0, none⟩))) (W.drewN m)) := hp g _ (tu.drewN m) (below_drewN hb _)
      clear hp
      go_wp2
      exact HF.out

set_option maxRecDepth 100000 in
set_option maxHeartbeats 2000000 in
theorem rRow_one (kind : Int) (hk : 3 ≤ kind ∧ kind ≤ 11) (hkk : kind = 10) (u v : TD) (g h : Nat) (w : World) (hu : TreeAt w u g) (hv : TreeAt w v h) (fu : u.fine) (fv : v.fine) (HB : BesideC kind u) (huv : u = v) (Post : Ending → World → Prop)
    (hb1 : ∀ t g' w', v.isNum.bind (besideT kind u) = some t → TreeAt w' t g' → Below w.heap.size w w' → Post (.returned (.pointer (some ⟨g', 0, none⟩))) w')
    (hp : ∀ g' w', TreeAt w' (tnum 1) g' → Below w.heap.size w w' → Post (.returned (.pointer (some ⟨g', 0, none⟩))) w') :
    Calls Tryz.prog 193 #[.int .i64 kind, .pointer (some ⟨g, 0, none⟩), .pointer (some ⟨h, 0, none⟩)] w Post := by
  have qs := fun W (a : TreeAt W u g) (b : TreeAt W v h) => rSame_any u v g h W a b fu fv
  rw [(sameT_iff u v).2 huv] at qs
  subst hkk
  by_cases hvk : v.kind = 100
  · obtain ⟨n, hvn⟩ : ∃ n, v.isNum = some n := ⟨v.num, (isNum_kind fv).1 hvk⟩
    have en : v.num = n := by have := (isNum_kind fv).1 hvk; rw [hvn] at this; exact (Option.some.inj this).symm
    have c0 := hv.kindc
    have c1 := hv.numc
    rw [hvk] at c0
    rw [en] at c1
    rw [hvn] at hb1
    simp only [Option.bind_some] at hb1
    have hw64 : W64 n := isNum_fine hvn fv
    go_enter Tryz.func193, Tryz.ntmps193
    go_wp2_with fail
    refine HB g n w _ hu hw64 ?_ ?_
    · intro t g1 w1 et t1 b1
      have HF : Hid (Post (.returned (.pointer (some ⟨g1, 0, none⟩))) w1) := hb1 t g1 w1 et t1 b1
      clear hb1 hp t1 b1 et
      go_wp2
      exact HF.out
    · intro W _ hb
      have tu := hu.keep hb
      have tv := hv.keep hb
      clear hb1 c0 c1
      go_wp2_with fail
      refine (qs W tu tv).mono ?_
      rintro e w2 ⟨rfl, m, rfl⟩
      go_wp2_with fail
      refine rNum_cps 1 _ _ ?_
      intro g3 w3 t3 b3
      have HF : Hid (Post (.returned (.pointer (some ⟨g3, 0, none⟩))) w3) := hp g3 w3 t3 ((below_drewN hb _).trans (b3.mono (below_drewN hb _).size))
      clear hp t3 b3
      go_wp2
      exact HF.out
  · have hd : (v.kind == 100) = false := by simp [hvk]
    have c0 := hv.kindc
    obtain ⟨W, hW⟩ : ∃ W, W = w := ⟨_, rfl⟩
    have hb : Below w.heap.size w W := by rw [hW]; exact Below.refl _ _
    have tu := hu.keep hb
    have tv := hv.keep hb
    have hpW : Hid (W = w) := hW
    rw [← hW] at c0 ⊢
    clear hb1 hW
    generalize v.kind = vk at *
    go_enter Tryz.func193, Tryz.ntmps193
    go_wp2_with fail
    refine (qs W tu tv).mono ?_
    rintro e w2 ⟨rfl, m, rfl⟩
    go_wp2_with fail
    refine rNum_cps 1 _ _ ?_
    intro g3 w3 t3 b3
    have HF : Hid (Post (.returned (.pointer (some ⟨g3, 0, none⟩))) w3) := hp g3 w3 t3 ((below_drewN hb _).trans (b3.mono (below_drewN hb _).size))
    clear hp t3 b3
    go_wp2
    exact HF.out

set_option maxRecDepth 100000 in
set_option maxHeartbeats 2000000 in
theorem rRow_twoeq (kind : Int) (hk : 3 ≤ kind ∧ kind ≤ 11) (hkk : kind = 3 ∨ kind = 5 ∨ kind = 11) (u v : TD) (g h : Nat) (w : World) (hu : TreeAt w u g) (hv : TreeAt w v h) (fu : u.fine) (fv : v.fine) (HB : BesideC kind u) (Post : Ending → World → Prop)
    (hb1 : ∀ t g' w', v.isNum.bind (besideT kind u) = some t → TreeAt w' t g' → Below w.heap.size w w' → Post (.returned (.pointer (some ⟨g', 0, none⟩))) w')
    (hp : ∀ g' w', TreeAt w' (.two kind u v) g' → Below w.heap.size w w' → Post (.returned (.pointer (some ⟨g', 0, none⟩))) w') :
    Calls Tryz.prog 193 #[.int .i64 kind, .pointer (some ⟨g, 0, none⟩), .pointer (some ⟨h, 0, none⟩)] w Post := by
  have qs := fun W (a : TreeAt W u g) (b : TreeAt W v h) => rSame_any u v g h W a b fu fv
  have hk4 : kind ≠ 4 := by omega
  have hk8 : kind ≠ 8 := by omega
  have hk9 : kind ≠ 9 := by omega
  have hk6 : kind ≠ 6 := by omega
  have hk7 : kind ≠ 7 := by omega
  have hk10 : kind ≠ 10 := by omega
  by_cases hvk : v.kind = 100
  · obtain ⟨n, hvn⟩ : ∃ n, v.isNum = some n := ⟨v.num, (isNum_kind fv).1 hvk⟩
    have en : v.num = n := by have := (isNum_kind fv).1 hvk; rw [hvn] at this; exact (Option.some.inj this).symm
    have c0 := hv.kindc
    have c1 := hv.numc
    rw [hvk] at c0
    rw [en] at c1
    rw [hvn] at hb1
    simp only [Option.bind_some] at hb1
    have hw64 : W64 n := isNum_fine hvn fv
    go_enter Tryz.func193, Tryz.ntmps193
    go_wp2_with fail
    refine HB g n w _ hu hw64 ?_ ?_
    · intro t g1 w1 et t1 b1
      have HF : Hid (Post (.returned (.pointer (some ⟨g1, 0, none⟩))) w1) := hb1 t g1 w1 et t1 b1
      clear hb1 hp t1 b1 et
      go_wp2
      exact HF.out
    · intro W _ hb
      have tu := hu.keep hb
      have tv := hv.keep hb
      clear hb1 c0 c1
      go_wp2_with fail
      refine (qs W tu tv).mono ?_
      rintro e w2 ⟨rfl, m, rfl⟩
      generalize sameT u v = z at *
      obtain ⟨y1, y2⟩ := tree_two (k := kind) (tu.drewN m) (tv.drewN m) (below_drewN hb m)
      have HF := Lib.hid (hp _ _ y1 y2)
      clear hp y1 y2
      go_wp2
      all_goals exact HF.out
  · have hd : (v.kind == 100) = false := by simp [hvk]
    have c0 := hv.kindc
    obtain ⟨W, hW⟩ : ∃ W, W = w := ⟨_, rfl⟩
    have hb : Below w.heap.size w W := by rw [hW]; exact Below.refl _ _
    have tu := hu.keep hb
    have tv := hv.keep hb
    have hpW : Hid (W = w) := hW
    rw [← hW] at c0 ⊢
    clear hb1 hW
    generalize v.kind = vk at *
    go_enter Tryz.func193, Tryz.ntmps193
    go_wp2_with fail
    refine (qs W tu tv).mono ?_
    rintro e w2 ⟨rfl, m, rfl⟩
    generalize sameT u v = z at *
    obtain ⟨y1, y2⟩ := tree_two (k := kind) (tu.drewN m) (tv.drewN m) (below_drewN hb m)
    have HF := Lib.hid (hp _ _ y1 y2)
    clear hp y1 y2
    go_wp2
    all_goals exact HF.out

set_option maxRecDepth 100000 in
set_option maxHeartbeats 2000000 in
theorem rRow_apart (kind : Int) (hk : 3 ≤ kind ∧ kind ≤ 11) (hkk : kind = 10) (u v : TD) (g h : Nat) (w : World) (hu : TreeAt w u g) (hv : TreeAt w v h) (fu : u.fine) (fv : v.fine) (HB : BesideC kind u) (huv : u ≠ v) (hap : apartT u v = true) (Post : Ending → World → Prop)
    (hb1 : ∀ t g' w', v.isNum.bind (besideT kind u) = some t → TreeAt w' t g' → Below w.heap.size w w' → Post (.returned (.pointer (some ⟨g', 0, none⟩))) w')
    (hp : ∀ g' w', TreeAt w' (tnum 0) g' → Below w.heap.size w w' → Post (.returned (.pointer (some ⟨g', 0, none⟩))) w') :
    Calls Tryz.prog 193 #[.int .i64 kind, .pointer (some ⟨g, 0, none⟩), .pointer (some ⟨h, 0, none⟩)] w Post := by
  have qs := fun W (a : TreeAt W u g) (b : TreeAt W v h) => rSame_any u v g h W a b fu fv
  rw [sameT_ne huv] at qs
  have qa := fun W (a : TreeAt W u g) (b : TreeAt W v h) => rApart_any u v g h W a b fu fv
  rw [hap] at qa
  subst hkk
  by_cases hvk : v.kind = 100
  · obtain ⟨n, hvn⟩ : ∃ n, v.isNum = some n := ⟨v.num, (isNum_kind fv).1 hvk⟩
    have en : v.num = n := by have := (isNum_kind fv).1 hvk; rw [hvn] at this; exact (Option.some.inj this).symm
    have c0 := hv.kindc
    have c1 := hv.numc
    rw [hvk] at c0
    rw [en] at c1
    rw [hvn] at hb1
    simp only [Option.bind_some] at hb1
    have hw64 : W64 n := isNum_fine hvn fv
    go_enter Tryz.func193, Tryz.ntmps193
    go_wp2_with fail
    refine HB g n w _ hu hw64 ?_ ?_
    · intro t g1 w1 et t1 b1
      have HF : Hid (Post (.returned (.pointer (some ⟨g1, 0, none⟩))) w1) := hb1 t g1 w1 et t1 b1
      clear hb1 hp t1 b1 et
      go_wp2
      exact HF.out
    · intro W _ hb
      have tu := hu.keep hb
      have tv := hv.keep hb
      clear hb1 c0 c1
      go_wp2_with fail
      refine (qs W tu tv).mono ?_
      rintro e w2 ⟨rfl, m, rfl⟩
      go_wp2_with fail
      refine (qa _ (tu.drewN m) (tv.drewN m)).mono ?_
      rintro e w3 ⟨rfl, m3, rfl⟩
      rw [World.drewN_drewN]
      generalize m + m3 = m
      go_wp2_with fail
      refine rNum_cps 0 _ _ ?_
      intro g3 w3 t3 b3
      have HF : Hid (Post (.returned (.pointer (some ⟨g3, 0, none⟩))) w3) := hp g3 w3 t3 ((below_drewN hb _).trans (b3.mono (below_drewN hb _).size))
      clear hp t3 b3
      go_wp2
      exact HF.out
  · have hd : (v.kind == 100) = false := by simp [hvk]
    have c0 := hv.kindc
    obtain ⟨W, hW⟩ : ∃ W, W = w := ⟨_, rfl⟩
    have hb : Below w.heap.size w W := by rw [hW]; exact Below.refl _ _
    have tu := hu.keep hb
    have tv := hv.keep hb
    have hpW : Hid (W = w) := hW
    rw [← hW] at c0 ⊢
    clear hb1 hW
    generalize v.kind = vk at *
    go_enter Tryz.func193, Tryz.ntmps193
    go_wp2_with fail
    refine (qs W tu tv).mono ?_
    rintro e w2 ⟨rfl, m, rfl⟩
    go_wp2_with fail
    refine (qa _ (tu.drewN m) (tv.drewN m)).mono ?_
    rintro e w3 ⟨rfl, m3, rfl⟩
    rw [World.drewN_drewN]
    generalize m + m3 = m
    go_wp2_with fail
    refine rNum_cps 0 _ _ ?_
    intro g3 w3 t3 b3
    have HF : Hid (Post (.returned (.pointer (some ⟨g3, 0, none⟩))) w3) := hp g3 w3 t3 ((below_drewN hb _).trans (b3.mono (below_drewN hb _).size))
    clear hp t3 b3
    go_wp2
    exact HF.out

set_option maxRecDepth 100000 in
set_option maxHeartbeats 2000000 in
theorem rRow_near (kind : Int) (hk : 3 ≤ kind ∧ kind ≤ 11) (hkk : kind = 10) (u v : TD) (g h : Nat) (w : World) (hu : TreeAt w u g) (hv : TreeAt w v h) (fu : u.fine) (fv : v.fine) (HB : BesideC kind u) (huv : u ≠ v) (hap : apartT u v = false) (Post : Ending → World → Prop)
    (hb1 : ∀ t g' w', v.isNum.bind (besideT kind u) = some t → TreeAt w' t g' → Below w.heap.size w w' → Post (.returned (.pointer (some ⟨g', 0, none⟩))) w')
    (hp : ∀ g' w', TreeAt w' (.two kind u v) g' → Below w.heap.size w w' → Post (.returned (.pointer (some ⟨g', 0, none⟩))) w') :
    Calls Tryz.prog 193 #[.int .i64 kind, .pointer (some ⟨g, 0, none⟩), .pointer (some ⟨h, 0, none⟩)] w Post := by
  have qs := fun W (a : TreeAt W u g) (b : TreeAt W v h) => rSame_any u v g h W a b fu fv
  rw [sameT_ne huv] at qs
  have qa := fun W (a : TreeAt W u g) (b : TreeAt W v h) => rApart_any u v g h W a b fu fv
  rw [hap] at qa
  subst hkk
  by_cases hvk : v.kind = 100
  · obtain ⟨n, hvn⟩ : ∃ n, v.isNum = some n := ⟨v.num, (isNum_kind fv).1 hvk⟩
    have en : v.num = n := by have := (isNum_kind fv).1 hvk; rw [hvn] at this; exact (Option.some.inj this).symm
    have c0 := hv.kindc
    have c1 := hv.numc
    rw [hvk] at c0
    rw [en] at c1
    rw [hvn] at hb1
    simp only [Option.bind_some] at hb1
    have hw64 : W64 n := isNum_fine hvn fv
    go_enter Tryz.func193, Tryz.ntmps193
    go_wp2_with fail
    refine HB g n w _ hu hw64 ?_ ?_
    · intro t g1 w1 et t1 b1
      have HF : Hid (Post (.returned (.pointer (some ⟨g1, 0, none⟩))) w1) := hb1 t g1 w1 et t1 b1
      clear hb1 hp t1 b1 et
      go_wp2
      exact HF.out
    · intro W _ hb
      have tu := hu.keep hb
      have tv := hv.keep hb
      clear hb1 c0 c1
      go_wp2_with fail
      refine (qs W tu tv).mono ?_
      rintro e w2 ⟨rfl, m, rfl⟩
      go_wp2_with fail
      refine (qa _ (tu.drewN m) (tv.drewN m)).mono ?_
      rintro e w3 ⟨rfl, m3, rfl⟩
      rw [World.drewN_drewN]
      generalize m + m3 = m
      obtain ⟨y1, y2⟩ := tree_two (k := 10) (tu.drewN m) (tv.drewN m) (below_drewN hb m)
      have HF := Lib.hid (hp _ _ y1 y2)
      clear hp y1 y2
      go_wp2
      exact HF.out
  · have hd : (v.kind == 100) = false := by simp [hvk]
    have c0 := hv.kindc
    obtain ⟨W, hW⟩ : ∃ W, W = w := ⟨_, rfl⟩
    have hb : Below w.heap.size w W := by rw [hW]; exact Below.refl _ _
    have tu := hu.keep hb
    have tv := hv.keep hb
    have hpW : Hid (W = w) := hW
    rw [← hW] at c0 ⊢
    clear hb1 hW
    generalize v.kind = vk at *
    go_enter Tryz.func193, Tryz.ntmps193
    go_wp2_with fail
    refine (qs W tu tv).mono ?_
    rintro e w2 ⟨rfl, m, rfl⟩
    go_wp2_with fail
    refine (qa _ (tu.drewN m) (tv.drewN m)).mono ?_
    rintro e w3 ⟨rfl, m3, rfl⟩
    rw [World.drewN_drewN]
    generalize m + m3 = m
    obtain ⟨y1, y2⟩ := tree_two (k := 10) (tu.drewN m) (tv.drewN m) (below_drewN hb m)
    have HF := Lib.hid (hp _ _ y1 y2)
    clear hp y1 y2
    go_wp2
    exact HF.out

set_option maxRecDepth 100000 in
set_option maxHeartbeats 2000000 in
theorem rRow_twone (kind : Int) (hk : 3 ≤ kind ∧ kind ≤ 11) (hkk : kind ≠ 10) (u v : TD) (g h : Nat) (w : World) (hu : TreeAt w u g) (hv : TreeAt w v h) (fu : u.fine) (fv : v.fine) (HB : BesideC kind u) (huv : u ≠ v) (Post : Ending → World → Prop)
    (hb1 : ∀ t g' w', v.isNum.bind (besideT kind u) = some t → TreeAt w' t g' → Below w.heap.size w w' → Post (.returned (.pointer (some ⟨g', 0, none⟩))) w')
    (hp : ∀ g' w', TreeAt w' (.two kind u v) g' → Below w.heap.size w w' → Post (.returned (.pointer (some ⟨g', 0, none⟩))) w') :
    Calls Tryz.prog 193 #[.int .i64 kind, .pointer (some ⟨g, 0, none⟩), .pointer (some ⟨h, 0, none⟩)] w Post := by
  have qs := fun W (a : TreeAt W u g) (b : TreeAt W v h) => rSame_any u v g h W a b fu fv
  rw [sameT_ne huv] at qs
  have hk10 : kind ≠ 10 := hkk
  by_cases hvk : v.kind = 100
  · obtain ⟨n, hvn⟩ : ∃ n, v.isNum = some n := ⟨v.num, (isNum_kind fv).1 hvk⟩
    have en : v.num = n := by have := (isNum_kind fv).1 hvk; rw [hvn] at this; exact (Option.some.inj this).symm
    have c0 := hv.kindc
    have c1 := hv.numc
    rw [hvk] at c0
    rw [en] at c1
    rw [hvn] at hb1
    simp only [Option.bind_some] at hb1
    have hw64 : W64 n := isNum_fine hvn fv
    go_enter Tryz.func193, Tryz.ntmps193
    go_wp2_with fail
    refine HB g n w _ hu hw64 ?_ ?_
    · intro t g1 w1 et t1 b1
      have HF : Hid (Post (.returned (.pointer (some ⟨g1, 0, none⟩))) w1) := hb1 t g1 w1 et t1 b1
      clear hb1 hp t1 b1 et
      go_wp2
      exact HF.out
    · intro W _ hb
      have tu := hu.keep hb
      have tv := hv.keep hb
      clear hb1 c0 c1
      go_wp2_with fail
      refine (qs W tu tv).mono ?_
      rintro e w2 ⟨rfl, m, rfl⟩
      obtain ⟨y1, y2⟩ := tree_two (k := kind) (tu.drewN m) (tv.drewN m) (below_drewN hb m)
      have HF := Lib.hid (hp _ _ y1 y2)
      clear hp y1 y2
      go_wp2
      exact HF.out
  · have hd : (v.kind == 100) = false := by simp [hvk]
    have c0 := hv.kindc
    obtain ⟨W, hW⟩ : ∃ W, W = w := ⟨_, rfl⟩
    have hb : Below w.heap.size w W := by rw [hW]; exact Below.refl _ _
    have tu := hu.keep hb
    have tv := hv.keep hb
    have hpW : Hid (W = w) := hW
    rw [← hW] at c0 ⊢
    clear hb1 hW
    generalize v.kind = vk at *
    go_enter Tryz.func193, Tryz.ntmps193
    go_wp2_with fail
    refine (qs W tu tv).mono ?_
    rintro e w2 ⟨rfl, m, rfl⟩
    obtain ⟨y1, y2⟩ := tree_two (k := kind) (tu.drewN m) (tv.drewN m) (below_drewN hb m)
    have HF := Lib.hid (hp _ _ y1 y2)
    clear hp y1 y2
    go_wp2
    exact HF.out

set_option maxRecDepth 100000 in
set_option maxHeartbeats 2000000 in
theorem rRow_some (kind : Int) (hk : 3 ≤ kind ∧ kind ≤ 11) (u v : TD) (g h : Nat) (w : World) (hu : TreeAt w u g) (hv : TreeAt w v h) (fu : u.fine) (fv : v.fine) (HB : BesideC kind u) (t : TD) (hx : ∃ n, v.isNum = some n ∧ besideT kind u n = some t) (Post : Ending → World → Prop)
    (hp : ∀ g' w', TreeAt w' t g' → Below w.heap.size w w' → Post (.returned (.pointer (some ⟨g', 0, none⟩))) w') :
    Calls Tryz.prog 193 #[.int .i64 kind, .pointer (some ⟨g, 0, none⟩), .pointer (some ⟨h, 0, none⟩)] w Post := by
  obtain ⟨n, hvn, hbn⟩ := hx
  obtain rfl := isNum_some hvn
  have c0 := hv.kindc
  have c1 := hv.numc
  simp only [tnum, TD.kind, TD.num] at c0 c1
  have hw64 : W64 n := isNum_fine hvn fv
  have HB' := fun P (a : ∀ g' w', TreeAt w' t g' → Below w.heap.size w w' → P (.returned (.pointer (some ⟨g', 0, none⟩))) w') => HB g n w P hu hw64 (fun t' g' w' e x y => by rw [hbn] at e; cases e; exact a g' w' x y) (fun w' e => by rw [hbn] at e; cases e)
  clear HB hbn hvn hu hv
  go_enter Tryz.func193, Tryz.ntmps193
  go_wp2_with fail
  refine HB' _ ?_
  intro g1 w1 t1 b1
  have HF : Hid (Post (.returned (.pointer (some ⟨g1, 0, none⟩))) w1) := hp g1 w1 t1 b1
  clear hp t1 b1
  go_wp2
  exact HF.out

theorem rRow_cps (kind : Int) (hk : 3 ≤ kind ∧ kind ≤ 11) (u v : TD) (g h : Nat) (w : World) (hu : TreeAt w u g) (hv : TreeAt w v h) (fu : u.fine) (fv : v.fine) (HB : BesideC kind u) (Post : Ending → World → Prop)
    (hp : ∀ g' w', TreeAt w' (rowT kind u v) g' → Below w.heap.size w w' → Post (.returned (.pointer (some ⟨g', 0, none⟩))) w') :
    Calls Tryz.prog 193 #[.int .i64 kind, .pointer (some ⟨g, 0, none⟩), .pointer (some ⟨h, 0, none⟩)] w Post := by
  cases hb : v.isNum.bind (besideT kind u) with
  | some t =>
    rw [row_some hb] at hp
    have hb1 : ∀ t' g' w', v.isNum.bind (besideT kind u) = some t' → TreeAt w' t' g' → Below w.heap.size w w' → Post (.returned (.pointer (some ⟨g', 0, none⟩))) w' := fun t' g' w' e a b => by
      rw [hb] at e; cases e; exact hp g' w' a b
    have hx : ∃ n, v.isNum = some n ∧ besideT kind u n = some t := by
      cases hn : v.isNum with
      | none => rw [hn] at hb; cases hb
      | some n => rw [hn] at hb; exact ⟨n, rfl, hb⟩
    exact rRow_some kind hk u v g h w hu hv fu fv HB t hx Post hp
  | none =>
    rw [row_rest hb] at hp
    have hb1 : ∀ t' g' w', v.isNum.bind (besideT kind u) = some t' → TreeAt w' t' g' → Below w.heap.size w w' → Post (.returned (.pointer (some ⟨g', 0, none⟩))) w' := fun t' g' w' e a b => by
      rw [hb] at e; cases e
    by_cases h1 : kind = 3 ∨ kind = 5 ∨ kind = 11
    · rw [rest_kind h1] at hp; exact rRow_twoeq kind hk h1 u v g h w hu hv fu fv HB Post hb1 hp
    · by_cases huv : u = v
      · by_cases h2 : kind = 4 ∨ kind = 8 ∨ kind = 9
        · rw [rest_zero huv h2] at hp; exact rRow_zero kind hk h2 u v g h w hu hv fu fv HB huv Post hb1 hp
        · by_cases h3 : kind = 6 ∨ kind = 7
          · rw [rest_self huv h3] at hp; exact rRow_self kind hk h3 u v g h w hu hv fu fv HB huv Post hb1 hp
          · have h4 : kind = 10 := by omega
            rw [rest_one huv h4] at hp; exact rRow_one kind hk h4 u v g h w hu hv fu fv HB huv Post hb1 hp
      · by_cases h4 : kind = 10
        · cases ha : apartT u v with
          | true => rw [rest_apart huv h4 ha] at hp; exact rRow_apart kind hk h4 u v g h w hu hv fu fv HB huv ha Post hb1 hp
          | false => rw [rest_else huv (fun q => by rw [ha] at q; cases q.2)] at hp; exact rRow_near kind hk h4 u v g h w hu hv fu fv HB huv ha Post hb1 hp
        · rw [rest_else huv (fun q => h4 q.1)] at hp; exact rRow_twone kind hk h4 u v g h w hu hv fu fv HB huv Post hb1 hp

end Go.Proofs.YtblhmeidbjigaabGreatDoor
