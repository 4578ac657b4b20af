/- The reference's terms: turns, plus, thing, Apart. -/
import Derived.Test.YtblhmeidbjigaaaGreatDoorRows
import Derived.WalkKit
import Derived.WalkSpells
import Derived.WalkLawsBesides
import Derived.Laws.BytesArg
import Derived.Deep.QuietTactic
import Derived.BigQuiet
import Derived.Deep.RegionHeld3
import Derived.Lib.ItoaNum
import Derived.Lib.ItoaLen
import Derived.OpenShut
import Derived.Maps.AppendAt
import Derived.Shelf.Strconv.Itoa3
import Derived.Shelf.Lay
import Derived.Ground.NamesProg
import Derived.Lib.SmallJoins
import Derived.Lib.Hide
import Derived.Test.YtblhmeidbjigaaaGreatDoorTInjToRTrCMarkings

set_option linter.unusedSimpArgs false
set_option linter.unusedVariables false
namespace Go.Proofs.YtblhmeidbjigaaaGreatDoor
open Go.RowKit

theorem turnsT_eq (k : Int) : turnsT k = true ↔ (k = 3 ∨ k = 5 ∨ k = 6 ∨ k = 7 ∨ k = 8 ∨ k = 10) := by unfold turnsT; simp

theorem turnsT_no {k : Int} (h : ¬ (k = 3 ∨ k = 5 ∨ k = 6 ∨ k = 7 ∨ k = 8 ∨ k = 10)) : turnsT k = false := by unfold turnsT; simpa using h

set_option maxRecDepth 100000 in
set_option maxHeartbeats 1000000 in
theorem rTurns_any (k : Int) (hk : 3 ≤ k ∧ k ≤ 11) (w : World) : Calls Tryz.prog 145 #[.int .i64 k] w fun e w' => e = .returned (.bool (turnsT k)) ∧ w = w' := by
  have h : k = 3 ∨ k = 4 ∨ k = 5 ∨ k = 6 ∨ k = 7 ∨ k = 8 ∨ k = 9 ∨ k = 10 ∨ k = 11 := by omega
  have ht : ∀ j : Int, (j = 3 ∨ j = 5 ∨ j = 6 ∨ j = 7 ∨ j = 8 ∨ j = 10) → turnsT j = true := fun j h => (turnsT_eq j).2 h
  rcases h with rfl | rfl | rfl | rfl | rfl | rfl | rfl | rfl | rfl
  all_goals
    first | rw [ht _ (by omega)] | rw [turnsT_no (by omega)]
    go_enter Tryz.func145, Tryz.ntmps145
    go_wp2
    go_ret
    exact ⟨rfl, rfl⟩

theorem plus_kind {u : TD} (hf : u.fine) (h : u.kind = 3) : ∃ a b, u = .two 3 a b := by
  cases u with
  | leaf k n => obtain ⟨q, _⟩ := hf; simp only [TD.kind] at h; omega
  | two k a b => simp only [TD.kind] at h; exact ⟨a, b, by rw [h]⟩
  | three k a b c => obtain ⟨q, _⟩ := hf; simp only [TD.kind] at h; omega

set_option maxRecDepth 100000 in
set_option maxHeartbeats 1000000 in
theorem rPlus_any (u : TD) (g : Nat) (w : World) (h : TreeAt w u g) (hf : u.fine) : Calls Tryz.prog 189 #[.pointer (some ⟨g, 0, none⟩)] w fun e w' => e = .returned (.bool u.isPlus.isSome) ∧ w = w' := by
  have c0 := h.kindc
  by_cases hk : u.kind = 3
  · obtain ⟨a, b, rfl⟩ := plus_kind hf hk
    obtain ⟨ga, gb, r, ta, tb⟩ := h
    have c3 := r.cell (i := 3) rfl
    have d0 := tb.kindc
    simp only [TD.kind] at c0
    clear r ta tb
    by_cases hb : b.kind = 100
    · have e : b.isNum = some b.num := (isNum_kind hf.2.2.2).1 hb
      have e2 : ((TD.two 3 a b).isPlus).isSome = true := by simp [TD.isPlus, e]
      rw [e2]
      rw [hb] at d0
      go_enter Tryz.func189, Tryz.ntmps189
      go_wp2
      go_ret
      exact ⟨rfl, rfl⟩
    · have e : b.isNum = none := (isNum_none hf.2.2.2).1 hb
      have e2 : ((TD.two 3 a b).isPlus).isSome = false := by simp [TD.isPlus, e]
      rw [e2]
      have hd : decide (b.kind = 100) = false := by simp [hb]
      have hd2 : (b.kind == 100) = false := by simp [hb]
      clear e e2
      generalize b.kind = q at *
      go_enter Tryz.func189, Tryz.ntmps189
      go_wp2
      go_ret
      exact ⟨by simp [hb], rfl⟩
  · have e2 : u.isPlus.isSome = false := by
      cases u with
      | leaf k n => rfl
      | two k a b => simp only [TD.kind] at hk; simp [TD.isPlus, hk]
      | three k a b c => rfl
    rw [e2]
    have hd : decide (u.kind = 3) = false := by simp [hk]
    have hd2 : (u.kind == 3) = false := by simp [hk]
    clear e2
    generalize u.kind = q at *
    go_enter Tryz.func189, Tryz.ntmps189
    go_wp2
    go_ret
    exact ⟨rfl, rfl⟩

/-- What thing answers, in memory. -/
def ThingAt (w : World) (u : TD) (x : Value) : Prop :=
  match (thingT u).1 with
  | none => x = .pointer none
  | some a => ∃ ga, x = .pointer (some ⟨ga, 0, none⟩) ∧ TreeAt w a ga ∧ a.fine

set_option maxRecDepth 100000 in
set_option maxHeartbeats 1000000 in
theorem rThing_any (u : TD) (g : Nat) (w : World) (h : TreeAt w u g) (hf : u.fine) :
    ∃ x, ThingAt w u x ∧ ∀ w', Below w.heap.size w w' → Calls Tryz.prog 168 #[.pointer (some ⟨g, 0, none⟩)] w' fun e w'' => e = .returned (.tuple #[x, .int .i64 (thingT u).2]) ∧ ∃ m, w'' = w'.drewN m := by
  by_cases hk : u.kind = 100
  · have e := (isNum_kind hf).1 hk
    have e1 : thingT u = (none, u.num) := by simp [thingT, e]
    refine ⟨.pointer none, by simp [ThingAt, e1], fun w' hb => ?_⟩
    have c0 := (h.keep hb).kindc
    have c1 := (h.keep hb).numc
    rw [e1]
    rw [hk] at c0
    clear hk e e1 h hb
    generalize u.num = n at *
    go_enter Tryz.func168, Tryz.ntmps168
    go_wp2
    go_quiet (fail)
    go_wp2
    go_ret2
    exact ⟨rfl, ⟨_, rfl⟩⟩
  · have e := (isNum_none hf).1 hk
    have hd : decide (u.kind = 100) = false := by simp [hk]
    have hd2 : (u.kind == 100) = false := by simp [hk]
    cases hp : u.isPlus with
    | none =>
      have e1 : thingT u = (some u, 0) := by simp [thingT, e, hp]
      refine ⟨.pointer (some ⟨g, 0, none⟩), by simp only [ThingAt, e1]; exact ⟨g, rfl, h, hf⟩, fun w' hb => ?_⟩
      have c0 := (h.keep hb).kindc
      have q := rPlus_any u g w' (h.keep hb) hf
      rw [e1]
      rw [hp] at q
      simp only [Option.isSome_none] at q
      clear e e1 h hb hp
      generalize u.kind = n at *
      go_enter Tryz.func168, Tryz.ntmps168
      go_wp2_with fail
      refine q.mono ?_
      rintro e w1 ⟨rfl, rfl⟩
      go_wp2
      go_ret2
      exact ⟨rfl, ⟨0, rfl⟩⟩
    | some p =>
      obtain ⟨a, n⟩ := p
      have e0 := isPlus_some hp
      subst e0
      have e1 : thingT (.two 3 a (tnum n)) = (some a, n) := by simp [thingT, e, hp]
      obtain ⟨ga, gb, r, ta, tb⟩ := id h
      refine ⟨.pointer (some ⟨ga, 0, none⟩), by simp only [ThingAt, e1]; exact ⟨ga, rfl, ta, hf.2.2.1⟩, fun w' hb => ?_⟩
      have q := rPlus_any _ g w' (h.keep hb) hf
      rw [e1]
      rw [hp] at q
      simp only [Option.isSome_some] at q
      have r' := r.keep hb
      have tb' := tb.keep hb
      have c0 := r'.cell (i := 0) rfl
      have c2 := r'.cell (i := 2) rfl
      have c3 := r'.cell (i := 3) rfl
      have d1 := tb'.numc
      simp only [tnum, TD.num] at d1
      clear e e1 h hb hp r ta tb r' tb' hd hd2 hk
      go_enter Tryz.func168, Tryz.ntmps168
      go_wp2_with fail
      refine q.mono ?_
      rintro e w1 ⟨rfl, rfl⟩
      go_wp2
      go_quiet (fail)
      go_wp2
      go_ret2
      exact ⟨rfl, ⟨_, rfl⟩⟩

theorem apartT_iff (u v : TD) : apartT u v = true ↔ (thingT u).1 = (thingT v).1 ∧ (thingT u).2 ≠ (thingT v).2 := by unfold apartT; simp

theorem apartT_no {u v : TD} (h : ¬ ((thingT u).1 = (thingT v).1 ∧ (thingT u).2 ≠ (thingT v).2)) : apartT u v = false := by
  cases e : apartT u v with
  | false => rfl
  | true => exact absurd ((apartT_iff u v).1 e) h

set_option maxRecDepth 100000 in
set_option maxHeartbeats 2000000 in
theorem rApart_any (u v : TD) (g h : Nat) (w : World) (h1 : TreeAt w u g) (h2 : TreeAt w v h) (f1 : u.fine) (f2 : v.fine) :
    Calls Tryz.prog 141 #[.pointer (some ⟨g, 0, none⟩), .pointer (some ⟨h, 0, none⟩)] w fun e w' => e = .returned (.bool (apartT u v)) ∧ ∃ m, w' = w.drewN m := by
  obtain ⟨x, hx, qx⟩ := rThing_any u g w h1 f1
  obtain ⟨y, hy, qy⟩ := rThing_any v h w h2 f2
  have B1 : ∀ n, Below w.heap.size w (w.drewN n) := fun n => below_drewN (Below.refl _ _) n
  have qx := qx w (Below.refl _ _)
  have qy := fun n => qy (w.drewN n) (B1 n)
  have HA : Hid (∀ z, ((thingT u).1 = (thingT v).1 ∧ (thingT u).2 ≠ (thingT v).2 ↔ z = true) → apartT u v = z) := by
    intro z hz
    cases z with
    | true => exact (apartT_iff u v).2 (hz.2 rfl)
    | false => exact apartT_no (fun q => by have := hz.1 q; cases this)
  unfold ThingAt at hx hy
  obtain ⟨a, ea⟩ : ∃ a, (thingT u).1 = a := ⟨_, rfl⟩
  obtain ⟨b, eb⟩ : ∃ b, (thingT v).1 = b := ⟨_, rfl⟩
  rw [ea] at hx HA
  rw [eb] at hy HA
  generalize (thingT u).2 = m at *
  generalize (thingT v).2 = n at *
  generalize apartT u v = R at *
  clear ea eb h1 h2 f1 f2
  cases a with
  | none =>
    simp only at hx
    subst hx
    cases b with
    | none =>
      simp only at hy
      subst hy
      by_cases hmn : m = n
      · subst hmn
        obtain rfl := HA.out false (by simp)
        go_enter Tryz.func141, Tryz.ntmps141
        go_wp2_with fail
        refine qx.mono ?_
        rintro e w1 ⟨rfl, k, rfl⟩
        go_wp2_with fail
        refine (qy k).mono ?_
        rintro e w1 ⟨rfl, j, rfl⟩
        go_wp2
        go_ret
        first | exact ⟨rfl, ⟨_, rfl⟩⟩ | exact ⟨rfl, ⟨_, by rw [World.drewN_drewN]⟩⟩
      · obtain rfl := HA.out true (by simp [hmn])
        have hd : decide (m = n) = false := by simp [hmn]
        have hd2 : (m == n) = false := by simp [hmn]
        go_enter Tryz.func141, Tryz.ntmps141
        go_wp2_with fail
        refine qx.mono ?_
        rintro e w1 ⟨rfl, k, rfl⟩
        go_wp2_with fail
        refine (qy k).mono ?_
        rintro e w1 ⟨rfl, j, rfl⟩
        go_wp2
        go_ret
        first | exact ⟨by simp [hmn], ⟨_, rfl⟩⟩ | exact ⟨by simp [hmn], ⟨_, by rw [World.drewN_drewN]⟩⟩
    | some b =>
      obtain ⟨gb, rfl, tb, fb⟩ := hy
      obtain rfl := HA.out false (by simp)
      go_enter Tryz.func141, Tryz.ntmps141
      go_wp2_with fail
      refine qx.mono ?_
      rintro e w1 ⟨rfl, k, rfl⟩
      go_wp2_with fail
      refine (qy k).mono ?_
      rintro e w1 ⟨rfl, j, rfl⟩
      go_wp2
      go_ret
      first | exact ⟨rfl, ⟨_, rfl⟩⟩ | exact ⟨rfl, ⟨_, by rw [World.drewN_drewN]⟩⟩
  | some a =>
    obtain ⟨ga, rfl, ta, fa⟩ := hx
    cases b with
    | none =>
      simp only at hy
      subst hy
      obtain rfl := HA.out false (by simp)
      go_enter Tryz.func141, Tryz.ntmps141
      go_wp2_with fail
      refine qx.mono ?_
      rintro e w1 ⟨rfl, k, rfl⟩
      go_wp2_with fail
      refine (qy k).mono ?_
      rintro e w1 ⟨rfl, j, rfl⟩
      go_wp2
      go_ret
      first | exact ⟨rfl, ⟨_, rfl⟩⟩ | exact ⟨rfl, ⟨_, by rw [World.drewN_drewN]⟩⟩
    | some b =>
      obtain ⟨gb, rfl, tb, fb⟩ := hy
      have qs := fun n => rSame_any a b ga gb (w.drewN n) (ta.keep (B1 n)) (tb.keep (B1 n)) fa fb
      by_cases hab : a = b
      · rw [(sameT_iff a b).2 hab] at qs
        by_cases hmn : m = n
        · subst hmn
          obtain rfl := HA.out false (by simp)
          clear HA ta tb fa fb hab
          go_enter Tryz.func141, Tryz.ntmps141
          go_wp2_with fail
          refine qx.mono ?_
          rintro e w1 ⟨rfl, k, rfl⟩
          go_wp2_with fail
          refine (qy k).mono ?_
          rintro e w1 ⟨rfl, j, rfl⟩
          (try rw [World.drewN_drewN])
          go_wp2_with fail
          refine (qs _).mono ?_
          rintro e w1 ⟨rfl, i, rfl⟩
          go_wp2
          go_ret
          first | exact ⟨rfl, ⟨_, rfl⟩⟩ | exact ⟨rfl, ⟨_, by rw [World.drewN_drewN]⟩⟩
        · obtain rfl := HA.out true (by simp [hmn, hab])
          have hd : decide (m = n) = false := by simp [hmn]
          have hd2 : (m == n) = false := by simp [hmn]
          clear HA ta tb fa fb hab
          go_enter Tryz.func141, Tryz.ntmps141
          go_wp2_with fail
          refine qx.mono ?_
          rintro e w1 ⟨rfl, k, rfl⟩
          go_wp2_with fail
          refine (qy k).mono ?_
          rintro e w1 ⟨rfl, j, rfl⟩
          (try rw [World.drewN_drewN])
          go_wp2_with fail
          refine (qs _).mono ?_
          rintro e w1 ⟨rfl, i, rfl⟩
          go_wp2
          go_ret
          first | exact ⟨by simp [hmn], ⟨_, rfl⟩⟩ | exact ⟨by simp [hmn], ⟨_, by rw [World.drewN_drewN]⟩⟩
      · rw [sameT_ne hab] at qs
        obtain rfl := HA.out false (by simp [hab])
        clear HA ta tb fa fb hab
        go_enter Tryz.func141, Tryz.ntmps141
        go_wp2_with fail
        refine qx.mono ?_
        rintro e w1 ⟨rfl, k, rfl⟩
        go_wp2_with fail
        refine (qy k).mono ?_
        rintro e w1 ⟨rfl, j, rfl⟩
        (try rw [World.drewN_drewN])
        go_wp2_with fail
        refine (qs _).mono ?_
        rintro e w1 ⟨rfl, i, rfl⟩
        go_wp2
        go_ret
        first | exact ⟨rfl, ⟨_, rfl⟩⟩ | exact ⟨rfl, ⟨_, by rw [World.drewN_drewN]⟩⟩

end Go.Proofs.YtblhmeidbjigaaaGreatDoor

/- The reference's terms: row, given beside. -/
set_option linter.unusedSimpArgs false
set_option linter.unusedVariables false
namespace Go.Proofs.YtblhmeidbjigaaaGreatDoor
open Go.RowKit

/-- What beside answers. -/
def BesideC (kind : Int) (u : TD) : Prop := ∀ (g : Nat) (n : Int) (w : World) (Post : Ending → World → Prop), TreeAt w u g → W64 n →
  (∀ t g' w', besideT kind u n = some t → TreeAt w' t g' → Below w.heap.size w w' → Post (.returned (.pointer (some ⟨g', 0, none⟩))) w') →
  (∀ w', besideT kind u n = none → Below w.heap.size w w' → Post (.returned (.pointer none)) w') →
  Calls Tryz.prog 170 #[.int .i64 kind, .pointer (some ⟨g, 0, none⟩), .int .i64 n] w Post

/-- A new term of two parts. -/
theorem tree_two {w w0 : World} {k : Int} {a b : TD} {ga gb : Nat} (ha : TreeAt w a ga) (hb : TreeAt w b gb) (h0 : Below w0.heap.size w0 w) :
    TreeAt (w.alloc (.cells #[.int .i64 k, .int .i64 0, .pointer (some ⟨ga, 0, none⟩), .pointer (some ⟨gb, 0, none⟩), .pointer none] 131)) (.two k a b) w.heap.size ∧
    Below w0.heap.size w0 (w.alloc (.cells #[.int .i64 k, .int .i64 0, .pointer (some ⟨ga, 0, none⟩), .pointer (some ⟨gb, 0, none⟩), .pointer none] 131)) :=
  have hb' : Below w.heap.size w (w.alloc (.cells #[.int .i64 k, .int .i64 0, .pointer (some ⟨ga, 0, none⟩), .pointer (some ⟨gb, 0, none⟩), .pointer none] 131)) := (Below.refl _ _).alloc (Nat.le_refl _) _
  ⟨⟨ga, gb, heap_alloc_new w _, ha.keep hb', hb.keep hb'⟩, h0.trans (hb'.mono h0.size)⟩

theorem tree_three {w w0 : World} {k : Int} {a b c : TD} {ga gb gc : Nat} (ha : TreeAt w a ga) (hb : TreeAt w b gb) (hc : TreeAt w c gc) (h0 : Below w0.heap.size w0 w) :
    TreeAt (w.alloc (.cells #[.int .i64 k, .int .i64 0, .pointer (some ⟨ga, 0, none⟩), .pointer (some ⟨gb, 0, none⟩), .pointer (some ⟨gc, 0, none⟩)] 131)) (.three k a b c) w.heap.size ∧
    Below w0.heap.size w0 (w.alloc (.cells #[.int .i64 k, .int .i64 0, .pointer (some ⟨ga, 0, none⟩), .pointer (some ⟨gb, 0, none⟩), .pointer (some ⟨gc, 0, none⟩)] 131)) :=
  have hb' : Below w.heap.size w (w.alloc (.cells #[.int .i64 k, .int .i64 0, .pointer (some ⟨ga, 0, none⟩), .pointer (some ⟨gb, 0, none⟩), .pointer (some ⟨gc, 0, none⟩)] 131)) := (Below.refl _ _).alloc (Nat.le_refl _) _
  ⟨⟨ga, gb, gc, heap_alloc_new w _, ha.keep hb', hb.keep hb', hc.keep hb'⟩, h0.trans (hb'.mono h0.size)⟩

set_option maxRecDepth 100000 in
set_option maxHeartbeats 2000000 in
theorem rRow_zero (kind : Int) (hk : 3 ≤ kind ∧ kind ≤ 11) (hkk : kind = 4 ∨ kind = 8 ∨ kind = 9) (u v : TD) (g h : Nat) (w : World) (hu : TreeAt w u g) (hv : TreeAt w v h) (fu : u.fine) (fv : v.fine) (HB : BesideC kind u) (huv : u = v) (Post : Ending → World → Prop)
    (hb1 : ∀ t g' w', v.isNum.bind (besideT kind u) = some t → TreeAt w' t g' → Below w.heap.size w w' → Post (.returned (.pointer (some ⟨g', 0, none⟩))) w')
    (hp : ∀ g' w', TreeAt w' (tnum 0) g' → Below w.heap.size w w' → Post (.returned (.pointer (some ⟨g', 0, none⟩))) w') :
    Calls Tryz.prog 146 #[.int .i64 kind, .pointer (some ⟨g, 0, none⟩), .pointer (some ⟨h, 0, none⟩)] w Post := by
  have qs := fun W (a : TreeAt W u g) (b : TreeAt W v h) => rSame_any u v g h W a b fu fv
  rw [(sameT_iff u v).2 huv] at qs
  rcases hkk with rfl | rfl | rfl
  all_goals
    by_cases hvk : v.kind = 100
    · obtain ⟨n, hvn⟩ : ∃ n, v.isNum = some n := ⟨v.num, (isNum_kind fv).1 hvk⟩
      have en : v.num = n := by have := (isNum_kind fv).1 hvk; rw [hvn] at this; exact (Option.some.inj this).symm
      have c0 := hv.kindc
      have c1 := hv.numc
      rw [hvk] at c0
      rw [en] at c1
      rw [hvn] at hb1
      simp only [Option.bind_some] at hb1
      have hw64 : W64 n := isNum_fine hvn fv
      go_enter Tryz.func146, Tryz.ntmps146
      go_wp2_with fail
      refine HB g n w _ hu hw64 ?_ ?_
      · intro t g1 w1 et t1 b1
        have HF : Hid (Post (.returned (.pointer (some ⟨g1, 0, none⟩))) w1) := hb1 t g1 w1 et t1 b1
        clear hb1 hp t1 b1 et
        go_wp2
        exact HF.out
      · intro W _ hb
        have tu := hu.keep hb
        have tv := hv.keep hb
        clear hb1 c0 c1
        go_wp2_with fail
        refine (qs W tu tv).mono ?_
        rintro e w2 ⟨rfl, m, rfl⟩
        go_wp2_with fail
        refine rNum_cps 0 _ _ ?_
        intro g3 w3 t3 b3
        have HF : Hid (Post (.returned (.pointer (some ⟨g3, 0, none⟩))) w3) := hp g3 w3 t3 ((below_drewN hb _).trans (b3.mono (below_drewN hb _).size))
        clear hp t3 b3
        go_wp2
        exact HF.out
    · have hd : (v.kind == 100) = false := by simp [hvk]
      have c0 := hv.kindc
      obtain ⟨W, hW⟩ : ∃ W, W = w := ⟨_, rfl⟩
      have hb : Below w.heap.size w W := by rw [hW]; exact Below.refl _ _
      have tu := hu.keep hb
      have tv := hv.keep hb
      have hpW : Hid (W = w) := hW
      rw [← hW] at c0 ⊢
      clear hb1 hW
      generalize v.kind = vk at *
      go_enter Tryz.func146, Tryz.ntmps146
      go_wp2_with fail
      refine (qs W tu tv).mono ?_
      rintro e w2 ⟨rfl, m, rfl⟩
      go_wp2_with fail
      refine rNum_cps 0 _ _ ?_
      intro g3 w3 t3 b3
      have HF : Hid (Post (.returned (.pointer (some ⟨g3, 0, none⟩))) w3) := hp g3 w3 t3 ((below_drewN hb _).trans (b3.mono (below_drewN hb _).size))
      clear hp t3 b3
      go_wp2
      exact HF.out

set_option maxRecDepth 100000 in
set_option maxHeartbeats 2000000 in
theorem rRow_self (kind : Int) (hk : 3 ≤ kind ∧ kind ≤ 11) (hkk : kind = 6 ∨ kind = 7) (u v : TD) (g h : Nat) (w : World) (hu : TreeAt w u g) (hv : TreeAt w v h) (fu : u.fine) (fv : v.fine) (HB : BesideC kind u) (huv : u = v) (Post : Ending → World → Prop)
    (hb1 : ∀ t g' w', v.isNum.bind (besideT kind u) = some t → TreeAt w' t g' → Below w.heap.size w w' → Post (.returned (.pointer (some ⟨g', 0, none⟩))) w')
    (hp : ∀ g' w', TreeAt w' (u) g' → Below w.heap.size w w' → Post (.returned (.pointer (some ⟨g', 0, none⟩))) w') :
    Calls Tryz.prog 146 #[.int .i64 kind, .pointer (some ⟨g, 0, none⟩), .pointer (some ⟨h, 0, none⟩)] w Post := by
  have qs := fun W (a : TreeAt W u g) (b : TreeAt W v h) => rSame_any u v g h W a b fu fv
  rw [(sameT_iff u v).2 huv] at qs
  rcases hkk with rfl | rfl
  all_goals
    by_cases hvk : v.kind = 100
    · obtain ⟨n, hvn⟩ : ∃ n, v.isNum = some n := ⟨v.num, (isNum_kind fv).1 hvk⟩
      have en : v.num = n := by have := (isNum_kind fv).1 hvk; rw [hvn] at this; exact (Option.some.inj this).symm
      have c0 := hv.kindc
      have c1 := hv.numc
      rw [hvk] at c0
      rw [en] at c1
      rw [hvn] at hb1
      simp only [Option.bind_some] at hb1
      have hw64 : W64 n := isNum_fine hvn fv
      go_enter Tryz.func146, Tryz.ntmps146
      go_wp2_with fail
      refine HB g n w _ hu hw64 ?_ ?_
      · intro t g1 w1 et t1 b1
        have HF : Hid (Post (.returned (.pointer (some ⟨g1, 0, none⟩))) w1) := hb1 t g1 w1 et t1 b1
        clear hb1 hp t1 b1 et
        go_wp2
        exact HF.out
      · intro W _ hb
        have tu := hu.keep hb
        have tv := hv.keep hb
        clear hb1 c0 c1
        go_wp2_with fail
        refine (qs W tu tv).mono ?_
        rintro e w2 ⟨rfl, m, rfl⟩
        have HF : Hid (Post (.returned (.pointer (some ⟨g, 0, none⟩))) (W.drewN m)) := hp g _ (tu.drewN m) (below_drewN hb _)
        clear hp
        go_wp2
        exact HF.out
    · have hd : (v.kind == 100) = false := by simp [hvk]
      have c0 := hv.kindc
      obtain ⟨W, hW⟩ : ∃ W, W = w := ⟨_, rfl⟩
      have hb : Below w.heap.size w W := by rw [hW]; exact Below.refl _ _
      have tu := hu.keep hb
      have tv := hv.keep hb
      have hpW : Hid (W = w) := hW
      rw [← hW] at c0 ⊢
      clear hb1 hW
      generalize v.kind = vk at *
      go_enter Tryz.func146, Tryz.ntmps146
      go_wp2_with fail
      refine (qs W tu tv).mono ?_
      rintro e w2 ⟨rfl, m, rfl⟩
      have HF : Hid (Post (.returned (.pointer (some ⟨g, 0, none⟩))) (W.drewN m)) := hp g _ (tu.drewN m) (below_drewN hb _)
      clear hp
      go_wp2
      exact HF.out

set_option maxRecDepth 100000 in
set_option maxHeartbeats 2000000 in
theorem rRow_one (kind : Int) (hk : 3 ≤ kind ∧ kind ≤ 11) (hkk : kind = 10) (u v : TD) (g h : Nat) (w : World) (hu : TreeAt w u g) (hv : TreeAt w v h) (fu : u.fine) (fv : v.fine) (HB : BesideC kind u) (huv : u = v) (Post : Ending → World → Prop)
    (hb1 : ∀ t g' w', v.isNum.bind (besideT kind u) = some t → TreeAt w' t g' → Below w.heap.size w w' → Post (.returned (.pointer (some ⟨g', 0, none⟩))) w')
    (hp : ∀ g' w', TreeAt w' (tnum 1) g' → Below w.heap.size w w' → Post (.returned (.pointer (some ⟨g', 0, none⟩))) w') :
    Calls Tryz.prog 146 #[.int .i64 kind, .pointer (some ⟨g, 0, none⟩), .pointer (some ⟨h, 0, none⟩)] w Post := by
  have qs := fun W (a : TreeAt W u g) (b : TreeAt W v h) => rSame_any u v g h W a b fu fv
  rw [(sameT_iff u v).2 huv] at qs
  subst hkk
  by_cases hvk : v.kind = 100
  · obtain ⟨n, hvn⟩ : ∃ n, v.isNum = some n := ⟨v.num, (isNum_kind fv).1 hvk⟩
    have en : v.num = n := by have := (isNum_kind fv).1 hvk; rw [hvn] at this; exact (Option.some.inj this).symm
    have c0 := hv.kindc
    have c1 := hv.numc
    rw [hvk] at c0
    rw [en] at c1
    rw [hvn] at hb1
    simp only [Option.bind_some] at hb1
    have hw64 : W64 n := isNum_fine hvn fv
    go_enter Tryz.func146, Tryz.ntmps146
    go_wp2_with fail
    refine HB g n w _ hu hw64 ?_ ?_
    · intro t g1 w1 et t1 b1
      have HF : Hid (Post (.returned (.pointer (some ⟨g1, 0, none⟩))) w1) := hb1 t g1 w1 et t1 b1
      clear hb1 hp t1 b1 et
      go_wp2
      exact HF.out
    · intro W _ hb
      have tu := hu.keep hb
      have tv := hv.keep hb
      clear hb1 c0 c1
      go_wp2_with fail
      refine (qs W tu tv).mono ?_
      rintro e w2 ⟨rfl, m, rfl⟩
      go_wp2_with fail
      refine rNum_cps 1 _ _ ?_
      intro g3 w3 t3 b3
      have HF : Hid (Post (.returned (.pointer (some ⟨g3, 0, none⟩))) w3) := hp g3 w3 t3 ((below_drewN hb _).trans (b3.mono (below_drewN hb _).size))
      clear hp t3 b3
      go_wp2
      exact HF.out
  · have hd : (v.kind == 100) = false := by simp [hvk]
    have c0 := hv.kindc
    obtain ⟨W, hW⟩ : ∃ W, W = w := ⟨_, rfl⟩
    have hb : Below w.heap.size w W := by rw [hW]; exact Below.refl _ _
    have tu := hu.keep hb
    have tv := hv.keep hb
    have hpW : Hid (W = w) := hW
    rw [← hW] at c0 ⊢
    clear hb1 hW
    generalize v.kind = vk at *
    go_enter Tryz.func146, Tryz.ntmps146
    go_wp2_with fail
    refine (qs W tu tv).mono ?_
    rintro e w2 ⟨rfl, m, rfl⟩
    go_wp2_with fail
    refine rNum_cps 1 _ _ ?_
    intro g3 w3 t3 b3
    have HF : Hid (Post (.returned (.pointer (some ⟨g3, 0, none⟩))) w3) := hp g3 w3 t3 ((below_drewN hb _).trans (b3.mono (below_drewN hb _).size))
    clear hp t3 b3
    go_wp2
    exact HF.out

set_option maxRecDepth 100000 in
set_option maxHeartbeats 2000000 in
theorem rRow_twoeq (kind : Int) (hk : 3 ≤ kind ∧ kind ≤ 11) (hkk : kind = 3 ∨ kind = 5 ∨ kind = 11) (u v : TD) (g h : Nat) (w : World) (hu : TreeAt w u g) (hv : TreeAt w v h) (fu : u.fine) (fv : v.fine) (HB : BesideC kind u) (Post : Ending → World → Prop)
    (hb1 : ∀ t g' w', v.isNum.bind (besideT kind u) = some t → TreeAt w' t g' → Below w.heap.size w w' → Post (.returned (.pointer (some ⟨g', 0, none⟩))) w')
    (hp : ∀ g' w', TreeAt w' (.two kind u v) g' → Below w.heap.size w w' → Post (.returned (.pointer (some ⟨g', 0, none⟩))) w') :
    Calls Tryz.prog 146 #[.int .i64 kind, .pointer (some ⟨g, 0, none⟩), .pointer (some ⟨h, 0, none⟩)] w Post := by
  have qs := fun W (a : TreeAt W u g) (b : TreeAt W v h) => rSame_any u v g h W a b fu fv
  have hk4 : kind ≠ 4 := by omega
  have hk8 : kind ≠ 8 := by omega
  have hk9 : kind ≠ 9 := by omega
  have hk6 : kind ≠ 6 := by omega
  have hk7 : kind ≠ 7 := by omega
  have hk10 : kind ≠ 10 := by omega
  by_cases hvk : v.kind = 100
  · obtain ⟨n, hvn⟩ : ∃ n, v.isNum = some n := ⟨v.num, (isNum_kind fv).1 hvk⟩
    have en : v.num = n := by have := (isNum_kind fv).1 hvk; rw [hvn] at this; exact (Option.some.inj this).symm
    have c0 := hv.kindc
    have c1 := hv.numc
    rw [hvk] at c0
    rw [en] at c1
    rw [hvn] at hb1
    simp only [Option.bind_some] at hb1
    have hw64 : W64 n := isNum_fine hvn fv
    go_enter Tryz.func146, Tryz.ntmps146
    go_wp2_with fail
    refine HB g n w _ hu hw64 ?_ ?_
    · intro t g1 w1 et t1 b1
      have HF : Hid (Post (.returned (.pointer (some ⟨g1, 0, none⟩))) w1) := hb1 t g1 w1 et t1 b1
      clear hb1 hp t1 b1 et
      go_wp2
      exact HF.out
    · intro W _ hb
      have tu := hu.keep hb
      have tv := hv.keep hb
      clear hb1 c0 c1
      go_wp2_with fail
      refine (qs W tu tv).mono ?_
      rintro e w2 ⟨rfl, m, rfl⟩
      generalize sameT u v = z at *
      obtain ⟨y1, y2⟩ := tree_two (k := kind) (tu.drewN m) (tv.drewN m) (below_drewN hb m)
      have HF := Lib.hid (hp _ _ y1 y2)
      clear hp y1 y2
      go_wp2
      all_goals exact HF.out
  · have hd : (v.kind == 100) = false := by simp [hvk]
    have c0 := hv.kindc
    obtain ⟨W, hW⟩ : ∃ W, W = w := ⟨_, rfl⟩
    have hb : Below w.heap.size w W := by rw [hW]; exact Below.refl _ _
    have tu := hu.keep hb
    have tv := hv.keep hb
    have hpW : Hid (W = w) := hW
    rw [← hW] at c0 ⊢
    clear hb1 hW
    generalize v.kind = vk at *
    go_enter Tryz.func146, Tryz.ntmps146
    go_wp2_with fail
    refine (qs W tu tv).mono ?_
    rintro e w2 ⟨rfl, m, rfl⟩
    generalize sameT u v = z at *
    obtain ⟨y1, y2⟩ := tree_two (k := kind) (tu.drewN m) (tv.drewN m) (below_drewN hb m)
    have HF := Lib.hid (hp _ _ y1 y2)
    clear hp y1 y2
    go_wp2
    all_goals exact HF.out

set_option maxRecDepth 100000 in
set_option maxHeartbeats 2000000 in
theorem rRow_apart (kind : Int) (hk : 3 ≤ kind ∧ kind ≤ 11) (hkk : kind = 10) (u v : TD) (g h : Nat) (w : World) (hu : TreeAt w u g) (hv : TreeAt w v h) (fu : u.fine) (fv : v.fine) (HB : BesideC kind u) (huv : u ≠ v) (hap : apartT u v = true) (Post : Ending → World → Prop)
    (hb1 : ∀ t g' w', v.isNum.bind (besideT kind u) = some t → TreeAt w' t g' → Below w.heap.size w w' → Post (.returned (.pointer (some ⟨g', 0, none⟩))) w')
    (hp : ∀ g' w', TreeAt w' (tnum 0) g' → Below w.heap.size w w' → Post (.returned (.pointer (some ⟨g', 0, none⟩))) w') :
    Calls Tryz.prog 146 #[.int .i64 kind, .pointer (some ⟨g, 0, none⟩), .pointer (some ⟨h, 0, none⟩)] w Post := by
  have qs := fun W (a : TreeAt W u g) (b : TreeAt W v h) => rSame_any u v g h W a b fu fv
  rw [sameT_ne huv] at qs
  have qa := fun W (a : TreeAt W u g) (b : TreeAt W v h) => rApart_any u v g h W a b fu fv
  rw [hap] at qa
  subst hkk
  by_cases hvk : v.kind = 100
  · obtain ⟨n, hvn⟩ : ∃ n, v.isNum = some n := ⟨v.num, (isNum_kind fv).1 hvk⟩
    have en : v.num = n := by have := (isNum_kind fv).1 hvk; rw [hvn] at this; exact (Option.some.inj this).symm
    have c0 := hv.kindc
    have c1 := hv.numc
    rw [hvk] at c0
    rw [en] at c1
    rw [hvn] at hb1
    simp only [Option.bind_some] at hb1
    have hw64 : W64 n := isNum_fine hvn fv
    go_enter Tryz.func146, Tryz.ntmps146
    go_wp2_with fail
    refine HB g n w _ hu hw64 ?_ ?_
    · intro t g1 w1 et t1 b1
      have HF : Hid (Post (.returned (.pointer (some ⟨g1, 0, none⟩))) w1) := hb1 t g1 w1 et t1 b1
      clear hb1 hp t1 b1 et
      go_wp2
      exact HF.out
    · intro W _ hb
      have tu := hu.keep hb
      have tv := hv.keep hb
      clear hb1 c0 c1
      go_wp2_with fail
      refine (qs W tu tv).mono ?_
      rintro e w2 ⟨rfl, m, rfl⟩
      go_wp2_with fail
      refine (qa _ (tu.drewN m) (tv.drewN m)).mono ?_
      rintro e w3 ⟨rfl, m3, rfl⟩
      rw [World.drewN_drewN]
      generalize m + m3 = m
      go_wp2_with fail
      refine rNum_cps 0 _ _ ?_
      intro g3 w3 t3 b3
      have HF : Hid (Post (.returned (.pointer (some ⟨g3, 0, none⟩))) w3) := hp g3 w3 t3 ((below_drewN hb _).trans (b3.mono (below_drewN hb _).size))
      clear hp t3 b3
      go_wp2
      exact HF.out
  · have hd : (v.kind == 100) = false := by simp [hvk]
    have c0 := hv.kindc
    obtain ⟨W, hW⟩ : ∃ W, W = w := ⟨_, rfl⟩
    have hb : Below w.heap.size w W := by rw [hW]; exact Below.refl _ _
    have tu := hu.keep hb
    have tv := hv.keep hb
    have hpW : Hid (W = w) := hW
    rw [← hW] at c0 ⊢
    clear hb1 hW
    generalize v.kind = vk at *
    go_enter Tryz.func146, Tryz.ntmps146
    go_wp2_with fail
    refine (qs W tu tv).mono ?_
    rintro e w2 ⟨rfl, m, rfl⟩
    go_wp2_with fail
    refine (qa _ (tu.drewN m) (tv.drewN m)).mono ?_
    rintro e w3 ⟨rfl, m3, rfl⟩
    rw [World.drewN_drewN]
    generalize m + m3 = m
    go_wp2_with fail
    refine rNum_cps 0 _ _ ?_
    intro g3 w3 t3 b3
    have HF : Hid (Post (.returned (.pointer (some ⟨g3, 0, none⟩))) w3) := hp g3 w3 t3 ((below_drewN hb _).trans (b3.mono (below_drewN hb _).size))
    clear hp t3 b3
    go_wp2
    exact HF.out

set_option maxRecDepth 100000 in
set_option maxHeartbeats 2000000 in
theorem rRow_near (kind : Int) (hk : 3 ≤ kind ∧ kind ≤ 11) (hkk : kind = 10) (u v : TD) (g h : Nat) (w : World) (hu : TreeAt w u g) (hv : TreeAt w v h) (fu : u.fine) (fv : v.fine) (HB : BesideC kind u) (huv : u ≠ v) (hap : apartT u v = false) (Post : Ending → World → Prop)
    (hb1 : ∀ t g' w', v.isNum.bind (besideT kind u) = some t → TreeAt w' t g' → Below w.heap.size w w' → Post (.returned (.pointer (some ⟨g', 0, none⟩))) w')
    (hp : ∀ g' w', TreeAt w' (.two kind u v) g' → Below w.heap.size w w' → Post (.returned (.pointer (some ⟨g', 0, none⟩))) w') :
    Calls Tryz.prog 146 #[.int .i64 kind, .pointer (some ⟨g, 0, none⟩), .pointer (some ⟨h, 0, none⟩)] w Post := by
  have qs := fun W (a : TreeAt W u g) (b : TreeAt W v h) => rSame_any u v g h W a b fu fv
  rw [sameT_ne huv] at qs
  have qa := fun W (a : TreeAt W u g) (b : TreeAt W v h) => rApart_any u v g h W a b fu fv
  rw [hap] at qa
  subst hkk
  by_cases hvk : v.kind = 100
  · obtain ⟨n, hvn⟩ : ∃ n, v.isNum = some n := ⟨v.num, (isNum_kind fv).1 hvk⟩
    have en : v.num = n := by have := (isNum_kind fv).1 hvk; rw [hvn] at this; exact (Option.some.inj this).symm
    have c0 := hv.kindc
    have c1 := hv.numc
    rw [hvk] at c0
    rw [en] at c1
    rw [hvn] at hb1
    simp only [Option.bind_some] at hb1
    have hw64 : W64 n := isNum_fine hvn fv
    go_enter Tryz.func146, Tryz.ntmps146
    go_wp2_with fail
    refine HB g n w _ hu hw64 ?_ ?_
    · intro t g1 w1 et t1 b1
      have HF : Hid (Post (.returned (.pointer (some ⟨g1, 0, none⟩))) w1) := hb1 t g1 w1 et t1 b1
      clear hb1 hp t1 b1 et
      go_wp2
      exact HF.out
    · intro W _ hb
      have tu := hu.keep hb
      have tv := hv.keep hb
      clear hb1 c0 c1
      go_wp2_with fail
      refine (qs W tu tv).mono ?_
      rintro e w2 ⟨rfl, m, rfl⟩
      go_wp2_with fail
      refine (qa _ (tu.drewN m) (tv.drewN m)).mono ?_
      rintro e w3 ⟨rfl, m3, rfl⟩
      rw [World.drewN_drewN]
      generalize m + m3 = m
      obtain ⟨y1, y2⟩ := tree_two (k := 10) (tu.drewN m) (tv.drewN m) (below_drewN hb m)
      have HF := Lib.hid (hp _ _ y1 y2)
      clear hp y1 y2
      go_wp2
      exact HF.out
  · have hd : (v.kind == 100) = false := by simp [hvk]
    have c0 := hv.kindc
    obtain ⟨W, hW⟩ : ∃ W, W = w := ⟨_, rfl⟩
    have hb : Below w.heap.size w W := by rw [hW]; exact Below.refl _ _
    have tu := hu.keep hb
    have tv := hv.keep hb
    have hpW : Hid (W = w) := hW
    rw [← hW] at c0 ⊢
    clear hb1 hW
    generalize v.kind = vk at *
    go_enter Tryz.func146, Tryz.ntmps146
    go_wp2_with fail
    refine (qs W tu tv).mono ?_
    rintro e w2 ⟨rfl, m, rfl⟩
    go_wp2_with fail
    refine (qa _ (tu.drewN m) (tv.drewN m)).mono ?_
    rintro e w3 ⟨rfl, m3, rfl⟩
    rw [World.drewN_drewN]
    generalize m + m3 = m
    obtain ⟨y1, y2⟩ := tree_two (k := 10) (tu.drewN m) (tv.drewN m) (below_drewN hb m)
    have HF := Lib.hid (hp _ _ y1 y2)
    clear hp y1 y2
    go_wp2
    exact HF.out

set_option maxRecDepth 100000 in
set_option maxHeartbeats 2000000 in
theorem rRow_twone (kind : Int) (hk : 3 ≤ kind ∧ kind ≤ 11) (hkk : kind ≠ 10) (u v : TD) (g h : Nat) (w : World) (hu : TreeAt w u g) (hv : TreeAt w v h) (fu : u.fine) (fv : v.fine) (HB : BesideC kind u) (huv : u ≠ v) (Post : Ending → World → Prop)
    (hb1 : ∀ t g' w', v.isNum.bind (besideT kind u) = some t → TreeAt w' t g' → Below w.heap.size w w' → Post (.returned (.pointer (some ⟨g', 0, none⟩))) w')
    (hp : ∀ g' w', TreeAt w' (.two kind u v) g' → Below w.heap.size w w' → Post (.returned (.pointer (some ⟨g', 0, none⟩))) w') :
    Calls Tryz.prog 146 #[.int .i64 kind, .pointer (some ⟨g, 0, none⟩), .pointer (some ⟨h, 0, none⟩)] w Post := by
  have qs := fun W (a : TreeAt W u g) (b : TreeAt W v h) => rSame_any u v g h W a b fu fv
  rw [sameT_ne huv] at qs
  have hk10 : kind ≠ 10 := hkk
  by_cases hvk : v.kind = 100
  · obtain ⟨n, hvn⟩ : ∃ n, v.isNum = some n := ⟨v.num, (isNum_kind fv).1 hvk⟩
    have en : v.num = n := by have := (isNum_kind fv).1 hvk; rw [hvn] at this; exact (Option.some.inj this).symm
    have c0 := hv.kindc
    have c1 := hv.numc
    rw [hvk] at c0
    rw [en] at c1
    rw [hvn] at hb1
    simp only [Option.bind_some] at hb1
    have hw64 : W64 n := isNum_fine hvn fv
    go_enter Tryz.func146, Tryz.ntmps146
    go_wp2_with fail
    refine HB g n w _ hu hw64 ?_ ?_
    · intro t g1 w1 et t1 b1
      have HF : Hid (Post (.returned (.pointer (some ⟨g1, 0, none⟩))) w1) := hb1 t g1 w1 et t1 b1
      clear hb1 hp t1 b1 et
      go_wp2
      exact HF.out
    · intro W _ hb
      have tu := hu.keep hb
      have tv := hv.keep hb
      clear hb1 c0 c1
      go_wp2_with fail
      refine (qs W tu tv).mono ?_
      rintro e w2 ⟨rfl, m, rfl⟩
      obtain ⟨y1, y2⟩ := tree_two (k := kind) (tu.drewN m) (tv.drewN m) (below_drewN hb m)
      have HF := Lib.hid (hp _ _ y1 y2)
      clear hp y1 y2
      go_wp2
      exact HF.out
  · have hd : (v.kind == 100) = false := by simp [hvk]
    have c0 := hv.kindc
    obtain ⟨W, hW⟩ : ∃ W, W = w := ⟨_, rfl⟩
    have hb : Below w.heap.size w W := by rw [hW]; exact Below.refl _ _
    have tu := hu.keep hb
    have tv := hv.keep hb
    have hpW : Hid (W = w) := hW
    rw [← hW] at c0 ⊢
    clear hb1 hW
    generalize v.kind = vk at *
    go_enter Tryz.func146, Tryz.ntmps146
    go_wp2_with fail
    refine (qs W tu tv).mono ?_
    rintro e w2 ⟨rfl, m, rfl⟩
    obtain ⟨y1, y2⟩ := tree_two (k := kind) (tu.drewN m) (tv.drewN m) (below_drewN hb m)
    have HF := Lib.hid (hp _ _ y1 y2)
    clear hp y1 y2
    go_wp2
    exact HF.out

set_option maxRecDepth 100000 in
set_option maxHeartbeats 2000000 in
theorem rRow_some (kind : Int) (hk : 3 ≤ kind ∧ kind ≤ 11) (u v : TD) (g h : Nat) (w : World) (hu : TreeAt w u g) (hv : TreeAt w v h) (fu : u.fine) (fv : v.fine) (HB : BesideC kind u) (t : TD) (hx : ∃ n, v.isNum = some n ∧ besideT kind u n = some t) (Post : Ending → World → Prop)
    (hp : ∀ g' w', TreeAt w' t g' → Below w.heap.size w w' → Post (.returned (.pointer (some ⟨g', 0, none⟩))) w') :
    Calls Tryz.prog 146 #[.int .i64 kind, .pointer (some ⟨g, 0, none⟩), .pointer (some ⟨h, 0, none⟩)] w Post := by
  obtain ⟨n, hvn, hbn⟩ := hx
  obtain rfl := isNum_some hvn
  have c0 := hv.kindc
  have c1 := hv.numc
  simp only [tnum, TD.kind, TD.num] at c0 c1
  have hw64 : W64 n := isNum_fine hvn fv
  have HB' := fun P (a : ∀ g' w', TreeAt w' t g' → Below w.heap.size w w' → P (.returned (.pointer (some ⟨g', 0, none⟩))) w') => HB g n w P hu hw64 (fun t' g' w' e x y => by rw [hbn] at e; cases e; exact a g' w' x y) (fun w' e => by rw [hbn] at e; cases e)
  clear HB hbn hvn hu hv
  go_enter Tryz.func146, Tryz.ntmps146
  go_wp2_with fail
  refine HB' _ ?_
  intro g1 w1 t1 b1
  have HF : Hid (Post (.returned (.pointer (some ⟨g1, 0, none⟩))) w1) := hp g1 w1 t1 b1
  clear hp t1 b1
  go_wp2
  exact HF.out

theorem rRow_cps (kind : Int) (hk : 3 ≤ kind ∧ kind ≤ 11) (u v : TD) (g h : Nat) (w : World) (hu : TreeAt w u g) (hv : TreeAt w v h) (fu : u.fine) (fv : v.fine) (HB : BesideC kind u) (Post : Ending → World → Prop)
    (hp : ∀ g' w', TreeAt w' (rowT kind u v) g' → Below w.heap.size w w' → Post (.returned (.pointer (some ⟨g', 0, none⟩))) w') :
    Calls Tryz.prog 146 #[.int .i64 kind, .pointer (some ⟨g, 0, none⟩), .pointer (some ⟨h, 0, none⟩)] w Post := by
  cases hb : v.isNum.bind (besideT kind u) with
  | some t =>
    rw [row_some hb] at hp
    have hb1 : ∀ t' g' w', v.isNum.bind (besideT kind u) = some t' → TreeAt w' t' g' → Below w.heap.size w w' → Post (.returned (.pointer (some ⟨g', 0, none⟩))) w' := fun t' g' w' e a b => by
      rw [hb] at e; cases e; exact hp g' w' a b
    have hx : ∃ n, v.isNum = some n ∧ besideT kind u n = some t := by
      cases hn : v.isNum with
      | none => rw [hn] at hb; cases hb
      | some n => rw [hn] at hb; exact ⟨n, rfl, hb⟩
    exact rRow_some kind hk u v g h w hu hv fu fv HB t hx Post hp
  | none =>
    rw [row_rest hb] at hp
    have hb1 : ∀ t' g' w', v.isNum.bind (besideT kind u) = some t' → TreeAt w' t' g' → Below w.heap.size w w' → Post (.returned (.pointer (some ⟨g', 0, none⟩))) w' := fun t' g' w' e a b => by
      rw [hb] at e; cases e
    by_cases h1 : kind = 3 ∨ kind = 5 ∨ kind = 11
    · rw [rest_kind h1] at hp; exact rRow_twoeq kind hk h1 u v g h w hu hv fu fv HB Post hb1 hp
    · by_cases huv : u = v
      · by_cases h2 : kind = 4 ∨ kind = 8 ∨ kind = 9
        · rw [rest_zero huv h2] at hp; exact rRow_zero kind hk h2 u v g h w hu hv fu fv HB huv Post hb1 hp
        · by_cases h3 : kind = 6 ∨ kind = 7
          · rw [rest_self huv h3] at hp; exact rRow_self kind hk h3 u v g h w hu hv fu fv HB huv Post hb1 hp
          · have h4 : kind = 10 := by omega
            rw [rest_one huv h4] at hp; exact rRow_one kind hk h4 u v g h w hu hv fu fv HB huv Post hb1 hp
      · by_cases h4 : kind = 10
        · cases ha : apartT u v with
          | true => rw [rest_apart huv h4 ha] at hp; exact rRow_apart kind hk h4 u v g h w hu hv fu fv HB huv ha Post hb1 hp
          | false => rw [rest_else huv (fun q => by rw [ha] at q; cases q.2)] at hp; exact rRow_near kind hk h4 u v g h w hu hv fu fv HB huv ha Post hb1 hp
        · rw [rest_else huv (fun q => h4 q.1)] at hp; exact rRow_twone kind hk h4 u v g h w hu hv fu fv HB huv Post hb1 hp

end Go.Proofs.YtblhmeidbjigaaaGreatDoor

/- The reference's terms: beside and Made of '+' and a number. -/
set_option linter.unusedSimpArgs false
set_option linter.unusedVariables false
namespace Go.Proofs.YtblhmeidbjigaaaGreatDoor
open Go.RowKit

/-- What Made answers of '+' and a number. -/
def MadeC (u : TD) : Prop := ∀ (g gk : Nat) (k : Int) (w : World) (Post : Ending → World → Prop), TreeAt w u g → TreeAt w (tnum k) gk → W64 k →
  (∀ g' w', TreeAt w' (addN u k) g' → Below w.heap.size w w' → Post (.returned (.pointer (some ⟨g', 0, none⟩))) w') →
  Calls Tryz.prog 114 #[.int .i64 3, .pointer (some ⟨g, 0, none⟩), .pointer (some ⟨gk, 0, none⟩)] w Post

set_option maxRecDepth 100000 in
set_option maxHeartbeats 2000000 in
theorem rBeside_add (u : TD) (fu : u.fine) (H : ∀ a m, u = .two 3 a (tnum m) → MadeC a) : BesideC 3 u := by
  intro g n w Post hu hn hs hno
  by_cases h0 : n = 0
  · subst h0
    have HF : Hid (Post (.returned (.pointer (some ⟨g, 0, none⟩))) w) := hs u g w (by simp [besideT]) hu (Below.refl _ _)
    clear hs hno H
    go_enter Tryz.func170, Tryz.ntmps170
    go_wp2
    exact HF.out
  · have q := rPlus_any u g w hu fu
    cases hp : u.isPlus with
    | none =>
      rw [hp] at q
      simp only [Option.isSome_none] at q
      have HF : Hid (Post (.returned (.pointer none)) w) := hno w (by simp [besideT, h0, hp]) (Below.refl _ _)
      clear hs hno H
      go_enter Tryz.func170, Tryz.ntmps170
      go_wp2_with fail
      refine q.mono ?_
      rintro e w1 ⟨rfl, rfl⟩
      go_wp2
      exact HF.out
    | some p =>
      obtain ⟨a, m⟩ := p
      rw [hp] at q
      simp only [Option.isSome_some] at q
      obtain rfl := isPlus_some hp
      have HM := H a m rfl
      have hbe : besideT 3 (.two 3 a (tnum m)) n = some (addN a (wrap64 (m + n))) := by simp [besideT, h0, hp]
      obtain ⟨ga, gb, r, ta, tb⟩ := hu
      have c2 := r.cell (i := 2) rfl
      have c3 := r.cell (i := 3) rfl
      have d1 := tb.numc
      simp only [tnum, TD.num] at d1
      have hw : W64 (wrap64 (m + n)) := w64_wrap _
      clear hno H tb fu hp
      go_enter Tryz.func170, Tryz.ntmps170
      go_wp2_with fail
      refine q.mono ?_
      rintro e w1 ⟨rfl, rfl⟩
      go_wp2_with fail
      refine rNum_cps _ _ _ ?_
      intro gk w1 tk b1
      have c2' := (r.keep b1).cell (i := 2) rfl
      clear c2 c3 d1
      go_wp2_with fail
      refine HM ga gk _ w1 _ (ta.keep b1) tk hw ?_
      intro g2 w2 t2 b2
      have HF : Hid (Post (.returned (.pointer (some ⟨g2, 0, none⟩))) w2) := hs _ g2 w2 hbe t2 (b1.trans (b2.mono b1.size))
      clear hs c2' t2 b2
      go_wp2
      exact HF.out

set_option maxRecDepth 100000 in
set_option maxHeartbeats 2000000 in
theorem rMade_add (u : TD) (fu : u.fine) (HB : BesideC 3 u) : MadeC u := by
  intro g gk k w Post hu hv hk hp
  rw [← made_add] at hp
  have fk : (tnum k).fine := tnum_fine hk
  have c0 := hu.kindc
  have d0 := hv.kindc
  have d1 := hv.numc
  simp only [tnum, TD.num, TD.kind] at d0 d1
  by_cases h1 : u.kind = 100
  · have e := (isNum_kind fu).1 h1
    have c1 := hu.numc
    have qc := fun w' => calcW_any 3 u.num k w' (by omega) (by omega)
    have em : madeT 3 u (tnum k) = tnum (calcW 3 u.num k) := by simp [madeT, e, num_isNum]
    rw [em] at hp
    rw [h1] at c0
    clear em e h1 hu hv fu HB
    generalize u.num = n at *
    generalize calcW 3 n k = R at *
    have B1 : ∀ n, Below w.heap.size w (w.drewN n) := fun n => below_drewN (Below.refl _ _) n
    go_enter Tryz.func114, Tryz.ntmps114
    go_wp2
    go_quiet (exact Calls.quiet_of_same ((qc _).mono (fun _ _ h => ⟨h.1, h.2.symm⟩)))
    go_wp2_with fail
    refine rNum_cps _ _ _ ?_
    intro g2 w2 t2 b2
    have HF : Hid (Post (.returned (.pointer (some ⟨g2, 0, none⟩))) w2) := hp g2 w2 t2 ((B1 nq).trans (b2.mono (B1 nq).size))
    clear hp t2 b2 c0 c1 d0 d1
    go_wp2
    exact HF.out
  · have e := (isNum_none fu).1 h1
    have em : madeT 3 u (tnum k) = rowT 3 u (tnum k) := by simp only [madeT, e, num_isNum]
    rw [em] at hp
    have qt := fun w' => rTurns_any 3 (by omega) w'
    rw [(turnsT_eq 3).2 (by omega)] at qt
    have qr := rRow_cps 3 (by omega) u (tnum k) g gk w hu hv fu fk HB
    clear em e hu hv
    have hd : (u.kind == 100) = false := by simp [h1]
    generalize u.kind = q at *
    go_enter Tryz.func114, Tryz.ntmps114
    go_wp2_with fail
    refine (qt _).mono ?_
    rintro e w1 ⟨rfl, rfl⟩
    go_wp2_with fail
    refine qr _ ?_
    intro g2 w2 t2 b2
    have HF : Hid (Post (.returned (.pointer (some ⟨g2, 0, none⟩))) w2) := hp g2 w2 t2 b2
    clear hp t2 b2 c0 d0 d1
    go_wp2
    exact HF.out

theorem rAdd_all (u : TD) : u.fine → MadeC u := by
  induction u with
  | leaf k n => exact fun f => rMade_add _ f (rBeside_add _ f (fun a m e => by cases e))
  | two k a b iha ihb => exact fun f => rMade_add _ f (rBeside_add _ f (fun a' m e => by cases e; exact iha f.2.2.1))
  | three k a b c => exact fun f => rMade_add _ f (rBeside_add _ f (fun a' m e => by cases e))

set_option maxRecDepth 100000 in
set_option maxHeartbeats 2000000 in
theorem rBeside_sub (u : TD) (fu : u.fine) : BesideC 4 u := by
  intro g n w Post hu hn hs hno
  have HM := rAdd_all u fu
  have hbe : besideT 4 u n = some (addN u (wrap64 (0 - n))) := by simp [besideT]
  have hw : W64 (wrap64 (0 - n)) := w64_wrap _
  clear hno
  go_enter Tryz.func170, Tryz.ntmps170
  go_wp2_with fail
  refine rNum_cps _ _ _ ?_
  intro gk w1 tk b1
  go_wp2_with fail
  refine HM g gk _ w1 _ (hu.keep b1) tk (by first | exact hw | simpa using hw) ?_
  intro g2 w2 t2 b2
  have HF : Hid (Post (.returned (.pointer (some ⟨g2, 0, none⟩))) w2) := hs _ g2 w2 hbe (by first | exact t2 | simpa using t2) (b1.trans (b2.mono b1.size))
  clear hs t2 b2
  go_wp2
  exact HF.out

set_option maxRecDepth 100000 in
set_option maxHeartbeats 4000000 in
/-- The kinds whose rows look at the number alone. -/
theorem rBeside_plain (kind : Int) (hk : kind = 5 ∨ kind = 6 ∨ kind = 7 ∨ kind = 8 ∨ kind = 11) (u : TD) : BesideC kind u := by
  intro g n w Post hu hn hs hno
  have HU : Hid (besideT kind u n = some u → Post (.returned (.pointer (some ⟨g, 0, none⟩))) w) := fun e => hs u g w e hu (Below.refl _ _)
  have HN : Hid (besideT kind u n = none → Post (.returned (.pointer none)) w) := fun e => hno w e (Below.refl _ _)
  have HT : Hid (∀ m g' w', besideT kind u n = some (tnum m) → TreeAt w' (tnum m) g' → Below w.heap.size w w' → Post (.returned (.pointer (some ⟨g', 0, none⟩))) w') := fun m => hs (tnum m)
  clear hs hno hu
  rcases hk with rfl | rfl | rfl | rfl | rfl
  · by_cases h0 : n = 0
    · subst h0
      have HX := Lib.hid (HT.out 0 · · (by simp [besideT]))
      clear HU HN HT
      go_enter Tryz.func170, Tryz.ntmps170
      go_wp2_with fail
      refine rNum_cps _ _ _ ?_
      intro g2 w2 t2 b2
      have HF : Hid (Post (.returned (.pointer (some ⟨g2, 0, none⟩))) w2) := HX.out g2 w2 t2 b2
      clear HX t2 b2
      go_wp2
      exact HF.out
    · by_cases h1 : n = 1
      · subst h1
        have HX := Lib.hid (HU.out (by simp [besideT]))
        clear HU HN HT
        go_enter Tryz.func170, Tryz.ntmps170
        go_wp2
        exact HX.out
      · have HX := Lib.hid (HN.out (by simp [besideT, h0, h1]))
        clear HU HN HT
        go_enter Tryz.func170, Tryz.ntmps170
        go_wp2
        exact HX.out
  · by_cases h0 : n = 0
    · subst h0
      have HX := Lib.hid (HT.out 0 · · (by simp [besideT]))
      clear HU HN HT
      go_enter Tryz.func170, Tryz.ntmps170
      go_wp2_with fail
      refine rNum_cps _ _ _ ?_
      intro g2 w2 t2 b2
      have HF : Hid (Post (.returned (.pointer (some ⟨g2, 0, none⟩))) w2) := HX.out g2 w2 t2 b2
      clear HX t2 b2
      go_wp2
      exact HF.out
    · by_cases h1 : n = -1
      · subst h1
        have HX := Lib.hid (HU.out (by simp [besideT]))
        clear HU HN HT
        go_enter Tryz.func170, Tryz.ntmps170
        go_wp2
        exact HX.out
      · have HX := Lib.hid (HN.out (by simp [besideT, h0, h1]))
        clear HU HN HT
        go_enter Tryz.func170, Tryz.ntmps170
        go_wp2
        exact HX.out
  · by_cases h0 : n = 0
    · subst h0
      have HX := Lib.hid (HU.out (by simp [besideT]))
      clear HU HN HT
      go_enter Tryz.func170, Tryz.ntmps170
      go_wp2
      exact HX.out
    · by_cases h1 : n = -1
      · subst h1
        have HX := Lib.hid (HT.out (-1) · · (by simp [besideT]))
        clear HU HN HT
        go_enter Tryz.func170, Tryz.ntmps170
        go_wp2_with fail
        refine rNum_cps _ _ _ ?_
        intro g2 w2 t2 b2
        have HF : Hid (Post (.returned (.pointer (some ⟨g2, 0, none⟩))) w2) := HX.out g2 w2 t2 b2
        clear HX t2 b2
        go_wp2
        exact HF.out
      · have HX := Lib.hid (HN.out (by simp [besideT, h0, h1]))
        clear HU HN HT
        go_enter Tryz.func170, Tryz.ntmps170
        go_wp2
        exact HX.out
  · by_cases h0 : n = 0
    · subst h0
      have HX := Lib.hid (HU.out (by simp [besideT]))
      clear HU HN HT
      go_enter Tryz.func170, Tryz.ntmps170
      go_wp2
      exact HX.out
    · have HX := Lib.hid (HN.out (by simp [besideT, h0]))
      clear HU HN HT
      go_enter Tryz.func170, Tryz.ntmps170
      go_wp2
      exact HX.out
  · by_cases h0 : n = 1
    · subst h0
      have HX := Lib.hid (HU.out (by simp [besideT]))
      clear HU HN HT
      go_enter Tryz.func170, Tryz.ntmps170
      go_wp2
      exact HX.out
    · have HX := Lib.hid (HN.out (by simp [besideT, h0]))
      clear HU HN HT
      go_enter Tryz.func170, Tryz.ntmps170
      go_wp2
      exact HX.out

set_option maxRecDepth 100000 in
set_option maxHeartbeats 1000000 in
theorem rBeside_none (kind : Int) (hk : kind = 9 ∨ kind = 10) (u : TD) : BesideC kind u := by
  intro g n w Post hu hn hs hno
  have HX : Hid (Post (.returned (.pointer none)) w) := hno w (by rcases hk with rfl | rfl <;> simp [besideT]) (Below.refl _ _)
  clear hs hno hu
  rcases hk with rfl | rfl
  all_goals
    go_enter Tryz.func170, Tryz.ntmps170
    go_wp2
    exact HX.out

theorem rBeside_any (kind : Int) (hk : 3 ≤ kind ∧ kind ≤ 11) (u : TD) (fu : u.fine) : BesideC kind u := by
  by_cases h3 : kind = 3
  · subst h3
    exact rBeside_add u fu (fun a m e => by subst e; exact rAdd_all a fu.2.2.1)
  by_cases h4 : kind = 4
  · subst h4; exact rBeside_sub u fu
  by_cases h9 : kind = 9 ∨ kind = 10
  · exact rBeside_none kind h9 u
  exact rBeside_plain kind (by omega) u

end Go.Proofs.YtblhmeidbjigaaaGreatDoor
