/- The reference's terms: row, given beside. -/
import Derived.Test.YtblhmeidbjigaaaGreatDoorRows
import Derived.WalkKit
import Derived.WalkSpells
import Derived.WalkLawsBesides
import Derived.Laws.BytesArg
import Derived.Deep.QuietTactic
import Derived.BigQuiet
import Derived.Deep.RegionHeld3
import Derived.Lib.ItoaNum
import Derived.Lib.ItoaLen
import Derived.OpenShut
import Derived.Maps.AppendAt
import Derived.Shelf.Strconv.Itoa3
import Derived.Shelf.Lay
import Derived.Ground.NamesProg
import Derived.Lib.SmallJoins
import Derived.Lib.Hide
import Derived.Test.YtblhmeidbjigaaaGreatDoorLTabToRTrDVerdicts

set_option linter.unusedSimpArgs false
set_option linter.unusedVariables false
namespace Go.Proofs.YtblhmeidbjigaaaGreatDoor
open Go.RowKit

/-- What beside answers. -/
def BesideC (kind : Int) (u : TD) : Prop := ∀ (g : Nat) (n : Int) (w : World) (Post : Ending → World → Prop), TreeAt w u g → W64 n →
  (∀ t g' w', besideT kind u n = some t → TreeAt w' t g' → Below w.heap.size w w' → Post (.returned (.pointer (some ⟨g', 0, none⟩))) w') →
  (∀ w', besideT kind u n = none → Below w.heap.size w w' → Post (.returned (.pointer none)) w') →
  Calls Tryz.prog 170 #[.int .i64 kind, .pointer (some ⟨g, 0, none⟩), .int .i64 n] w Post

/-- A new term of two parts. -/
theorem tree_two {w w0 : World} {k : Int} {a b : TD} {ga gb : Nat} (ha : TreeAt w a ga) (hb : TreeAt w b gb) (h0 : Below w0.heap.size w0 w) :
    TreeAt (w.alloc (.cells #[.int .i64 k, .int .i64 0, .pointer (some ⟨ga, 0, none⟩), .pointer (some ⟨gb, 0, none⟩), .pointer none] 131)) (.two k a b) w.heap.size ∧
    Below w0.heap.size w0 (w.alloc (.cells #[.int .i64 k, .int .i64 0, .pointer (some ⟨ga, 0, none⟩), .pointer (some ⟨gb, 0, none⟩), .pointer none] 131)) :=
  have hb' : Below w.heap.size w (w.alloc (.cells #[.int .i64 k, .int .i64 0, .pointer (some ⟨ga, 0, none⟩), .pointer (some ⟨gb, 0, none⟩), .pointer none] 131)) := (Below.refl _ _).alloc (Nat.le_refl _) _
  ⟨⟨ga, gb, heap_alloc_new w _, ha.keep hb', hb.keep hb'⟩, h0.trans (hb'.mono h0.size)⟩

theorem tree_three {w w0 : World} {k : Int} {a b c : TD} {ga gb gc : Nat} (ha : TreeAt w a ga) (hb : TreeAt w b gb) (hc : TreeAt w c gc) (h0 : Below w0.heap.size w0 w) :
    TreeAt (w.alloc (.cells #[.int .i64 k, .int .i64 0, .pointer (some ⟨ga, 0, none⟩), .pointer (some ⟨gb, 0, none⟩), .pointer (some ⟨gc, 0, none⟩)] 131)) (.three k a b c) w.heap.size ∧
    Below w0.heap.size w0 (w.alloc (.cells #[.int .i64 k, .int .i64 0, .pointer (some ⟨ga, 0, none⟩), .pointer (some ⟨gb, 0, none⟩), .pointer (some ⟨gc, 0, none⟩)] 131)) :=
  have hb' : Below w.heap.size w (w.alloc (.cells #[.int .i64 k, .int .i64 0, .pointer (some ⟨ga, 0, none⟩), .pointer (some ⟨gb, 0, none⟩), .pointer (some ⟨gc, 0, none⟩)] 131)) := (Below.refl _ _).alloc (Nat.le_refl _) _
  ⟨⟨ga, gb, gc, heap_alloc_new w _, ha.keep hb', hb.keep hb', hc.keep hb'⟩, h0.trans (hb'.mono h0.size)⟩

set_option maxRecDepth 100000 in
set_option maxHeartbeats 2000000 in
theorem rRow_zero (kind : Int) (hk : 3 ≤ kind ∧ kind ≤ 11) (hkk : kind = 4 ∨ kind = 8 ∨ kind = 9) (u v : TD) (g h : Nat) (w : World) (hu : TreeAt w u g) (hv : TreeAt w v h) (fu : u.fine) (fv : v.fine) (HB : BesideC kind u) (huv : u = v) (Post : Ending → World → Prop)
    (hb1 : ∀ t g' w', v.isNum.bind (besideT kind u) = some t → TreeAt w' t g' → Below w.heap.size w w' → Post (.returned (.pointer (some ⟨g', 0, none⟩))) w')
    (hp : ∀ g' w', TreeAt w' (tnum 0) g' → Below w.heap.size w w' → Post (.returned (.pointer (some ⟨g', 0, none⟩))) w') :
    Calls Tryz.prog 146 #[.int .i64 kind, .pointer (some ⟨g, 0, none⟩), .pointer (some ⟨h, 0, none⟩)] w Post := by
  have qs := fun W (a : TreeAt W u g) (b : TreeAt W v h) => rSame_any u v g h W a b fu fv
  rw [(sameT_iff u v).2 huv] at qs
  rcases hkk with rfl | rfl | rfl
  all_goals
    by_cases hvk : v.kind = 100
    · obtain ⟨n, hvn⟩ : ∃ n, v.isNum = some n := ⟨v.num, (isNum_kind fv).1 hvk⟩
      have en : v.num = n := by have := (isNum_kind fv).1 hvk; rw [hvn] at this; exact (Option.some.inj this).symm
      have c0 := hv.kindc
      have c1 := hv.numc
      rw [hvk] at c0
      rw [en] at c1
      rw [hvn] at hb1
      simp only [Option.bind_some] at hb1
      have hw64 : W64 n := isNum_fine hvn fv
      go_enter Tryz.func146, Tryz.ntmps146
      go_wp2_with fail
      refine HB g n w _ hu hw64 ?_ ?_
      · intro t g1 w1 et t1 b1
        have HF : Hid (Post (.returned (.pointer (some ⟨g1, 0, none⟩))) w1) := hb1 t g1 w1 et t1 b1
        clear hb1 hp t1 b1 et
        go_wp2
        exact HF.out
      · intro W _ hb
        have tu := hu.keep hb
        have tv := hv.keep hb
        clear hb1 c0 c1
        go_wp2_with fail
        refine (qs W tu tv).mono ?_
        rintro e w2 ⟨rfl, m, rfl⟩
        go_wp2_with fail
        refine rNum_cps 0 _ _ ?_
        intro g3 w3 t3 b3
        have HF : Hid (Post (.returned (.pointer (some ⟨g3, 0, none⟩))) w3) := hp g3 w3 t3 ((below_drewN hb _).trans (b3.mono (below_drewN hb _).size))
        clear hp t3 b3
        go_wp2
        exact HF.out
    · have hd : (v.kind == 100) = false := by simp [hvk]
      have c0 := hv.kindc
      obtain ⟨W, hW⟩ : ∃ W, W = w := ⟨_, rfl⟩
      have hb : Below w.heap.size w W := by rw [hW]; exact Below.refl _ _
      have tu := hu.keep hb
      have tv := hv.keep hb
      have hpW : Hid (W = w) := hW
      rw [← hW] at c0 ⊢
      clear hb1 hW
      generalize v.kind = vk at *
      go_enter Tryz.func146, Tryz.ntmps146
      go_wp2_with fail
      refine (qs W tu tv).mono ?_
      rintro e w2 ⟨rfl, m, rfl⟩
      go_wp2_with fail
      refine rNum_cps 0 _ _ ?_
      intro g3 w3 t3 b3
      have HF : Hid (Post (.returned (.pointer (some ⟨g3, 0, none⟩))) w3) := hp g3 w3 t3 ((below_drewN hb _).trans (b3.mono (below_drewN hb _).size))
      clear hp t3 b3
      go_wp2
      exact HF.out

set_option maxRecDepth 100000 in
set_option maxHeartbeats 2000000 in
theorem rRow_self (kind : Int) (hk : 3 ≤ kind ∧ kind ≤ 11) (hkk : kind = 6 ∨ kind = 7) (u v : TD) (g h : Nat) (w : World) (hu : TreeAt w u g) (hv : TreeAt w v h) (fu : u.fine) (fv : v.fine) (HB : BesideC kind u) (huv : u = v) (Post : Ending → World → Prop)
    (hb1 : ∀ t g' w', v.isNum.bind (besideT kind u) = some t → TreeAt w' t g' → Below w.heap.size w w' → Post (.returned (.pointer (some ⟨g', 0, none⟩))) w')
    (hp : ∀ g' w', TreeAt w' (u) g' → Below w.heap.size w w' → Post (.returned (.pointer (some ⟨g', 0, none⟩))) w') :
    Calls Tryz.prog 146 #[.int .i64 kind, .pointer (some ⟨g, 0, none⟩), .pointer (some ⟨h, 0, none⟩)] w Post := by
  have qs := fun W (a : TreeAt W u g) (b : TreeAt W v h) => rSame_any u v g h W a b fu fv
  rw [(sameT_iff u v).2 huv] at qs
  rcases hkk with rfl | rfl
  all_goals
    by_cases hvk : v.kind = 100
    · obtain ⟨n, hvn⟩ : ∃ n, v.isNum = some n := ⟨v.num, (isNum_kind fv).1 hvk⟩
      have en : v.num = n := by have := (isNum_kind fv).1 hvk; rw [hvn] at this; exact (Option.some.inj this).symm
      have c0 := hv.kindc
      have c1 := hv.numc
      rw [hvk] at c0
      rw [en] at c1
      rw [hvn] at hb1
      simp only [Option.bind_some] at hb1
      have hw64 : W64 n := isNum_fine hvn fv
      go_enter Tryz.func146, Tryz.ntmps146
      go_wp2_with fail
      refine HB g n w _ hu hw64 ?_ ?_
      · intro t g1 w1 et t1 b1
        have HF : Hid (Post (.returned (.pointer (some ⟨g1, 0, none⟩))) w1) := hb1 t g1 w1 et t1 b1
        clear hb1 hp t1 b1 et
        go_wp2
        exact HF.out
      · intro W _ hb
        have tu := hu.keep hb
        have tv := hv.keep hb
        clear hb1 c0 c1
        go_wp2_with fail
        refine (qs W tu tv).mono ?_
        rintro e w2 ⟨rfl, m, rfl⟩
        have HF : Hid (Post (.returned (.pointer (some ⟨g, 0, none⟩))) (W.drewN m)) := hp g _ (tu.drewN m) (below_drewN hb _)
        clear hp
        go_wp2
        exact HF.out
    · have hd : (v.kind == 100) = false := by simp [hvk]
      have c0 := hv.kindc
      obtain ⟨W, hW⟩ : ∃ W, W = w := ⟨_, rfl⟩
      have hb : Below w.heap.size w W := by rw [hW]; exact Below.refl _ _
      have tu := hu.keep hb
      have tv := hv.keep hb
      have hpW : Hid (W = w) := hW
      rw [← hW] at c0 ⊢
      clear hb1 hW
      generalize v.kind = vk at *
      go_enter Tryz.func146, Tryz.ntmps146
      go_wp2_with fail
      refine (qs W tu tv).mono ?_
      rintro e w2 ⟨rfl, m, rfl⟩
      have HF : Hid (Post (.returned (.pointer (some ⟨g, 0, none⟩))) (W.drewN m)) := hp g _ (tu.drewN m) (below_drewN hb _)
      clear hp
      go_wp2
      exact HF.out

set_option maxRecDepth 100000 in
set_option maxHeartbeats 2000000 in
theorem rRow_one (kind : Int) (hk : 3 ≤ kind ∧ kind ≤ 11) (hkk : kind = 10) (u v : TD) (g h : Nat) (w : World) (hu : TreeAt w u g) (hv : TreeAt w v h) (fu : u.fine) (fv : v.fine) (HB : BesideC kind u) (huv : u = v) (Post : Ending → World → Prop)
    (hb1 : ∀ t g' w', v.isNum.bind (besideT kind u) = some t → TreeAt w' t g' → Below w.heap.size w w' → Post (.returned (.pointer (some ⟨g', 0, none⟩))) w')
    (hp : ∀ g' w', TreeAt w' (tnum 1) g' → Below w.heap.size w w' → Post (.returned (.pointer (some ⟨g', 0, none⟩))) w') :
    Calls Tryz.prog 146 #[.int .i64 kind, .pointer (some ⟨g, 0, none⟩), .pointer (some ⟨h, 0, none⟩)] w Post := by
  have qs := fun W (a : TreeAt W u g) (b : TreeAt W v h) => rSame_any u v g h W a b fu fv
  rw [(sameT_iff u v).2 huv] at qs
  subst hkk
  by_cases hvk : v.kind = 100
  · obtain ⟨n, hvn⟩ : ∃ n, v.isNum = some n := ⟨v.num, (isNum_kind fv).1 hvk⟩
    have en : v.num = n := by have := (isNum_kind fv).1 hvk; rw [hvn] at this; exact (Option.some.inj this).symm
    have c0 := hv.kindc
    have c1 := hv.numc
    rw [hvk] at c0
    rw [en] at c1
    rw [hvn] at hb1
    simp only [Option.bind_some] at hb1
    have hw64 : W64 n := isNum_fine hvn fv
    go_enter Tryz.func146, Tryz.ntmps146
    go_wp2_with fail
    refine HB g n w _ hu hw64 ?_ ?_
    · intro t g1 w1 et t1 b1
      have HF : Hid (Post (.returned (.pointer (some ⟨g1, 0, none⟩))) w1) := hb1 t g1 w1 et t1 b1
      clear hb1 hp t1 b1 et
      go_wp2
      exact HF.out
    · intro W _ hb
      have tu := hu.keep hb
      have tv := hv.keep hb
      clear hb1 c0 c1
      go_wp2_with fail
      refine (qs W tu tv).mono ?_
      rintro e w2 ⟨rfl, m, rfl⟩
      go_wp2_with fail
      refine rNum_cps 1 _ _ ?_
      intro g3 w3 t3 b3
      have HF : Hid (Post (.returned (.pointer (some ⟨g3, 0, none⟩))) w3) := hp g3 w3 t3 ((below_drewN hb _).trans (b3.mono (below_drewN hb _).size))
      clear hp t3 b3
      go_wp2
      exact HF.out
  · have hd : (v.kind == 100) = false := by simp [hvk]
    have c0 := hv.kindc
    obtain ⟨W, hW⟩ : ∃ W, W = w := ⟨_, rfl⟩
    have hb : Below w.heap.size w W := by rw [hW]; exact Below.refl _ _
    have tu := hu.keep hb
    have tv := hv.keep hb
    have hpW : Hid (W = w) := hW
    rw [← hW] at c0 ⊢
    clear hb1 hW
    generalize v.kind = vk at *
    go_enter Tryz.func146, Tryz.ntmps146
    go_wp2_with fail
    refine (qs W tu tv).mono ?_
    rintro e w2 ⟨rfl, m, rfl⟩
    go_wp2_with fail
    refine rNum_cps 1 _ _ ?_
    intro g3 w3 t3 b3
    have HF : Hid (Post (.returned (.pointer (some ⟨g3, 0, none⟩))) w3) := hp g3 w3 t3 ((below_drewN hb _).trans (b3.mono (below_drewN hb _).size))
    clear hp t3 b3
    go_wp2
    exact HF.out

set_option maxRecDepth 100000 in
set_option maxHeartbeats 2000000 in
theorem rRow_twoeq (kind : Int) (hk : 3 ≤ kind ∧ kind ≤ 11) (hkk : kind = 3 ∨ kind = 5 ∨ kind = 11) (u v : TD) (g h : Nat) (w : World) (hu : TreeAt w u g) (hv : TreeAt w v h) (fu : u.fine) (fv : v.fine) (HB : BesideC kind u) (Post : Ending → World → Prop)
    (hb1 : ∀ t g' w', v.isNum.bind (besideT kind u) = some t → TreeAt w' t g' → Below w.heap.size w w' → Post (.returned (.pointer (some ⟨g', 0, none⟩))) w')
    (hp : ∀ g' w', TreeAt w' (.two kind u v) g' → Below w.heap.size w w' → Post (.returned (.pointer (some ⟨g', 0, none⟩))) w') :
    Calls Tryz.prog 146 #[.int .i64 kind, .pointer (some ⟨g, 0, none⟩), .pointer (some ⟨h, 0, none⟩)] w Post := by
  have qs := fun W (a : TreeAt W u g) (b : TreeAt W v h) => rSame_any u v g h W a b fu fv
  have hk4 : kind ≠ 4 := by omega
  have hk8 : kind ≠ 8 := by omega
  have hk9 : kind ≠ 9 := by omega
  have hk6 : kind ≠ 6 := by omega
  have hk7 : kind ≠ 7 := by omega
  have hk10 : kind ≠ 10 := by omega
  by_cases hvk : v.kind = 100
  · obtain ⟨n, hvn⟩ : ∃ n, v.isNum = some n := ⟨v.num, (isNum_kind fv).1 hvk⟩
    have en : v.num = n := by have := (isNum_kind fv).1 hvk; rw [hvn] at this; exact (Option.some.inj this).symm
    have c0 := hv.kindc
    have c1 := hv.numc
    rw [hvk] at c0
    rw [en] at c1
    rw [hvn] at hb1
    simp only [Option.bind_some] at hb1
    have hw64 : W64 n := isNum_fine hvn fv
    go_enter Tryz.func146, Tryz.ntmps146
    go_wp2_with fail
    refine HB g n w _ hu hw64 ?_ ?_
    · intro t g1 w1 et t1 b1
      have HF : Hid (Post (.returned (.pointer (some ⟨g1, 0, none⟩))) w1) := hb1 t g1 w1 et t1 b1
      clear hb1 hp t1 b1 et
      go_wp2
      exact HF.out
    · intro W _ hb
      have tu := hu.keep hb
      have tv := hv.keep hb
      clear hb1 c0 c1
      go_wp2_with fail
      refine (qs W tu tv).mono ?_
      rintro e w2 ⟨rfl, m, rfl⟩
      generalize sameT u v = z at *
      obtain ⟨y1, y2⟩ := tree_two (k := kind) (tu.drewN m) (tv.drewN m) (below_drewN hb m)
      have HF := Lib.hid (hp _ _ y1 y2)
      clear hp y1 y2
      go_wp2
      all_goals exact HF.out
  · have hd : (v.kind == 100) = false := by simp [hvk]
    have c0 := hv.kindc
    obtain ⟨W, hW⟩ : ∃ W, W = w := ⟨_, rfl⟩
    have hb : Below w.heap.size w W := by rw [hW]; exact Below.refl _ _
    have tu := hu.keep hb
    have tv := hv.keep hb
    have hpW : Hid (W = w) := hW
    rw [← hW] at c0 ⊢
    clear hb1 hW
    generalize v.kind = vk at *
    go_enter Tryz.func146, Tryz.ntmps146
    go_wp2_with fail
    refine (qs W tu tv).mono ?_
    rintro e w2 ⟨rfl, m, rfl⟩
    generalize sameT u v = z at *
    obtain ⟨y1, y2⟩ := tree_two (k := kind) (tu.drewN m) (tv.drewN m) (below_drewN hb m)
    have HF := Lib.hid (hp _ _ y1 y2)
    clear hp y1 y2
    go_wp2
    all_goals exact HF.out

set_option maxRecDepth 100000 in
set_option maxHeartbeats 2000000 in
theorem rRow_apart (kind : Int) (hk : 3 ≤ kind ∧ kind ≤ 11) (hkk : kind = 10) (u v : TD) (g h : Nat) (w : World) (hu : TreeAt w u g) (hv : TreeAt w v h) (fu : u.fine) (fv : v.fine) (HB : BesideC kind u) (huv : u ≠ v) (hap : apartT u v = true) (Post : Ending → World → Prop)
    (hb1 : ∀ t g' w', v.isNum.bind (besideT kind u) = some t → TreeAt w' t g' → Below w.heap.size w w' → Post (.returned (.pointer (some ⟨g', 0, none⟩))) w')
    (hp : ∀ g' w', TreeAt w' (tnum 0) g' → Below w.heap.size w w' → Post (.returned (.pointer (some ⟨g', 0, none⟩))) w') :
    Calls Tryz.prog 146 #[.int .i64 kind, .pointer (some ⟨g, 0, none⟩), .pointer (some ⟨h, 0, none⟩)] w Post := by
  have qs := fun W (a : TreeAt W u g) (b : TreeAt W v h) => rSame_any u v g h W a b fu fv
  rw [sameT_ne huv] at qs
  have qa := fun W (a : TreeAt W u g) (b : TreeAt W v h) => rApart_any u v g h W a b fu fv
  rw [hap] at qa
  subst hkk
  by_cases hvk : v.kind = 100
  · obtain ⟨n, hvn⟩ : ∃ n, v.isNum = some n := ⟨v.num, (isNum_kind fv).1 hvk⟩
    have en : v.num = n := by have := (isNum_kind fv).1 hvk; rw [hvn] at this; exact (Option.some.inj this).symm
    have c0 := hv.kindc
    have c1 := hv.numc
    rw [hvk] at c0
    rw [en] at c1
    rw [hvn] at hb1
    simp only [Option.bind_some] at hb1
    have hw64 : W64 n := isNum_fine hvn fv
    go_enter Tryz.func146, Tryz.ntmps146
    go_wp2_with fail
    refine HB g n w _ hu hw64 ?_ ?_
    · intro t g1 w1 et t1 b1
      have HF : Hid (Post (.returned (.pointer (some ⟨g1, 0, none⟩))) w1) := hb1 t g1 w1 et t1 b1
      clear hb1 hp t1 b1 et
      go_wp2
      exact HF.out
    · intro W _ hb
      have tu := hu.keep hb
      have tv := hv.keep hb
      clear hb1 c0 c1
      go_wp2_with fail
      refine (qs W tu tv).mono ?_
      rintro e w2 ⟨rfl, m, rfl⟩
      go_wp2_with fail
      refine (qa _ (tu.drewN m) (tv.drewN m)).mono ?_
      rintro e w3 ⟨rfl, m3, rfl⟩
      rw [World.drewN_drewN]
      generalize m + m3 = m
      go_wp2_with fail
      refine rNum_cps 0 _ _ ?_
      intro g3 w3 t3 b3
      have HF : Hid (Post (.returned (.pointer (some ⟨g3, 0, none⟩))) w3) := hp g3 w3 t3 ((below_drewN hb _).trans (b3.mono (below_drewN hb _).size))
      clear hp t3 b3
      go_wp2
      exact HF.out
  · have hd : (v.kind == 100) = false := by simp [hvk]
    have c0 := hv.kindc
    obtain ⟨W, hW⟩ : ∃ W, W = w := ⟨_, rfl⟩
    have hb : Below w.heap.size w W := by rw [hW]; exact Below.refl _ _
    have tu := hu.keep hb
    have tv := hv.keep hb
    have hpW : Hid (W = w) := hW
    rw [← hW] at c0 ⊢
    clear hb1 hW
    generalize v.kind = vk at *
    go_enter Tryz.func146, Tryz.ntmps146
    go_wp2_with fail
    refine (qs W tu tv).mono ?_
    rintro e w2 ⟨rfl, m, rfl⟩
    go_wp2_with fail
    refine (qa _ (tu.drewN m) (tv.drewN m)).mono ?_
    rintro e w3 ⟨rfl, m3, rfl⟩
    rw [World.drewN_drewN]
    generalize m + m3 = m
    go_wp2_with fail
    refine rNum_cps 0 _ _ ?_
    intro g3 w3 t3 b3
    have HF : Hid (Post (.returned (.pointer (some ⟨g3, 0, none⟩))) w3) := hp g3 w3 t3 ((below_drewN hb _).trans (b3.mono (below_drewN hb _).size))
    clear hp t3 b3
    go_wp2
    exact HF.out

set_option maxRecDepth 100000 in
set_option maxHeartbeats 2000000 in
theorem rRow_near (kind : Int) (hk : 3 ≤ kind ∧ kind ≤ 11) (hkk : kind = 10) (u v : TD) (g h : Nat) (w : World) (hu : TreeAt w u g) (hv : TreeAt w v h) (fu : u.fine) (fv : v.fine) (HB : BesideC kind u) (huv : u ≠ v) (hap : apartT u v = false) (Post : Ending → World → Prop)
    (hb1 : ∀ t g' w', v.isNum.bind (besideT kind u) = some t → TreeAt w' t g' → Below w.heap.size w w' → Post (.returned (.pointer (some ⟨g', 0, none⟩))) w')
    (hp : ∀ g' w', TreeAt w' (.two kind u v) g' → Below w.heap.size w w' → Post (.returned (.pointer (some ⟨g', 0, none⟩))) w') :
    Calls Tryz.prog 146 #[.int .i64 kind, .pointer (some ⟨g, 0, none⟩), .pointer (some ⟨h, 0, none⟩)] w Post := by
  have qs := fun W (a : TreeAt W u g) (b : TreeAt W v h) => rSame_any u v g h W a b fu fv
  rw [sameT_ne huv] at qs
  have qa := fun W (a : TreeAt W u g) (b : TreeAt W v h) => rApart_any u v g h W a b fu fv
  rw [hap] at qa
  subst hkk
  by_cases hvk : v.kind = 100
  · obtain ⟨n, hvn⟩ : ∃ n, v.isNum = some n := ⟨v.num, (isNum_kind fv).1 hvk⟩
    have en : v.num = n := by have := (isNum_kind fv).1 hvk; rw [hvn] at this; exact (Option.some.inj this).symm
    have c0 := hv.kindc
    have c1 := hv.numc
    rw [hvk] at c0
    rw [en] at c1
    rw [hvn] at hb1
    simp only [Option.bind_some] at hb1
    have hw64 : W64 n := isNum_fine hvn fv
    go_enter Tryz.func146, Tryz.ntmps146
    go_wp2_with fail
    refine HB g n w _ hu hw64 ?_ ?_
    · intro t g1 w1 et t1 b1
      have HF : Hid (Post (.returned (.pointer (some ⟨g1, 0, none⟩))) w1) := hb1 t g1 w1 et t1 b1
      clear hb1 hp t1 b1 et
      go_wp2
      exact HF.out
    · intro W _ hb
      have tu := hu.keep hb
      have tv := hv.keep hb
      clear hb1 c0 c1
      go_wp2_with fail
      refine (qs W tu tv).mono ?_
      rintro e w2 ⟨rfl, m, rfl⟩
      go_wp2_with fail
      refine (qa _ (tu.drewN m) (tv.drewN m)).mono ?_
      rintro e w3 ⟨rfl, m3, rfl⟩
      rw [World.drewN_drewN]
      generalize m + m3 = m
      obtain ⟨y1, y2⟩ := tree_two (k := 10) (tu.drewN m) (tv.drewN m) (below_drewN hb m)
      have HF := Lib.hid (hp _ _ y1 y2)
      clear hp y1 y2
      go_wp2
      exact HF.out
  · have hd : (v.kind == 100) = false := by simp [hvk]
    have c0 := hv.kindc
    obtain ⟨W, hW⟩ : ∃ W, W = w := ⟨_, rfl⟩
    have hb : Below w.heap.size w W := by rw [hW]; exact Below.refl _ _
    have tu := hu.keep hb
    have tv := hv.keep hb
    have hpW : Hid (W = w) := hW
    rw [← hW] at c0 ⊢
    clear hb1 hW
    generalize v.kind = vk at *
    go_enter Tryz.func146, Tryz.ntmps146
    go_wp2_with fail
    refine (qs W tu tv).mono ?_
    rintro e w2 ⟨rfl, m, rfl⟩
    go_wp2_with fail
    refine (qa _ (tu.drewN m) (tv.drewN m)).mono ?_
    rintro e w3 ⟨rfl, m3, rfl⟩
    rw [World.drewN_drewN]
    generalize m + m3 = m
    obtain ⟨y1, y2⟩ := tree_two (k := 10) (tu.drewN m) (tv.drewN m) (below_drewN hb m)
    have HF := Lib.hid (hp _ _ y1 y2)
    clear hp y1 y2
    go_wp2
    exact HF.out

set_option maxRecDepth 100000 in
set_option maxHeartbeats 2000000 in
theorem rRow_twone (kind : Int) (hk : 3 ≤ kind ∧ kind ≤ 11) (hkk : kind ≠ 10) (u v : TD) (g h : Nat) (w : World) (hu : TreeAt w u g) (hv : TreeAt w v h) (fu : u.fine) (fv : v.fine) (HB : BesideC kind u) (huv : u ≠ v) (Post : Ending → World → Prop)
    (hb1 : ∀ t g' w', v.isNum.bind (besideT kind u) = some t → TreeAt w' t g' → Below w.heap.size w w' → Post (.returned (.pointer (some ⟨g', 0, none⟩))) w')
    (hp : ∀ g' w', TreeAt w' (.two kind u v) g' → Below w.heap.size w w' → Post (.returned (.pointer (some ⟨g', 0, none⟩))) w') :
    Calls Tryz.prog 146 #[.int .i64 kind, .pointer (some ⟨g, 0, none⟩), .pointer (some ⟨h, 0, none⟩)] w Post := by
  have qs := fun W (a : TreeAt W u g) (b : TreeAt W v h) => rSame_any u v g h W a b fu fv
  rw [sameT_ne huv] at qs
  have hk10 : kind ≠ 10 := hkk
  by_cases hvk : v.kind = 100
  · obtain ⟨n, hvn⟩ : ∃ n, v.isNum = some n := ⟨v.num, (isNum_kind fv).1 hvk⟩
    have en : v.num = n := by have := (isNum_kind fv).1 hvk; rw [hvn] at this; exact (Option.some.inj this).symm
    have c0 := hv.kindc
    have c1 := hv.numc
    rw [hvk] at c0
    rw [en] at c1
    rw [hvn] at hb1
    simp only [Option.bind_some] at hb1
    have hw64 : W64 n := isNum_fine hvn fv
    go_enter Tryz.func146, Tryz.ntmps146
    go_wp2_with fail
    refine HB g n w _ hu hw64 ?_ ?_
    · intro t g1 w1 et t1 b1
      have HF : Hid (Post (.returned (.pointer (some ⟨g1, 0, none⟩))) w1) := hb1 t g1 w1 et t1 b1
      clear hb1 hp t1 b1 et
      go_wp2
      exact HF.out
    · intro W _ hb
      have tu := hu.keep hb
      have tv := hv.keep hb
      clear hb1 c0 c1
      go_wp2_with fail
      refine (qs W tu tv).mono ?_
      rintro e w2 ⟨rfl, m, rfl⟩
      obtain ⟨y1, y2⟩ := tree_two (k := kind) (tu.drewN m) (tv.drewN m) (below_drewN hb m)
      have HF := Lib.hid (hp _ _ y1 y2)
      clear hp y1 y2
      go_wp2
      exact HF.out
  · have hd : (v.kind == 100) = false := by simp [hvk]
    have c0 := hv.kindc
    obtain ⟨W, hW⟩ : ∃ W, W = w := ⟨_, rfl⟩
    have hb : Below w.heap.size w W := by rw [hW]; exact Below.refl _ _
    have tu := hu.keep hb
    have tv := hv.keep hb
    have hpW : Hid (W = w) := hW
    rw [← hW] at c0 ⊢
    clear hb1 hW
    generalize v.kind = vk at *
    go_enter Tryz.func146, Tryz.ntmps146
    go_wp2_with fail
    refine (qs W tu tv).mono ?_
    rintro e w2 ⟨rfl, m, rfl⟩
    obtain ⟨y1, y2⟩ := tree_two (k := kind) (tu.drewN m) (tv.drewN m) (below_drewN hb m)
    have HF := Lib.hid (hp _ _ y1 y2)
    clear hp y1 y2
    go_wp2
    exact HF.out

set_option maxRecDepth 100000 in
set_option maxHeartbeats 2000000 in
theorem rRow_some (kind : Int) (hk : 3 ≤ kind ∧ kind ≤ 11) (u v : TD) (g h : Nat) (w : World) (hu : TreeAt w u g) (hv : TreeAt w v h) (fu : u.fine) (fv : v.fine) (HB : BesideC kind u) (t : TD) (hx : ∃ n, v.isNum = some n ∧ besideT kind u n = some t) (Post : Ending → World → Prop)
    (hp : ∀ g' w', TreeAt w' t g' → Below w.heap.size w w' → Post (.returned (.pointer (some ⟨g', 0, none⟩))) w') :
    Calls Tryz.prog 146 #[.int .i64 kind, .pointer (some ⟨g, 0, none⟩), .pointer (some ⟨h, 0, none⟩)] w Post := by
  obtain ⟨n, hvn, hbn⟩ := hx
  obtain rfl := isNum_some hvn
  have c0 := hv.kindc
  have c1 := hv.numc
  simp only [tnum, TD.kind, TD.num] at c0 c1
  have hw64 : W64 n := isNum_fine hvn fv
  have HB' := fun P (a : ∀ g' w', TreeAt w' t g' → Below w.heap.size w w' → P (.returned (.pointer (some ⟨g', 0, none⟩))) w') => HB g n w P hu hw64 (fun t' g' w' e x y => by rw [hbn] at e; cases e; exact a g' w' x y) (fun w' e => by rw [hbn] at e; cases e)
  clear HB hbn hvn hu hv
  go_enter Tryz.func146, Tryz.ntmps146
  go_wp2_with fail
  refine HB' _ ?_
  intro g1 w1 t1 b1
  have HF : Hid (Post (.returned (.pointer (some ⟨g1, 0, none⟩))) w1) := hp g1 w1 t1 b1
  clear hp t1 b1
  go_wp2
  exact HF.out

theorem rRow_cps (kind : Int) (hk : 3 ≤ kind ∧ kind ≤ 11) (u v : TD) (g h : Nat) (w : World) (hu : TreeAt w u g) (hv : TreeAt w v h) (fu : u.fine) (fv : v.fine) (HB : BesideC kind u) (Post : Ending → World → Prop)
    (hp : ∀ g' w', TreeAt w' (rowT kind u v) g' → Below w.heap.size w w' → Post (.returned (.pointer (some ⟨g', 0, none⟩))) w') :
    Calls Tryz.prog 146 #[.int .i64 kind, .pointer (some ⟨g, 0, none⟩), .pointer (some ⟨h, 0, none⟩)] w Post := by
  cases hb : v.isNum.bind (besideT kind u) with
  | some t =>
    rw [row_some hb] at hp
    have hb1 : ∀ t' g' w', v.isNum.bind (besideT kind u) = some t' → TreeAt w' t' g' → Below w.heap.size w w' → Post (.returned (.pointer (some ⟨g', 0, none⟩))) w' := fun t' g' w' e a b => by
      rw [hb] at e; cases e; exact hp g' w' a b
    have hx : ∃ n, v.isNum = some n ∧ besideT kind u n = some t := by
      cases hn : v.isNum with
      | none => rw [hn] at hb; cases hb
      | some n => rw [hn] at hb; exact ⟨n, rfl, hb⟩
    exact rRow_some kind hk u v g h w hu hv fu fv HB t hx Post hp
  | none =>
    rw [row_rest hb] at hp
    have hb1 : ∀ t' g' w', v.isNum.bind (besideT kind u) = some t' → TreeAt w' t' g' → Below w.heap.size w w' → Post (.returned (.pointer (some ⟨g', 0, none⟩))) w' := fun t' g' w' e a b => by
      rw [hb] at e; cases e
    by_cases h1 : kind = 3 ∨ kind = 5 ∨ kind = 11
    · rw [rest_kind h1] at hp; exact rRow_twoeq kind hk h1 u v g h w hu hv fu fv HB Post hb1 hp
    · by_cases huv : u = v
      · by_cases h2 : kind = 4 ∨ kind = 8 ∨ kind = 9
        · rw [rest_zero huv h2] at hp; exact rRow_zero kind hk h2 u v g h w hu hv fu fv HB huv Post hb1 hp
        · by_cases h3 : kind = 6 ∨ kind = 7
          · rw [rest_self huv h3] at hp; exact rRow_self kind hk h3 u v g h w hu hv fu fv HB huv Post hb1 hp
          · have h4 : kind = 10 := by omega
            rw [rest_one huv h4] at hp; exact rRow_one kind hk h4 u v g h w hu hv fu fv HB huv Post hb1 hp
      · by_cases h4 : kind = 10
        · cases ha : apartT u v with
          | true => rw [rest_apart huv h4 ha] at hp; exact rRow_apart kind hk h4 u v g h w hu hv fu fv HB huv ha Post hb1 hp
          | false => rw [rest_else huv (fun q => by rw [ha] at q; cases q.2)] at hp; exact rRow_near kind hk h4 u v g h w hu hv fu fv HB huv ha Post hb1 hp
        · rw [rest_else huv (fun q => h4 q.1)] at hp; exact rRow_twone kind hk h4 u v g h w hu hv fu fv HB huv Post hb1 hp

end Go.Proofs.YtblhmeidbjigaaaGreatDoor

/- The reference's terms: beside and Made of '+' and a number. -/
set_option linter.unusedSimpArgs false
set_option linter.unusedVariables false
namespace Go.Proofs.YtblhmeidbjigaaaGreatDoor
open Go.RowKit

/-- What Made answers of '+' and a number. -/
def MadeC (u : TD) : Prop := ∀ (g gk : Nat) (k : Int) (w : World) (Post : Ending → World → Prop), TreeAt w u g → TreeAt w (tnum k) gk → W64 k →
  (∀ g' w', TreeAt w' (addN u k) g' → Below w.heap.size w w' → Post (.returned (.pointer (some ⟨g', 0, none⟩))) w') →
  Calls Tryz.prog 114 #[.int .i64 3, .pointer (some ⟨g, 0, none⟩), .pointer (some ⟨gk, 0, none⟩)] w Post

set_option maxRecDepth 100000 in
set_option maxHeartbeats 2000000 in
theorem rBeside_add (u : TD) (fu : u.fine) (H : ∀ a m, u = .two 3 a (tnum m) → MadeC a) : BesideC 3 u := by
  intro g n w Post hu hn hs hno
  by_cases h0 : n = 0
  · subst h0
    have HF : Hid (Post (.returned (.pointer (some ⟨g, 0, none⟩))) w) := hs u g w (by simp [besideT]) hu (Below.refl _ _)
    clear hs hno H
    go_enter Tryz.func170, Tryz.ntmps170
    go_wp2
    exact HF.out
  · have q := rPlus_any u g w hu fu
    cases hp : u.isPlus with
    | none =>
      rw [hp] at q
      simp only [Option.isSome_none] at q
      have HF : Hid (Post (.returned (.pointer none)) w) := hno w (by simp [besideT, h0, hp]) (Below.refl _ _)
      clear hs hno H
      go_enter Tryz.func170, Tryz.ntmps170
      go_wp2_with fail
      refine q.mono ?_
      rintro e w1 ⟨rfl, rfl⟩
      go_wp2
      exact HF.out
    | some p =>
      obtain ⟨a, m⟩ := p
      rw [hp] at q
      simp only [Option.isSome_some] at q
      obtain rfl := isPlus_some hp
      have HM := H a m rfl
      have hbe : besideT 3 (.two 3 a (tnum m)) n = some (addN a (wrap64 (m + n))) := by simp [besideT, h0, hp]
      obtain ⟨ga, gb, r, ta, tb⟩ := hu
      have c2 := r.cell (i := 2) rfl
      have c3 := r.cell (i := 3) rfl
      have d1 := tb.numc
      simp only [tnum, TD.num] at d1
      have hw : W64 (wrap64 (m + n)) := w64_wrap _
      clear hno H tb fu hp
      go_enter Tryz.func170, Tryz.ntmps170
      go_wp2_with fail
      refine q.mono ?_
      rintro e w1 ⟨rfl, rfl⟩
      go_wp2_with fail
      refine rNum_cps _ _ _ ?_
      intro gk w1 tk b1
      have c2' := (r.keep b1).cell (i := 2) rfl
      clear c2 c3 d1
      go_wp2_with fail
      refine HM ga gk _ w1 _ (ta.keep b1) tk hw ?_
      intro g2 w2 t2 b2
      have HF : Hid (Post (.returned (.pointer (some ⟨g2, 0, none⟩))) w2) := hs _ g2 w2 hbe t2 (b1.trans (b2.mono b1.size))
      clear hs c2' t2 b2
      go_wp2
      exact HF.out

set_option maxRecDepth 100000 in
set_option maxHeartbeats 2000000 in
theorem rMade_add (u : TD) (fu : u.fine) (HB : BesideC 3 u) : MadeC u := by
  intro g gk k w Post hu hv hk hp
  rw [← made_add] at hp
  have fk : (tnum k).fine := tnum_fine hk
  have c0 := hu.kindc
  have d0 := hv.kindc
  have d1 := hv.numc
  simp only [tnum, TD.num, TD.kind] at d0 d1
  by_cases h1 : u.kind = 100
  · have e := (isNum_kind fu).1 h1
    have c1 := hu.numc
    have qc := fun w' => calcW_any 3 u.num k w' (by omega) (by omega)
    have em : madeT 3 u (tnum k) = tnum (calcW 3 u.num k) := by simp [madeT, e, num_isNum]
    rw [em] at hp
    rw [h1] at c0
    clear em e h1 hu hv fu HB
    generalize u.num = n at *
    generalize calcW 3 n k = R at *
    have B1 : ∀ n, Below w.heap.size w (w.drewN n) := fun n => below_drewN (Below.refl _ _) n
    go_enter Tryz.func114, Tryz.ntmps114
    go_wp2
    go_quiet (exact Calls.quiet_of_same ((qc _).mono (fun _ _ h => ⟨h.1, h.2.symm⟩)))
    go_wp2_with fail
    refine rNum_cps _ _ _ ?_
    intro g2 w2 t2 b2
    have HF : Hid (Post (.returned (.pointer (some ⟨g2, 0, none⟩))) w2) := hp g2 w2 t2 ((B1 nq).trans (b2.mono (B1 nq).size))
    clear hp t2 b2 c0 c1 d0 d1
    go_wp2
    exact HF.out
  · have e := (isNum_none fu).1 h1
    have em : madeT 3 u (tnum k) = rowT 3 u (tnum k) := by simp only [madeT, e, num_isNum]
    rw [em] at hp
    have qt := fun w' => rTurns_any 3 (by omega) w'
    rw [(turnsT_eq 3).2 (by omega)] at qt
    have qr := rRow_cps 3 (by omega) u (tnum k) g gk w hu hv fu fk HB
    clear em e hu hv
    have hd : (u.kind == 100) = false := by simp [h1]
    generalize u.kind = q at *
    go_enter Tryz.func114, Tryz.ntmps114
    go_wp2_with fail
    refine (qt _).mono ?_
    rintro e w1 ⟨rfl, rfl⟩
    go_wp2_with fail
    refine qr _ ?_
    intro g2 w2 t2 b2
    have HF : Hid (Post (.returned (.pointer (some ⟨g2, 0, none⟩))) w2) := hp g2 w2 t2 b2
    clear hp t2 b2 c0 d0 d1
    go_wp2
    exact HF.out

theorem rAdd_all (u : TD) : u.fine → MadeC u := by
  induction u with
  | leaf k n => exact fun f => rMade_add _ f (rBeside_add _ f (fun a m e => by cases e))
  | two k a b iha ihb => exact fun f => rMade_add _ f (rBeside_add _ f (fun a' m e => by cases e; exact iha f.2.2.1))
  | three k a b c => exact fun f => rMade_add _ f (rBeside_add _ f (fun a' m e => by cases e))

set_option maxRecDepth 100000 in
set_option maxHeartbeats 2000000 in
theorem rBeside_sub (u : TD) (fu : u.fine) : BesideC 4 u := by
  intro g n w Post hu hn hs hno
  have HM := rAdd_all u fu
  have hbe : besideT 4 u n = some (addN u (wrap64 (0 - n))) := by simp [besideT]
  have hw : W64 (wrap64 (0 - n)) := w64_wrap _
  clear hno
  go_enter Tryz.func170, Tryz.ntmps170
  go_wp2_with fail
  refine rNum_cps _ _ _ ?_
  intro gk w1 tk b1
  go_wp2_with fail
  refine HM g gk _ w1 _ (hu.keep b1) tk (by first | exact hw | simpa using hw) ?_
  intro g2 w2 t2 b2
  have HF : Hid (Post (.returned (.pointer (some ⟨g2, 0, none⟩))) w2) := hs _ g2 w2 hbe (by first | exact t2 | simpa using t2) (b1.trans (b2.mono b1.size))
  clear hs t2 b2
  go_wp2
  exact HF.out

set_option maxRecDepth 100000 in
set_option maxHeartbeats 4000000 in
/-- The kinds whose rows look at the number alone. -/
theorem rBeside_plain (kind : Int) (hk : kind = 5 ∨ kind = 6 ∨ kind = 7 ∨ kind = 8 ∨ kind = 11) (u : TD) : BesideC kind u := by
  intro g n w Post hu hn hs hno
  have HU : Hid (besideT kind u n = some u → Post (.returned (.pointer (some ⟨g, 0, none⟩))) w) := fun e => hs u g w e hu (Below.refl _ _)
  have HN : Hid (besideT kind u n = none → Post (.returned (.pointer none)) w) := fun e => hno w e (Below.refl _ _)
  have HT : Hid (∀ m g' w', besideT kind u n = some (tnum m) → TreeAt w' (tnum m) g' → Below w.heap.size w w' → Post (.returned (.pointer (some ⟨g', 0, none⟩))) w') := fun m => hs (tnum m)
  clear hs hno hu
  rcases hk with rfl | rfl | rfl | rfl | rfl
  · by_cases h0 : n = 0
    · subst h0
      have HX := Lib.hid (HT.out 0 · · (by simp [besideT]))
      clear HU HN HT
      go_enter Tryz.func170, Tryz.ntmps170
      go_wp2_with fail
      refine rNum_cps _ _ _ ?_
      intro g2 w2 t2 b2
      have HF : Hid (Post (.returned (.pointer (some ⟨g2, 0, none⟩))) w2) := HX.out g2 w2 t2 b2
      clear HX t2 b2
      go_wp2
      exact HF.out
    · by_cases h1 : n = 1
      · subst h1
        have HX := Lib.hid (HU.out (by simp [besideT]))
        clear HU HN HT
        go_enter Tryz.func170, Tryz.ntmps170
        go_wp2
        exact HX.out
      · have HX := Lib.hid (HN.out (by simp [besideT, h0, h1]))
        clear HU HN HT
        go_enter Tryz.func170, Tryz.ntmps170
        go_wp2
        exact HX.out
  · by_cases h0 : n = 0
    · subst h0
      have HX := Lib.hid (HT.out 0 · · (by simp [besideT]))
      clear HU HN HT
      go_enter Tryz.func170, Tryz.ntmps170
      go_wp2_with fail
      refine rNum_cps _ _ _ ?_
      intro g2 w2 t2 b2
      have HF : Hid (Post (.returned (.pointer (some ⟨g2, 0, none⟩))) w2) := HX.out g2 w2 t2 b2
      clear HX t2 b2
      go_wp2
      exact HF.out
    · by_cases h1 : n = -1
      · subst h1
        have HX := Lib.hid (HU.out (by simp [besideT]))
        clear HU HN HT
        go_enter Tryz.func170, Tryz.ntmps170
        go_wp2
        exact HX.out
      · have HX := Lib.hid (HN.out (by simp [besideT, h0, h1]))
        clear HU HN HT
        go_enter Tryz.func170, Tryz.ntmps170
        go_wp2
        exact HX.out
  · by_cases h0 : n = 0
    · subst h0
      have HX := Lib.hid (HU.out (by simp [besideT]))
      clear HU HN HT
      go_enter Tryz.func170, Tryz.ntmps170
      go_wp2
      exact HX.out
    · by_cases h1 : n = -1
      · subst h1
        have HX := Lib.hid (HT.out (-1) · · (by simp [besideT]))
        clear HU HN HT
        go_enter Tryz.func170, Tryz.ntmps170
        go_wp2_with fail
        refine rNum_cps _ _ _ ?_
        intro g2 w2 t2 b2
        have HF : Hid (Post (.returned (.pointer (some ⟨g2, 0, none⟩))) w2) := HX.out g2 w2 t2 b2
        clear HX t2 b2
        go_wp2
        exact HF.out
      · have HX := Lib.hid (HN.out (by simp [besideT, h0, h1]))
        clear HU HN HT
        go_enter Tryz.func170, Tryz.ntmps170
        go_wp2
        exact HX.out
  · by_cases h0 : n = 0
    · subst h0
      have HX := Lib.hid (HU.out (by simp [besideT]))
      clear HU HN HT
      go_enter Tryz.func170, Tryz.ntmps170
      go_wp2
      exact HX.out
    · have HX := Lib.hid (HN.out (by simp [besideT, h0]))
      clear HU HN HT
      go_enter Tryz.func170, Tryz.ntmps170
      go_wp2
      exact HX.out
  · by_cases h0 : n = 1
    · subst h0
      have HX := Lib.hid (HU.out (by simp [besideT]))
      clear HU HN HT
      go_enter Tryz.func170, Tryz.ntmps170
      go_wp2
      exact HX.out
    · have HX := Lib.hid (HN.out (by simp [besideT, h0]))
      clear HU HN HT
      go_enter Tryz.func170, Tryz.ntmps170
      go_wp2
      exact HX.out

set_option maxRecDepth 100000 in
set_option maxHeartbeats 1000000 in
theorem rBeside_none (kind : Int) (hk : kind = 9 ∨ kind = 10) (u : TD) : BesideC kind u := by
  intro g n w Post hu hn hs hno
  have HX : Hid (Post (.returned (.pointer none)) w) := hno w (by rcases hk with rfl | rfl <;> simp [besideT]) (Below.refl _ _)
  clear hs hno hu
  rcases hk with rfl | rfl
  all_goals
    go_enter Tryz.func170, Tryz.ntmps170
    go_wp2
    exact HX.out

theorem rBeside_any (kind : Int) (hk : 3 ≤ kind ∧ kind ≤ 11) (u : TD) (fu : u.fine) : BesideC kind u := by
  by_cases h3 : kind = 3
  · subst h3
    exact rBeside_add u fu (fun a m e => by subst e; exact rAdd_all a fu.2.2.1)
  by_cases h4 : kind = 4
  · subst h4; exact rBeside_sub u fu
  by_cases h9 : kind = 9 ∨ kind = 10
  · exact rBeside_none kind h9 u
  exact rBeside_plain kind (by omega) u

end Go.Proofs.YtblhmeidbjigaaaGreatDoor

/- The reference's terms: Made. -/
set_option linter.unusedSimpArgs false
set_option linter.unusedVariables false
namespace Go.Proofs.YtblhmeidbjigaaaGreatDoor
open Go.RowKit

theorem made_num {kind a b : Int} {u v : TD} (hu : u.isNum = some a) (hv : v.isNum = some b) (h : ¬ (kind = 11 ∧ b = 0)) : madeT kind u v = tnum (calcW kind a b) := by
  simp only [madeT, hu, hv, if_neg h]

theorem made_div0 {kind a b : Int} {u v : TD} (hu : u.isNum = some a) (hv : v.isNum = some b) (h : kind = 11 ∧ b = 0) : madeT kind u v = rowT kind u v := by
  simp only [madeT, hu, hv, if_pos h]

theorem made_left {kind a : Int} {u v : TD} (hu : u.isNum = some a) (hv : v.isNum = none) : madeT kind u v = if turnsT kind = true then rowT kind v u else rowT kind u v := by
  simp only [madeT, hu, hv]

theorem made_right {kind b : Int} {u v : TD} (hu : u.isNum = none) (hv : v.isNum = some b) : madeT kind u v = rowT kind u v := by
  simp only [madeT, hu, hv]

theorem made_over {kind : Int} {u v : TD} (hu : u.isNum = none) (hv : v.isNum = none) (h : turnsT kind = true ∧ showT v < showT u) : madeT kind u v = rowT kind v u := by
  simp only [madeT, hu, hv, if_pos h]

theorem made_stay {kind : Int} {u v : TD} (hu : u.isNum = none) (hv : v.isNum = none) (h : ¬ (turnsT kind = true ∧ showT v < showT u)) : madeT kind u v = rowT kind u v := by
  simp only [madeT, hu, hv, if_neg h]

theorem bytesLess_lt : ∀ (x y : List UInt8), Op.bytesLess x y = true ↔ x < y
  | [], [] => by simp [Op.bytesLess]
  | _ :: _, [] => by simp [Op.bytesLess]
  | [], _ :: _ => by simp [Op.bytesLess]
  | a :: x, b :: y => by
    rw [Op.bytesLess, List.cons_lt_cons_iff]
    simp [bytesLess_lt x y]

theorem less_show (u v : TD) : Op.bytesLess (str (showT v)).toList (str (showT u)).toList = true ↔ showT v < showT u := by
  simp only [str, ByteArray.toList_mk]
  exact bytesLess_lt _ _

set_option maxRecDepth 100000 in
set_option maxHeartbeats 2000000 in
theorem rMade_num (kind : Int) (hk : 3 ≤ kind ∧ kind ≤ 11) (a b : Int) (hab : ¬ (kind = 11 ∧ b = 0)) (g h : Nat) (w : World) (hu : TreeAt w (tnum a) g) (hv : TreeAt w (tnum b) h) (Post : Ending → World → Prop)
    (hp : ∀ g' w', TreeAt w' (tnum (calcW kind a b)) g' → Below w.heap.size w w' → Post (.returned (.pointer (some ⟨g', 0, none⟩))) w') :
    Calls Tryz.prog 114 #[.int .i64 kind, .pointer (some ⟨g, 0, none⟩), .pointer (some ⟨h, 0, none⟩)] w Post := by
  have c0 := hu.kindc
  have c1 := hu.numc
  have d0 := hv.kindc
  have d1 := hv.numc
  simp only [tnum, TD.num, TD.kind] at c0 c1 d0 d1
  have qc := fun w' => calcW_any kind a b w' hk (by omega)
  have B1 : ∀ n, Below w.heap.size w (w.drewN n) := fun n => below_drewN (Below.refl _ _) n
  clear hu hv
  generalize calcW kind a b = R at *
  by_cases h11 : kind = 11
  · have hb : b ≠ 0 := fun e => hab ⟨h11, e⟩
    subst h11
    have hb1 : (b == 0) = false := by simp [hb]
    have hb2 : decide (b = 0) = false := by simp [hb]
    clear hab
    go_enter Tryz.func114, Tryz.ntmps114
    go_wp2
    go_quiet (exact Calls.quiet_of_same ((qc _).mono (fun _ _ h => ⟨h.1, h.2.symm⟩)))
    go_wp2_with fail
    refine rNum_cps _ _ _ ?_
    intro g2 w2 t2 b2
    have HF : Hid (Post (.returned (.pointer (some ⟨g2, 0, none⟩))) w2) := hp g2 w2 t2 ((B1 nq).trans (b2.mono (B1 nq).size))
    clear hp t2 b2 c0 c1 d0 d1
    go_wp2
    exact HF.out
  · have hk1 : (kind == 11) = false := by simp [h11]
    have hk2 : decide (kind = 11) = false := by simp [h11]
    clear hab
    go_enter Tryz.func114, Tryz.ntmps114
    go_wp2
    go_quiet (exact Calls.quiet_of_same ((qc _).mono (fun _ _ h => ⟨h.1, h.2.symm⟩)))
    go_wp2_with fail
    refine rNum_cps _ _ _ ?_
    intro g2 w2 t2 b2
    have HF : Hid (Post (.returned (.pointer (some ⟨g2, 0, none⟩))) w2) := hp g2 w2 t2 ((B1 nq).trans (b2.mono (B1 nq).size))
    clear hp t2 b2 c0 c1 d0 d1
    go_wp2
    exact HF.out

set_option maxRecDepth 100000 in
set_option maxHeartbeats 2000000 in
theorem rMade_div0 (a : Int) (g h : Nat) (w : World) (hu : TreeAt w (tnum a) g) (hv : TreeAt w (tnum 0) h) (wa : W64 a) (Post : Ending → World → Prop)
    (hp : ∀ g' w', TreeAt w' (rowT 11 (tnum a) (tnum 0)) g' → Below w.heap.size w w' → Post (.returned (.pointer (some ⟨g', 0, none⟩))) w') :
    Calls Tryz.prog 114 #[.int .i64 11, .pointer (some ⟨g, 0, none⟩), .pointer (some ⟨h, 0, none⟩)] w Post := by
  have c0 := hu.kindc
  have c1 := hu.numc
  have d0 := hv.kindc
  have d1 := hv.numc
  simp only [tnum, TD.num, TD.kind] at c0 c1 d0 d1
  have fa : (tnum a).fine := tnum_fine wa
  have f0 : (tnum 0).fine := tnum_fine (by constructor <;> decide)
  have B1 : ∀ n, Below w.heap.size w (w.drewN n) := fun n => below_drewN (Below.refl _ _) n
  have qt := fun w' => rTurns_any 11 (by omega) w'
  rw [turnsT_no (k := 11) (by omega)] at qt
  have qr := fun w' (hb : Below w.heap.size w w') => rRow_cps 11 (by omega) (tnum a) (tnum 0) g h w' (hu.keep hb) (hv.keep hb) fa f0 (rBeside_any 11 (by omega) _ fa)
  clear hu hv fa f0
  go_enter Tryz.func114, Tryz.ntmps114
  go_wp2_with fail
  refine (qt _).mono ?_
  rintro e w1 ⟨rfl, rfl⟩
  go_wp2_with fail
  refine qr _ (by first | exact B1 _ | exact Below.refl _ _) _ ?_
  intro g2 w2 t2 b2
  have HF : Hid (Post (.returned (.pointer (some ⟨g2, 0, none⟩))) w2) := hp g2 w2 t2 (by first | exact b2 | exact (B1 _).trans (b2.mono (B1 _).size))
  clear hp t2 b2 c0 c1 d0 d1
  go_wp2
  exact HF.out

set_option maxRecDepth 100000 in
set_option maxHeartbeats 2000000 in
theorem rMade_left (kind : Int) (hk : 3 ≤ kind ∧ kind ≤ 11) (a : Int) (v : TD) (g h : Nat) (w : World) (hu : TreeAt w (tnum a) g) (hv : TreeAt w v h) (wa : W64 a) (fv : v.fine) (hvn : v.isNum = none) (Post : Ending → World → Prop)
    (hp : ∀ g' w', TreeAt w' (if turnsT kind = true then rowT kind v (tnum a) else rowT kind (tnum a) v) g' → Below w.heap.size w w' → Post (.returned (.pointer (some ⟨g', 0, none⟩))) w') :
    Calls Tryz.prog 114 #[.int .i64 kind, .pointer (some ⟨g, 0, none⟩), .pointer (some ⟨h, 0, none⟩)] w Post := by
  have c0 := hu.kindc
  have d0 := hv.kindc
  simp only [tnum, TD.kind] at c0
  have fa : (tnum a).fine := tnum_fine wa
  have hkv : v.kind ≠ 100 := (isNum_none fv).2 hvn
  have hd : (v.kind == 100) = false := by simp [hkv]
  have hd2 : decide (v.kind = 100) = false := by simp [hkv]
  have qt := fun w' => rTurns_any kind hk w'
  have qr := rRow_cps kind hk (tnum a) v g h w hu hv fa fv (rBeside_any kind hk _ fa)
  have qs := rRow_cps kind hk v (tnum a) h g w hv hu fv fa (rBeside_any kind hk _ fv)
  clear hu hv fa fv hvn
  generalize v.kind = vk at *
  cases ht : turnsT kind with
  | true =>
    rw [ht] at qt hp
    simp only [if_true] at hp
    clear qr ht
    go_enter Tryz.func114, Tryz.ntmps114
    go_wp2_with fail
    refine (qt _).mono ?_
    rintro e w1 ⟨rfl, rfl⟩
    go_wp2_with fail
    refine qs _ ?_
    intro g2 w2 t2 b2
    have HF : Hid (Post (.returned (.pointer (some ⟨g2, 0, none⟩))) w2) := hp g2 w2 t2 b2
    clear hp t2 b2 c0 d0
    go_wp2
    exact HF.out
  | false =>
    rw [ht] at qt hp
    simp only [Bool.false_eq_true, if_false] at hp
    clear qs ht
    go_enter Tryz.func114, Tryz.ntmps114
    go_wp2_with fail
    refine (qt _).mono ?_
    rintro e w1 ⟨rfl, rfl⟩
    go_wp2_with fail
    refine qr _ ?_
    intro g2 w2 t2 b2
    have HF : Hid (Post (.returned (.pointer (some ⟨g2, 0, none⟩))) w2) := hp g2 w2 t2 b2
    clear hp t2 b2 c0 d0
    go_wp2
    exact HF.out

set_option maxRecDepth 100000 in
set_option maxHeartbeats 2000000 in
theorem rMade_right (kind : Int) (hk : 3 ≤ kind ∧ kind ≤ 11) (u : TD) (b : Int) (g h : Nat) (w : World) (hu : TreeAt w u g) (hv : TreeAt w (tnum b) h) (fu : u.fine) (wb : W64 b) (hun : u.isNum = none) (Post : Ending → World → Prop)
    (hp : ∀ g' w', TreeAt w' (rowT kind u (tnum b)) g' → Below w.heap.size w w' → Post (.returned (.pointer (some ⟨g', 0, none⟩))) w') :
    Calls Tryz.prog 114 #[.int .i64 kind, .pointer (some ⟨g, 0, none⟩), .pointer (some ⟨h, 0, none⟩)] w Post := by
  have c0 := hu.kindc
  have d0 := hv.kindc
  simp only [tnum, TD.kind] at d0
  have fb : (tnum b).fine := tnum_fine wb
  have hku : u.kind ≠ 100 := (isNum_none fu).2 hun
  have hd : (u.kind == 100) = false := by simp [hku]
  have hd2 : decide (u.kind = 100) = false := by simp [hku]
  have qt := fun w' => rTurns_any kind hk w'
  have qr := rRow_cps kind hk u (tnum b) g h w hu hv fu fb (rBeside_any kind hk _ fu)
  clear hu hv fb fu hun
  generalize u.kind = uk at *
  cases ht : turnsT kind with
  | true =>
    rw [ht] at qt
    clear ht
    go_enter Tryz.func114, Tryz.ntmps114
    go_wp2_with fail
    refine (qt _).mono ?_
    rintro e w1 ⟨rfl, rfl⟩
    go_wp2_with fail
    refine qr _ ?_
    intro g2 w2 t2 b2
    have HF : Hid (Post (.returned (.pointer (some ⟨g2, 0, none⟩))) w2) := hp g2 w2 t2 b2
    clear hp t2 b2 c0 d0
    go_wp2
    exact HF.out
  | false =>
    rw [ht] at qt
    clear ht
    go_enter Tryz.func114, Tryz.ntmps114
    go_wp2_with fail
    refine (qt _).mono ?_
    rintro e w1 ⟨rfl, rfl⟩
    go_wp2_with fail
    refine qr _ ?_
    intro g2 w2 t2 b2
    have HF : Hid (Post (.returned (.pointer (some ⟨g2, 0, none⟩))) w2) := hp g2 w2 t2 b2
    clear hp t2 b2 c0 d0
    go_wp2
    exact HF.out

set_option maxRecDepth 100000 in
set_option maxHeartbeats 4000000 in
theorem rMade_none (kind : Int) (hk : 3 ≤ kind ∧ kind ≤ 11) (u v : TD) (g h : Nat) (w : World) (hu : TreeAt w u g) (hv : TreeAt w v h) (ht : TabW w) (fu : u.fine) (fv : v.fine) (su : u.size ≤ 4000000000000) (sv : v.size ≤ 4000000000000) (hun : u.isNum = none) (hvn : v.isNum = none) (Post : Ending → World → Prop)
    (hp : ∀ g' w', TreeAt w' (madeT kind u v) g' → Below w.heap.size w w' → Post (.returned (.pointer (some ⟨g', 0, none⟩))) w') :
    Calls Tryz.prog 114 #[.int .i64 kind, .pointer (some ⟨g, 0, none⟩), .pointer (some ⟨h, 0, none⟩)] w Post := by
  have c0 := hu.kindc
  have d0 := hv.kindc
  have hku : u.kind ≠ 100 := (isNum_none fu).2 hun
  have hd : (u.kind == 100) = false := by simp [hku]
  have hd2 : decide (u.kind = 100) = false := by simp [hku]
  have hkv : v.kind ≠ 100 := (isNum_none fv).2 hvn
  have he : (v.kind == 100) = false := by simp [hkv]
  have he2 : decide (v.kind = 100) = false := by simp [hkv]
  have qt := fun w' => rTurns_any kind hk w'
  cases htn : turnsT kind with
  | false =>
    rw [made_stay hun hvn (fun q => by rw [htn] at q; cases q.1)] at hp
    rw [htn] at qt
    have qr := rRow_cps kind hk u v g h w hu hv fu fv (rBeside_any kind hk _ fu)
    clear hu hv fu fv hun hvn htn ht
    generalize u.kind = uk at *
    generalize v.kind = vk at *
    go_enter Tryz.func114, Tryz.ntmps114
    go_wp2_with fail
    refine (qt _).mono ?_
    rintro e w1 ⟨rfl, rfl⟩
    go_wp2_with fail
    refine qr _ ?_
    intro g2 w2 t2 b2
    have HF : Hid (Post (.returned (.pointer (some ⟨g2, 0, none⟩))) w2) := hp g2 w2 t2 b2
    clear hp t2 b2 c0 d0
    go_wp2
    exact HF.out
  | true =>
    rw [htn] at qt
    have q1 := rShow_any u g w hu ht fu su
    have q2 := fun w' (hb : Below w.heap.size w w') => rShow_any v h w' (hv.keep hb) (ht.keep hb) fv sv
    have hl := less_show u v
    have HU := Lib.hid hu
    have HV := Lib.hid hv
    by_cases hlt : showT v < showT u
    · rw [made_over hun hvn ⟨htn, hlt⟩] at hp
      have hz := hl.2 hlt
      have qs := fun w' (hb : Below w.heap.size w w') => rRow_cps kind hk v u h g w' (HV.out.keep hb) (HU.out.keep hb) fv fu (rBeside_any kind hk _ fv)
      clear hl hu hv fu fv hun hvn htn ht hlt HU HV
      generalize u.kind = uk at *
      generalize v.kind = vk at *
      generalize str (showT u) = S at *
      generalize str (showT v) = T at *
      go_enter Tryz.func114, Tryz.ntmps114
      go_wp2_with fail
      refine (qt _).mono ?_
      rintro e w1 ⟨rfl, rfl⟩
      go_wp2_with fail
      refine q1.mono ?_
      rintro e w1 ⟨rfl, b1⟩
      clear c0 d0
      go_wp2_with fail
      refine (q2 w1 b1).mono ?_
      rintro e w2 ⟨rfl, b2⟩
      have b12 : Below w.heap.size w w2 := b1.trans (b2.mono b1.size)
      go_wp2_with fail
      refine qs w2 b12 _ ?_
      intro g3 w3 t3 b3
      have HF : Hid (Post (.returned (.pointer (some ⟨g3, 0, none⟩))) w3) := hp g3 w3 t3 (b12.trans (b3.mono b12.size))
      clear hp t3 b3 b12 b1 b2
      go_wp2
      exact HF.out
    · rw [made_stay hun hvn (fun q => hlt q.2)] at hp
      have hz : Op.bytesLess (str (showT v)).toList (str (showT u)).toList = false := by
        cases hx : Op.bytesLess (str (showT v)).toList (str (showT u)).toList with
        | false => rfl
        | true => exact absurd (hl.1 hx) hlt
      have qs := fun w' (hb : Below w.heap.size w w') => rRow_cps kind hk u v g h w' (HU.out.keep hb) (HV.out.keep hb) fu fv (rBeside_any kind hk _ fu)
      clear hl hu hv fu fv hun hvn htn ht hlt HU HV
      generalize u.kind = uk at *
      generalize v.kind = vk at *
      generalize str (showT u) = S at *
      generalize str (showT v) = T at *
      go_enter Tryz.func114, Tryz.ntmps114
      go_wp2_with fail
      refine (qt _).mono ?_
      rintro e w1 ⟨rfl, rfl⟩
      go_wp2_with fail
      refine q1.mono ?_
      rintro e w1 ⟨rfl, b1⟩
      clear c0 d0
      go_wp2_with fail
      refine (q2 w1 b1).mono ?_
      rintro e w2 ⟨rfl, b2⟩
      have b12 : Below w.heap.size w w2 := b1.trans (b2.mono b1.size)
      go_wp2_with fail
      refine qs w2 b12 _ ?_
      intro g3 w3 t3 b3
      have HF : Hid (Post (.returned (.pointer (some ⟨g3, 0, none⟩))) w3) := hp g3 w3 t3 (b12.trans (b3.mono b12.size))
      clear hp t3 b3 b12 b1 b2
      go_wp2
      exact HF.out

theorem rMade_cps (kind : Int) (hk : 3 ≤ kind ∧ kind ≤ 11) (u v : TD) (g h : Nat) (w : World) (hu : TreeAt w u g) (hv : TreeAt w v h) (ht : TabW w) (fu : u.fine) (fv : v.fine) (su : u.size ≤ 4000000000000) (sv : v.size ≤ 4000000000000) (Post : Ending → World → Prop)
    (hp : ∀ g' w', TreeAt w' (madeT kind u v) g' → Below w.heap.size w w' → Post (.returned (.pointer (some ⟨g', 0, none⟩))) w') :
    Calls Tryz.prog 114 #[.int .i64 kind, .pointer (some ⟨g, 0, none⟩), .pointer (some ⟨h, 0, none⟩)] w Post := by
  cases hun : u.isNum with
  | some a =>
    have wa : W64 a := isNum_fine hun fu
    obtain rfl := isNum_some hun
    cases hvn : v.isNum with
    | some b =>
      have wb : W64 b := isNum_fine hvn fv
      obtain rfl := isNum_some hvn
      by_cases hab : kind = 11 ∧ b = 0
      · rw [made_div0 hun hvn hab] at hp
        obtain ⟨rfl, rfl⟩ := hab
        exact rMade_div0 a g h w hu hv wa Post hp
      · rw [made_num hun hvn hab] at hp
        exact rMade_num kind hk a b hab g h w hu hv Post hp
    | none =>
      rw [made_left hun hvn] at hp
      exact rMade_left kind hk a v g h w hu hv wa fv hvn Post hp
  | none =>
    cases hvn : v.isNum with
    | some b =>
      have wb : W64 b := isNum_fine hvn fv
      obtain rfl := isNum_some hvn
      rw [made_right hun hvn] at hp
      exact rMade_right kind hk u b g h w hu hv fu wb hun Post hp
    | none => exact rMade_none kind hk u v g h w hu hv ht fu fv su sv hun hvn Post hp

end Go.Proofs.YtblhmeidbjigaaaGreatDoor
