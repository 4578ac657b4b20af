/- The reference's terms: Read, left, laid, Written. -/
import Derived.Test.YtblhmeidbjigaaaGreatDoorRows
import Derived.WalkKit
import Derived.WalkSpells
import Derived.WalkLawsBesides
import Derived.Laws.BytesArg
import Derived.Deep.QuietTactic
import Derived.BigQuiet
import Derived.Deep.RegionHeld3
import Derived.Lib.ItoaNum
import Derived.Lib.ItoaLen
import Derived.OpenShut
import Derived.Maps.AppendAt
import Derived.Shelf.Strconv.Itoa3
import Derived.Shelf.Lay
import Derived.Ground.NamesProg
import Derived.Lib.SmallJoins
import Derived.Lib.Hide
import Derived.StillTailTactics
import Derived.Test.YtblhmeidbjigaaaGreatDoorRTrEToRTrGVerdicts

set_option linter.unusedSimpArgs false
set_option linter.unusedVariables false
namespace Go.Proofs.YtblhmeidbjigaaaGreatDoor
open Go.RowKit

/-- A region that reads, then what makes memory of itself. -/
theorem wp_reads {P : Program} {id : Nat} {Q : Exit → Act → World → Prop} {a : Act} {w : World} {l : List Oper} (n : Nat) (hm : P.follows .mixedOrders = true) (hB : Region.lexTailB .any l.toArray n = true)
    (h : wpStill P l.toArray w.drew (fun a' => wpList P l.toArray Q (l.drop n) a' w.drew) (l.take n) a) : (Code.region id l.toArray true).wp P Q a w :=
  wp_region_still_tail n hm hB h

theorem store_kind {m : TD} (hf : m.fine) (h : m.kind = 13) : ∃ c a v, m = .three 13 c a v := by
  cases m with
  | leaf k n => obtain ⟨q, _⟩ := hf; simp only [TD.kind] at h; omega
  | two k a b => obtain ⟨q, q', _⟩ := hf; simp only [TD.kind] at h; omega
  | three k a b c => simp only [TD.kind] at h; exact ⟨a, b, c, by rw [h]⟩

theorem read_same {c a v u : TD} (h : a = u) : readT (.three 13 c a v) u = v := by rw [readT, if_pos h]
theorem read_far {c a v u : TD} (h : a ≠ u) (h2 : apartT a u = true) : readT (.three 13 c a v) u = readT c u := by rw [readT, if_neg h, if_pos h2]
theorem read_near {c a v u : TD} (h : a ≠ u) (h2 : apartT a u = false) : readT (.three 13 c a v) u = .two 12 (.three 13 c a v) u := by rw [readT, if_neg h, if_neg (by rw [h2]; simp)]
theorem read_else {m u : TD} (h : m.kind ≠ 13) : readT m u = .two 12 m u := by
  cases m with
  | leaf k n => rfl
  | two k a b => rfl
  | three k a b c =>
    simp only [TD.kind] at h
    unfold readT
    split
    · rename_i e; cases e; exact absurd rfl h
    · rfl

theorem left_same {c a v u : TD} (h : a = u) : leftT (.three 13 c a v) u = c := by rw [leftT, if_pos h]
theorem left_far {c a v u : TD} (h : a ≠ u) (h2 : apartT a u = true) : leftT (.three 13 c a v) u = .three 13 (leftT c u) a v := by rw [leftT, if_neg h, if_pos h2]
theorem left_near {c a v u : TD} (h : a ≠ u) (h2 : apartT a u = false) : leftT (.three 13 c a v) u = .three 13 c a v := by rw [leftT, if_neg h, if_neg (by rw [h2]; simp)]
theorem left_else {m u : TD} (h : m.kind ≠ 13) : leftT m u = m := by
  cases m with
  | leaf k n => rfl
  | two k a b => rfl
  | three k a b c =>
    simp only [TD.kind] at h
    unfold leftT
    split
    · rename_i e; cases e; exact absurd rfl h
    · rfl

theorem laid_over {c a w u v : TD} {n k : Int} (hu : u.isNum = some n) (ha : a.isNum = some k) (h : k > n) : laidT (.three 13 c a w) u v = .three 13 (laidT c u v) a w := by
  rw [laidT]; simp only [hu, ha, if_pos h]
theorem laid_else {m u v : TD} (h : ¬ ∃ c a w n k, m = .three 13 c a w ∧ u.isNum = some n ∧ a.isNum = some k ∧ k > n) : laidT m u v = .three 13 m u v := by
  cases m with
  | leaf k n => rfl
  | two k a b => rfl
  | three k a b c =>
    by_cases hk : k = 13
    · subst hk
      rw [laidT]
      split
      · rename_i n q e1 e2
        by_cases hq : q > n
        · exact absurd ⟨a, b, c, n, q, rfl, e1, e2, hq⟩ h
        · rw [if_neg hq]
      · rfl
    · unfold laidT
      split
      · rename_i e; cases e; exact absurd rfl hk
      · rfl

set_option maxRecDepth 100000 in
set_option maxHeartbeats 2000000 in
theorem rRead_else (m u : TD) (g h : Nat) (w : World) (hm : TreeAt w m g) (hu : TreeAt w u h) (hk : m.kind ≠ 13) (Post : Ending → World → Prop)
    (hp : ∀ g' w', TreeAt w' (readT m u) g' → Below w.heap.size w w' → Post (.returned (.pointer (some ⟨g', 0, none⟩))) w') :
    Calls Tryz.prog 112 #[.pointer (some ⟨g, 0, none⟩), .pointer (some ⟨h, 0, none⟩)] w Post := by
  rw [read_else hk] at hp
  have c0 := hm.kindc
  have hd : (m.kind == 13) = false := by simp [hk]
  have hd2 : decide (m.kind = 13) = false := by simp [hk]
  obtain ⟨y1, y2⟩ := tree_two (k := 12) hm hu (Below.refl _ _)
  have HF := Lib.hid (hp _ _ y1 y2)
  clear hp y1 y2 hm hu
  generalize m.kind = mk at *
  go_enter Tryz.func112, Tryz.ntmps112
  go_wp2
  exact HF.out

set_option maxRecDepth 100000 in
set_option maxHeartbeats 4000000 in
theorem rRead_cps (m : TD) : ∀ (u : TD) (g h : Nat) (w : World) (Post : Ending → World → Prop), TreeAt w m g → TreeAt w u h → m.fine → u.fine →
    (∀ g' w', TreeAt w' (readT m u) g' → Below w.heap.size w w' → Post (.returned (.pointer (some ⟨g', 0, none⟩))) w') →
    Calls Tryz.prog 112 #[.pointer (some ⟨g, 0, none⟩), .pointer (some ⟨h, 0, none⟩)] w Post := by
  induction m with
  | leaf k n =>
    intro u g h w Post hm hu fm fu hp
    exact rRead_else _ u g h w hm hu (by obtain ⟨q, _⟩ := fm; simp only [TD.kind]; omega) Post hp
  | two k a b iha ihb =>
    intro u g h w Post hm hu fm fu hp
    exact rRead_else _ u g h w hm hu (by obtain ⟨q, q', _⟩ := fm; simp only [TD.kind]; omega) Post hp
  | three k c a v ihc iha ihv =>
    intro u g h w Post hm hu fm fu hp
    obtain ⟨rfl, fc, fa, fv⟩ := fm
    have B1 : ∀ n, Below w.heap.size w (w.drewN n) := fun n => below_drewN (Below.refl _ _) n
    have T0 : Hid (TreeAt w (.three 13 c a v) g) := hm
    obtain ⟨gc, ga, gv, r, tc, ta, tv⟩ := id hm
    have qs := rSame_any a u ga h w ta hu fa fu
    have qa := fun n => rApart_any a u ga h (w.drewN n) (ta.drewN n) (hu.drewN n) fa fu
    have q := fun n => ihc u gc h (w.drewN n)
    have c0 := r.cell (i := 0) rfl
    have c3 := r.cell (i := 3) rfl
    by_cases e1 : a = u
    · rw [read_same e1] at hp
      rw [(sameT_iff a u).2 e1] at qs
      have c4 := fun n => (r.keep (B1 n)).cell (i := 4) rfl
      have HF := Lib.hid (fun n => hp gv (w.drewN n) (tv.drewN n) (B1 n))
      clear hp ihc iha ihv qa q hm hu tc ta tv r
      go_enter Tryz.func112, Tryz.ntmps112
      go_wp2_with fail
      refine qs.mono ?_
      rintro e w1 ⟨rfl, n, rfl⟩
      have d4 := c4 n
      go_wp2
      exact HF.out n
    · rw [sameT_ne e1] at qs
      cases e2 : apartT a u with
      | true =>
        rw [read_far e1 e2] at hp
        rw [e2] at qa
        have c3' := fun n => (r.keep (B1 n)).cell (i := 3) rfl
        have c2' := fun n => (r.keep (B1 n)).cell (i := 2) rfl
        have q' := fun n P => q n P (tc.drewN n) (hu.drewN n) fc fu
        clear ihc iha ihv q hm hu tc ta tv r fa fv fc
        go_enter Tryz.func112, Tryz.ntmps112
        go_wp2_with fail
        refine qs.mono ?_
        rintro e w1 ⟨rfl, n, rfl⟩
        have d3 := c3' n
        go_wp2_with fail
        refine (qa n).mono ?_
        rintro e w1 ⟨rfl, j, hj⟩
        rw [World.drewN_drewN] at hj
        subst hj
        have d2 := c2' (n + j)
        clear d3 c3
        go_wp2_with fail
        refine q' (n + j) _ ?_
        intro g2 w2 t2 b2
        have HF : Hid (Post (.returned (.pointer (some ⟨g2, 0, none⟩))) w2) := hp g2 w2 t2 ((B1 (n + j)).trans (b2.mono (B1 (n + j)).size))
        clear hp t2 b2 d2 c0
        go_wp2
        exact HF.out
      | false =>
        rw [read_near e1 e2] at hp
        rw [e2] at qa
        have c3' := fun n => (r.keep (B1 n)).cell (i := 3) rfl
        have HF := Lib.hid (fun n => let y := tree_two (k := 12) (T0.out.drewN n) (hu.drewN n) (B1 n); hp _ _ y.1 y.2)
        clear hp ihc iha ihv q hm hu tc ta tv r fa fv fc
        go_enter Tryz.func112, Tryz.ntmps112
        go_wp2_with fail
        refine qs.mono ?_
        rintro e w1 ⟨rfl, n, rfl⟩
        have d3 := c3' n
        go_wp2_with fail
        refine (qa n).mono ?_
        rintro e w1 ⟨rfl, j, hj⟩
        rw [World.drewN_drewN] at hj
        subst hj
        clear d3 c3
        go_wp2
        exact HF.out (n + j)

set_option maxRecDepth 100000 in
set_option maxHeartbeats 2000000 in
theorem rLeft_else (m u : TD) (g h : Nat) (w : World) (hm : TreeAt w m g) (hk : m.kind ≠ 13) (Post : Ending → World → Prop)
    (hp : ∀ g' w', TreeAt w' (leftT m u) g' → Below w.heap.size w w' → Post (.returned (.pointer (some ⟨g', 0, none⟩))) w') :
    Calls Tryz.prog 142 #[.pointer (some ⟨g, 0, none⟩), .pointer (some ⟨h, 0, none⟩)] w Post := by
  rw [left_else hk] at hp
  have c0 := hm.kindc
  have hd : (m.kind == 13) = false := by simp [hk]
  have hd2 : decide (m.kind = 13) = false := by simp [hk]
  have HF := Lib.hid (hp _ _ hm (Below.refl _ _))
  clear hp hm
  generalize m.kind = mk at *
  go_enter Tryz.func142, Tryz.ntmps142
  go_wp2
  exact HF.out

set_option maxRecDepth 100000 in
set_option maxHeartbeats 4000000 in
theorem rLeft_cps (m : TD) : ∀ (u : TD) (g h : Nat) (w : World) (Post : Ending → World → Prop), TreeAt w m g → TreeAt w u h → m.fine → u.fine →
    (∀ g' w', TreeAt w' (leftT m u) g' → Below w.heap.size w w' → Post (.returned (.pointer (some ⟨g', 0, none⟩))) w') →
    Calls Tryz.prog 142 #[.pointer (some ⟨g, 0, none⟩), .pointer (some ⟨h, 0, none⟩)] w Post := by
  induction m with
  | leaf k n =>
    intro u g h w Post hm hu fm fu hp
    exact rLeft_else _ u g h w hm (by obtain ⟨q, _⟩ := fm; simp only [TD.kind]; omega) Post hp
  | two k a b iha ihb =>
    intro u g h w Post hm hu fm fu hp
    exact rLeft_else _ u g h w hm (by obtain ⟨q, q', _⟩ := fm; simp only [TD.kind]; omega) Post hp
  | three k c a v ihc iha ihv =>
    intro u g h w Post hm hu fm fu hp
    obtain ⟨rfl, fc, fa, fv⟩ := fm
    have B1 : ∀ n, Below w.heap.size w (w.drewN n) := fun n => below_drewN (Below.refl _ _) n
    have T0 : Hid (TreeAt w (.three 13 c a v) g) := hm
    obtain ⟨gc, ga, gv, r, tc, ta, tv⟩ := id hm
    have qs := rSame_any a u ga h w ta hu fa fu
    have qa := fun n => rApart_any a u ga h (w.drewN n) (ta.drewN n) (hu.drewN n) fa fu
    have q := fun n => ihc u gc h (w.drewN n)
    have c0 := r.cell (i := 0) rfl
    have c3 := r.cell (i := 3) rfl
    by_cases e1 : a = u
    · rw [left_same e1] at hp
      rw [(sameT_iff a u).2 e1] at qs
      have c2 := fun n => (r.keep (B1 n)).cell (i := 2) rfl
      have HF := Lib.hid (fun n => hp gc (w.drewN n) (tc.drewN n) (B1 n))
      clear hp ihc iha ihv qa q hm hu tc ta tv r
      go_enter Tryz.func142, Tryz.ntmps142
      go_wp2_with fail
      refine qs.mono ?_
      rintro e w1 ⟨rfl, n, rfl⟩
      have d2 := c2 n
      go_wp2
      exact HF.out n
    · rw [sameT_ne e1] at qs
      cases e2 : apartT a u with
      | true =>
        rw [left_far e1 e2] at hp
        rw [e2] at qa
        have c3' := fun n => (r.keep (B1 n)).cell (i := 3) rfl
        have c2' := fun n => (r.keep (B1 n)).cell (i := 2) rfl
        have q' := fun n P => q n P (tc.drewN n) (hu.drewN n) fc fu
        have R0 := Lib.hid r
        have TA := Lib.hid ta
        have TV := Lib.hid tv
        clear ihc iha ihv q hm hu tc ta tv r fa fv fc
        go_enter Tryz.func142, Tryz.ntmps142
        go_wp2_with fail
        refine qs.mono ?_
        rintro e w1 ⟨rfl, n, rfl⟩
        have d3 := c3' n
        go_wp2_with fail
        refine (qa n).mono ?_
        rintro e w1 ⟨rfl, j, hj⟩
        rw [World.drewN_drewN] at hj
        subst hj
        have d2 := c2' (n + j)
        clear d3 c3
        go_wp2_with fail
        refine q' (n + j) _ ?_
        intro g2 w2 t2 b2
        have b2' : Below w.heap.size w w2 := (B1 (n + j)).trans (b2.mono (B1 (n + j)).size)
        have b3 : Below w.heap.size w w2.drew := b2'.drew
        have b23 : Below w2.heap.size w2 w2.drew := (Below.refl _ _).drew
        have r2 := R0.out.keep b3
        have e3 := r2.cell (i := 3) rfl
        have e4 := r2.cell (i := 4) rfl
        have y := tree_three (k := 13) (t2.keep b23) (TA.out.keep b3) (TV.out.keep b3) b3
        have HF := Lib.hid (hp _ _ y.1 y.2)
        clear hp t2 b2 b2' b3 b23 d2 c0 y r2 R0 TA TV T0 c2' c3'
        go_wp2
        refine wp_reads 10 (by kernel_rfl) (by kernel_rfl) ?_
        simp only [List.take_succ_cons, List.take_zero, List.drop_succ_cons, List.drop_zero]
        repeat still_step
        refine wpStill_nil ?_
        go_wp2
        exact HF.out
      | false =>
        rw [left_near e1 e2] at hp
        rw [e2] at qa
        have c3' := fun n => (r.keep (B1 n)).cell (i := 3) rfl
        have HF := Lib.hid (fun n => hp g _ (T0.out.drewN n) (B1 n))
        clear hp ihc iha ihv q hm hu tc ta tv r fa fv fc
        go_enter Tryz.func142, Tryz.ntmps142
        go_wp2_with fail
        refine qs.mono ?_
        rintro e w1 ⟨rfl, n, rfl⟩
        have d3 := c3' n
        go_wp2_with fail
        refine (qa n).mono ?_
        rintro e w1 ⟨rfl, j, hj⟩
        rw [World.drewN_drewN] at hj
        subst hj
        clear d3 c3
        go_wp2
        exact HF.out (n + j)

end Go.Proofs.YtblhmeidbjigaaaGreatDoor

/- The reference's terms: laid, Written. -/
set_option linter.unusedSimpArgs false
set_option linter.unusedVariables false
namespace Go.Proofs.YtblhmeidbjigaaaGreatDoor
open Go.RowKit

set_option maxRecDepth 100000 in
set_option maxHeartbeats 2000000 in
theorem rLaid_off (m u v : TD) (g h j : Nat) (w : World) (hm : TreeAt w m g) (hu : TreeAt w u h) (hv : TreeAt w v j) (fm : m.fine) (fu : u.fine)
    (hno : ¬ ∃ c a x n k, m = .three 13 c a x ∧ u.isNum = some n ∧ a.isNum = some k ∧ k > n) (Post : Ending → World → Prop)
    (hp : ∀ g' w', TreeAt w' (laidT m u v) g' → Below w.heap.size w w' → Post (.returned (.pointer (some ⟨g', 0, none⟩))) w') :
    Calls Tryz.prog 143 #[.pointer (some ⟨g, 0, none⟩), .pointer (some ⟨h, 0, none⟩), .pointer (some ⟨j, 0, none⟩)] w Post := by
  rw [laid_else hno] at hp
  have B1 : ∀ n, Below w.heap.size w (w.drewN n) := fun n => below_drewN (Below.refl _ _) n
  have HF := Lib.hid (fun n => let y := tree_three (k := 13) (hm.drewN n) (hu.drewN n) (hv.drewN n) (B1 n); hp _ _ y.1 y.2)
  have c0 := hm.kindc
  have d0 := hu.kindc
  have d1 := hu.numc
  clear hp
  by_cases hk : m.kind = 13
  · obtain ⟨c, a, x, rfl⟩ := store_kind fm hk
    obtain ⟨gc, ga, gx, r, tc, ta, tx⟩ := id hm
    obtain ⟨_, fc, fa, fx⟩ := fm
    have c3 := r.cell (i := 3) rfl
    have e0 := ta.kindc
    have e1 := ta.numc
    simp only [TD.kind] at c0
    by_cases hun : u.kind = 100
    · have hu1 := (isNum_kind fu).1 hun
      rw [hun] at d0
      by_cases han : a.kind = 100
      · have ha1 := (isNum_kind fa).1 han
        rw [han] at e0
        have hle : ¬ (a.num > u.num) := fun q => hno ⟨c, a, x, u.num, a.num, rfl, hu1, ha1, q⟩
        have hle1 : a.num ≤ u.num := by omega
        have hle2 : decide (a.num > u.num) = false := by simp [hle1]
        have hle3 : decide (u.num < a.num) = false := by simp [hle1]
        clear hno hm hu hv r tc ta tx fc fa fx hu1 ha1 hun han hk
        generalize u.num = un at *
        generalize a.num = an at *
        go_enter Tryz.func143, Tryz.ntmps143
        go_wp2
        go_quiet (fail)
        go_wp2
        exact HF.out nq
      · have hd : (a.kind == 100) = false := by simp [han]
        have hd2 : decide (a.kind = 100) = false := by simp [han]
        clear hno hm hu hv r tc ta tx fc fa fx hu1 hun hk
        generalize a.kind = ak at *
        go_enter Tryz.func143, Tryz.ntmps143
        go_wp2
        go_quiet (fail)
        go_wp2
        exact HF.out nq
    · have hd : (u.kind == 100) = false := by simp [hun]
      have hd2 : decide (u.kind = 100) = false := by simp [hun]
      clear hno hm hu hv r tc ta tx fc fa fx hk
      generalize u.kind = uk at *
      go_enter Tryz.func143, Tryz.ntmps143
      go_wp2
      go_quiet (fail)
      go_wp2
      exact HF.out nq
  · have hd : (m.kind == 13) = false := by simp [hk]
    have hd2 : decide (m.kind = 13) = false := by simp [hk]
    clear hno hm hu hv
    generalize m.kind = mk at *
    go_enter Tryz.func143, Tryz.ntmps143
    go_wp2
    go_quiet (fail)
    go_wp2
    exact HF.out nq

set_option maxRecDepth 100000 in
set_option maxHeartbeats 4000000 in
theorem rLaid_cps (m : TD) : ∀ (u v : TD) (g h j : Nat) (w : World) (Post : Ending → World → Prop), TreeAt w m g → TreeAt w u h → TreeAt w v j → m.fine → u.fine → v.fine →
    (∀ g' w', TreeAt w' (laidT m u v) g' → Below w.heap.size w w' → Post (.returned (.pointer (some ⟨g', 0, none⟩))) w') →
    Calls Tryz.prog 143 #[.pointer (some ⟨g, 0, none⟩), .pointer (some ⟨h, 0, none⟩), .pointer (some ⟨j, 0, none⟩)] w Post := by
  induction m with
  | leaf k n =>
    intro u v g h j w Post hm hu hv fm fu fv hp
    exact rLaid_off _ u v g h j w hm hu hv fm fu (by rintro ⟨c, a, x, n, k, e, _⟩; cases e) Post hp
  | two k a b iha ihb =>
    intro u v g h j w Post hm hu hv fm fu fv hp
    exact rLaid_off _ u v g h j w hm hu hv fm fu (by rintro ⟨c, a, x, n, k, e, _⟩; cases e) Post hp
  | three k c a x ihc iha ihx =>
    intro u v g h j w Post hm hu hv fm fu fv hp
    by_cases hno : ∃ c' a' x' n k', TD.three k c a x = .three 13 c' a' x' ∧ u.isNum = some n ∧ a'.isNum = some k' ∧ k' > n
    · obtain ⟨c', a', x', n, k', e, hun, han, hgt⟩ := hno
      cases e
      obtain ⟨_, fc, fa, fx⟩ := fm
      rw [laid_over hun han hgt] at hp
      obtain rfl := isNum_some hun
      obtain rfl := isNum_some han
      have B1 : ∀ n, Below w.heap.size w (w.drewN n) := fun n => below_drewN (Below.refl _ _) n
      obtain ⟨gc, ga, gx, r, tc, ta, tx⟩ := id hm
      have c0 := r.cell (i := 0) rfl
      have c3 := r.cell (i := 3) rfl
      have d0 := hu.kindc
      have d1 := hu.numc
      have e0 := ta.kindc
      have e1 := ta.numc
      simp only [tnum, TD.kind, TD.num] at d0 d1 e0 e1
      have hd : decide (k' > n) = true := by simp [hgt]
      have hd2 : decide (n < k') = true := by simp; omega
      have c2' := fun n => (r.keep (B1 n)).cell (i := 2) rfl
      have q' := fun m P => ihc (tnum n) v gc h j (w.drewN m) P (tc.drewN m) (hu.drewN m) (hv.drewN m) fc fu fv
      have R0 := Lib.hid r
      have TA := Lib.hid ta
      have TX := Lib.hid tx
      clear ihc iha ihx hm hu hv r tc ta tx fc fa fx fu fv hun han
      go_enter Tryz.func143, Tryz.ntmps143
      go_wp2
      go_quiet (fail)
      have d2 := c2' nq
      clear c0 c3 d0 d1 e0 e1 c2'
      go_wp2_with fail
      refine q' nq _ ?_
      intro g2 w2 t2 b2
      have b2' : Below w.heap.size w w2 := (B1 nq).trans (b2.mono (B1 nq).size)
      have b3 : Below w.heap.size w w2.drew := b2'.drew
      have b23 : Below w2.heap.size w2 w2.drew := (Below.refl _ _).drew
      have r2 := R0.out.keep b3
      have e3 := r2.cell (i := 3) rfl
      have e4 := r2.cell (i := 4) rfl
      have y := tree_three (k := 13) (t2.keep b23) (TA.out.keep b3) (TX.out.keep b3) b3
      have HF := Lib.hid (hp _ _ y.1 y.2)
      clear hp t2 b2 b2' b3 b23 d2 y r2 R0 TA TX
      go_wp2
      refine wp_reads 10 (by kernel_rfl) (by kernel_rfl) ?_
      simp only [List.take_succ_cons, List.take_zero, List.drop_succ_cons, List.drop_zero]
      repeat still_step
      refine wpStill_nil ?_
      go_wp2
      exact HF.out
    · exact rLaid_off _ u v g h j w hm hu hv fm fu hno Post hp

set_option maxRecDepth 100000 in
set_option maxHeartbeats 2000000 in
theorem rWritten_cps (m u v : TD) (g h j : Nat) (w : World) (hm : TreeAt w m g) (hu : TreeAt w u h) (hv : TreeAt w v j) (fm : m.fine) (fu : u.fine) (fv : v.fine) (Post : Ending → World → Prop)
    (hp : ∀ g' w', TreeAt w' (writtenT m u v) g' → Below w.heap.size w w' → Post (.returned (.pointer (some ⟨g', 0, none⟩))) w') :
    Calls Tryz.prog 113 #[.pointer (some ⟨g, 0, none⟩), .pointer (some ⟨h, 0, none⟩), .pointer (some ⟨j, 0, none⟩)] w Post := by
  have hw1 : readT m u = v → writtenT m u v = m := fun e => by unfold writtenT; rw [if_pos e]
  have hw2 : readT m u ≠ v → writtenT m u v = laidT (leftT m u) u v := fun e => by unfold writtenT; rw [if_neg e]
  have fr := readT_fine m u fm fu
  have fl := leftT_fine m u fm
  have HM := Lib.hid hm
  have HU := Lib.hid hu
  have HV := Lib.hid hv
  have HP := Lib.hid hp
  have q1 := fun P => rRead_cps m u g h w P hm hu fm fu
  clear hm hu hv hp
  go_enter Tryz.func113, Tryz.ntmps113
  go_wp2_with fail
  refine q1 _ ?_
  intro g1 w1 t1 b1
  have qs := rSame_any (readT m u) v g1 j w1 t1 (HV.out.keep b1) fr fv
  clear t1
  by_cases e1 : readT m u = v
  · rw [(sameT_iff _ _).2 e1] at qs
    have hp := HP.out
    rw [hw1 e1] at hp
    have HF := Lib.hid (fun n => hp g (w1.drewN n) ((HM.out.keep b1).drewN n) (below_drewN b1 n))
    clear hp HP
    go_wp2_with fail
    refine qs.mono ?_
    rintro e w2 ⟨rfl, n, rfl⟩
    go_wp2
    exact HF.out n
  · rw [sameT_ne e1] at qs
    have hp := HP.out
    rw [hw2 e1] at hp
    have q2 := fun n P => rLeft_cps m u g h (w1.drewN n) P ((HM.out.keep b1).drewN n) ((HU.out.keep b1).drewN n) fm fu
    clear HP
    go_wp2_with fail
    refine qs.mono ?_
    rintro e w2 ⟨rfl, n, rfl⟩
    have b2 : Below w.heap.size w (w1.drewN n) := below_drewN b1 n
    go_wp2_with fail
    refine q2 n _ ?_
    intro g3 w3 t3 b3
    have b4 : Below w.heap.size w w3 := b2.trans (b3.mono b2.size)
    have q3 := fun P => rLaid_cps (leftT m u) u v g3 h j w3 P t3 (HU.out.keep b4) (HV.out.keep b4) fl fu fv
    clear q2 qs q1 b3 t3 b2
    go_wp2_with fail
    refine q3 _ ?_
    intro g5 w5 t5 b5
    have HF : Hid (Post (.returned (.pointer (some ⟨g5, 0, none⟩))) w5) := hp g5 w5 t5 (b4.trans (b5.mono b4.size))
    clear hp t5 b5 q3
    go_wp2
    exact HF.out

end Go.Proofs.YtblhmeidbjigaaaGreatDoor

/- Lists of words that are read. -/
set_option linter.unusedSimpArgs false
set_option linter.unusedVariables false
namespace Go.Proofs.YtblhmeidbjigaaaGreatDoor
open Go.RowKit

/-- A list of words that is read. -/
def RdWords (w : World) (v : Value) (l : List Int) : Prop :=
  ∃ ao cap, v = .slice ao l.length cap ∧ l.length ≤ 9223372036854775807 ∧ ∀ i, i < l.length → ∃ b off, ao = some ⟨b, off, none⟩ ∧ w.cell? ⟨b, off + i, none⟩ = some (.int .i64 (l.getD i 0))

theorem RdWords.keep {w w' : World} {v : Value} {l : List Int} (h : RdWords w v l) (hb : Below w.heap.size w w') : RdWords w' v l := by
  obtain ⟨ao, cap, rfl, hl, hc⟩ := h
  exact ⟨ao, cap, rfl, hl, fun i hi => let ⟨b, off, e, h1⟩ := hc i hi; ⟨b, off, e, cell_keep hb h1⟩⟩

end Go.Proofs.YtblhmeidbjigaaaGreatDoor

/- The reference's views: first, writes. -/
set_option linter.unusedSimpArgs false
set_option linter.unusedVariables false
namespace Go.Proofs.YtblhmeidbjigaaaGreatDoor
open Go.RowKit

/-- A view as a value. -/
def viewV (p : ProgD) (pv : Value) (b : Int) (nv : Value) : Value := .agg #[.int .i64 p.args, .int .i64 p.regs, .int .i64 p.data, .int .i64 p.slots, pv, .int .i64 b, nv]

/-- A view's cells. -/
def viewC (p : ProgD) (pv : Value) (b : Int) (nv : Value) : List Value := [.int .i64 p.args, .int .i64 p.regs, .int .i64 p.data, .int .i64 p.slots, pv, .int .i64 b, nv]

/-- A view that is read. -/
structure RdView (w : World) (p : ProgD) (pv nv : Value) (names : List Int) : Prop where
  blocks : RdBlocks w pv p.blocks
  names : RdWords w nv names
  tab : TabW w

theorem RdView.keep {w w' : World} {p : ProgD} {pv nv : Value} {names : List Int} (h : RdView w p pv nv names) (hb : Below w.heap.size w w') : RdView w' p pv nv names :=
  ⟨h.blocks.keep hb, h.names.keep hb, h.tab.keep hb⟩

theorem tree_leaf {w w0 : World} (k n : Int) (h0 : Below w0.heap.size w0 w) :
    TreeAt (w.alloc (.cells #[.int .i64 k, .int .i64 n, .pointer none, .pointer none, .pointer none] 131)) (.leaf k n) w.heap.size ∧
    Below w0.heap.size w0 (w.alloc (.cells #[.int .i64 k, .int .i64 n, .pointer none, .pointer none, .pointer none] 131)) :=
  have hb' : Below w.heap.size w (w.alloc (.cells #[.int .i64 k, .int .i64 n, .pointer none, .pointer none, .pointer none] 131)) := (Below.refl _ _).alloc (Nat.le_refl _) _
  ⟨heap_alloc_new w _, h0.trans (hb'.mono h0.size)⟩

theorem rfirst_cells {names : List Int} {place : Nat} (h : names.length ≤ place) : firstT names place = .leaf 103 0 := by
  unfold firstT; rw [if_pos (by omega)]
theorem first_x {names : List Int} {place : Nat} (h : place < names.length) (h2 : names.getD place 0 < 0) : firstT names place = .leaf 102 place := by
  unfold firstT; rw [if_neg (by omega), if_pos (by simpa using h2)]
theorem first_r {names : List Int} {place : Nat} (h : place < names.length) (h2 : ¬ names.getD place 0 < 0) : firstT names place = .leaf 101 (names.getD place 0) := by
  unfold firstT; rw [if_neg (by omega), if_neg (by simpa using h2)]; simp

set_option maxRecDepth 100000 in
set_option maxHeartbeats 2000000 in
theorem rFirst_cps (p : ProgD) (pv nv : Value) (b : Int) (names : List Int) (place : Nat) (w : World) (hv : RdView w p pv nv names) (hpl : place ≤ 1000) (Post : Ending → World → Prop)
    (hp : ∀ g' w', TreeAt w' (firstT names place) g' → Below w.heap.size w w' → Post (.returned (.pointer (some ⟨g', 0, none⟩))) w') :
    Calls Tryz.prog 110 #[viewV p pv b nv, .int .i64 place] w Post := by
  obtain ⟨ao, cap, rfl, hl, hc⟩ := hv.names
  have b0 : Below w.heap.size w (w.alloc (.cells #[.int .i64 p.args, .int .i64 p.regs, .int .i64 p.data, .int .i64 p.slots, pv, .int .i64 b, .slice ao names.length cap] 87)) := (Below.refl _ _).alloc (Nat.le_refl _) _
  have es : (w.alloc (.cells #[.int .i64 p.args, .int .i64 p.regs, .int .i64 p.data, .int .i64 p.slots, pv, .int .i64 b, .slice ao names.length cap] 87)).heap.size = w.heap.size + 1 := by simp
  unfold viewV
  by_cases h1 : names.length ≤ place
  · rw [rfirst_cells h1] at hp
    have y := tree_leaf 103 0 b0
    rw [es] at y
    have HF := Lib.hid (hp _ _ y.1 y.2)
    have hd : ((names.length : Int) ≤ (place : Int)) := by omega
    have hd2 : decide ((names.length : Int) ≤ (place : Int)) = true := by simp; omega
    clear hp y b0 es hc hv
    go_enter Tryz.func110, Tryz.ntmps110
    go_wp2
    exact HF.out
  · obtain ⟨bn, off, rfl, c⟩ := hc place (by omega)
    have c' := cell_keep b0 c
    have hpi : (0 : Int) ≤ (place : Int) := by omega
    have hpj : (place : Int) < (names.length : Int) := by omega
    by_cases h2 : names.getD place 0 < 0
    · rw [first_x (by omega) h2] at hp
      have y := tree_leaf 102 place b0
      rw [es] at y
      have HF := Lib.hid (hp _ _ y.1 y.2)
      clear hp y b0 es hc hv
      generalize names.getD place 0 = n at *
      go_enter Tryz.func110, Tryz.ntmps110
      go_wp2
      exact HF.out
    · rw [first_r (by omega) h2] at hp
      have y := tree_leaf 101 (names.getD place 0) b0
      rw [es] at y
      have HF := Lib.hid (hp _ _ y.1 y.2)
      have h3 : ¬ (names.getD place 0 < 0) := h2
      have h4 : (0 : Int) ≤ names.getD place 0 := by omega
      clear hp y b0 es hc hv h2
      generalize names.getD place 0 = n at *
      go_enter Tryz.func110, Tryz.ntmps110
      go_wp2
      exact HF.out

set_option maxRecDepth 100000 in
set_option maxHeartbeats 2000000 in
theorem rWrites_any (p : ProgD) (pv : Value) (k a b c : Int) (w : World) (h1 : 0 ≤ p.regs ∧ p.regs ≤ 8) (h2 : 0 ≤ p.slots ∧ p.slots ≤ 8) (ha : 0 ≤ a ∧ a ≤ 8) :
    Calls Tryz.prog 72 #[progV p pv, .agg #[.int .i64 k, .int .i64 a, .int .i64 b, .int .i64 c]] w fun e w' => e = .returned (.int .i64 (writesT p.regs p.slots ⟨k, a, b, c⟩)) ∧ Below w.heap.size w w' := by
  have hb0 : Below w.heap.size w ((w.alloc (.cells #[.int .i64 p.args, .int .i64 p.regs, .int .i64 p.data, .int .i64 p.slots, pv] 33)).alloc (.cells #[.int .i64 k, .int .i64 a, .int .i64 b, .int .i64 c] 77)) :=
    ((Below.refl _ _).alloc (Nat.le_refl _) _).alloc (by simp) _
  unfold progV
  generalize p.args = pa at *
  generalize p.regs = pr at *
  generalize p.data = pd at *
  generalize p.slots = ps at *
  by_cases h13 : k = 13
  · subst h13
    have e : writesT pr ps ⟨13, a, b, c⟩ = pr + ps := by simp [writesT]
    rw [e]
    clear e
    go_enter Tryz.func72, Tryz.ntmps72
    go_wp2
    go_ret
    exact ⟨by go_num, hb0⟩
  · by_cases h14 : k = 14
    · subst h14
      have e : writesT pr ps ⟨14, a, b, c⟩ = pr + a := by simp [writesT]
      rw [e]
      clear e
      go_enter Tryz.func72, Tryz.ntmps72
      go_wp2
      go_ret
      exact ⟨by go_num, hb0⟩
    · have e : writesT pr ps ⟨k, a, b, c⟩ = a := by simp [writesT, h13, h14]
      rw [e]
      clear e
      have hd : (k == 13) = false := by simp [h13]
      have hd2 : (k == 14) = false := by simp [h14]
      go_enter Tryz.func72, Tryz.ntmps72
      go_wp2
      go_ret
      exact ⟨rfl, hb0⟩

end Go.Proofs.YtblhmeidbjigaaaGreatDoor

/- The reference's views: Behind. -/
set_option linter.unusedSimpArgs false
set_option linter.unusedVariables false
namespace Go.Proofs.YtblhmeidbjigaaaGreatDoor
open Go.RowKit

/-! ### What a place holds behind one operation more -/

section
variable {regs slots : Int} {names : List Int} {ops : List OpD} {k : Nat} {place : Int} {o : OpD}

theorem behind_other (ho : ops.getD k oz = o) (h : writesT regs slots o ≠ place) : behindT regs slots names ops (k + 1) place = behindT regs slots names ops k place := by
  subst ho; simp only [behindT]; rw [if_pos h]
theorem behind_const (ho : ops.getD k oz = o) (h : writesT regs slots o = place) (hk : o.kind = 1) : behindT regs slots names ops (k + 1) place = tnum (256 * o.b + o.c - 32768) := by
  subst ho; simp only [behindT]; rw [if_neg (fun q => q h), if_pos hk]
theorem behind_move (ho : ops.getD k oz = o) (h : writesT regs slots o = place) (hk : o.kind = 2 ∨ o.kind = 14) : behindT regs slots names ops (k + 1) place = behindT regs slots names ops k o.b := by
  subst ho; simp only [behindT]; rw [if_neg (fun q => q h), if_neg (by omega), if_pos hk]
theorem behind_get (ho : ops.getD k oz = o) (h : writesT regs slots o = place) (hk : o.kind = 15) : behindT regs slots names ops (k + 1) place = behindT regs slots names ops k (regs + o.b) := by
  subst ho; simp only [behindT]; rw [if_neg (fun q => q h), if_neg (by omega), if_neg (by omega), if_pos hk]
theorem behind_load (ho : ops.getD k oz = o) (h : writesT regs slots o = place) (hk : o.kind = 12) : behindT regs slots names ops (k + 1) place = readT (behindT regs slots names ops k (regs + slots)) (behindT regs slots names ops k o.b) := by
  subst ho; simp only [behindT]; rw [if_neg (fun q => q h), if_neg (by omega), if_neg (by omega), if_neg (by omega), if_pos hk]
theorem behind_store (ho : ops.getD k oz = o) (h : writesT regs slots o = place) (hk : o.kind = 13) : behindT regs slots names ops (k + 1) place = writtenT (behindT regs slots names ops k (regs + slots)) (behindT regs slots names ops k o.a) (behindT regs slots names ops k o.b) := by
  subst ho; simp only [behindT]; rw [if_neg (fun q => q h), if_neg (by omega), if_neg (by omega), if_neg (by omega), if_neg (by omega), if_pos hk]
theorem behind_calc (ho : ops.getD k oz = o) (h : writesT regs slots o = place) (hk : 3 ≤ o.kind ∧ o.kind ≤ 11) : behindT regs slots names ops (k + 1) place = madeT o.kind (behindT regs slots names ops k o.b) (behindT regs slots names ops k o.c) := by
  subst ho; simp only [behindT]; rw [if_neg (fun q => q h), if_neg (by omega), if_neg (by omega), if_neg (by omega), if_neg (by omega), if_neg (by omega)]

/-- What a well made operation's fields are. -/
theorem op_cases (h : opGood regs slots o = true) :
    (o.kind = 1 ∧ (0 ≤ o.a ∧ o.a < regs) ∧ (0 ≤ o.b ∧ o.b < 256) ∧ (0 ≤ o.c ∧ o.c < 256)) ∨
    ((3 ≤ o.kind ∧ o.kind ≤ 11) ∧ (0 ≤ o.a ∧ o.a < regs) ∧ (0 ≤ o.b ∧ o.b < regs) ∧ (0 ≤ o.c ∧ o.c < regs)) ∨
    ((o.kind = 2 ∨ o.kind = 12 ∨ o.kind = 13) ∧ (0 ≤ o.a ∧ o.a < regs) ∧ (0 ≤ o.b ∧ o.b < regs)) ∨
    (o.kind = 14 ∧ (0 ≤ o.a ∧ o.a < slots) ∧ (0 ≤ o.b ∧ o.b < regs)) ∨
    (o.kind = 15 ∧ (0 ≤ o.a ∧ o.a < regs) ∧ (0 ≤ o.b ∧ o.b < slots)) := by
  unfold opGood at h
  by_cases h1 : o.kind = 1
  · rw [if_pos h1] at h; simp [below] at h; exact .inl ⟨h1, h.1.1, h.1.2, h.2⟩
  rw [if_neg h1] at h
  by_cases h2 : 3 ≤ o.kind ∧ o.kind ≤ 11
  · rw [if_pos h2] at h; simp [below] at h; exact .inr (.inl ⟨h2, h.1.1, h.1.2, h.2⟩)
  rw [if_neg h2] at h
  by_cases h3 : o.kind = 2 ∨ o.kind = 12 ∨ o.kind = 13
  · rw [if_pos h3] at h; simp [below] at h; exact .inr (.inr (.inl ⟨h3, h.1.1, h.1.2⟩))
  rw [if_neg h3] at h
  by_cases h4 : o.kind = 14
  · rw [if_pos h4] at h; simp [below] at h; exact .inr (.inr (.inr (.inl ⟨h4, h.1.1, h.1.2⟩)))
  rw [if_neg h4] at h
  by_cases h5 : o.kind = 15
  · rw [if_pos h5] at h; simp [below] at h; exact .inr (.inr (.inr (.inr ⟨h5, h.1.1, h.1.2⟩)))
  rw [if_neg h5] at h
  cases h
end

theorem good_shape {p : ProgD} (hg : progGood p = true) : (1 ≤ p.regs ∧ p.regs ≤ 8) ∧ (0 ≤ p.args ∧ p.args ≤ p.regs) ∧ (0 ≤ p.data ∧ p.data ≤ 8) ∧ (0 ≤ p.slots ∧ p.slots ≤ 8) := by
  simp [progGood] at hg; omega

theorem good_block {p : ProgD} (hg : progGood p = true) {b : Nat} (hb : b < p.blocks.length) : (bops p.blocks b).length ≤ 12 ∧ opsGood p.regs p.slots (bops p.blocks b) = true := by
  have := progGood_block hg (p.blocks.getD b bz) (getD_mem' hb)
  simp [blockGood] at this
  exact ⟨this.1.1, this.1.2⟩

theorem good_op {regs slots : Int} {l : List OpD} (h : opsGood regs slots l = true) {k : Nat} (hk : k < l.length) : opGood regs slots (l.getD k oz) = true := by
  unfold opsGood at h
  exact List.all_eq_true.1 h _ (getD_mem' hk)

theorem most_12 {k : Nat} (h : k ≤ 12) : most k ≤ 800000 := Nat.le_trans (most_mono h) (by decide)

/-- What Behind answers. -/
def BehindC (p : ProgD) (pv nv : Value) (b : Nat) (names : List Int) (k : Nat) : Prop := ∀ (place : Nat) (w : World) (Post : Ending → World → Prop), RdView w p pv nv names → (place : Int) ≤ p.regs + p.slots →
  (∀ g' w', TreeAt w' (behindT p.regs p.slots names (bops p.blocks b) k place) g' → Below w.heap.size w w' → Post (.returned (.pointer (some ⟨g', 0, none⟩))) w') →
  Calls Tryz.prog 73 #[viewV p pv b nv, .int .i64 k, .int .i64 place] w Post

/-- Behind's own view and operation, boxed. -/
structure VAt (w0 w : World) (G O : Nat) (p : ProgD) (pv nv : Value) (b : Nat) (names : List Int) (o : OpD) : Prop where
  view : Row w G 87 (viewC p pv b nv)
  op : Row w O 77 [.int .i64 o.kind, .int .i64 o.a, .int .i64 o.b, .int .i64 o.c]
  rd : RdView w p pv nv names
  keep : Below w0.heap.size w0 w

theorem VAt.next {w0 w w' : World} {G O : Nat} {p : ProgD} {pv nv : Value} {b : Nat} {names : List Int} {o : OpD} (h : VAt w0 w G O p pv nv b names o) (hb : Below w.heap.size w w') : VAt w0 w' G O p pv nv b names o :=
  ⟨h.view.keep hb, h.op.keep hb, h.rd.keep hb, h.keep.trans (hb.mono h.keep.size)⟩

set_option maxRecDepth 100000 in
set_option maxHeartbeats 2000000 in
theorem rBehind_zero (p : ProgD) (pv nv : Value) (b : Nat) (names : List Int) (hr : p.regs + p.slots ≤ 100) : BehindC p pv nv b names 0 := by
  intro place w Post hv hpl hp
  simp only [behindT] at hp
  have b0 : Below w.heap.size w (w.alloc (.cells #[.int .i64 p.args, .int .i64 p.regs, .int .i64 p.data, .int .i64 p.slots, pv, .int .i64 b, nv] 87)) := (Below.refl _ _).alloc (Nat.le_refl _) _
  have q := fun P => rFirst_cps p pv nv b names place _ (hv.keep b0) (by omega) P
  unfold viewV at q ⊢
  clear hv
  go_enter Tryz.func73, Tryz.ntmps73
  go_wp2_with fail
  refine q _ ?_
  intro g2 w2 t2 b2
  have HF : Hid (Post (.returned (.pointer (some ⟨g2, 0, none⟩))) w2) := hp g2 w2 t2 (b0.trans (b2.mono b0.size))
  clear hp t2 b2 q b0
  go_wp2
  exact HF.out

end Go.Proofs.YtblhmeidbjigaaaGreatDoor

/- The reference's views: Behind, one operation more. -/
set_option linter.unusedSimpArgs false
set_option linter.unusedVariables false
namespace Go.Proofs.YtblhmeidbjigaaaGreatDoor
open Go.RowKit

set_option maxRecDepth 100000 in
set_option maxHeartbeats 8000000 in
theorem rBehind_succ (p : ProgD) (pv nv : Value) (b : Nat) (names : List Int) (hg : progGood p = true) (hb : b < p.blocks.length) (hnm : ∀ x ∈ names, x ≤ 1000) (k : Nat) (hk : k < (bops p.blocks b).length) (IH : BehindC p pv nv b names k) : BehindC p pv nv b names (k + 1) := by
  intro place w Post hv hpl hp
  obtain ⟨hr, hargs, hdata, hs⟩ := good_shape hg
  obtain ⟨h12, hops⟩ := good_block hg hb
  have hfine := behindT_fine (names := names) (show 0 ≤ p.regs ∧ p.regs ≤ 100 by omega) (show 0 ≤ p.slots ∧ p.slots ≤ 100 by omega) hnm hops k (by omega)
  have hsize : ∀ q : Int, (behindT p.regs p.slots names (bops p.blocks b) k q).size ≤ 4000000000000 := fun q => by
    have h1 := behindT_size p.regs p.slots names (bops p.blocks b) k q
    have h2 := most_12 (show k ≤ 12 by omega)
    omega
  obtain ⟨o, ho⟩ : ∃ o, (bops p.blocks b).getD k oz = o := ⟨_, rfl⟩
  have hog := op_cases (show opGood p.regs p.slots o = true by rw [← ho]; exact good_op hops hk)
  have hb0 : Below w.heap.size w (w.alloc (.cells #[.int .i64 p.args, .int .i64 p.regs, .int .i64 p.data, .int .i64 p.slots, pv, .int .i64 b, nv] 87)) := (Below.refl _ _).alloc (Nat.le_refl _) _
  have hb1 : Below w.heap.size w ((w.alloc (.cells #[.int .i64 p.args, .int .i64 p.regs, .int .i64 p.data, .int .i64 p.slots, pv, .int .i64 b, nv] 87)).alloc (.cells #[.int .i64 o.kind, .int .i64 o.a, .int .i64 o.b, .int .i64 o.c] 77)) := hb0.alloc hb0.size _
  have es : (w.alloc (.cells #[.int .i64 p.args, .int .i64 p.regs, .int .i64 p.data, .int .i64 p.slots, pv, .int .i64 b, nv] 87)).heap.size = w.heap.size + 1 := by simp
  have V : VAt w ((w.alloc (.cells #[.int .i64 p.args, .int .i64 p.regs, .int .i64 p.data, .int .i64 p.slots, pv, .int .i64 b, nv] 87)).alloc (.cells #[.int .i64 o.kind, .int .i64 o.a, .int .i64 o.b, .int .i64 o.c] 77)) w.heap.size (w.heap.size + 1) p pv nv b names o :=
    ⟨Row.alloc (heap_alloc_new w _) _, by have := heap_alloc_new (w.alloc (.cells #[.int .i64 p.args, .int .i64 p.regs, .int .i64 p.data, .int .i64 p.slots, pv, .int .i64 b, nv] 87)) (.cells #[.int .i64 o.kind, .int .i64 o.a, .int .i64 o.b, .int .i64 o.c] 77); rw [es] at this; exact this, hv.keep hb1, hb1⟩
  obtain ⟨ao, cap, rfl, hll, hc⟩ := hv.blocks
  obtain ⟨bb, off, sv, rfl, c0, _, _, _, _, hrd⟩ := hc b hb
  obtain ⟨so, sc, rfl, hol, hoc⟩ := hrd
  obtain ⟨b2, off2, rfl, e0, e1, e2, e3⟩ := hoc k hk
  have x0 := cell_keep hb0 c0
  have y0 := cell_keep hb0 e0
  have y1 := cell_keep hb0 e1
  have y2 := cell_keep hb0 e2
  have y3 := cell_keep hb0 e3
  have ho0 : okind (bops p.blocks b) k = o.kind := by unfold okind; rw [ho]
  have ho1 : oa (bops p.blocks b) k = o.a := by unfold oa; rw [ho]
  have ho2 : ob (bops p.blocks b) k = o.b := by unfold ob; rw [ho]
  have ho3 : oc (bops p.blocks b) k = o.c := by unfold oc; rw [ho]
  rw [ho0] at y0
  rw [ho1] at y1
  rw [ho2] at y2
  rw [ho3] at y3
  clear es e0 e1 e2 e3 c0 hc hoc ho0 ho1 ho2 ho3 hb0 hb1 hv
  have hbi : (0 : Int) ≤ (b : Int) := by omega
  have hbj : (b : Int) < (p.blocks.length : Int) := by omega
  have hki : (0 : Int) ≤ (k : Int) := by omega
  have hkj : (k : Int) < ((bops p.blocks b).length : Int) := by omega
  have hk0 : ¬ ((k : Int) + 1 = 0) := by omega
  have qw := fun W => rWrites_any p (.slice (some ⟨bb, off, none⟩) p.blocks.length cap) o.kind o.a o.b o.c W ⟨by omega, hr.2⟩ hs (by omega)
  have hp' : ∀ t, behindT p.regs p.slots names (bops p.blocks b) (k + 1) place = t → ∀ g' w', TreeAt w' t g' → Below w.heap.size w w' → Post (.returned (.pointer (some ⟨g', 0, none⟩))) w' := fun t e => by subst e; exact hp
  have HP := Lib.hid hp'
  have HV := Lib.hid V
  have HFine := Lib.hid hfine
  have IH' : ∀ (q : Int) (w : World) (Post : Ending → World → Prop), RdView w p (.slice (some ⟨bb, off, none⟩) p.blocks.length cap) nv names → 0 ≤ q → q ≤ p.regs + p.slots →
      (∀ g' w', TreeAt w' (behindT p.regs p.slots names (bops p.blocks b) k q) g' → Below w.heap.size w w' → Post (.returned (.pointer (some ⟨g', 0, none⟩))) w') →
      Calls Tryz.prog 73 #[viewV p (.slice (some ⟨bb, off, none⟩) p.blocks.length cap) b nv, .int .i64 k, .int .i64 q] w Post := by
    intro q w Post h1 h2 h3 h4
    obtain ⟨n, rfl⟩ := Int.eq_ofNat_of_zero_le h2
    exact IH n w Post h1 h3 h4
  have hkk : o.kind = 1 ∨ (3 ≤ o.kind ∧ o.kind ≤ 11) ∨ o.kind = 2 ∨ o.kind = 12 ∨ o.kind = 13 ∨ o.kind = 14 ∨ o.kind = 15 := by omega
  unfold viewV at IH' ⊢
  clear V hp hp' hfine IH hol hll
  go_enter Tryz.func73, Tryz.ntmps73
  go_wp2_with fail
  refine (qw _).mono ?_
  rintro e w3 ⟨rfl, b3⟩
  have V3 := HV.out.next b3
  have ew : writesT p.regs p.slots ⟨o.kind, o.a, o.b, o.c⟩ = writesT p.regs p.slots o := rfl
  rw [ew]
  clear HV qw x0 y0 y1 y2 y3 ew b3
  have v0 := V3.view.cell (i := 0) rfl
  have v1 := V3.view.cell (i := 1) rfl
  have v2 := V3.view.cell (i := 2) rfl
  have v3 := V3.view.cell (i := 3) rfl
  have v4 := V3.view.cell (i := 4) rfl
  have v5 := V3.view.cell (i := 5) rfl
  have v6 := V3.view.cell (i := 6) rfl
  have o0 := V3.op.cell (i := 0) rfl
  have o1 := V3.op.cell (i := 1) rfl
  have o2 := V3.op.cell (i := 2) rfl
  have o3 := V3.op.cell (i := 3) rfl
  by_cases hw : writesT p.regs p.slots o ≠ place
  · have HX := Lib.hid (HP.out _ (behind_other ho hw))
    have hw2 : (writesT p.regs p.slots o == (place : Int)) = false := by simp [hw]
    clear HP
    generalize writesT p.regs p.slots o = wo at *
    go_wp2_with fail
    refine IH' place w3 _ V3.rd (by omega) hpl ?_
    intro g4 w4 t4 b4
    have HF : Hid (Post (.returned (.pointer (some ⟨g4, 0, none⟩))) w4) := HX.out g4 w4 t4 (V3.keep.trans (b4.mono V3.keep.size))
    clear HX t4 b4 v0 v1 v2 v3 v4 v5 v6 o0 o1 o2 o3
    go_wp2
    exact HF.out
  have hw : writesT p.regs p.slots o = place := Classical.not_not.1 hw
  have hw2 : (writesT p.regs p.slots o == (place : Int)) = true := by simp [hw]
  have HW : Hid (writesT p.regs p.slots o = place) := hw
  clear hw
  rcases hkk with hkk | hkk | hkk | hkk | hkk | hkk | hkk
  · -- Const
    have HX := Lib.hid (HP.out _ (behind_const ho HW.out hkk))
    generalize writesT p.regs p.slots o = wo at *
    clear HP HW
    rw [hkk] at o0
    have hob : (0 ≤ o.b ∧ o.b < 256) ∧ (0 ≤ o.c ∧ o.c < 256) := by omega
    go_wp2_with fail
    refine rNum_cps _ _ _ ?_
    intro g4 w4 t4 b4
    have HF : Hid (Post (.returned (.pointer (some ⟨g4, 0, none⟩))) w4) := HX.out g4 w4 t4 (V3.keep.trans (b4.mono V3.keep.size))
    clear HX t4 b4 v0 v1 v2 v3 v4 v5 v6 o0 o1 o2 o3
    go_wp2
    exact HF.out
  · -- Add to Div
    have HX := Lib.hid (HP.out _ (behind_calc ho HW.out hkk))
    generalize writesT p.regs p.slots o = wo at *
    clear HP HW
    have hob : (0 ≤ o.b ∧ o.b < p.regs) ∧ (0 ≤ o.c ∧ o.c < p.regs) := by omega
    have n1 : (o.kind == 1) = false := by simp; omega
    have n2 : (o.kind == 2) = false := by simp; omega
    have n14 : (o.kind == 14) = false := by simp; omega
    have n15 : (o.kind == 15) = false := by simp; omega
    have n12 : (o.kind == 12) = false := by simp; omega
    have n13 : (o.kind == 13) = false := by simp; omega
    go_wp2_with fail
    refine IH' (o.b) w3 _ V3.rd (by omega) (by omega) ?_
    intro g4 w4 t4 b4
    have V4 := V3.next b4
    clear v0 v1 v2 v3 v4 v5 v6 o0 o1 o2 o3
    have v0 := V4.view.cell (i := 0) rfl
    have v1 := V4.view.cell (i := 1) rfl
    have v2 := V4.view.cell (i := 2) rfl
    have v3 := V4.view.cell (i := 3) rfl
    have v4 := V4.view.cell (i := 4) rfl
    have v5 := V4.view.cell (i := 5) rfl
    have v6 := V4.view.cell (i := 6) rfl
    have o0 := V4.op.cell (i := 0) rfl
    have o1 := V4.op.cell (i := 1) rfl
    have o2 := V4.op.cell (i := 2) rfl
    have o3 := V4.op.cell (i := 3) rfl
    go_wp2_with fail
    refine IH' (o.c) w4 _ V4.rd (by omega) (by omega) ?_
    intro g5 w5 t5 b5
    have V5 := V4.next b5
    clear v0 v1 v2 v3 v4 v5 v6 o0 o1 o2 o3
    have v0 := V5.view.cell (i := 0) rfl
    have v1 := V5.view.cell (i := 1) rfl
    have v2 := V5.view.cell (i := 2) rfl
    have v3 := V5.view.cell (i := 3) rfl
    have v4 := V5.view.cell (i := 4) rfl
    have v5 := V5.view.cell (i := 5) rfl
    have v6 := V5.view.cell (i := 6) rfl
    have o0 := V5.op.cell (i := 0) rfl
    have o1 := V5.op.cell (i := 1) rfl
    have o2 := V5.op.cell (i := 2) rfl
    have o3 := V5.op.cell (i := 3) rfl
    go_wp2_with fail
    refine rMade_cps o.kind hkk _ _ g4 g5 w5 (t4.keep b5) t5 V5.rd.tab (HFine.out _ (by omega) (by omega)) (HFine.out _ (by omega) (by omega)) (hsize _) (hsize _) _ ?_
    intro g6 w6 t6 b6
    have HF : Hid (Post (.returned (.pointer (some ⟨g6, 0, none⟩))) w6) := HX.out g6 w6 t6 (V5.keep.trans (b6.mono V5.keep.size))
    clear HX t6 b6 v0 v1 v2 v3 v4 v5 v6 o0 o1 o2 o3
    go_wp2
    exact HF.out
  · -- Move
    have HX := Lib.hid (HP.out _ (behind_move ho HW.out (.inl hkk)))
    generalize writesT p.regs p.slots o = wo at *
    clear HP HW
    rw [hkk] at o0
    have hob : 0 ≤ o.b ∧ o.b < p.regs := by omega
    go_wp2_with fail
    refine IH' o.b w3 _ V3.rd (by omega) (by omega) ?_
    intro g4 w4 t4 b4
    have HF : Hid (Post (.returned (.pointer (some ⟨g4, 0, none⟩))) w4) := HX.out g4 w4 t4 (V3.keep.trans (b4.mono V3.keep.size))
    clear HX t4 b4 v0 v1 v2 v3 v4 v5 v6 o0 o1 o2 o3
    go_wp2
    exact HF.out
  · -- Load
    have HX := Lib.hid (HP.out _ (behind_load ho HW.out hkk))
    generalize writesT p.regs p.slots o = wo at *
    clear HP HW
    rw [hkk] at o0
    have hob : 0 ≤ o.b ∧ o.b < p.regs := by omega
    go_wp2_with fail
    refine IH' (p.regs + p.slots) w3 _ V3.rd (by omega) (by omega) ?_
    intro g4 w4 t4 b4
    have V4 := V3.next b4
    clear v0 v1 v2 v3 v4 v5 v6 o0 o1 o2 o3
    have v0 := V4.view.cell (i := 0) rfl
    have v1 := V4.view.cell (i := 1) rfl
    have v2 := V4.view.cell (i := 2) rfl
    have v3 := V4.view.cell (i := 3) rfl
    have v4 := V4.view.cell (i := 4) rfl
    have v5 := V4.view.cell (i := 5) rfl
    have v6 := V4.view.cell (i := 6) rfl
    have o0 := V4.op.cell (i := 0) rfl
    have o1 := V4.op.cell (i := 1) rfl
    have o2 := V4.op.cell (i := 2) rfl
    have o3 := V4.op.cell (i := 3) rfl
    rw [hkk] at o0
    go_wp2_with fail
    refine IH' (o.b) w4 _ V4.rd (by omega) (by omega) ?_
    intro g5 w5 t5 b5
    have V5 := V4.next b5
    clear v0 v1 v2 v3 v4 v5 v6 o0 o1 o2 o3
    have v0 := V5.view.cell (i := 0) rfl
    have v1 := V5.view.cell (i := 1) rfl
    have v2 := V5.view.cell (i := 2) rfl
    have v3 := V5.view.cell (i := 3) rfl
    have v4 := V5.view.cell (i := 4) rfl
    have v5 := V5.view.cell (i := 5) rfl
    have v6 := V5.view.cell (i := 6) rfl
    have o0 := V5.op.cell (i := 0) rfl
    have o1 := V5.op.cell (i := 1) rfl
    have o2 := V5.op.cell (i := 2) rfl
    have o3 := V5.op.cell (i := 3) rfl
    rw [hkk] at o0
    go_wp2_with fail
    refine rRead_cps _ _ g4 g5 w5 _ (t4.keep b5) t5 (HFine.out _ (by omega) (by omega)) (HFine.out _ (by omega) (by omega)) ?_
    intro g6 w6 t6 b6
    have HF : Hid (Post (.returned (.pointer (some ⟨g6, 0, none⟩))) w6) := HX.out g6 w6 t6 (V5.keep.trans (b6.mono V5.keep.size))
    clear HX t6 b6 v0 v1 v2 v3 v4 v5 v6 o0 o1 o2 o3
    go_wp2
    exact HF.out
  · -- Store
    have HX := Lib.hid (HP.out _ (behind_store ho HW.out hkk))
    generalize writesT p.regs p.slots o = wo at *
    clear HP HW
    rw [hkk] at o0
    have hob : (0 ≤ o.a ∧ o.a < p.regs) ∧ (0 ≤ o.b ∧ o.b < p.regs) := by omega
    go_wp2_with fail
    refine IH' (p.regs + p.slots) w3 _ V3.rd (by omega) (by omega) ?_
    intro g4 w4 t4 b4
    have V4 := V3.next b4
    clear v0 v1 v2 v3 v4 v5 v6 o0 o1 o2 o3
    have v0 := V4.view.cell (i := 0) rfl
    have v1 := V4.view.cell (i := 1) rfl
    have v2 := V4.view.cell (i := 2) rfl
    have v3 := V4.view.cell (i := 3) rfl
    have v4 := V4.view.cell (i := 4) rfl
    have v5 := V4.view.cell (i := 5) rfl
    have v6 := V4.view.cell (i := 6) rfl
    have o0 := V4.op.cell (i := 0) rfl
    have o1 := V4.op.cell (i := 1) rfl
    have o2 := V4.op.cell (i := 2) rfl
    have o3 := V4.op.cell (i := 3) rfl
    rw [hkk] at o0
    go_wp2_with fail
    refine IH' (o.a) w4 _ V4.rd (by omega) (by omega) ?_
    intro g5 w5 t5 b5
    have V5 := V4.next b5
    clear v0 v1 v2 v3 v4 v5 v6 o0 o1 o2 o3
    have v0 := V5.view.cell (i := 0) rfl
    have v1 := V5.view.cell (i := 1) rfl
    have v2 := V5.view.cell (i := 2) rfl
    have v3 := V5.view.cell (i := 3) rfl
    have v4 := V5.view.cell (i := 4) rfl
    have v5 := V5.view.cell (i := 5) rfl
    have v6 := V5.view.cell (i := 6) rfl
    have o0 := V5.op.cell (i := 0) rfl
    have o1 := V5.op.cell (i := 1) rfl
    have o2 := V5.op.cell (i := 2) rfl
    have o3 := V5.op.cell (i := 3) rfl
    rw [hkk] at o0
    go_wp2_with fail
    refine IH' (o.b) w5 _ V5.rd (by omega) (by omega) ?_
    intro g6 w6 t6 b6
    have V6 := V5.next b6
    clear v0 v1 v2 v3 v4 v5 v6 o0 o1 o2 o3
    have v0 := V6.view.cell (i := 0) rfl
    have v1 := V6.view.cell (i := 1) rfl
    have v2 := V6.view.cell (i := 2) rfl
    have v3 := V6.view.cell (i := 3) rfl
    have v4 := V6.view.cell (i := 4) rfl
    have v5 := V6.view.cell (i := 5) rfl
    have v6 := V6.view.cell (i := 6) rfl
    have o0 := V6.op.cell (i := 0) rfl
    have o1 := V6.op.cell (i := 1) rfl
    have o2 := V6.op.cell (i := 2) rfl
    have o3 := V6.op.cell (i := 3) rfl
    rw [hkk] at o0
    go_wp2_with fail
    refine rWritten_cps _ _ _ g4 g5 g6 w6 ((t4.keep b5).keep b6) (t5.keep b6) t6 (HFine.out _ (by omega) (by omega)) (HFine.out _ (by omega) (by omega)) (HFine.out _ (by omega) (by omega)) _ ?_
    intro g7 w7 t7 b7
    have HF : Hid (Post (.returned (.pointer (some ⟨g7, 0, none⟩))) w7) := HX.out g7 w7 t7 (V6.keep.trans (b7.mono V6.keep.size))
    clear HX t7 b7 v0 v1 v2 v3 v4 v5 v6 o0 o1 o2 o3
    go_wp2
    exact HF.out
  · -- Put
    have HX := Lib.hid (HP.out _ (behind_move ho HW.out (.inr hkk)))
    generalize writesT p.regs p.slots o = wo at *
    clear HP HW
    rw [hkk] at o0
    have hob : 0 ≤ o.b ∧ o.b < p.regs := by omega
    go_wp2_with fail
    refine IH' o.b w3 _ V3.rd (by omega) (by omega) ?_
    intro g4 w4 t4 b4
    have HF : Hid (Post (.returned (.pointer (some ⟨g4, 0, none⟩))) w4) := HX.out g4 w4 t4 (V3.keep.trans (b4.mono V3.keep.size))
    clear HX t4 b4 v0 v1 v2 v3 v4 v5 v6 o0 o1 o2 o3
    go_wp2
    exact HF.out
  · -- Get
    have HX := Lib.hid (HP.out _ (behind_get ho HW.out hkk))
    generalize writesT p.regs p.slots o = wo at *
    clear HP HW
    rw [hkk] at o0
    have hob : 0 ≤ o.b ∧ o.b < p.slots := by omega
    go_wp2_with fail
    refine IH' (p.regs + o.b) w3 _ V3.rd (by omega) (by omega) ?_
    intro g4 w4 t4 b4
    have HF : Hid (Post (.returned (.pointer (some ⟨g4, 0, none⟩))) w4) := HX.out g4 w4 t4 (V3.keep.trans (b4.mono V3.keep.size))
    clear HX t4 b4 v0 v1 v2 v3 v4 v5 v6 o0 o1 o2 o3
    go_wp2
    exact HF.out

end Go.Proofs.YtblhmeidbjigaaaGreatDoor
