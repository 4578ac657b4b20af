/- The reference's terms: beside and Made of '+' and a number. -/
import Derived.Test.YtblhmeidbjigaabGreatDoorRows
import Derived.WalkKit
import Derived.WalkSpells
import Derived.WalkLawsBesides
import Derived.Laws.BytesArg
import Derived.Deep.QuietTactic
import Derived.BigQuiet
import Derived.Deep.RegionHeld3
import Derived.Lib.ItoaNum
import Derived.Lib.ItoaLen
import Derived.OpenShut
import Derived.Maps.AppendAt
import Derived.Shelf.Strconv.Itoa3
import Derived.Shelf.Lay
import Derived.Ground.NamesProg
import Derived.Lib.SmallJoins
import Derived.Lib.Hide
import Derived.StillTailTactics
import Derived.Test.YtblhmeidbjigaabGreatDoorRTrBToRTrEAll

set_option linter.unusedSimpArgs false
set_option linter.unusedVariables false
namespace Go.Proofs.YtblhmeidbjigaabGreatDoor
open Go.RowKit

/-- What Made answers of '+' and a number. -/
def MadeC (u : TD) : Prop := ∀ (g gk : Nat) (k : Int) (w : World) (Post : Ending → World → Prop), TreeAt w u g → TreeAt w (tnum k) gk → W64 k →
  (∀ g' w', TreeAt w' (addN u k) g' → Below w.heap.size w w' → Post (.returned (.pointer (some ⟨g', 0, none⟩))) w') →
  Calls Tryz.prog 177 #[.int .i64 3, .pointer (some ⟨g, 0, none⟩), .pointer (some ⟨gk, 0, none⟩)] w Post

set_option maxRecDepth 100000 in
set_option maxHeartbeats 2000000 in
theorem rBeside_add (u : TD) (fu : u.fine) (H : ∀ a m, u = .two 3 a (tnum m) → MadeC a) : BesideC 3 u := by
  intro g n w Post hu hn hs hno
  by_cases h0 : n = 0
  · subst h0
    have HF : Hid (Post (.returned (.pointer (some ⟨g, 0, none⟩))) w) := hs u g w (by simp [besideT]) hu (Below.refl _ _)
    clear hs hno H
    go_enter Tryz.func206, Tryz.ntmps206
    go_wp2
    exact HF.out
  · have q := rPlus_any u g w hu fu
    cases hp : u.isPlus with
    | none =>
      rw [hp] at q
      simp only [Option.isSome_none] at q
      have HF : Hid (Post (.returned (.pointer none)) w) := hno w (by simp [besideT, h0, hp]) (Below.refl _ _)
      clear hs hno H
      go_enter Tryz.func206, Tryz.ntmps206
      go_wp2_with fail
      refine q.mono ?_
      rintro e w1 ⟨rfl, rfl⟩
      go_wp2
      exact HF.out
    | some p =>
      obtain ⟨a, m⟩ := p
      rw [hp] at q
      simp only [Option.isSome_some] at q
      obtain rfl := isPlus_some hp
      have HM := H a m rfl
      have hbe : besideT 3 (.two 3 a (tnum m)) n = some (addN a (wrap64 (m + n))) := by simp [besideT, h0, hp]
      obtain ⟨ga, gb, r, ta, tb⟩ := hu
      have c2 := r.cell (i := 2) rfl
      have c3 := r.cell (i := 3) rfl
      have d1 := tb.numc
      simp only [tnum, TD.num] at d1
      have hw : W64 (wrap64 (m + n)) := w64_wrap _
      clear hno H tb fu hp
      go_enter Tryz.func206, Tryz.ntmps206
      go_wp2_with fail
      refine q.mono ?_
      rintro e w1 ⟨rfl, rfl⟩
      go_wp2_with fail
      refine rNum_cps _ _ _ ?_
      intro gk w1 tk b1
      have c2' := (r.keep b1).cell (i := 2) rfl
      clear c2 c3 d1
      go_wp2_with fail
      refine HM ga gk _ w1 _ (ta.keep b1) tk hw ?_
      intro g2 w2 t2 b2
      have HF : Hid (Post (.returned (.pointer (some ⟨g2, 0, none⟩))) w2) := hs _ g2 w2 hbe t2 (b1.trans (b2.mono b1.size))
      clear hs c2' t2 b2
      go_wp2
      exact HF.out

set_option maxRecDepth 100000 in
set_option maxHeartbeats 2000000 in
theorem rMade_add (u : TD) (fu : u.fine) (HB : BesideC 3 u) : MadeC u := by
  intro g gk k w Post hu hv hk hp
  rw [← made_add] at hp
  have fk : (tnum k).fine := tnum_fine hk
  have c0 := hu.kindc
  have d0 := hv.kindc
  have d1 := hv.numc
  simp only [tnum, TD.num, TD.kind] at d0 d1
  by_cases h1 : u.kind = 100
  · have e := (isNum_kind fu).1 h1
    have c1 := hu.numc
    have qc := fun w' => calcW_any 3 u.num k w' (by omega) (by omega)
    have em : madeT 3 u (tnum k) = tnum (calcW 3 u.num k) := by simp [madeT, e, num_isNum]
    rw [em] at hp
    rw [h1] at c0
    clear em e h1 hu hv fu HB
    generalize u.num = n at *
    generalize calcW 3 n k = R at *
    have B1 : ∀ n, Below w.heap.size w (w.drewN n) := fun n => below_drewN (Below.refl _ _) n
    go_enter Tryz.func177, Tryz.ntmps177
    go_wp2
    go_quiet (exact Calls.quiet_of_same ((qc _).mono (fun _ _ h => ⟨h.1, h.2.symm⟩)))
    go_wp2_with fail
    refine rNum_cps _ _ _ ?_
    intro g2 w2 t2 b2
    have HF : Hid (Post (.returned (.pointer (some ⟨g2, 0, none⟩))) w2) := hp g2 w2 t2 ((B1 nq).trans (b2.mono (B1 nq).size))
    clear hp t2 b2 c0 c1 d0 d1
    go_wp2
    exact HF.out
  · have e := (isNum_none fu).1 h1
    have em : madeT 3 u (tnum k) = rowT 3 u (tnum k) := by simp only [madeT, e, num_isNum]
    rw [em] at hp
    have qt := fun w' => rTurns_any 3 (by omega) w'
    rw [(turnsT_eq 3).2 (by omega)] at qt
    have qr := rRow_cps 3 (by omega) u (tnum k) g gk w hu hv fu fk HB
    clear em e hu hv
    have hd : (u.kind == 100) = false := by simp [h1]
    generalize u.kind = q at *
    go_enter Tryz.func177, Tryz.ntmps177
    go_wp2_with fail
    refine (qt _).mono ?_
    rintro e w1 ⟨rfl, rfl⟩
    go_wp2_with fail
    refine qr _ ?_
    intro g2 w2 t2 b2
    have HF : Hid (Post (.returned (.pointer (some ⟨g2, 0, none⟩))) w2) := hp g2 w2 t2 b2
    clear hp t2 b2 c0 d0 d1
    go_wp2
    exact HF.out

theorem rAdd_all (u : TD) : u.fine → MadeC u := by
  induction u with
  | leaf k n => exact fun f => rMade_add _ f (rBeside_add _ f (fun a m e => by cases e))
  | two k a b iha ihb => exact fun f => rMade_add _ f (rBeside_add _ f (fun a' m e => by cases e; exact iha f.2.2.1))
  | three k a b c => exact fun f => rMade_add _ f (rBeside_add _ f (fun a' m e => by cases e))

set_option maxRecDepth 100000 in
set_option maxHeartbeats 2000000 in
theorem rBeside_sub (u : TD) (fu : u.fine) : BesideC 4 u := by
  intro g n w Post hu hn hs hno
  have HM := rAdd_all u fu
  have hbe : besideT 4 u n = some (addN u (wrap64 (0 - n))) := by simp [besideT]
  have hw : W64 (wrap64 (0 - n)) := w64_wrap _
  clear hno
  go_enter Tryz.func206, Tryz.ntmps206
  go_wp2_with fail
  refine rNum_cps _ _ _ ?_
  intro gk w1 tk b1
  go_wp2_with fail
  refine HM g gk _ w1 _ (hu.keep b1) tk (by first | exact hw | simpa using hw) ?_
  intro g2 w2 t2 b2
  have HF : Hid (Post (.returned (.pointer (some ⟨g2, 0, none⟩))) w2) := hs _ g2 w2 hbe (by first | exact t2 | simpa using t2) (b1.trans (b2.mono b1.size))
  clear hs t2 b2
  go_wp2
  exact HF.out

set_option maxRecDepth 100000 in
set_option maxHeartbeats 4000000 in
/-- The kinds whose rows look at the number alone. -/
theorem rBeside_plain (kind : Int) (hk : kind = 5 ∨ kind = 6 ∨ kind = 7 ∨ kind = 8 ∨ kind = 11) (u : TD) : BesideC kind u := by
  intro g n w Post hu hn hs hno
  have HU : Hid (besideT kind u n = some u → Post (.returned (.pointer (some ⟨g, 0, none⟩))) w) := fun e => hs u g w e hu (Below.refl _ _)
  have HN : Hid (besideT kind u n = none → Post (.returned (.pointer none)) w) := fun e => hno w e (Below.refl _ _)
  have HT : Hid (∀ m g' w', besideT kind u n = some (tnum m) → TreeAt w' (tnum m) g' → Below w.heap.size w w' → Post (.returned (.pointer (some ⟨g', 0, none⟩))) w') := fun m => hs (tnum m)
  clear hs hno hu
  rcases hk with rfl | rfl | rfl | rfl | rfl
  · by_cases h0 : n = 0
    · subst h0
      have HX := Lib.hid (HT.out 0 · · (by simp [besideT]))
      clear HU HN HT
      go_enter Tryz.func206, Tryz.ntmps206
      go_wp2_with fail
      refine rNum_cps _ _ _ ?_
      intro g2 w2 t2 b2
      have HF : Hid (Post (.returned (.pointer (some ⟨g2, 0, none⟩))) w2) := HX.out g2 w2 t2 b2
      clear HX t2 b2
      go_wp2
      exact HF.out
    · by_cases h1 : n = 1
      · subst h1
        have HX := Lib.hid (HU.out (by simp [besideT]))
        clear HU HN HT
        go_enter Tryz.func206, Tryz.ntmps206
        go_wp2
        exact HX.out
      · have HX := Lib.hid (HN.out (by simp [besideT, h0, h1]))
        clear HU HN HT
        go_enter Tryz.func206, Tryz.ntmps206
        go_wp2
        exact HX.out
  · by_cases h0 : n = 0
    · subst h0
      have HX := Lib.hid (HT.out 0 · · (by simp [besideT]))
      clear HU HN HT
      go_enter Tryz.func206, Tryz.ntmps206
      go_wp2_with fail
      refine rNum_cps _ _ _ ?_
      intro g2 w2 t2 b2
      have HF : Hid (Post (.returned (.pointer (some ⟨g2, 0, none⟩))) w2) := HX.out g2 w2 t2 b2
      clear HX t2 b2
      go_wp2
      exact HF.out
    · by_cases h1 : n = -1
      · subst h1
        have HX := Lib.hid (HU.out (by simp [besideT]))
        clear HU HN HT
        go_enter Tryz.func206, Tryz.ntmps206
        go_wp2
        exact HX.out
      · have HX := Lib.hid (HN.out (by simp [besideT, h0, h1]))
        clear HU HN HT
        go_enter Tryz.func206, Tryz.ntmps206
        go_wp2
        exact HX.out
  · by_cases h0 : n = 0
    · subst h0
      have HX := Lib.hid (HU.out (by simp [besideT]))
      clear HU HN HT
      go_enter Tryz.func206, Tryz.ntmps206
      go_wp2
      exact HX.out
    · by_cases h1 : n = -1
      · subst h1
        have HX := Lib.hid (HT.out (-1) · · (by simp [besideT]))
        clear HU HN HT
        go_enter Tryz.func206, Tryz.ntmps206
        go_wp2_with fail
        refine rNum_cps _ _ _ ?_
        intro g2 w2 t2 b2
        have HF : Hid (Post (.returned (.pointer (some ⟨g2, 0, none⟩))) w2) := HX.out g2 w2 t2 b2
        clear HX t2 b2
        go_wp2
        exact HF.out
      · have HX := Lib.hid (HN.out (by simp [besideT, h0, h1]))
        clear HU HN HT
        go_enter Tryz.func206, Tryz.ntmps206
        go_wp2
        exact HX.out
  · by_cases h0 : n = 0
    · subst h0
      have HX := Lib.hid (HU.out (by simp [besideT]))
      clear HU HN HT
      go_enter Tryz.func206, Tryz.ntmps206
      go_wp2
      exact HX.out
    · have HX := Lib.hid (HN.out (by simp [besideT, h0]))
      clear HU HN HT
      go_enter Tryz.func206, Tryz.ntmps206
      go_wp2
      exact HX.out
  · by_cases h0 : n = 1
    · subst h0
      have HX := Lib.hid (HU.out (by simp [besideT]))
      clear HU HN HT
      go_enter Tryz.func206, Tryz.ntmps206
      go_wp2
      exact HX.out
    · have HX := Lib.hid (HN.out (by simp [besideT, h0]))
      clear HU HN HT
      go_enter Tryz.func206, Tryz.ntmps206
      go_wp2
      exact HX.out

set_option maxRecDepth 100000 in
set_option maxHeartbeats 1000000 in
theorem rBeside_none (kind : Int) (hk : kind = 9 ∨ kind = 10) (u : TD) : BesideC kind u := by
  intro g n w Post hu hn hs hno
  have HX : Hid (Post (.returned (.pointer none)) w) := hno w (by rcases hk with rfl | rfl <;> simp [besideT]) (Below.refl _ _)
  clear hs hno hu
  rcases hk with rfl | rfl
  all_goals
    go_enter Tryz.func206, Tryz.ntmps206
    go_wp2
    exact HX.out

theorem rBeside_any (kind : Int) (hk : 3 ≤ kind ∧ kind ≤ 11) (u : TD) (fu : u.fine) : BesideC kind u := by
  by_cases h3 : kind = 3
  · subst h3
    exact rBeside_add u fu (fun a m e => by subst e; exact rAdd_all a fu.2.2.1)
  by_cases h4 : kind = 4
  · subst h4; exact rBeside_sub u fu
  by_cases h9 : kind = 9 ∨ kind = 10
  · exact rBeside_none kind h9 u
  exact rBeside_plain kind (by omega) u

end Go.Proofs.YtblhmeidbjigaabGreatDoor

/- The reference's terms: Made. -/
set_option linter.unusedSimpArgs false
set_option linter.unusedVariables false
namespace Go.Proofs.YtblhmeidbjigaabGreatDoor
open Go.RowKit

theorem made_num {kind a b : Int} {u v : TD} (hu : u.isNum = some a) (hv : v.isNum = some b) (h : ¬ (kind = 11 ∧ b = 0)) : madeT kind u v = tnum (calcW kind a b) := by
  simp only [madeT, hu, hv, if_neg h]

theorem made_div0 {kind a b : Int} {u v : TD} (hu : u.isNum = some a) (hv : v.isNum = some b) (h : kind = 11 ∧ b = 0) : madeT kind u v = rowT kind u v := by
  simp only [madeT, hu, hv, if_pos h]

theorem made_left {kind a : Int} {u v : TD} (hu : u.isNum = some a) (hv : v.isNum = none) : madeT kind u v = if turnsT kind = true then rowT kind v u else rowT kind u v := by
  simp only [madeT, hu, hv]

theorem made_right {kind b : Int} {u v : TD} (hu : u.isNum = none) (hv : v.isNum = some b) : madeT kind u v = rowT kind u v := by
  simp only [madeT, hu, hv]

theorem made_over {kind : Int} {u v : TD} (hu : u.isNum = none) (hv : v.isNum = none) (h : turnsT kind = true ∧ showT v < showT u) : madeT kind u v = rowT kind v u := by
  simp only [madeT, hu, hv, if_pos h]

theorem made_stay {kind : Int} {u v : TD} (hu : u.isNum = none) (hv : v.isNum = none) (h : ¬ (turnsT kind = true ∧ showT v < showT u)) : madeT kind u v = rowT kind u v := by
  simp only [madeT, hu, hv, if_neg h]

theorem bytesLess_lt : ∀ (x y : List UInt8), Op.bytesLess x y = true ↔ x < y
  | [], [] => by simp [Op.bytesLess]
  | _ :: _, [] => by simp [Op.bytesLess]
  | [], _ :: _ => by simp [Op.bytesLess]
  | a :: x, b :: y => by
    rw [Op.bytesLess, List.cons_lt_cons_iff]
    simp [bytesLess_lt x y]

theorem less_show (u v : TD) : Op.bytesLess (str (showT v)).toList (str (showT u)).toList = true ↔ showT v < showT u := by
  simp only [str, ByteArray.toList_mk]
  exact bytesLess_lt _ _

set_option maxRecDepth 100000 in
set_option maxHeartbeats 2000000 in
theorem rMade_num (kind : Int) (hk : 3 ≤ kind ∧ kind ≤ 11) (a b : Int) (hab : ¬ (kind = 11 ∧ b = 0)) (g h : Nat) (w : World) (hu : TreeAt w (tnum a) g) (hv : TreeAt w (tnum b) h) (Post : Ending → World → Prop)
    (hp : ∀ g' w', TreeAt w' (tnum (calcW kind a b)) g' → Below w.heap.size w w' → Post (.returned (.pointer (some ⟨g', 0, none⟩))) w') :
    Calls Tryz.prog 177 #[.int .i64 kind, .pointer (some ⟨g, 0, none⟩), .pointer (some ⟨h, 0, none⟩)] w Post := by
  have c0 := hu.kindc
  have c1 := hu.numc
  have d0 := hv.kindc
  have d1 := hv.numc
  simp only [tnum, TD.num, TD.kind] at c0 c1 d0 d1
  have qc := fun w' => calcW_any kind a b w' hk (by omega)
  have B1 : ∀ n, Below w.heap.size w (w.drewN n) := fun n => below_drewN (Below.refl _ _) n
  clear hu hv
  generalize calcW kind a b = R at *
  by_cases h11 : kind = 11
  · have hb : b ≠ 0 := fun e => hab ⟨h11, e⟩
    subst h11
    have hb1 : (b == 0) = false := by simp [hb]
    have hb2 : decide (b = 0) = false := by simp [hb]
    clear hab
    go_enter Tryz.func177, Tryz.ntmps177
    go_wp2
    go_quiet (exact Calls.quiet_of_same ((qc _).mono (fun _ _ h => ⟨h.1, h.2.symm⟩)))
    go_wp2_with fail
    refine rNum_cps _ _ _ ?_
    intro g2 w2 t2 b2
    have HF : Hid (Post (.returned (.pointer (some ⟨g2, 0, none⟩))) w2) := hp g2 w2 t2 ((B1 nq).trans (b2.mono (B1 nq).size))
    clear hp t2 b2 c0 c1 d0 d1
    go_wp2
    exact HF.out
  · have hk1 : (kind == 11) = false := by simp [h11]
    have hk2 : decide (kind = 11) = false := by simp [h11]
    clear hab
    go_enter Tryz.func177, Tryz.ntmps177
    go_wp2
    go_quiet (exact Calls.quiet_of_same ((qc _).mono (fun _ _ h => ⟨h.1, h.2.symm⟩)))
    go_wp2_with fail
    refine rNum_cps _ _ _ ?_
    intro g2 w2 t2 b2
    have HF : Hid (Post (.returned (.pointer (some ⟨g2, 0, none⟩))) w2) := hp g2 w2 t2 ((B1 nq).trans (b2.mono (B1 nq).size))
    clear hp t2 b2 c0 c1 d0 d1
    go_wp2
    exact HF.out

set_option maxRecDepth 100000 in
set_option maxHeartbeats 2000000 in
theorem rMade_div0 (a : Int) (g h : Nat) (w : World) (hu : TreeAt w (tnum a) g) (hv : TreeAt w (tnum 0) h) (wa : W64 a) (Post : Ending → World → Prop)
    (hp : ∀ g' w', TreeAt w' (rowT 11 (tnum a) (tnum 0)) g' → Below w.heap.size w w' → Post (.returned (.pointer (some ⟨g', 0, none⟩))) w') :
    Calls Tryz.prog 177 #[.int .i64 11, .pointer (some ⟨g, 0, none⟩), .pointer (some ⟨h, 0, none⟩)] w Post := by
  have c0 := hu.kindc
  have c1 := hu.numc
  have d0 := hv.kindc
  have d1 := hv.numc
  simp only [tnum, TD.num, TD.kind] at c0 c1 d0 d1
  have fa : (tnum a).fine := tnum_fine wa
  have f0 : (tnum 0).fine := tnum_fine (by constructor <;> decide)
  have B1 : ∀ n, Below w.heap.size w (w.drewN n) := fun n => below_drewN (Below.refl _ _) n
  have qt := fun w' => rTurns_any 11 (by omega) w'
  rw [turnsT_no (k := 11) (by omega)] at qt
  have qr := fun w' (hb : Below w.heap.size w w') => rRow_cps 11 (by omega) (tnum a) (tnum 0) g h w' (hu.keep hb) (hv.keep hb) fa f0 (rBeside_any 11 (by omega) _ fa)
  clear hu hv fa f0
  go_enter Tryz.func177, Tryz.ntmps177
  go_wp2_with fail
  refine (qt _).mono ?_
  rintro e w1 ⟨rfl, rfl⟩
  go_wp2_with fail
  refine qr _ (by first | exact B1 _ | exact Below.refl _ _) _ ?_
  intro g2 w2 t2 b2
  have HF : Hid (Post (.returned (.pointer (some ⟨g2, 0, none⟩))) w2) := hp g2 w2 t2 (by first | exact b2 | exact (B1 _).trans (b2.mono (B1 _).size))
  clear hp t2 b2 c0 c1 d0 d1
  go_wp2
  exact HF.out

set_option maxRecDepth 100000 in
set_option maxHeartbeats 2000000 in
theorem rMade_left (kind : Int) (hk : 3 ≤ kind ∧ kind ≤ 11) (a : Int) (v : TD) (g h : Nat) (w : World) (hu : TreeAt w (tnum a) g) (hv : TreeAt w v h) (wa : W64 a) (fv : v.fine) (hvn : v.isNum = none) (Post : Ending → World → Prop)
    (hp : ∀ g' w', TreeAt w' (if turnsT kind = true then rowT kind v (tnum a) else rowT kind (tnum a) v) g' → Below w.heap.size w w' → Post (.returned (.pointer (some ⟨g', 0, none⟩))) w') :
    Calls Tryz.prog 177 #[.int .i64 kind, .pointer (some ⟨g, 0, none⟩), .pointer (some ⟨h, 0, none⟩)] w Post := by
  have c0 := hu.kindc
  have d0 := hv.kindc
  simp only [tnum, TD.kind] at c0
  have fa : (tnum a).fine := tnum_fine wa
  have hkv : v.kind ≠ 100 := (isNum_none fv).2 hvn
  have hd : (v.kind == 100) = false := by simp [hkv]
  have hd2 : decide (v.kind = 100) = false := by simp [hkv]
  have qt := fun w' => rTurns_any kind hk w'
  have qr := rRow_cps kind hk (tnum a) v g h w hu hv fa fv (rBeside_any kind hk _ fa)
  have qs := rRow_cps kind hk v (tnum a) h g w hv hu fv fa (rBeside_any kind hk _ fv)
  clear hu hv fa fv hvn
  generalize v.kind = vk at *
  cases ht : turnsT kind with
  | true =>
    rw [ht] at qt hp
    simp only [if_true] at hp
    clear qr ht
    go_enter Tryz.func177, Tryz.ntmps177
    go_wp2_with fail
    refine (qt _).mono ?_
    rintro e w1 ⟨rfl, rfl⟩
    go_wp2_with fail
    refine qs _ ?_
    intro g2 w2 t2 b2
    have HF : Hid (Post (.returned (.pointer (some ⟨g2, 0, none⟩))) w2) := hp g2 w2 t2 b2
    clear hp t2 b2 c0 d0
    go_wp2
    exact HF.out
  | false =>
    rw [ht] at qt hp
    simp only [Bool.false_eq_true, if_false] at hp
    clear qs ht
    go_enter Tryz.func177, Tryz.ntmps177
    go_wp2_with fail
    refine (qt _).mono ?_
    rintro e w1 ⟨rfl, rfl⟩
    go_wp2_with fail
    refine qr _ ?_
    intro g2 w2 t2 b2
    have HF : Hid (Post (.returned (.pointer (some ⟨g2, 0, none⟩))) w2) := hp g2 w2 t2 b2
    clear hp t2 b2 c0 d0
    go_wp2
    exact HF.out

set_option maxRecDepth 100000 in
set_option maxHeartbeats 2000000 in
theorem rMade_right (kind : Int) (hk : 3 ≤ kind ∧ kind ≤ 11) (u : TD) (b : Int) (g h : Nat) (w : World) (hu : TreeAt w u g) (hv : TreeAt w (tnum b) h) (fu : u.fine) (wb : W64 b) (hun : u.isNum = none) (Post : Ending → World → Prop)
    (hp : ∀ g' w', TreeAt w' (rowT kind u (tnum b)) g' → Below w.heap.size w w' → Post (.returned (.pointer (some ⟨g', 0, none⟩))) w') :
    Calls Tryz.prog 177 #[.int .i64 kind, .pointer (some ⟨g, 0, none⟩), .pointer (some ⟨h, 0, none⟩)] w Post := by
  have c0 := hu.kindc
  have d0 := hv.kindc
  simp only [tnum, TD.kind] at d0
  have fb : (tnum b).fine := tnum_fine wb
  have hku : u.kind ≠ 100 := (isNum_none fu).2 hun
  have hd : (u.kind == 100) = false := by simp [hku]
  have hd2 : decide (u.kind = 100) = false := by simp [hku]
  have qt := fun w' => rTurns_any kind hk w'
  have qr := rRow_cps kind hk u (tnum b) g h w hu hv fu fb (rBeside_any kind hk _ fu)
  clear hu hv fb fu hun
  generalize u.kind = uk at *
  cases ht : turnsT kind with
  | true =>
    rw [ht] at qt
    clear ht
    go_enter Tryz.func177, Tryz.ntmps177
    go_wp2_with fail
    refine (qt _).mono ?_
    rintro e w1 ⟨rfl, rfl⟩
    go_wp2_with fail
    refine qr _ ?_
    intro g2 w2 t2 b2
    have HF : Hid (Post (.returned (.pointer (some ⟨g2, 0, none⟩))) w2) := hp g2 w2 t2 b2
    clear hp t2 b2 c0 d0
    go_wp2
    exact HF.out
  | false =>
    rw [ht] at qt
    clear ht
    go_enter Tryz.func177, Tryz.ntmps177
    go_wp2_with fail
    refine (qt _).mono ?_
    rintro e w1 ⟨rfl, rfl⟩
    go_wp2_with fail
    refine qr _ ?_
    intro g2 w2 t2 b2
    have HF : Hid (Post (.returned (.pointer (some ⟨g2, 0, none⟩))) w2) := hp g2 w2 t2 b2
    clear hp t2 b2 c0 d0
    go_wp2
    exact HF.out

set_option maxRecDepth 100000 in
set_option maxHeartbeats 4000000 in
theorem rMade_none (kind : Int) (hk : 3 ≤ kind ∧ kind ≤ 11) (u v : TD) (g h : Nat) (w : World) (hu : TreeAt w u g) (hv : TreeAt w v h) (ht : TabW w) (fu : u.fine) (fv : v.fine) (su : u.size ≤ 4000000000000) (sv : v.size ≤ 4000000000000) (hun : u.isNum = none) (hvn : v.isNum = none) (Post : Ending → World → Prop)
    (hp : ∀ g' w', TreeAt w' (madeT kind u v) g' → Below w.heap.size w w' → Post (.returned (.pointer (some ⟨g', 0, none⟩))) w') :
    Calls Tryz.prog 177 #[.int .i64 kind, .pointer (some ⟨g, 0, none⟩), .pointer (some ⟨h, 0, none⟩)] w Post := by
  have c0 := hu.kindc
  have d0 := hv.kindc
  have hku : u.kind ≠ 100 := (isNum_none fu).2 hun
  have hd : (u.kind == 100) = false := by simp [hku]
  have hd2 : decide (u.kind = 100) = false := by simp [hku]
  have hkv : v.kind ≠ 100 := (isNum_none fv).2 hvn
  have he : (v.kind == 100) = false := by simp [hkv]
  have he2 : decide (v.kind = 100) = false := by simp [hkv]
  have qt := fun w' => rTurns_any kind hk w'
  cases htn : turnsT kind with
  | false =>
    rw [made_stay hun hvn (fun q => by rw [htn] at q; cases q.1)] at hp
    rw [htn] at qt
    have qr := rRow_cps kind hk u v g h w hu hv fu fv (rBeside_any kind hk _ fu)
    clear hu hv fu fv hun hvn htn ht
    generalize u.kind = uk at *
    generalize v.kind = vk at *
    go_enter Tryz.func177, Tryz.ntmps177
    go_wp2_with fail
    refine (qt _).mono ?_
    rintro e w1 ⟨rfl, rfl⟩
    go_wp2_with fail
    refine qr _ ?_
    intro g2 w2 t2 b2
    have HF : Hid (Post (.returned (.pointer (some ⟨g2, 0, none⟩))) w2) := hp g2 w2 t2 b2
    clear hp t2 b2 c0 d0
    go_wp2
    exact HF.out
  | true =>
    rw [htn] at qt
    have q1 := rShow_any u g w hu ht fu su
    have q2 := fun w' (hb : Below w.heap.size w w') => rShow_any v h w' (hv.keep hb) (ht.keep hb) fv sv
    have hl := less_show u v
    have HU := Lib.hid hu
    have HV := Lib.hid hv
    by_cases hlt : showT v < showT u
    · rw [made_over hun hvn ⟨htn, hlt⟩] at hp
      have hz := hl.2 hlt
      have qs := fun w' (hb : Below w.heap.size w w') => rRow_cps kind hk v u h g w' (HV.out.keep hb) (HU.out.keep hb) fv fu (rBeside_any kind hk _ fv)
      clear hl hu hv fu fv hun hvn htn ht hlt HU HV
      generalize u.kind = uk at *
      generalize v.kind = vk at *
      generalize str (showT u) = S at *
      generalize str (showT v) = T at *
      go_enter Tryz.func177, Tryz.ntmps177
      go_wp2_with fail
      refine (qt _).mono ?_
      rintro e w1 ⟨rfl, rfl⟩
      go_wp2_with fail
      refine q1.mono ?_
      rintro e w1 ⟨rfl, b1⟩
      clear c0 d0
      go_wp2_with fail
      refine (q2 w1 b1).mono ?_
      rintro e w2 ⟨rfl, b2⟩
      have b12 : Below w.heap.size w w2 := b1.trans (b2.mono b1.size)
      go_wp2_with fail
      refine qs w2 b12 _ ?_
      intro g3 w3 t3 b3
      have HF : Hid (Post (.returned (.pointer (some ⟨g3, 0, none⟩))) w3) := hp g3 w3 t3 (b12.trans (b3.mono b12.size))
      clear hp t3 b3 b12 b1 b2
      go_wp2
      exact HF.out
    · rw [made_stay hun hvn (fun q => hlt q.2)] at hp
      have hz : Op.bytesLess (str (showT v)).toList (str (showT u)).toList = false := by
        cases hx : Op.bytesLess (str (showT v)).toList (str (showT u)).toList with
        | false => rfl
        | true => exact absurd (hl.1 hx) hlt
      have qs := fun w' (hb : Below w.heap.size w w') => rRow_cps kind hk u v g h w' (HU.out.keep hb) (HV.out.keep hb) fu fv (rBeside_any kind hk _ fu)
      clear hl hu hv fu fv hun hvn htn ht hlt HU HV
      generalize u.kind = uk at *
      generalize v.kind = vk at *
      generalize str (showT u) = S at *
      generalize str (showT v) = T at *
      go_enter Tryz.func177, Tryz.ntmps177
      go_wp2_with fail
      refine (qt _).mono ?_
      rintro e w1 ⟨rfl, rfl⟩
      go_wp2_with fail
      refine q1.mono ?_
      rintro e w1 ⟨rfl, b1⟩
      clear c0 d0
      go_wp2_with fail
      refine (q2 w1 b1).mono ?_
      rintro e w2 ⟨rfl, b2⟩
      have b12 : Below w.heap.size w w2 := b1.trans (b2.mono b1.size)
      go_wp2_with fail
      refine qs w2 b12 _ ?_
      intro g3 w3 t3 b3
      have HF : Hid (Post (.returned (.pointer (some ⟨g3, 0, none⟩))) w3) := hp g3 w3 t3 (b12.trans (b3.mono b12.size))
      clear hp t3 b3 b12 b1 b2
      go_wp2
      exact HF.out

theorem rMade_cps (kind : Int) (hk : 3 ≤ kind ∧ kind ≤ 11) (u v : TD) (g h : Nat) (w : World) (hu : TreeAt w u g) (hv : TreeAt w v h) (ht : TabW w) (fu : u.fine) (fv : v.fine) (su : u.size ≤ 4000000000000) (sv : v.size ≤ 4000000000000) (Post : Ending → World → Prop)
    (hp : ∀ g' w', TreeAt w' (madeT kind u v) g' → Below w.heap.size w w' → Post (.returned (.pointer (some ⟨g', 0, none⟩))) w') :
    Calls Tryz.prog 177 #[.int .i64 kind, .pointer (some ⟨g, 0, none⟩), .pointer (some ⟨h, 0, none⟩)] w Post := by
  cases hun : u.isNum with
  | some a =>
    have wa : W64 a := isNum_fine hun fu
    obtain rfl := isNum_some hun
    cases hvn : v.isNum with
    | some b =>
      have wb : W64 b := isNum_fine hvn fv
      obtain rfl := isNum_some hvn
      by_cases hab : kind = 11 ∧ b = 0
      · rw [made_div0 hun hvn hab] at hp
        obtain ⟨rfl, rfl⟩ := hab
        exact rMade_div0 a g h w hu hv wa Post hp
      · rw [made_num hun hvn hab] at hp
        exact rMade_num kind hk a b hab g h w hu hv Post hp
    | none =>
      rw [made_left hun hvn] at hp
      exact rMade_left kind hk a v g h w hu hv wa fv hvn Post hp
  | none =>
    cases hvn : v.isNum with
    | some b =>
      have wb : W64 b := isNum_fine hvn fv
      obtain rfl := isNum_some hvn
      rw [made_right hun hvn] at hp
      exact rMade_right kind hk u b g h w hu hv fu wb hun Post hp
    | none => exact rMade_none kind hk u v g h w hu hv ht fu fv su sv hun hvn Post hp

end Go.Proofs.YtblhmeidbjigaabGreatDoor

/- The reference's terms: Read, left, laid, Written. -/
set_option linter.unusedSimpArgs false
set_option linter.unusedVariables false
namespace Go.Proofs.YtblhmeidbjigaabGreatDoor
open Go.RowKit

/-- A region that reads, then what makes memory of itself. -/
theorem wp_reads {P : Program} {id : Nat} {Q : Exit → Act → World → Prop} {a : Act} {w : World} {l : List Oper} (n : Nat) (hm : P.follows .mixedOrders = true) (hB : Region.lexTailB .any l.toArray n = true)
    (h : wpStill P l.toArray w.drew (fun a' => wpList P l.toArray Q (l.drop n) a' w.drew) (l.take n) a) : (Code.region id l.toArray true).wp P Q a w :=
  wp_region_still_tail n hm hB h

theorem store_kind {m : TD} (hf : m.fine) (h : m.kind = 13) : ∃ c a v, m = .three 13 c a v := by
  cases m with
  | leaf k n => obtain ⟨q, _⟩ := hf; simp only [TD.kind] at h; omega
  | two k a b => obtain ⟨q, q', _⟩ := hf; simp only [TD.kind] at h; omega
  | three k a b c => simp only [TD.kind] at h; exact ⟨a, b, c, by rw [h]⟩

theorem read_same {c a v u : TD} (h : a = u) : readT (.three 13 c a v) u = v := by rw [readT, if_pos h]
theorem read_far {c a v u : TD} (h : a ≠ u) (h2 : apartT a u = true) : readT (.three 13 c a v) u = readT c u := by rw [readT, if_neg h, if_pos h2]
theorem read_near {c a v u : TD} (h : a ≠ u) (h2 : apartT a u = false) : readT (.three 13 c a v) u = .two 12 (.three 13 c a v) u := by rw [readT, if_neg h, if_neg (by rw [h2]; simp)]
theorem read_else {m u : TD} (h : m.kind ≠ 13) : readT m u = .two 12 m u := by
  cases m with
  | leaf k n => rfl
  | two k a b => rfl
  | three k a b c =>
    simp only [TD.kind] at h
    unfold readT
    split
    · rename_i e; cases e; exact absurd rfl h
    · rfl

theorem left_same {c a v u : TD} (h : a = u) : leftT (.three 13 c a v) u = c := by rw [leftT, if_pos h]
theorem left_far {c a v u : TD} (h : a ≠ u) (h2 : apartT a u = true) : leftT (.three 13 c a v) u = .three 13 (leftT c u) a v := by rw [leftT, if_neg h, if_pos h2]
theorem left_near {c a v u : TD} (h : a ≠ u) (h2 : apartT a u = false) : leftT (.three 13 c a v) u = .three 13 c a v := by rw [leftT, if_neg h, if_neg (by rw [h2]; simp)]
theorem left_else {m u : TD} (h : m.kind ≠ 13) : leftT m u = m := by
  cases m with
  | leaf k n => rfl
  | two k a b => rfl
  | three k a b c =>
    simp only [TD.kind] at h
    unfold leftT
    split
    · rename_i e; cases e; exact absurd rfl h
    · rfl

theorem laid_over {c a w u v : TD} {n k : Int} (hu : u.isNum = some n) (ha : a.isNum = some k) (h : k > n) : laidT (.three 13 c a w) u v = .three 13 (laidT c u v) a w := by
  rw [laidT]; simp only [hu, ha, if_pos h]
theorem laid_else {m u v : TD} (h : ¬ ∃ c a w n k, m = .three 13 c a w ∧ u.isNum = some n ∧ a.isNum = some k ∧ k > n) : laidT m u v = .three 13 m u v := by
  cases m with
  | leaf k n => rfl
  | two k a b => rfl
  | three k a b c =>
    by_cases hk : k = 13
    · subst hk
      rw [laidT]
      split
      · rename_i n q e1 e2
        by_cases hq : q > n
        · exact absurd ⟨a, b, c, n, q, rfl, e1, e2, hq⟩ h
        · rw [if_neg hq]
      · rfl
    · unfold laidT
      split
      · rename_i e; cases e; exact absurd rfl hk
      · rfl

set_option maxRecDepth 100000 in
set_option maxHeartbeats 2000000 in
theorem rRead_else (m u : TD) (g h : Nat) (w : World) (hm : TreeAt w m g) (hu : TreeAt w u h) (hk : m.kind ≠ 13) (Post : Ending → World → Prop)
    (hp : ∀ g' w', TreeAt w' (readT m u) g' → Below w.heap.size w w' → Post (.returned (.pointer (some ⟨g', 0, none⟩))) w') :
    Calls Tryz.prog 175 #[.pointer (some ⟨g, 0, none⟩), .pointer (some ⟨h, 0, none⟩)] w Post := by
  rw [read_else hk] at hp
  have c0 := hm.kindc
  have hd : (m.kind == 13) = false := by simp [hk]
  have hd2 : decide (m.kind = 13) = false := by simp [hk]
  obtain ⟨y1, y2⟩ := tree_two (k := 12) hm hu (Below.refl _ _)
  have HF := Lib.hid (hp _ _ y1 y2)
  clear hp y1 y2 hm hu
  generalize m.kind = mk at *
  go_enter Tryz.func175, Tryz.ntmps175
  go_wp2
  exact HF.out

set_option maxRecDepth 100000 in
set_option maxHeartbeats 4000000 in
theorem rRead_cps (m : TD) : ∀ (u : TD) (g h : Nat) (w : World) (Post : Ending → World → Prop), TreeAt w m g → TreeAt w u h → m.fine → u.fine →
    (∀ g' w', TreeAt w' (readT m u) g' → Below w.heap.size w w' → Post (.returned (.pointer (some ⟨g', 0, none⟩))) w') →
    Calls Tryz.prog 175 #[.pointer (some ⟨g, 0, none⟩), .pointer (some ⟨h, 0, none⟩)] w Post := by
  induction m with
  | leaf k n =>
    intro u g h w Post hm hu fm fu hp
    exact rRead_else _ u g h w hm hu (by obtain ⟨q, _⟩ := fm; simp only [TD.kind]; omega) Post hp
  | two k a b iha ihb =>
    intro u g h w Post hm hu fm fu hp
    exact rRead_else _ u g h w hm hu (by obtain ⟨q, q', _⟩ := fm; simp only [TD.kind]; omega) Post hp
  | three k c a v ihc iha ihv =>
    intro u g h w Post hm hu fm fu hp
    obtain ⟨rfl, fc, fa, fv⟩ := fm
    have B1 : ∀ n, Below w.heap.size w (w.drewN n) := fun n => below_drewN (Below.refl _ _) n
    have T0 : Hid (TreeAt w (.three 13 c a v) g) := hm
    obtain ⟨gc, ga, gv, r, tc, ta, tv⟩ := id hm
    have qs := rSame_any a u ga h w ta hu fa fu
    have qa := fun n => rApart_any a u ga h (w.drewN n) (ta.drewN n) (hu.drewN n) fa fu
    have q := fun n => ihc u gc h (w.drewN n)
    have c0 := r.cell (i := 0) rfl
    have c3 := r.cell (i := 3) rfl
    by_cases e1 : a = u
    · rw [read_same e1] at hp
      rw [(sameT_iff a u).2 e1] at qs
      have c4 := fun n => (r.keep (B1 n)).cell (i := 4) rfl
      have HF := Lib.hid (fun n => hp gv (w.drewN n) (tv.drewN n) (B1 n))
      clear hp ihc iha ihv qa q hm hu tc ta tv r
      go_enter Tryz.func175, Tryz.ntmps175
      go_wp2_with fail
      refine qs.mono ?_
      rintro e w1 ⟨rfl, n, rfl⟩
      have d4 := c4 n
      go_wp2
      exact HF.out n
    · rw [sameT_ne e1] at qs
      cases e2 : apartT a u with
      | true =>
        rw [read_far e1 e2] at hp
        rw [e2] at qa
        have c3' := fun n => (r.keep (B1 n)).cell (i := 3) rfl
        have c2' := fun n => (r.keep (B1 n)).cell (i := 2) rfl
        have q' := fun n P => q n P (tc.drewN n) (hu.drewN n) fc fu
        clear ihc iha ihv q hm hu tc ta tv r fa fv fc
        go_enter Tryz.func175, Tryz.ntmps175
        go_wp2_with fail
        refine qs.mono ?_
        rintro e w1 ⟨rfl, n, rfl⟩
        have d3 := c3' n
        go_wp2_with fail
        refine (qa n).mono ?_
        rintro e w1 ⟨rfl, j, hj⟩
        rw [World.drewN_drewN] at hj
        subst hj
        have d2 := c2' (n + j)
        clear d3 c3
        go_wp2_with fail
        refine q' (n + j) _ ?_
        intro g2 w2 t2 b2
        have HF : Hid (Post (.returned (.pointer (some ⟨g2, 0, none⟩))) w2) := hp g2 w2 t2 ((B1 (n + j)).trans (b2.mono (B1 (n + j)).size))
        clear hp t2 b2 d2 c0
        go_wp2
        exact HF.out
      | false =>
        rw [read_near e1 e2] at hp
        rw [e2] at qa
        have c3' := fun n => (r.keep (B1 n)).cell (i := 3) rfl
        have HF := Lib.hid (fun n => let y := tree_two (k := 12) (T0.out.drewN n) (hu.drewN n) (B1 n); hp _ _ y.1 y.2)
        clear hp ihc iha ihv q hm hu tc ta tv r fa fv fc
        go_enter Tryz.func175, Tryz.ntmps175
        go_wp2_with fail
        refine qs.mono ?_
        rintro e w1 ⟨rfl, n, rfl⟩
        have d3 := c3' n
        go_wp2_with fail
        refine (qa n).mono ?_
        rintro e w1 ⟨rfl, j, hj⟩
        rw [World.drewN_drewN] at hj
        subst hj
        clear d3 c3
        go_wp2
        exact HF.out (n + j)

set_option maxRecDepth 100000 in
set_option maxHeartbeats 2000000 in
theorem rLeft_else (m u : TD) (g h : Nat) (w : World) (hm : TreeAt w m g) (hk : m.kind ≠ 13) (Post : Ending → World → Prop)
    (hp : ∀ g' w', TreeAt w' (leftT m u) g' → Below w.heap.size w w' → Post (.returned (.pointer (some ⟨g', 0, none⟩))) w') :
    Calls Tryz.prog 190 #[.pointer (some ⟨g, 0, none⟩), .pointer (some ⟨h, 0, none⟩)] w Post := by
  rw [left_else hk] at hp
  have c0 := hm.kindc
  have hd : (m.kind == 13) = false := by simp [hk]
  have hd2 : decide (m.kind = 13) = false := by simp [hk]
  have HF := Lib.hid (hp _ _ hm (Below.refl _ _))
  clear hp hm
  generalize m.kind = mk at *
  go_enter Tryz.func190, Tryz.ntmps190
  go_wp2
  exact HF.out

set_option maxRecDepth 100000 in
set_option maxHeartbeats 4000000 in
theorem rLeft_cps (m : TD) : ∀ (u : TD) (g h : Nat) (w : World) (Post : Ending → World → Prop), TreeAt w m g → TreeAt w u h → m.fine → u.fine →
    (∀ g' w', TreeAt w' (leftT m u) g' → Below w.heap.size w w' → Post (.returned (.pointer (some ⟨g', 0, none⟩))) w') →
    Calls Tryz.prog 190 #[.pointer (some ⟨g, 0, none⟩), .pointer (some ⟨h, 0, none⟩)] w Post := by
  induction m with
  | leaf k n =>
    intro u g h w Post hm hu fm fu hp
    exact rLeft_else _ u g h w hm (by obtain ⟨q, _⟩ := fm; simp only [TD.kind]; omega) Post hp
  | two k a b iha ihb =>
    intro u g h w Post hm hu fm fu hp
    exact rLeft_else _ u g h w hm (by obtain ⟨q, q', _⟩ := fm; simp only [TD.kind]; omega) Post hp
  | three k c a v ihc iha ihv =>
    intro u g h w Post hm hu fm fu hp
    obtain ⟨rfl, fc, fa, fv⟩ := fm
    have B1 : ∀ n, Below w.heap.size w (w.drewN n) := fun n => below_drewN (Below.refl _ _) n
    have T0 : Hid (TreeAt w (.three 13 c a v) g) := hm
    obtain ⟨gc, ga, gv, r, tc, ta, tv⟩ := id hm
    have qs := rSame_any a u ga h w ta hu fa fu
    have qa := fun n => rApart_any a u ga h (w.drewN n) (ta.drewN n) (hu.drewN n) fa fu
    have q := fun n => ihc u gc h (w.drewN n)
    have c0 := r.cell (i := 0) rfl
    have c3 := r.cell (i := 3) rfl
    by_cases e1 : a = u
    · rw [left_same e1] at hp
      rw [(sameT_iff a u).2 e1] at qs
      have c2 := fun n => (r.keep (B1 n)).cell (i := 2) rfl
      have HF := Lib.hid (fun n => hp gc (w.drewN n) (tc.drewN n) (B1 n))
      clear hp ihc iha ihv qa q hm hu tc ta tv r
      go_enter Tryz.func190, Tryz.ntmps190
      go_wp2_with fail
      refine qs.mono ?_
      rintro e w1 ⟨rfl, n, rfl⟩
      have d2 := c2 n
      go_wp2
      exact HF.out n
    · rw [sameT_ne e1] at qs
      cases e2 : apartT a u with
      | true =>
        rw [left_far e1 e2] at hp
        rw [e2] at qa
        have c3' := fun n => (r.keep (B1 n)).cell (i := 3) rfl
        have c2' := fun n => (r.keep (B1 n)).cell (i := 2) rfl
        have q' := fun n P => q n P (tc.drewN n) (hu.drewN n) fc fu
        have R0 := Lib.hid r
        have TA := Lib.hid ta
        have TV := Lib.hid tv
        clear ihc iha ihv q hm hu tc ta tv r fa fv fc
        go_enter Tryz.func190, Tryz.ntmps190
        go_wp2_with fail
        refine qs.mono ?_
        rintro e w1 ⟨rfl, n, rfl⟩
        have d3 := c3' n
        go_wp2_with fail
        refine (qa n).mono ?_
        rintro e w1 ⟨rfl, j, hj⟩
        rw [World.drewN_drewN] at hj
        subst hj
        have d2 := c2' (n + j)
        clear d3 c3
        go_wp2_with fail
        refine q' (n + j) _ ?_
        intro g2 w2 t2 b2
        have b2' : Below w.heap.size w w2 := (B1 (n + j)).trans (b2.mono (B1 (n + j)).size)
        have b3 : Below w.heap.size w w2.drew := b2'.drew
        have b23 : Below w2.heap.size w2 w2.drew := (Below.refl _ _).drew
        have r2 := R0.out.keep b3
        have e3 := r2.cell (i := 3) rfl
        have e4 := r2.cell (i := 4) rfl
        have y := tree_three (k := 13) (t2.keep b23) (TA.out.keep b3) (TV.out.keep b3) b3
        have HF := Lib.hid (hp _ _ y.1 y.2)
        clear hp t2 b2 b2' b3 b23 d2 c0 y r2 R0 TA TV T0 c2' c3'
        go_wp2
        refine wp_reads 10 (by kernel_rfl) (by kernel_rfl) ?_
        simp only [List.take_succ_cons, List.take_zero, List.drop_succ_cons, List.drop_zero]
        repeat still_step
        refine wpStill_nil ?_
        go_wp2
        exact HF.out
      | false =>
        rw [left_near e1 e2] at hp
        rw [e2] at qa
        have c3' := fun n => (r.keep (B1 n)).cell (i := 3) rfl
        have HF := Lib.hid (fun n => hp g _ (T0.out.drewN n) (B1 n))
        clear hp ihc iha ihv q hm hu tc ta tv r fa fv fc
        go_enter Tryz.func190, Tryz.ntmps190
        go_wp2_with fail
        refine qs.mono ?_
        rintro e w1 ⟨rfl, n, rfl⟩
        have d3 := c3' n
        go_wp2_with fail
        refine (qa n).mono ?_
        rintro e w1 ⟨rfl, j, hj⟩
        rw [World.drewN_drewN] at hj
        subst hj
        clear d3 c3
        go_wp2
        exact HF.out (n + j)

end Go.Proofs.YtblhmeidbjigaabGreatDoor

/- The reference's terms: laid, Written. -/
set_option linter.unusedSimpArgs false
set_option linter.unusedVariables false
namespace Go.Proofs.YtblhmeidbjigaabGreatDoor
open Go.RowKit

set_option maxRecDepth 100000 in
set_option maxHeartbeats 2000000 in
theorem rLaid_off (m u v : TD) (g h j : Nat) (w : World) (hm : TreeAt w m g) (hu : TreeAt w u h) (hv : TreeAt w v j) (fm : m.fine) (fu : u.fine)
    (hno : ¬ ∃ c a x n k, m = .three 13 c a x ∧ u.isNum = some n ∧ a.isNum = some k ∧ k > n) (Post : Ending → World → Prop)
    (hp : ∀ g' w', TreeAt w' (laidT m u v) g' → Below w.heap.size w w' → Post (.returned (.pointer (some ⟨g', 0, none⟩))) w') :
    Calls Tryz.prog 191 #[.pointer (some ⟨g, 0, none⟩), .pointer (some ⟨h, 0, none⟩), .pointer (some ⟨j, 0, none⟩)] w Post := by
  rw [laid_else hno] at hp
  have B1 : ∀ n, Below w.heap.size w (w.drewN n) := fun n => below_drewN (Below.refl _ _) n
  have HF := Lib.hid (fun n => let y := tree_three (k := 13) (hm.drewN n) (hu.drewN n) (hv.drewN n) (B1 n); hp _ _ y.1 y.2)
  have c0 := hm.kindc
  have d0 := hu.kindc
  have d1 := hu.numc
  clear hp
  by_cases hk : m.kind = 13
  · obtain ⟨c, a, x, rfl⟩ := store_kind fm hk
    obtain ⟨gc, ga, gx, r, tc, ta, tx⟩ := id hm
    obtain ⟨_, fc, fa, fx⟩ := fm
    have c3 := r.cell (i := 3) rfl
    have e0 := ta.kindc
    have e1 := ta.numc
    simp only [TD.kind] at c0
    by_cases hun : u.kind = 100
    · have hu1 := (isNum_kind fu).1 hun
      rw [hun] at d0
      by_cases han : a.kind = 100
      · have ha1 := (isNum_kind fa).1 han
        rw [han] at e0
        have hle : ¬ (a.num > u.num) := fun q => hno ⟨c, a, x, u.num, a.num, rfl, hu1, ha1, q⟩
        have hle1 : a.num ≤ u.num := by omega
        have hle2 : decide (a.num > u.num) = false := by simp [hle1]
        have hle3 : decide (u.num < a.num) = false := by simp [hle1]
        clear hno hm hu hv r tc ta tx fc fa fx hu1 ha1 hun han hk
        generalize u.num = un at *
        generalize a.num = an at *
        go_enter Tryz.func191, Tryz.ntmps191
        go_wp2
        go_quiet (fail)
        go_wp2
        exact HF.out nq
      · have hd : (a.kind == 100) = false := by simp [han]
        have hd2 : decide (a.kind = 100) = false := by simp [han]
        clear hno hm hu hv r tc ta tx fc fa fx hu1 hun hk
        generalize a.kind = ak at *
        go_enter Tryz.func191, Tryz.ntmps191
        go_wp2
        go_quiet (fail)
        go_wp2
        exact HF.out nq
    · have hd : (u.kind == 100) = false := by simp [hun]
      have hd2 : decide (u.kind = 100) = false := by simp [hun]
      clear hno hm hu hv r tc ta tx fc fa fx hk
      generalize u.kind = uk at *
      go_enter Tryz.func191, Tryz.ntmps191
      go_wp2
      go_quiet (fail)
      go_wp2
      exact HF.out nq
  · have hd : (m.kind == 13) = false := by simp [hk]
    have hd2 : decide (m.kind = 13) = false := by simp [hk]
    clear hno hm hu hv
    generalize m.kind = mk at *
    go_enter Tryz.func191, Tryz.ntmps191
    go_wp2
    go_quiet (fail)
    go_wp2
    exact HF.out nq

set_option maxRecDepth 100000 in
set_option maxHeartbeats 4000000 in
theorem rLaid_cps (m : TD) : ∀ (u v : TD) (g h j : Nat) (w : World) (Post : Ending → World → Prop), TreeAt w m g → TreeAt w u h → TreeAt w v j → m.fine → u.fine → v.fine →
    (∀ g' w', TreeAt w' (laidT m u v) g' → Below w.heap.size w w' → Post (.returned (.pointer (some ⟨g', 0, none⟩))) w') →
    Calls Tryz.prog 191 #[.pointer (some ⟨g, 0, none⟩), .pointer (some ⟨h, 0, none⟩), .pointer (some ⟨j, 0, none⟩)] w Post := by
  induction m with
  | leaf k n =>
    intro u v g h j w Post hm hu hv fm fu fv hp
    exact rLaid_off _ u v g h j w hm hu hv fm fu (by rintro ⟨c, a, x, n, k, e, _⟩; cases e) Post hp
  | two k a b iha ihb =>
    intro u v g h j w Post hm hu hv fm fu fv hp
    exact rLaid_off _ u v g h j w hm hu hv fm fu (by rintro ⟨c, a, x, n, k, e, _⟩; cases e) Post hp
  | three k c a x ihc iha ihx =>
    intro u v g h j w Post hm hu hv fm fu fv hp
    by_cases hno : ∃ c' a' x' n k', TD.three k c a x = .three 13 c' a' x' ∧ u.isNum = some n ∧ a'.isNum = some k' ∧ k' > n
    · obtain ⟨c', a', x', n, k', e, hun, han, hgt⟩ := hno
      cases e
      obtain ⟨_, fc, fa, fx⟩ := fm
      rw [laid_over hun han hgt] at hp
      obtain rfl := isNum_some hun
      obtain rfl := isNum_some han
      have B1 : ∀ n, Below w.heap.size w (w.drewN n) := fun n => below_drewN (Below.refl _ _) n
      obtain ⟨gc, ga, gx, r, tc, ta, tx⟩ := id hm
      have c0 := r.cell (i := 0) rfl
      have c3 := r.cell (i := 3) rfl
      have d0 := hu.kindc
      have d1 := hu.numc
      have e0 := ta.kindc
      have e1 := ta.numc
      simp only [tnum, TD.kind, TD.num] at d0 d1 e0 e1
      have hd : decide (k' > n) = true := by simp [hgt]
      have hd2 : decide (n < k') = true := by simp; omega
      have c2' := fun n => (r.keep (B1 n)).cell (i := 2) rfl
      have q' := fun m P => ihc (tnum n) v gc h j (w.drewN m) P (tc.drewN m) (hu.drewN m) (hv.drewN m) fc fu fv
      have R0 := Lib.hid r
      have TA := Lib.hid ta
      have TX := Lib.hid tx
      clear ihc iha ihx hm hu hv r tc ta tx fc fa fx fu fv hun han
      go_enter Tryz.func191, Tryz.ntmps191
      go_wp2
      go_quiet (fail)
      have d2 := c2' nq
      clear c0 c3 d0 d1 e0 e1 c2'
      go_wp2_with fail
      refine q' nq _ ?_
      intro g2 w2 t2 b2
      have b2' : Below w.heap.size w w2 := (B1 nq).trans (b2.mono (B1 nq).size)
      have b3 : Below w.heap.size w w2.drew := b2'.drew
      have b23 : Below w2.heap.size w2 w2.drew := (Below.refl _ _).drew
      have r2 := R0.out.keep b3
      have e3 := r2.cell (i := 3) rfl
      have e4 := r2.cell (i := 4) rfl
      have y := tree_three (k := 13) (t2.keep b23) (TA.out.keep b3) (TX.out.keep b3) b3
      have HF := Lib.hid (hp _ _ y.1 y.2)
      clear hp t2 b2 b2' b3 b23 d2 y r2 R0 TA TX
      go_wp2
      refine wp_reads 10 (by kernel_rfl) (by kernel_rfl) ?_
      simp only [List.take_succ_cons, List.take_zero, List.drop_succ_cons, List.drop_zero]
      repeat still_step
      refine wpStill_nil ?_
      go_wp2
      exact HF.out
    · exact rLaid_off _ u v g h j w hm hu hv fm fu hno Post hp

set_option maxRecDepth 100000 in
set_option maxHeartbeats 2000000 in
theorem rWritten_cps (m u v : TD) (g h j : Nat) (w : World) (hm : TreeAt w m g) (hu : TreeAt w u h) (hv : TreeAt w v j) (fm : m.fine) (fu : u.fine) (fv : v.fine) (Post : Ending → World → Prop)
    (hp : ∀ g' w', TreeAt w' (writtenT m u v) g' → Below w.heap.size w w' → Post (.returned (.pointer (some ⟨g', 0, none⟩))) w') :
    Calls Tryz.prog 176 #[.pointer (some ⟨g, 0, none⟩), .pointer (some ⟨h, 0, none⟩), .pointer (some ⟨j, 0, none⟩)] w Post := by
  have hw1 : readT m u = v → writtenT m u v = m := fun e => by unfold writtenT; rw [if_pos e]
  have hw2 : readT m u ≠ v → writtenT m u v = laidT (leftT m u) u v := fun e => by unfold writtenT; rw [if_neg e]
  have fr := readT_fine m u fm fu
  have fl := leftT_fine m u fm
  have HM := Lib.hid hm
  have HU := Lib.hid hu
  have HV := Lib.hid hv
  have HP := Lib.hid hp
  have q1 := fun P => rRead_cps m u g h w P hm hu fm fu
  clear hm hu hv hp
  go_enter Tryz.func176, Tryz.ntmps176
  go_wp2_with fail
  refine q1 _ ?_
  intro g1 w1 t1 b1
  have qs := rSame_any (readT m u) v g1 j w1 t1 (HV.out.keep b1) fr fv
  clear t1
  by_cases e1 : readT m u = v
  · rw [(sameT_iff _ _).2 e1] at qs
    have hp := HP.out
    rw [hw1 e1] at hp
    have HF := Lib.hid (fun n => hp g (w1.drewN n) ((HM.out.keep b1).drewN n) (below_drewN b1 n))
    clear hp HP
    go_wp2_with fail
    refine qs.mono ?_
    rintro e w2 ⟨rfl, n, rfl⟩
    go_wp2
    exact HF.out n
  · rw [sameT_ne e1] at qs
    have hp := HP.out
    rw [hw2 e1] at hp
    have q2 := fun n P => rLeft_cps m u g h (w1.drewN n) P ((HM.out.keep b1).drewN n) ((HU.out.keep b1).drewN n) fm fu
    clear HP
    go_wp2_with fail
    refine qs.mono ?_
    rintro e w2 ⟨rfl, n, rfl⟩
    have b2 : Below w.heap.size w (w1.drewN n) := below_drewN b1 n
    go_wp2_with fail
    refine q2 n _ ?_
    intro g3 w3 t3 b3
    have b4 : Below w.heap.size w w3 := b2.trans (b3.mono b2.size)
    have q3 := fun P => rLaid_cps (leftT m u) u v g3 h j w3 P t3 (HU.out.keep b4) (HV.out.keep b4) fl fu fv
    clear q2 qs q1 b3 t3 b2
    go_wp2_with fail
    refine q3 _ ?_
    intro g5 w5 t5 b5
    have HF : Hid (Post (.returned (.pointer (some ⟨g5, 0, none⟩))) w5) := hp g5 w5 t5 (b4.trans (b5.mono b4.size))
    clear hp t5 b5 q3
    go_wp2
    exact HF.out

end Go.Proofs.YtblhmeidbjigaabGreatDoor

/- Lists of words that are read. -/
set_option linter.unusedSimpArgs false
set_option linter.unusedVariables false
namespace Go.Proofs.YtblhmeidbjigaabGreatDoor
open Go.RowKit

/-- A list of words that is read. -/
def RdWords (w : World) (v : Value) (l : List Int) : Prop :=
  ∃ ao cap, v = .slice ao l.length cap ∧ l.length ≤ 9223372036854775807 ∧ ∀ i, i < l.length → ∃ b off, ao = some ⟨b, off, none⟩ ∧ w.cell? ⟨b, off + i, none⟩ = some (.int .i64 (l.getD i 0))

theorem RdWords.keep {w w' : World} {v : Value} {l : List Int} (h : RdWords w v l) (hb : Below w.heap.size w w') : RdWords w' v l := by
  obtain ⟨ao, cap, rfl, hl, hc⟩ := h
  exact ⟨ao, cap, rfl, hl, fun i hi => let ⟨b, off, e, h1⟩ := hc i hi; ⟨b, off, e, cell_keep hb h1⟩⟩

theorem rdWords_nil (w : World) : RdWords w (.slice none 0 0) [] := ⟨none, 0, rfl, by simp, fun i hi => by simp at hi⟩

end Go.Proofs.YtblhmeidbjigaabGreatDoor

/- The reference's views: first, writes. -/
set_option linter.unusedSimpArgs false
set_option linter.unusedVariables false
namespace Go.Proofs.YtblhmeidbjigaabGreatDoor
open Go.RowKit

/-- A view as a value. -/
def viewV (p : ProgD) (pv : Value) (b : Int) (nv : Value) : Value := .agg #[.int .i64 p.args, .int .i64 p.regs, .int .i64 p.data, .int .i64 p.slots, pv, .int .i64 b, nv]

/-- A view's cells. -/
def viewC (p : ProgD) (pv : Value) (b : Int) (nv : Value) : List Value := [.int .i64 p.args, .int .i64 p.regs, .int .i64 p.data, .int .i64 p.slots, pv, .int .i64 b, nv]

/-- A view that is read. -/
structure RdView (w : World) (p : ProgD) (pv nv : Value) (names : List Int) : Prop where
  blocks : RdBlocks w pv p.blocks
  names : RdWords w nv names
  tab : TabW w

theorem RdView.keep {w w' : World} {p : ProgD} {pv nv : Value} {names : List Int} (h : RdView w p pv nv names) (hb : Below w.heap.size w w') : RdView w' p pv nv names :=
  ⟨h.blocks.keep hb, h.names.keep hb, h.tab.keep hb⟩

theorem tree_leaf {w w0 : World} (k n : Int) (h0 : Below w0.heap.size w0 w) :
    TreeAt (w.alloc (.cells #[.int .i64 k, .int .i64 n, .pointer none, .pointer none, .pointer none] 200)) (.leaf k n) w.heap.size ∧
    Below w0.heap.size w0 (w.alloc (.cells #[.int .i64 k, .int .i64 n, .pointer none, .pointer none, .pointer none] 200)) :=
  have hb' : Below w.heap.size w (w.alloc (.cells #[.int .i64 k, .int .i64 n, .pointer none, .pointer none, .pointer none] 200)) := (Below.refl _ _).alloc (Nat.le_refl _) _
  ⟨heap_alloc_new w _, h0.trans (hb'.mono h0.size)⟩

theorem rfirst_cells {names : List Int} {place : Nat} (h : names.length ≤ place) : firstT names place = .leaf 103 0 := by
  unfold firstT; rw [if_pos (by omega)]
theorem first_x {names : List Int} {place : Nat} (h : place < names.length) (h2 : names.getD place 0 < 0) : firstT names place = .leaf 102 place := by
  unfold firstT; rw [if_neg (by omega), if_pos (by simpa using h2)]
theorem first_r {names : List Int} {place : Nat} (h : place < names.length) (h2 : ¬ names.getD place 0 < 0) : firstT names place = .leaf 101 (names.getD place 0) := by
  unfold firstT; rw [if_neg (by omega), if_neg (by simpa using h2)]; simp

set_option maxRecDepth 100000 in
set_option maxHeartbeats 2000000 in
theorem rFirst_cps (p : ProgD) (pv nv : Value) (b : Int) (names : List Int) (place : Nat) (w : World) (hv : RdView w p pv nv names) (hpl : place ≤ 1000) (Post : Ending → World → Prop)
    (hp : ∀ g' w', TreeAt w' (firstT names place) g' → Below w.heap.size w w' → Post (.returned (.pointer (some ⟨g', 0, none⟩))) w') :
    Calls Tryz.prog 173 #[viewV p pv b nv, .int .i64 place] w Post := by
  obtain ⟨ao, cap, rfl, hl, hc⟩ := hv.names
  have b0 : Below w.heap.size w (w.alloc (.cells #[.int .i64 p.args, .int .i64 p.regs, .int .i64 p.data, .int .i64 p.slots, pv, .int .i64 b, .slice ao names.length cap] 164)) := (Below.refl _ _).alloc (Nat.le_refl _) _
  have es : (w.alloc (.cells #[.int .i64 p.args, .int .i64 p.regs, .int .i64 p.data, .int .i64 p.slots, pv, .int .i64 b, .slice ao names.length cap] 164)).heap.size = w.heap.size + 1 := by simp
  unfold viewV
  by_cases h1 : names.length ≤ place
  · rw [rfirst_cells h1] at hp
    have y := tree_leaf 103 0 b0
    rw [es] at y
    have HF := Lib.hid (hp _ _ y.1 y.2)
    have hd : ((names.length : Int) ≤ (place : Int)) := by omega
    have hd2 : decide ((names.length : Int) ≤ (place : Int)) = true := by simp; omega
    clear hp y b0 es hc hv
    go_enter Tryz.func173, Tryz.ntmps173
    go_wp2
    exact HF.out
  · obtain ⟨bn, off, rfl, c⟩ := hc place (by omega)
    have c' := cell_keep b0 c
    have hpi : (0 : Int) ≤ (place : Int) := by omega
    have hpj : (place : Int) < (names.length : Int) := by omega
    by_cases h2 : names.getD place 0 < 0
    · rw [first_x (by omega) h2] at hp
      have y := tree_leaf 102 place b0
      rw [es] at y
      have HF := Lib.hid (hp _ _ y.1 y.2)
      clear hp y b0 es hc hv
      generalize names.getD place 0 = n at *
      go_enter Tryz.func173, Tryz.ntmps173
      go_wp2
      exact HF.out
    · rw [first_r (by omega) h2] at hp
      have y := tree_leaf 101 (names.getD place 0) b0
      rw [es] at y
      have HF := Lib.hid (hp _ _ y.1 y.2)
      have h3 : ¬ (names.getD place 0 < 0) := h2
      have h4 : (0 : Int) ≤ names.getD place 0 := by omega
      clear hp y b0 es hc hv h2
      generalize names.getD place 0 = n at *
      go_enter Tryz.func173, Tryz.ntmps173
      go_wp2
      exact HF.out

set_option maxRecDepth 100000 in
set_option maxHeartbeats 2000000 in
theorem rWrites_any (p : ProgD) (pv : Value) (k a b c : Int) (w : World) (h1 : 0 ≤ p.regs ∧ p.regs ≤ 8) (h2 : 0 ≤ p.slots ∧ p.slots ≤ 8) (ha : 0 ≤ a ∧ a ≤ 8) :
    Calls Tryz.prog 149 #[progV p pv, .agg #[.int .i64 k, .int .i64 a, .int .i64 b, .int .i64 c]] w fun e w' => e = .returned (.int .i64 (writesT p.regs p.slots ⟨k, a, b, c⟩)) ∧ Below w.heap.size w w' := by
  have hb0 : Below w.heap.size w ((w.alloc (.cells #[.int .i64 p.args, .int .i64 p.regs, .int .i64 p.data, .int .i64 p.slots, pv] 25)).alloc (.cells #[.int .i64 k, .int .i64 a, .int .i64 b, .int .i64 c] 36)) :=
    ((Below.refl _ _).alloc (Nat.le_refl _) _).alloc (by simp) _
  unfold progV
  generalize p.args = pa at *
  generalize p.regs = pr at *
  generalize p.data = pd at *
  generalize p.slots = ps at *
  by_cases h13 : k = 13
  · subst h13
    have e : writesT pr ps ⟨13, a, b, c⟩ = pr + ps := by simp [writesT]
    rw [e]
    clear e
    go_enter Tryz.func149, Tryz.ntmps149
    go_wp2
    go_ret
    exact ⟨by go_num, hb0⟩
  · by_cases h14 : k = 14
    · subst h14
      have e : writesT pr ps ⟨14, a, b, c⟩ = pr + a := by simp [writesT]
      rw [e]
      clear e
      go_enter Tryz.func149, Tryz.ntmps149
      go_wp2
      go_ret
      exact ⟨by go_num, hb0⟩
    · have e : writesT pr ps ⟨k, a, b, c⟩ = a := by simp [writesT, h13, h14]
      rw [e]
      clear e
      have hd : (k == 13) = false := by simp [h13]
      have hd2 : (k == 14) = false := by simp [h14]
      go_enter Tryz.func149, Tryz.ntmps149
      go_wp2
      go_ret
      exact ⟨rfl, hb0⟩

end Go.Proofs.YtblhmeidbjigaabGreatDoor
