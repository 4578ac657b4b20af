/- The reference's terms: Made. -/
import Derived.Test.YtblhmeidbjigaaaGreatDoorRows
import Derived.WalkKit
import Derived.WalkSpells
import Derived.WalkLawsBesides
import Derived.Laws.BytesArg
import Derived.Deep.QuietTactic
import Derived.BigQuiet
import Derived.Deep.RegionHeld3
import Derived.Lib.ItoaNum
import Derived.Lib.ItoaLen
import Derived.OpenShut
import Derived.Maps.AppendAt
import Derived.Shelf.Strconv.Itoa3
import Derived.Shelf.Lay
import Derived.Ground.NamesProg
import Derived.Lib.SmallJoins
import Derived.Lib.Hide
import Derived.StillTailTactics
import Derived.Test.YtblhmeidbjigaaaGreatDoorRTrDToRTrFMarkings

set_option linter.unusedSimpArgs false
set_option linter.unusedVariables false
namespace Go.Proofs.YtblhmeidbjigaaaGreatDoor
open Go.RowKit

theorem made_num {kind a b : Int} {u v : TD} (hu : u.isNum = some a) (hv : v.isNum = some b) (h : ¬ (kind = 11 ∧ b = 0)) : madeT kind u v = tnum (calcW kind a b) := by
  simp only [madeT, hu, hv, if_neg h]

theorem made_div0 {kind a b : Int} {u v : TD} (hu : u.isNum = some a) (hv : v.isNum = some b) (h : kind = 11 ∧ b = 0) : madeT kind u v = rowT kind u v := by
  simp only [madeT, hu, hv, if_pos h]

theorem made_left {kind a : Int} {u v : TD} (hu : u.isNum = some a) (hv : v.isNum = none) : madeT kind u v = if turnsT kind = true then rowT kind v u else rowT kind u v := by
  simp only [madeT, hu, hv]

theorem made_right {kind b : Int} {u v : TD} (hu : u.isNum = none) (hv : v.isNum = some b) : madeT kind u v = rowT kind u v := by
  simp only [madeT, hu, hv]

theorem made_over {kind : Int} {u v : TD} (hu : u.isNum = none) (hv : v.isNum = none) (h : turnsT kind = true ∧ showT v < showT u) : madeT kind u v = rowT kind v u := by
  simp only [madeT, hu, hv, if_pos h]

theorem made_stay {kind : Int} {u v : TD} (hu : u.isNum = none) (hv : v.isNum = none) (h : ¬ (turnsT kind = true ∧ showT v < showT u)) : madeT kind u v = rowT kind u v := by
  simp only [madeT, hu, hv, if_neg h]

theorem bytesLess_lt : ∀ (x y : List UInt8), Op.bytesLess x y = true ↔ x < y
  | [], [] => by simp [Op.bytesLess]
  | _ :: _, [] => by simp [Op.bytesLess]
  | [], _ :: _ => by simp [Op.bytesLess]
  | a :: x, b :: y => by
    rw [Op.bytesLess, List.cons_lt_cons_iff]
    simp [bytesLess_lt x y]

theorem less_show (u v : TD) : Op.bytesLess (str (showT v)).toList (str (showT u)).toList = true ↔ showT v < showT u := by
  simp only [str, ByteArray.toList_mk]
  exact bytesLess_lt _ _

set_option maxRecDepth 100000 in
set_option maxHeartbeats 2000000 in
theorem rMade_num (kind : Int) (hk : 3 ≤ kind ∧ kind ≤ 11) (a b : Int) (hab : ¬ (kind = 11 ∧ b = 0)) (g h : Nat) (w : World) (hu : TreeAt w (tnum a) g) (hv : TreeAt w (tnum b) h) (Post : Ending → World → Prop)
    (hp : ∀ g' w', TreeAt w' (tnum (calcW kind a b)) g' → Below w.heap.size w w' → Post (.returned (.pointer (some ⟨g', 0, none⟩))) w') :
    Calls Tryz.prog 114 #[.int .i64 kind, .pointer (some ⟨g, 0, none⟩), .pointer (some ⟨h, 0, none⟩)] w Post := by
  have c0 := hu.kindc
  have c1 := hu.numc
  have d0 := hv.kindc
  have d1 := hv.numc
  simp only [tnum, TD.num, TD.kind] at c0 c1 d0 d1
  have qc := fun w' => calcW_any kind a b w' hk (by omega)
  have B1 : ∀ n, Below w.heap.size w (w.drewN n) := fun n => below_drewN (Below.refl _ _) n
  clear hu hv
  generalize calcW kind a b = R at *
  by_cases h11 : kind = 11
  · have hb : b ≠ 0 := fun e => hab ⟨h11, e⟩
    subst h11
    have hb1 : (b == 0) = false := by simp [hb]
    have hb2 : decide (b = 0) = false := by simp [hb]
    clear hab
    go_enter Tryz.func114, Tryz.ntmps114
    go_wp2
    go_quiet (exact Calls.quiet_of_same ((qc _).mono (fun _ _ h => ⟨h.1, h.2.symm⟩)))
    go_wp2_with fail
    refine rNum_cps _ _ _ ?_
    intro g2 w2 t2 b2
    have HF : Hid (Post (.returned (.pointer (some ⟨g2, 0, none⟩))) w2) := hp g2 w2 t2 ((B1 nq).trans (b2.mono (B1 nq).size))
    clear hp t2 b2 c0 c1 d0 d1
    go_wp2
    exact HF.out
  · have hk1 : (kind == 11) = false := by simp [h11]
    have hk2 : decide (kind = 11) = false := by simp [h11]
    clear hab
    go_enter Tryz.func114, Tryz.ntmps114
    go_wp2
    go_quiet (exact Calls.quiet_of_same ((qc _).mono (fun _ _ h => ⟨h.1, h.2.symm⟩)))
    go_wp2_with fail
    refine rNum_cps _ _ _ ?_
    intro g2 w2 t2 b2
    have HF : Hid (Post (.returned (.pointer (some ⟨g2, 0, none⟩))) w2) := hp g2 w2 t2 ((B1 nq).trans (b2.mono (B1 nq).size))
    clear hp t2 b2 c0 c1 d0 d1
    go_wp2
    exact HF.out

set_option maxRecDepth 100000 in
set_option maxHeartbeats 2000000 in
theorem rMade_div0 (a : Int) (g h : Nat) (w : World) (hu : TreeAt w (tnum a) g) (hv : TreeAt w (tnum 0) h) (wa : W64 a) (Post : Ending → World → Prop)
    (hp : ∀ g' w', TreeAt w' (rowT 11 (tnum a) (tnum 0)) g' → Below w.heap.size w w' → Post (.returned (.pointer (some ⟨g', 0, none⟩))) w') :
    Calls Tryz.prog 114 #[.int .i64 11, .pointer (some ⟨g, 0, none⟩), .pointer (some ⟨h, 0, none⟩)] w Post := by
  have c0 := hu.kindc
  have c1 := hu.numc
  have d0 := hv.kindc
  have d1 := hv.numc
  simp only [tnum, TD.num, TD.kind] at c0 c1 d0 d1
  have fa : (tnum a).fine := tnum_fine wa
  have f0 : (tnum 0).fine := tnum_fine (by constructor <;> decide)
  have B1 : ∀ n, Below w.heap.size w (w.drewN n) := fun n => below_drewN (Below.refl _ _) n
  have qt := fun w' => rTurns_any 11 (by omega) w'
  rw [turnsT_no (k := 11) (by omega)] at qt
  have qr := fun w' (hb : Below w.heap.size w w') => rRow_cps 11 (by omega) (tnum a) (tnum 0) g h w' (hu.keep hb) (hv.keep hb) fa f0 (rBeside_any 11 (by omega) _ fa)
  clear hu hv fa f0
  go_enter Tryz.func114, Tryz.ntmps114
  go_wp2_with fail
  refine (qt _).mono ?_
  rintro e w1 ⟨rfl, rfl⟩
  go_wp2_with fail
  refine qr _ (by first | exact B1 _ | exact Below.refl _ _) _ ?_
  intro g2 w2 t2 b2
  have HF : Hid (Post (.returned (.pointer (some ⟨g2, 0, none⟩))) w2) := hp g2 w2 t2 (by first | exact b2 | exact (B1 _).trans (b2.mono (B1 _).size))
  clear hp t2 b2 c0 c1 d0 d1
  go_wp2
  exact HF.out

set_option maxRecDepth 100000 in
set_option maxHeartbeats 2000000 in
theorem rMade_left (kind : Int) (hk : 3 ≤ kind ∧ kind ≤ 11) (a : Int) (v : TD) (g h : Nat) (w : World) (hu : TreeAt w (tnum a) g) (hv : TreeAt w v h) (wa : W64 a) (fv : v.fine) (hvn : v.isNum = none) (Post : Ending → World → Prop)
    (hp : ∀ g' w', TreeAt w' (if turnsT kind = true then rowT kind v (tnum a) else rowT kind (tnum a) v) g' → Below w.heap.size w w' → Post (.returned (.pointer (some ⟨g', 0, none⟩))) w') :
    Calls Tryz.prog 114 #[.int .i64 kind, .pointer (some ⟨g, 0, none⟩), .pointer (some ⟨h, 0, none⟩)] w Post := by
  have c0 := hu.kindc
  have d0 := hv.kindc
  simp only [tnum, TD.kind] at c0
  have fa : (tnum a).fine := tnum_fine wa
  have hkv : v.kind ≠ 100 := (isNum_none fv).2 hvn
  have hd : (v.kind == 100) = false := by simp [hkv]
  have hd2 : decide (v.kind = 100) = false := by simp [hkv]
  have qt := fun w' => rTurns_any kind hk w'
  have qr := rRow_cps kind hk (tnum a) v g h w hu hv fa fv (rBeside_any kind hk _ fa)
  have qs := rRow_cps kind hk v (tnum a) h g w hv hu fv fa (rBeside_any kind hk _ fv)
  clear hu hv fa fv hvn
  generalize v.kind = vk at *
  cases ht : turnsT kind with
  | true =>
    rw [ht] at qt hp
    simp only [if_true] at hp
    clear qr ht
    go_enter Tryz.func114, Tryz.ntmps114
    go_wp2_with fail
    refine (qt _).mono ?_
    rintro e w1 ⟨rfl, rfl⟩
    go_wp2_with fail
    refine qs _ ?_
    intro g2 w2 t2 b2
    have HF : Hid (Post (.returned (.pointer (some ⟨g2, 0, none⟩))) w2) := hp g2 w2 t2 b2
    clear hp t2 b2 c0 d0
    go_wp2
    exact HF.out
  | false =>
    rw [ht] at qt hp
    simp only [Bool.false_eq_true, if_false] at hp
    clear qs ht
    go_enter Tryz.func114, Tryz.ntmps114
    go_wp2_with fail
    refine (qt _).mono ?_
    rintro e w1 ⟨rfl, rfl⟩
    go_wp2_with fail
    refine qr _ ?_
    intro g2 w2 t2 b2
    have HF : Hid (Post (.returned (.pointer (some ⟨g2, 0, none⟩))) w2) := hp g2 w2 t2 b2
    clear hp t2 b2 c0 d0
    go_wp2
    exact HF.out

set_option maxRecDepth 100000 in
set_option maxHeartbeats 2000000 in
theorem rMade_right (kind : Int) (hk : 3 ≤ kind ∧ kind ≤ 11) (u : TD) (b : Int) (g h : Nat) (w : World) (hu : TreeAt w u g) (hv : TreeAt w (tnum b) h) (fu : u.fine) (wb : W64 b) (hun : u.isNum = none) (Post : Ending → World → Prop)
    (hp : ∀ g' w', TreeAt w' (rowT kind u (tnum b)) g' → Below w.heap.size w w' → Post (.returned (.pointer (some ⟨g', 0, none⟩))) w') :
    Calls Tryz.prog 114 #[.int .i64 kind, .pointer (some ⟨g, 0, none⟩), .pointer (some ⟨h, 0, none⟩)] w Post := by
  have c0 := hu.kindc
  have d0 := hv.kindc
  simp only [tnum, TD.kind] at d0
  have fb : (tnum b).fine := tnum_fine wb
  have hku : u.kind ≠ 100 := (isNum_none fu).2 hun
  have hd : (u.kind == 100) = false := by simp [hku]
  have hd2 : decide (u.kind = 100) = false := by simp [hku]
  have qt := fun w' => rTurns_any kind hk w'
  have qr := rRow_cps kind hk u (tnum b) g h w hu hv fu fb (rBeside_any kind hk _ fu)
  clear hu hv fb fu hun
  generalize u.kind = uk at *
  cases ht : turnsT kind with
  | true =>
    rw [ht] at qt
    clear ht
    go_enter Tryz.func114, Tryz.ntmps114
    go_wp2_with fail
    refine (qt _).mono ?_
    rintro e w1 ⟨rfl, rfl⟩
    go_wp2_with fail
    refine qr _ ?_
    intro g2 w2 t2 b2
    have HF : Hid (Post (.returned (.pointer (some ⟨g2, 0, none⟩))) w2) := hp g2 w2 t2 b2
    clear hp t2 b2 c0 d0
    go_wp2
    exact HF.out
  | false =>
    rw [ht] at qt
    clear ht
    go_enter Tryz.func114, Tryz.ntmps114
    go_wp2_with fail
    refine (qt _).mono ?_
    rintro e w1 ⟨rfl, rfl⟩
    go_wp2_with fail
    refine qr _ ?_
    intro g2 w2 t2 b2
    have HF : Hid (Post (.returned (.pointer (some ⟨g2, 0, none⟩))) w2) := hp g2 w2 t2 b2
    clear hp t2 b2 c0 d0
    go_wp2
    exact HF.out

set_option maxRecDepth 100000 in
set_option maxHeartbeats 4000000 in
theorem rMade_none (kind : Int) (hk : 3 ≤ kind ∧ kind ≤ 11) (u v : TD) (g h : Nat) (w : World) (hu : TreeAt w u g) (hv : TreeAt w v h) (ht : TabW w) (fu : u.fine) (fv : v.fine) (su : u.size ≤ 4000000000000) (sv : v.size ≤ 4000000000000) (hun : u.isNum = none) (hvn : v.isNum = none) (Post : Ending → World → Prop)
    (hp : ∀ g' w', TreeAt w' (madeT kind u v) g' → Below w.heap.size w w' → Post (.returned (.pointer (some ⟨g', 0, none⟩))) w') :
    Calls Tryz.prog 114 #[.int .i64 kind, .pointer (some ⟨g, 0, none⟩), .pointer (some ⟨h, 0, none⟩)] w Post := by
  have c0 := hu.kindc
  have d0 := hv.kindc
  have hku : u.kind ≠ 100 := (isNum_none fu).2 hun
  have hd : (u.kind == 100) = false := by simp [hku]
  have hd2 : decide (u.kind = 100) = false := by simp [hku]
  have hkv : v.kind ≠ 100 := (isNum_none fv).2 hvn
  have he : (v.kind == 100) = false := by simp [hkv]
  have he2 : decide (v.kind = 100) = false := by simp [hkv]
  have qt := fun w' => rTurns_any kind hk w'
  cases htn : turnsT kind with
  | false =>
    rw [made_stay hun hvn (fun q => by rw [htn] at q; cases q.1)] at hp
    rw [htn] at qt
    have qr := rRow_cps kind hk u v g h w hu hv fu fv (rBeside_any kind hk _ fu)
    clear hu hv fu fv hun hvn htn ht
    generalize u.kind = uk at *
    generalize v.kind = vk at *
    go_enter Tryz.func114, Tryz.ntmps114
    go_wp2_with fail
    refine (qt _).mono ?_
    rintro e w1 ⟨rfl, rfl⟩
    go_wp2_with fail
    refine qr _ ?_
    intro g2 w2 t2 b2
    have HF : Hid (Post (.returned (.pointer (some ⟨g2, 0, none⟩))) w2) := hp g2 w2 t2 b2
    clear hp t2 b2 c0 d0
    go_wp2
    exact HF.out
  | true =>
    rw [htn] at qt
    have q1 := rShow_any u g w hu ht fu su
    have q2 := fun w' (hb : Below w.heap.size w w') => rShow_any v h w' (hv.keep hb) (ht.keep hb) fv sv
    have hl := less_show u v
    have HU := Lib.hid hu
    have HV := Lib.hid hv
    by_cases hlt : showT v < showT u
    · rw [made_over hun hvn ⟨htn, hlt⟩] at hp
      have hz := hl.2 hlt
      have qs := fun w' (hb : Below w.heap.size w w') => rRow_cps kind hk v u h g w' (HV.out.keep hb) (HU.out.keep hb) fv fu (rBeside_any kind hk _ fv)
      clear hl hu hv fu fv hun hvn htn ht hlt HU HV
      generalize u.kind = uk at *
      generalize v.kind = vk at *
      generalize str (showT u) = S at *
      generalize str (showT v) = T at *
      go_enter Tryz.func114, Tryz.ntmps114
      go_wp2_with fail
      refine (qt _).mono ?_
      rintro e w1 ⟨rfl, rfl⟩
      go_wp2_with fail
      refine q1.mono ?_
      rintro e w1 ⟨rfl, b1⟩
      clear c0 d0
      go_wp2_with fail
      refine (q2 w1 b1).mono ?_
      rintro e w2 ⟨rfl, b2⟩
      have b12 : Below w.heap.size w w2 := b1.trans (b2.mono b1.size)
      go_wp2_with fail
      refine qs w2 b12 _ ?_
      intro g3 w3 t3 b3
      have HF : Hid (Post (.returned (.pointer (some ⟨g3, 0, none⟩))) w3) := hp g3 w3 t3 (b12.trans (b3.mono b12.size))
      clear hp t3 b3 b12 b1 b2
      go_wp2
      exact HF.out
    · rw [made_stay hun hvn (fun q => hlt q.2)] at hp
      have hz : Op.bytesLess (str (showT v)).toList (str (showT u)).toList = false := by
        cases hx : Op.bytesLess (str (showT v)).toList (str (showT u)).toList with
        | false => rfl
        | true => exact absurd (hl.1 hx) hlt
      have qs := fun w' (hb : Below w.heap.size w w') => rRow_cps kind hk u v g h w' (HU.out.keep hb) (HV.out.keep hb) fu fv (rBeside_any kind hk _ fu)
      clear hl hu hv fu fv hun hvn htn ht hlt HU HV
      generalize u.kind = uk at *
      generalize v.kind = vk at *
      generalize str (showT u) = S at *
      generalize str (showT v) = T at *
      go_enter Tryz.func114, Tryz.ntmps114
      go_wp2_with fail
      refine (qt _).mono ?_
      rintro e w1 ⟨rfl, rfl⟩
      go_wp2_with fail
      refine q1.mono ?_
      rintro e w1 ⟨rfl, b1⟩
      clear c0 d0
      go_wp2_with fail
      refine (q2 w1 b1).mono ?_
      rintro e w2 ⟨rfl, b2⟩
      have b12 : Below w.heap.size w w2 := b1.trans (b2.mono b1.size)
      go_wp2_with fail
      refine qs w2 b12 _ ?_
      intro g3 w3 t3 b3
      have HF : Hid (Post (.returned (.pointer (some ⟨g3, 0, none⟩))) w3) := hp g3 w3 t3 (b12.trans (b3.mono b12.size))
      clear hp t3 b3 b12 b1 b2
      go_wp2
      exact HF.out

theorem rMade_cps (kind : Int) (hk : 3 ≤ kind ∧ kind ≤ 11) (u v : TD) (g h : Nat) (w : World) (hu : TreeAt w u g) (hv : TreeAt w v h) (ht : TabW w) (fu : u.fine) (fv : v.fine) (su : u.size ≤ 4000000000000) (sv : v.size ≤ 4000000000000) (Post : Ending → World → Prop)
    (hp : ∀ g' w', TreeAt w' (madeT kind u v) g' → Below w.heap.size w w' → Post (.returned (.pointer (some ⟨g', 0, none⟩))) w') :
    Calls Tryz.prog 114 #[.int .i64 kind, .pointer (some ⟨g, 0, none⟩), .pointer (some ⟨h, 0, none⟩)] w Post := by
  cases hun : u.isNum with
  | some a =>
    have wa : W64 a := isNum_fine hun fu
    obtain rfl := isNum_some hun
    cases hvn : v.isNum with
    | some b =>
      have wb : W64 b := isNum_fine hvn fv
      obtain rfl := isNum_some hvn
      by_cases hab : kind = 11 ∧ b = 0
      · rw [made_div0 hun hvn hab] at hp
        obtain ⟨rfl, rfl⟩ := hab
        exact rMade_div0 a g h w hu hv wa Post hp
      · rw [made_num hun hvn hab] at hp
        exact rMade_num kind hk a b hab g h w hu hv Post hp
    | none =>
      rw [made_left hun hvn] at hp
      exact rMade_left kind hk a v g h w hu hv wa fv hvn Post hp
  | none =>
    cases hvn : v.isNum with
    | some b =>
      have wb : W64 b := isNum_fine hvn fv
      obtain rfl := isNum_some hvn
      rw [made_right hun hvn] at hp
      exact rMade_right kind hk u b g h w hu hv fu wb hun Post hp
    | none => exact rMade_none kind hk u v g h w hu hv ht fu fv su sv hun hvn Post hp

end Go.Proofs.YtblhmeidbjigaaaGreatDoor

/- The reference's terms: Read, left, laid, Written. -/
set_option linter.unusedSimpArgs false
set_option linter.unusedVariables false
namespace Go.Proofs.YtblhmeidbjigaaaGreatDoor
open Go.RowKit

/-- A region that reads, then what makes memory of itself. -/
theorem wp_reads {P : Program} {id : Nat} {Q : Exit → Act → World → Prop} {a : Act} {w : World} {l : List Oper} (n : Nat) (hm : P.follows .mixedOrders = true) (hB : Region.lexTailB .any l.toArray n = true)
    (h : wpStill P l.toArray w.drew (fun a' => wpList P l.toArray Q (l.drop n) a' w.drew) (l.take n) a) : (Code.region id l.toArray true).wp P Q a w :=
  wp_region_still_tail n hm hB h

theorem store_kind {m : TD} (hf : m.fine) (h : m.kind = 13) : ∃ c a v, m = .three 13 c a v := by
  cases m with
  | leaf k n => obtain ⟨q, _⟩ := hf; simp only [TD.kind] at h; omega
  | two k a b => obtain ⟨q, q', _⟩ := hf; simp only [TD.kind] at h; omega
  | three k a b c => simp only [TD.kind] at h; exact ⟨a, b, c, by rw [h]⟩

theorem read_same {c a v u : TD} (h : a = u) : readT (.three 13 c a v) u = v := by rw [readT, if_pos h]
theorem read_far {c a v u : TD} (h : a ≠ u) (h2 : apartT a u = true) : readT (.three 13 c a v) u = readT c u := by rw [readT, if_neg h, if_pos h2]
theorem read_near {c a v u : TD} (h : a ≠ u) (h2 : apartT a u = false) : readT (.three 13 c a v) u = .two 12 (.three 13 c a v) u := by rw [readT, if_neg h, if_neg (by rw [h2]; simp)]
theorem read_else {m u : TD} (h : m.kind ≠ 13) : readT m u = .two 12 m u := by
  cases m with
  | leaf k n => rfl
  | two k a b => rfl
  | three k a b c =>
    simp only [TD.kind] at h
    unfold readT
    split
    · rename_i e; cases e; exact absurd rfl h
    · rfl

theorem left_same {c a v u : TD} (h : a = u) : leftT (.three 13 c a v) u = c := by rw [leftT, if_pos h]
theorem left_far {c a v u : TD} (h : a ≠ u) (h2 : apartT a u = true) : leftT (.three 13 c a v) u = .three 13 (leftT c u) a v := by rw [leftT, if_neg h, if_pos h2]
theorem left_near {c a v u : TD} (h : a ≠ u) (h2 : apartT a u = false) : leftT (.three 13 c a v) u = .three 13 c a v := by rw [leftT, if_neg h, if_neg (by rw [h2]; simp)]
theorem left_else {m u : TD} (h : m.kind ≠ 13) : leftT m u = m := by
  cases m with
  | leaf k n => rfl
  | two k a b => rfl
  | three k a b c =>
    simp only [TD.kind] at h
    unfold leftT
    split
    · rename_i e; cases e; exact absurd rfl h
    · rfl

theorem laid_over {c a w u v : TD} {n k : Int} (hu : u.isNum = some n) (ha : a.isNum = some k) (h : k > n) : laidT (.three 13 c a w) u v = .three 13 (laidT c u v) a w := by
  rw [laidT]; simp only [hu, ha, if_pos h]
theorem laid_else {m u v : TD} (h : ¬ ∃ c a w n k, m = .three 13 c a w ∧ u.isNum = some n ∧ a.isNum = some k ∧ k > n) : laidT m u v = .three 13 m u v := by
  cases m with
  | leaf k n => rfl
  | two k a b => rfl
  | three k a b c =>
    by_cases hk : k = 13
    · subst hk
      rw [laidT]
      split
      · rename_i n q e1 e2
        by_cases hq : q > n
        · exact absurd ⟨a, b, c, n, q, rfl, e1, e2, hq⟩ h
        · rw [if_neg hq]
      · rfl
    · unfold laidT
      split
      · rename_i e; cases e; exact absurd rfl hk
      · rfl

set_option maxRecDepth 100000 in
set_option maxHeartbeats 2000000 in
theorem rRead_else (m u : TD) (g h : Nat) (w : World) (hm : TreeAt w m g) (hu : TreeAt w u h) (hk : m.kind ≠ 13) (Post : Ending → World → Prop)
    (hp : ∀ g' w', TreeAt w' (readT m u) g' → Below w.heap.size w w' → Post (.returned (.pointer (some ⟨g', 0, none⟩))) w') :
    Calls Tryz.prog 112 #[.pointer (some ⟨g, 0, none⟩), .pointer (some ⟨h, 0, none⟩)] w Post := by
  rw [read_else hk] at hp
  have c0 := hm.kindc
  have hd : (m.kind == 13) = false := by simp [hk]
  have hd2 : decide (m.kind = 13) = false := by simp [hk]
  obtain ⟨y1, y2⟩ := tree_two (k := 12) hm hu (Below.refl _ _)
  have HF := Lib.hid (hp _ _ y1 y2)
  clear hp y1 y2 hm hu
  generalize m.kind = mk at *
  go_enter Tryz.func112, Tryz.ntmps112
  go_wp2
  exact HF.out

set_option maxRecDepth 100000 in
set_option maxHeartbeats 4000000 in
theorem rRead_cps (m : TD) : ∀ (u : TD) (g h : Nat) (w : World) (Post : Ending → World → Prop), TreeAt w m g → TreeAt w u h → m.fine → u.fine →
    (∀ g' w', TreeAt w' (readT m u) g' → Below w.heap.size w w' → Post (.returned (.pointer (some ⟨g', 0, none⟩))) w') →
    Calls Tryz.prog 112 #[.pointer (some ⟨g, 0, none⟩), .pointer (some ⟨h, 0, none⟩)] w Post := by
  induction m with
  | leaf k n =>
    intro u g h w Post hm hu fm fu hp
    exact rRead_else _ u g h w hm hu (by obtain ⟨q, _⟩ := fm; simp only [TD.kind]; omega) Post hp
  | two k a b iha ihb =>
    intro u g h w Post hm hu fm fu hp
    exact rRead_else _ u g h w hm hu (by obtain ⟨q, q', _⟩ := fm; simp only [TD.kind]; omega) Post hp
  | three k c a v ihc iha ihv =>
    intro u g h w Post hm hu fm fu hp
    obtain ⟨rfl, fc, fa, fv⟩ := fm
    have B1 : ∀ n, Below w.heap.size w (w.drewN n) := fun n => below_drewN (Below.refl _ _) n
    have T0 : Hid (TreeAt w (.three 13 c a v) g) := hm
    obtain ⟨gc, ga, gv, r, tc, ta, tv⟩ := id hm
    have qs := rSame_any a u ga h w ta hu fa fu
    have qa := fun n => rApart_any a u ga h (w.drewN n) (ta.drewN n) (hu.drewN n) fa fu
    have q := fun n => ihc u gc h (w.drewN n)
    have c0 := r.cell (i := 0) rfl
    have c3 := r.cell (i := 3) rfl
    by_cases e1 : a = u
    · rw [read_same e1] at hp
      rw [(sameT_iff a u).2 e1] at qs
      have c4 := fun n => (r.keep (B1 n)).cell (i := 4) rfl
      have HF := Lib.hid (fun n => hp gv (w.drewN n) (tv.drewN n) (B1 n))
      clear hp ihc iha ihv qa q hm hu tc ta tv r
      go_enter Tryz.func112, Tryz.ntmps112
      go_wp2_with fail
      refine qs.mono ?_
      rintro e w1 ⟨rfl, n, rfl⟩
      have d4 := c4 n
      go_wp2
      exact HF.out n
    · rw [sameT_ne e1] at qs
      cases e2 : apartT a u with
      | true =>
        rw [read_far e1 e2] at hp
        rw [e2] at qa
        have c3' := fun n => (r.keep (B1 n)).cell (i := 3) rfl
        have c2' := fun n => (r.keep (B1 n)).cell (i := 2) rfl
        have q' := fun n P => q n P (tc.drewN n) (hu.drewN n) fc fu
        clear ihc iha ihv q hm hu tc ta tv r fa fv fc
        go_enter Tryz.func112, Tryz.ntmps112
        go_wp2_with fail
        refine qs.mono ?_
        rintro e w1 ⟨rfl, n, rfl⟩
        have d3 := c3' n
        go_wp2_with fail
        refine (qa n).mono ?_
        rintro e w1 ⟨rfl, j, hj⟩
        rw [World.drewN_drewN] at hj
        subst hj
        have d2 := c2' (n + j)
        clear d3 c3
        go_wp2_with fail
        refine q' (n + j) _ ?_
        intro g2 w2 t2 b2
        have HF : Hid (Post (.returned (.pointer (some ⟨g2, 0, none⟩))) w2) := hp g2 w2 t2 ((B1 (n + j)).trans (b2.mono (B1 (n + j)).size))
        clear hp t2 b2 d2 c0
        go_wp2
        exact HF.out
      | false =>
        rw [read_near e1 e2] at hp
        rw [e2] at qa
        have c3' := fun n => (r.keep (B1 n)).cell (i := 3) rfl
        have HF := Lib.hid (fun n => let y := tree_two (k := 12) (T0.out.drewN n) (hu.drewN n) (B1 n); hp _ _ y.1 y.2)
        clear hp ihc iha ihv q hm hu tc ta tv r fa fv fc
        go_enter Tryz.func112, Tryz.ntmps112
        go_wp2_with fail
        refine qs.mono ?_
        rintro e w1 ⟨rfl, n, rfl⟩
        have d3 := c3' n
        go_wp2_with fail
        refine (qa n).mono ?_
        rintro e w1 ⟨rfl, j, hj⟩
        rw [World.drewN_drewN] at hj
        subst hj
        clear d3 c3
        go_wp2
        exact HF.out (n + j)

set_option maxRecDepth 100000 in
set_option maxHeartbeats 2000000 in
theorem rLeft_else (m u : TD) (g h : Nat) (w : World) (hm : TreeAt w m g) (hk : m.kind ≠ 13) (Post : Ending → World → Prop)
    (hp : ∀ g' w', TreeAt w' (leftT m u) g' → Below w.heap.size w w' → Post (.returned (.pointer (some ⟨g', 0, none⟩))) w') :
    Calls Tryz.prog 142 #[.pointer (some ⟨g, 0, none⟩), .pointer (some ⟨h, 0, none⟩)] w Post := by
  rw [left_else hk] at hp
  have c0 := hm.kindc
  have hd : (m.kind == 13) = false := by simp [hk]
  have hd2 : decide (m.kind = 13) = false := by simp [hk]
  have HF := Lib.hid (hp _ _ hm (Below.refl _ _))
  clear hp hm
  generalize m.kind = mk at *
  go_enter Tryz.func142, Tryz.ntmps142
  go_wp2
  exact HF.out

set_option maxRecDepth 100000 in
set_option maxHeartbeats 4000000 in
theorem rLeft_cps (m : TD) : ∀ (u : TD) (g h : Nat) (w : World) (Post : Ending → World → Prop), TreeAt w m g → TreeAt w u h → m.fine → u.fine →
    (∀ g' w', TreeAt w' (leftT m u) g' → Below w.heap.size w w' → Post (.returned (.pointer (some ⟨g', 0, none⟩))) w') →
    Calls Tryz.prog 142 #[.pointer (some ⟨g, 0, none⟩), .pointer (some ⟨h, 0, none⟩)] w Post := by
  induction m with
  | leaf k n =>
    intro u g h w Post hm hu fm fu hp
    exact rLeft_else _ u g h w hm (by obtain ⟨q, _⟩ := fm; simp only [TD.kind]; omega) Post hp
  | two k a b iha ihb =>
    intro u g h w Post hm hu fm fu hp
    exact rLeft_else _ u g h w hm (by obtain ⟨q, q', _⟩ := fm; simp only [TD.kind]; omega) Post hp
  | three k c a v ihc iha ihv =>
    intro u g h w Post hm hu fm fu hp
    obtain ⟨rfl, fc, fa, fv⟩ := fm
    have B1 : ∀ n, Below w.heap.size w (w.drewN n) := fun n => below_drewN (Below.refl _ _) n
    have T0 : Hid (TreeAt w (.three 13 c a v) g) := hm
    obtain ⟨gc, ga, gv, r, tc, ta, tv⟩ := id hm
    have qs := rSame_any a u ga h w ta hu fa fu
    have qa := fun n => rApart_any a u ga h (w.drewN n) (ta.drewN n) (hu.drewN n) fa fu
    have q := fun n => ihc u gc h (w.drewN n)
    have c0 := r.cell (i := 0) rfl
    have c3 := r.cell (i := 3) rfl
    by_cases e1 : a = u
    · rw [left_same e1] at hp
      rw [(sameT_iff a u).2 e1] at qs
      have c2 := fun n => (r.keep (B1 n)).cell (i := 2) rfl
      have HF := Lib.hid (fun n => hp gc (w.drewN n) (tc.drewN n) (B1 n))
      clear hp ihc iha ihv qa q hm hu tc ta tv r
      go_enter Tryz.func142, Tryz.ntmps142
      go_wp2_with fail
      refine qs.mono ?_
      rintro e w1 ⟨rfl, n, rfl⟩
      have d2 := c2 n
      go_wp2
      exact HF.out n
    · rw [sameT_ne e1] at qs
      cases e2 : apartT a u with
      | true =>
        rw [left_far e1 e2] at hp
        rw [e2] at qa
        have c3' := fun n => (r.keep (B1 n)).cell (i := 3) rfl
        have c2' := fun n => (r.keep (B1 n)).cell (i := 2) rfl
        have q' := fun n P => q n P (tc.drewN n) (hu.drewN n) fc fu
        have R0 := Lib.hid r
        have TA := Lib.hid ta
        have TV := Lib.hid tv
        clear ihc iha ihv q hm hu tc ta tv r fa fv fc
        go_enter Tryz.func142, Tryz.ntmps142
        go_wp2_with fail
        refine qs.mono ?_
        rintro e w1 ⟨rfl, n, rfl⟩
        have d3 := c3' n
        go_wp2_with fail
        refine (qa n).mono ?_
        rintro e w1 ⟨rfl, j, hj⟩
        rw [World.drewN_drewN] at hj
        subst hj
        have d2 := c2' (n + j)
        clear d3 c3
        go_wp2_with fail
        refine q' (n + j) _ ?_
        intro g2 w2 t2 b2
        have b2' : Below w.heap.size w w2 := (B1 (n + j)).trans (b2.mono (B1 (n + j)).size)
        have b3 : Below w.heap.size w w2.drew := b2'.drew
        have b23 : Below w2.heap.size w2 w2.drew := (Below.refl _ _).drew
        have r2 := R0.out.keep b3
        have e3 := r2.cell (i := 3) rfl
        have e4 := r2.cell (i := 4) rfl
        have y := tree_three (k := 13) (t2.keep b23) (TA.out.keep b3) (TV.out.keep b3) b3
        have HF := Lib.hid (hp _ _ y.1 y.2)
        clear hp t2 b2 b2' b3 b23 d2 c0 y r2 R0 TA TV T0 c2' c3'
        go_wp2
        refine wp_reads 10 (by kernel_rfl) (by kernel_rfl) ?_
        simp only [List.take_succ_cons, List.take_zero, List.drop_succ_cons, List.drop_zero]
        repeat still_step
        refine wpStill_nil ?_
        go_wp2
        exact HF.out
      | false =>
        rw [left_near e1 e2] at hp
        rw [e2] at qa
        have c3' := fun n => (r.keep (B1 n)).cell (i := 3) rfl
        have HF := Lib.hid (fun n => hp g _ (T0.out.drewN n) (B1 n))
        clear hp ihc iha ihv q hm hu tc ta tv r fa fv fc
        go_enter Tryz.func142, Tryz.ntmps142
        go_wp2_with fail
        refine qs.mono ?_
        rintro e w1 ⟨rfl, n, rfl⟩
        have d3 := c3' n
        go_wp2_with fail
        refine (qa n).mono ?_
        rintro e w1 ⟨rfl, j, hj⟩
        rw [World.drewN_drewN] at hj
        subst hj
        clear d3 c3
        go_wp2
        exact HF.out (n + j)

end Go.Proofs.YtblhmeidbjigaaaGreatDoor

/- The code's terms as values; the functions that look at one. -/
set_option linter.unusedSimpArgs false
set_option linter.unusedVariables false
namespace Go.Proofs.YtblhmeidbjigaaaGreatDoor
open Go.RowKit

/-- A term's kind and number, as the code has them. -/
def ckind : TD → Int
  | .leaf k _ => if k = 100 then 1 else 0
  | .two k _ _ => k
  | .three k _ _ _ => k

def cval : TD → Int
  | .leaf k n => if k = 100 then n else 0
  | _ => 0

/-- A term's cells, given its list of parts. -/
def tcells (t : TD) (ps : Value) : List Value := [.int .i64 (ckind t), .int .i64 (cval t), ps, .int .i64 t.size, .string (str (showT t))]

/-- A term as a value. -/
def termV (t : TD) (ps : Value) : Value := .agg #[.int .i64 (ckind t), .int .i64 (cval t), ps, .int .i64 t.size, .string (str (showT t))]

/-- A term's parts in memory, all in blocks from Lo on. -/
def PartsAt (Lo : Nat) (w : World) : TD → Value → Prop
  | .leaf _ _, ps => ps = .slice none 0 0 ∧ Lo ≤ w.heap.size
  | .two _ a b, ps => ∃ g pa pb, ps = .slice (some ⟨g, 0, none⟩) 2 2 ∧ Lo ≤ g ∧ Row w g 119 (tcells a pa ++ tcells b pb) ∧ PartsAt Lo w a pa ∧ PartsAt Lo w b pb
  | .three _ a b c, ps => ∃ g pa pb pc, ps = .slice (some ⟨g, 0, none⟩) 3 3 ∧ Lo ≤ g ∧ Row w g 119 (tcells a pa ++ tcells b pb ++ tcells c pc) ∧ PartsAt Lo w a pa ∧ PartsAt Lo w b pb ∧ PartsAt Lo w c pc

theorem PartsAt.lo {Lo : Nat} {w : World} {t : TD} {ps : Value} (h : PartsAt Lo w t ps) : Lo ≤ w.heap.size := by
  induction t generalizing ps with
  | leaf k n => exact h.2
  | two k a b iha ihb => obtain ⟨g, pa, pb, e, lg, r, h1, h2⟩ := h; exact iha h1
  | three k a b c iha ihb ihc => obtain ⟨g, pa, pb, pc, e, lg, r, h1, h2, h3⟩ := h; exact iha h1

theorem PartsAt.keep {Lo : Nat} {w w' : World} {t : TD} {ps : Value} (h : PartsAt Lo w t ps) (hb : Below w.heap.size w w') : PartsAt Lo w' t ps := by
  induction t generalizing ps with
  | leaf k n => exact ⟨h.1, Nat.le_trans h.2 hb.size⟩
  | two k a b iha ihb => obtain ⟨g, pa, pb, e, lg, r, h1, h2⟩ := h; exact ⟨g, pa, pb, e, lg, r.keep hb, iha h1, ihb h2⟩
  | three k a b c iha ihb ihc => obtain ⟨g, pa, pb, pc, e, lg, r, h1, h2, h3⟩ := h; exact ⟨g, pa, pb, pc, e, lg, r.keep hb, iha h1, ihb h2, ihc h3⟩

/-- A leaf has its parts wherever another term has them. -/
theorem PartsAt.leaf {Lo : Nat} {w w' : World} {t : TD} {ps : Value} (h : PartsAt Lo w t ps) (hb : Below w.heap.size w w') (k n : Int) : PartsAt Lo w' (.leaf k n) (.slice none 0 0) := ⟨rfl, (h.keep hb).lo⟩

/-- A store below Lo meets no parts. -/
theorem PartsAt.under {Lo : Nat} {w : World} {t : TD} {ps : Value} (h : PartsAt Lo w t ps) {g : Nat} (hg : g < Lo) (i : Nat) (u : Value) : PartsAt Lo (w.setCell ⟨g, i, none⟩ u) t ps := by
  induction t generalizing ps with
  | leaf k n => exact ⟨h.1, by simpa using h.2⟩
  | two k a b iha ihb =>
    obtain ⟨g', pa, pb, e, lg, r, h1, h2⟩ := h
    exact ⟨g', pa, pb, e, lg, r.unset (by show g' ≠ g; omega) _, iha h1, ihb h2⟩
  | three k a b c iha ihb ihc =>
    obtain ⟨g', pa, pb, pc, e, lg, r, h1, h2, h3⟩ := h
    exact ⟨g', pa, pb, pc, e, lg, r.unset (by show g' ≠ g; omega) _, iha h1, ihb h2, ihc h3⟩

theorem row_one {w : World} {g : Nat} {t t' : TypeId} {xs ys : List Value} (h : Row w g t xs) (h' : Row w g t' ys) : xs = ys := by
  unfold Row at h h'
  rw [h] at h'
  simp only [Option.some.injEq, Obj.cells.injEq] at h'
  simpa using h'.1

/-- A block of one term is no list of parts. -/
theorem PartsAt.set {Lo : Nat} {w : World} {t : TD} {ps : Value} (h : PartsAt Lo w t ps) {g : Nat} {ty : TypeId} {xs : List Value} (hr : Row w g ty xs) (hx : xs.length = 5) (i : Nat) (u : Value) : PartsAt Lo (w.setCell ⟨g, i, none⟩ u) t ps := by
  induction t generalizing ps with
  | leaf k n => exact ⟨h.1, by simpa using h.2⟩
  | two k a b iha ihb =>
    obtain ⟨g', pa, pb, e, lg, r, h1, h2⟩ := h
    refine ⟨g', pa, pb, e, lg, r.unset (fun q => ?_) _, iha h1, ihb h2⟩
    have q' : g' = g := q
    subst q'
    have := row_one r hr
    rw [← this] at hx
    simp [tcells] at hx
  | three k a b c iha ihb ihc =>
    obtain ⟨g', pa, pb, pc, e, lg, r, h1, h2, h3⟩ := h
    refine ⟨g', pa, pb, pc, e, lg, r.unset (fun q => ?_) _, iha h1, ihb h2, ihc h3⟩
    have q' : g' = g := q
    subst q'
    have := row_one r hr
    rw [← this] at hx
    simp [tcells] at hx

/-- Five cells of a block are set. -/
def set5 (w : World) (g : Nat) (a b c d e : Value) : World :=
  ((((w.setCell ⟨g, 0, none⟩ a).setCell ⟨g, 1, none⟩ b).setCell ⟨g, 2, none⟩ c).setCell ⟨g, 3, none⟩ d).setCell ⟨g, 4, none⟩ e

theorem cbelow_set {w0 w : World} (h : Below w0.heap.size w0 w) {g i : Nat} (hg : w0.heap.size ≤ g) (u : Value) : Below w0.heap.size w0 (w.setCell ⟨g, i, none⟩ u) :=
  ⟨h.os, h.tape, h.output, by simpa using h.size, fun k hk => (Below.heap_setCell _ _ _ _ (by show k ≠ g; omega)).trans (h.block k hk)⟩

theorem set5_below {w0 w : World} (h : Below w0.heap.size w0 w) {g : Nat} (hg : w0.heap.size ≤ g) (a b c d e : Value) : Below w0.heap.size w0 (set5 w g a b c d e) :=
  cbelow_set (cbelow_set (cbelow_set (cbelow_set (cbelow_set h hg _) hg _) hg _) hg _) hg _

theorem PartsAt.on5 {Lo : Nat} {w : World} {t : TD} {ps : Value} (h : PartsAt Lo w t ps) {g : Nat} {ty : TypeId} {xs : List Value} (hr : Row w g ty xs) (hx : xs.length = 5) (a b c d e : Value) : PartsAt Lo (set5 w g a b c d e) t ps := by
  have r1 := hr.set 0 a
  have r2 := r1.set 1 b
  have r3 := r2.set 2 c
  have r4 := r3.set 3 d
  exact ((((h.set hr hx 0 a).set r1 (by simpa using hx) 1 b).set r2 (by simpa using hx) 2 c).set r3 (by simpa using hx) 3 d).set r4 (by simpa using hx) 4 e

theorem Row.on5 {w : World} {g : Nat} {ty : TypeId} {x0 x1 x2 x3 x4 : Value} (hr : Row w g ty [x0, x1, x2, x3, x4]) (a b c d e : Value) : Row (set5 w g a b c d e) g ty [a, b, c, d, e] :=
  ((((hr.set 0 a).set 1 b).set 2 c).set 3 d).set 4 e

theorem Row.off5 {w : World} {g g' : Nat} {ty : TypeId} {xs : List Value} (h : Row w g ty xs) (hg : g ≠ g') (a b c d e : Value) : Row (set5 w g' a b c d e) g ty xs :=
  ((((h.unset (a := ⟨g', 0, none⟩) hg a).unset (a := ⟨g', 1, none⟩) hg b).unset (a := ⟨g', 2, none⟩) hg c).unset (a := ⟨g', 3, none⟩) hg d).unset (a := ⟨g', 4, none⟩) hg e

def zT : List Value := [.int .i64 0, .int .i64 0, .slice none 0 0, .int .i64 0, .string ⟨#[]⟩]

theorem ckind_none {t : TD} (hf : t.fine) : ckind t ≠ 1 ↔ t.isNum = none := by
  cases t with
  | leaf k n => by_cases h : k = 100 <;> simp [ckind, TD.isNum, h]
  | two k a b => obtain ⟨h1, h2, _⟩ := hf; simp only [ckind, TD.isNum]; constructor; intro _; trivial; intro _; omega
  | three k a b c => obtain ⟨h1, _⟩ := hf; simp only [ckind, TD.isNum]; constructor; intro _; trivial; intro _; omega

theorem same_show {u v : TD} (hu : u.fine) (hv : v.fine) : ((str (showT u)).toList == (str (showT v)).toList) = sameT u v := by
  simp only [str, ByteArray.toList_mk]
  by_cases h : u = v
  · subst h; rw [sameT_self]; simp
  · rw [sameT_ne h]
    simp only [beq_eq_false_iff_ne, ne_eq]
    exact fun e => h (show_inj hu.ok hv.ok e)

set_option maxRecDepth 100000 in
set_option maxHeartbeats 1000000 in
theorem cNumber_any (k n s : Int) (ps : Value) (x : ByteArray) (w : World) :
    Calls Tryz.prog 179 #[.agg #[.int .i64 k, .int .i64 n, ps, .int .i64 s, .string x]] w fun e w' => e = .returned (.tuple #[.int .i64 (if k = 1 then n else 0), .bool (k == 1)]) ∧ Below w.heap.size w w' := by
  have hb : Below w.heap.size w (w.alloc (.cells #[.int .i64 k, .int .i64 n, ps, .int .i64 s, .string x] 119)) := (Below.refl _ _).alloc (Nat.le_refl _) _
  by_cases h : k = 1
  · subst h
    go_enter Tryz.func179, Tryz.ntmps179
    go_wp2
    go_ret2
    exact ⟨rfl, hb⟩
  · have hd : (k == 1) = false := by simp [h]
    rw [if_neg h, hd]
    go_enter Tryz.func179, Tryz.ntmps179
    go_wp2
    go_ret2
    exact ⟨rfl, hb⟩

set_option maxRecDepth 100000 in
set_option maxHeartbeats 1000000 in
theorem cSame_any (u v : TD) (pu pv : Value) (fu : u.fine) (fv : v.fine) (w : World) :
    Calls Tryz.prog 156 #[termV u pu, termV v pv] w fun e w' => e = .returned (.bool (sameT u v)) ∧ Below w.heap.size w w' := by
  have hb : Below w.heap.size w ((w.alloc (.cells #[.int .i64 (ckind u), .int .i64 (cval u), pu, .int .i64 u.size, .string (str (showT u))] 119)).alloc (.cells #[.int .i64 (ckind v), .int .i64 (cval v), pv, .int .i64 v.size, .string (str (showT v))] 119)) := ((Below.refl _ _).alloc (Nat.le_refl _) _).alloc (by simp) _
  have e := same_show fu fv
  unfold termV
  rw [← e]
  clear e
  generalize str (showT u) = X at *
  generalize str (showT v) = Y at *
  go_enter Tryz.func156, Tryz.ntmps156
  go_wp2
  go_ret
  exact ⟨rfl, hb⟩

set_option maxRecDepth 100000 in
set_option maxHeartbeats 1000000 in
theorem cSign_any (k : Int) (hk : 3 ≤ k ∧ k ≤ 13) (w : World) : Calls Tryz.prog 206 #[.int .i64 k] w fun e w' => e = .returned (.string (str [signT k])) ∧ w = w' := by
  have h : k = 3 ∨ k = 4 ∨ k = 5 ∨ k = 6 ∨ k = 7 ∨ k = 8 ∨ k = 9 ∨ k = 10 ∨ k = 11 ∨ k = 12 ∨ k = 13 := by omega
  rcases h with rfl | rfl | rfl | rfl | rfl | rfl | rfl | rfl | rfl | rfl | rfl
  all_goals
    go_enter Tryz.func206, Tryz.ntmps206
    go_wp2
    go_ret
    exact ⟨rfl, rfl⟩

set_option maxRecDepth 100000 in
set_option maxHeartbeats 1000000 in
theorem cText_any (k n s : Int) (ps : Value) (x : ByteArray) (w : World) :
    Calls Tryz.prog 68 #[.agg #[.int .i64 k, .int .i64 n, ps, .int .i64 s, .string x]] w fun e w' => e = .returned (.string x) ∧ Below w.heap.size w w' := by
  have hb : Below w.heap.size w (w.alloc (.cells #[.int .i64 k, .int .i64 n, ps, .int .i64 s, .string x] 119)) := (Below.refl _ _).alloc (Nat.le_refl _) _
  go_enter Tryz.func68, Tryz.ntmps68
  go_wp2
  go_ret
  exact ⟨rfl, hb⟩

set_option maxRecDepth 100000 in
set_option maxHeartbeats 1000000 in
theorem cSize_any (k n s : Int) (ps : Value) (x : ByteArray) (w : World) :
    Calls Tryz.prog 198 #[.agg #[.int .i64 k, .int .i64 n, ps, .int .i64 s, .string x]] w fun e w' => e = .returned (.int .i64 s) ∧ Below w.heap.size w w' := by
  have hb : Below w.heap.size w (w.alloc (.cells #[.int .i64 k, .int .i64 n, ps, .int .i64 s, .string x] 119)) := (Below.refl _ _).alloc (Nat.le_refl _) _
  go_enter Tryz.func198, Tryz.ntmps198
  go_wp2
  go_ret
  exact ⟨rfl, hb⟩

end Go.Proofs.YtblhmeidbjigaaaGreatDoor
