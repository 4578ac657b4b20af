/- The reference's marks: mark. -/
import Derived.Test.YtblhmeidbjigaaaGreatDoorRows
import Derived.WalkKit
import Derived.WalkSpells
import Derived.WalkLawsBesides
import Derived.Laws.BytesArg
import Derived.Deep.QuietTactic
import Derived.BigQuiet
import Derived.Deep.RegionHeld3
import Derived.Lib.ItoaNum
import Derived.Lib.ItoaLen
import Derived.OpenShut
import Derived.Maps.AppendAt
import Derived.Shelf.Strconv.Itoa3
import Derived.Shelf.Lay
import Derived.Ground.NamesProg
import Derived.Lib.SmallJoins
import Derived.Lib.Hide
import Derived.StillTailTactics
import Derived.Test.YtblhmeidbjigaaaGreatDoorRVwCToRVwEMarkings

set_option linter.unusedSimpArgs false
set_option linter.unusedVariables false
namespace Go.Proofs.YtblhmeidbjigaaaGreatDoor
open Go.RowKit

section
variable {regs slots data : Int} {names : List Int} {ops : List OpD} {k : Nat} {o : OpD}

/-- The mark of a Load or Store. -/
def cellMark (data : Int) (u : TD) : List UInt8 := match u.isNum with | some n => if 0 ≤ n ∧ n < data then [] else 64 :: 32 :: showT u | none => 64 :: 32 :: showT u
/-- The mark of a Div. -/
def divMark (u v : TD) : List UInt8 := match u.isNum, v.isNum with | some _, some y => if y ≠ 0 then [] else 47 :: 32 :: (showT u ++ 32 :: showT v) | _, _ => 47 :: 32 :: (showT u ++ 32 :: showT v)

theorem rmark_div (ho : ops.getD k oz = o) (h : o.kind = 11) : markT regs slots data names ops k = divMark (behindT regs slots names ops k o.b) (behindT regs slots names ops k o.c) := by
  subst ho; simp only [markT]; rw [if_pos h]; rfl
theorem rmark_at (ho : ops.getD k oz = o) {at_ : Int} (h : (o.kind = 12 ∧ at_ = o.b) ∨ (o.kind = 13 ∧ at_ = o.a)) : markT regs slots data names ops k = cellMark data (behindT regs slots names ops k at_) := by
  subst ho; simp only [markT]
  rcases h with ⟨h, rfl⟩ | ⟨h, rfl⟩
  · rw [if_neg (by omega), if_pos (.inl h), if_pos h]; rfl
  · rw [if_neg (by omega), if_pos (.inr h), if_neg (by omega)]; rfl
theorem rmark_none (ho : ops.getD k oz = o) (h : o.kind ≠ 11 ∧ o.kind ≠ 12 ∧ o.kind ≠ 13) : markT regs slots data names ops k = [] := by
  subst ho; simp only [markT]; rw [if_neg h.1, if_neg (by omega)]
end

theorem cellMark_in {data : Int} {u : TD} {n : Int} (h : u.isNum = some n) (hn : 0 ≤ n ∧ n < data) : cellMark data u = [] := by unfold cellMark; rw [h]; simp only; rw [if_pos hn]
theorem cellMark_out {data : Int} {u : TD} {n : Int} (h : u.isNum = some n) (hn : ¬ (0 ≤ n ∧ n < data)) : cellMark data u = 64 :: 32 :: showT u := by unfold cellMark; rw [h]; simp only; rw [if_neg hn]
theorem cellMark_none {data : Int} {u : TD} (h : u.isNum = none) : cellMark data u = 64 :: 32 :: showT u := by unfold cellMark; rw [h]
theorem divMark_off {u v : TD} {x y : Int} (h : u.isNum = some x) (h' : v.isNum = some y) (hy : y ≠ 0) : divMark u v = [] := by unfold divMark; rw [h, h']; simp only; rw [if_pos hy]
theorem divMark_on {u v : TD} (h : u.isNum = none ∨ v.isNum = none ∨ v.isNum = some 0) : divMark u v = 47 :: 32 :: (showT u ++ 32 :: showT v) := by
  unfold divMark
  cases hu : u.isNum with
  | none => rfl
  | some x =>
    cases hv : v.isNum with
    | none => rfl
    | some y =>
      rcases h with h | h | h
      · rw [hu] at h; cases h
      · rw [hv] at h; cases h
      · rw [hv] at h; cases h; rfl

theorem cell_str (u : TD) : (⟨#[64, 32]⟩ : ByteArray) ++ str (showT u) = str (64 :: 32 :: showT u) := by
  show str [64, 32] ++ _ = _
  rw [str_append]; rfl
theorem div_str (u v : TD) : (⟨#[47, 32]⟩ : ByteArray) ++ str (showT u) ++ ⟨#[32]⟩ ++ str (showT v) = str (47 :: 32 :: (showT u ++ 32 :: showT v)) := by
  show str [47, 32] ++ _ ++ str [32] ++ _ = _
  simp only [str_append]; congr 1; simp


set_option maxRecDepth 100000 in
set_option maxHeartbeats 4000000 in
theorem rMark_any (p : ProgD) (pv nv : Value) (b : Nat) (names : List Int) (hg : progGood p = true) (hb : b < p.blocks.length) (hnm : ∀ x ∈ names, x ≤ 1000) (k : Nat) (hk : k < (bops p.blocks b).length) (w : World) (hv : RdView w p pv nv names) :
    Calls Tryz.prog 115 #[viewV p pv b nv, .int .i64 k] w fun e w' => e = .returned (.string (str (markT p.regs p.slots p.data names (bops p.blocks b) k))) ∧ Below w.heap.size w w' := by
  obtain ⟨hr, hargs, hdata, hs⟩ := good_shape hg
  obtain ⟨h12, hops⟩ := good_block hg hb
  have hfine := behindT_fine (names := names) (show 0 ≤ p.regs ∧ p.regs ≤ 100 by omega) (show 0 ≤ p.slots ∧ p.slots ≤ 100 by omega) hnm hops k (by omega)
  have hsize : ∀ q : Int, (behindT p.regs p.slots names (bops p.blocks b) k q).size ≤ 4000000000000 := fun q => by
    have h1 := behindT_size p.regs p.slots names (bops p.blocks b) k q
    have h2 := most_12 (show k ≤ 12 by omega)
    omega
  obtain ⟨o, ho⟩ : ∃ o, (bops p.blocks b).getD k oz = o := ⟨_, rfl⟩
  have hog := op_cases (show opGood p.regs p.slots o = true by rw [← ho]; exact good_op hops hk)
  have hb0 : Below w.heap.size w (w.alloc (.cells #[.int .i64 p.args, .int .i64 p.regs, .int .i64 p.data, .int .i64 p.slots, pv, .int .i64 b, nv] 87)) := (Below.refl _ _).alloc (Nat.le_refl _) _
  have hb1 : Below w.heap.size w ((w.alloc (.cells #[.int .i64 p.args, .int .i64 p.regs, .int .i64 p.data, .int .i64 p.slots, pv, .int .i64 b, nv] 87)).alloc (.cells #[.int .i64 o.kind, .int .i64 o.a, .int .i64 o.b, .int .i64 o.c] 77)) := hb0.alloc hb0.size _
  have es : (w.alloc (.cells #[.int .i64 p.args, .int .i64 p.regs, .int .i64 p.data, .int .i64 p.slots, pv, .int .i64 b, nv] 87)).heap.size = w.heap.size + 1 := by simp
  have V : VAt w ((w.alloc (.cells #[.int .i64 p.args, .int .i64 p.regs, .int .i64 p.data, .int .i64 p.slots, pv, .int .i64 b, nv] 87)).alloc (.cells #[.int .i64 o.kind, .int .i64 o.a, .int .i64 o.b, .int .i64 o.c] 77)) w.heap.size (w.heap.size + 1) p pv nv b names o :=
    ⟨Row.alloc (heap_alloc_new w _) _, by have := heap_alloc_new (w.alloc (.cells #[.int .i64 p.args, .int .i64 p.regs, .int .i64 p.data, .int .i64 p.slots, pv, .int .i64 b, nv] 87)) (.cells #[.int .i64 o.kind, .int .i64 o.a, .int .i64 o.b, .int .i64 o.c] 77); rw [es] at this; exact this, hv.keep hb1, hb1⟩
  obtain ⟨ao, cap, rfl, hll, hc⟩ := hv.blocks
  obtain ⟨bb, off, sv, rfl, c0, _, _, _, _, hrd⟩ := hc b hb
  obtain ⟨so, sc, rfl, hol, hoc⟩ := hrd
  obtain ⟨b2, off2, rfl, e0, e1, e2, e3⟩ := hoc k hk
  have x0 := cell_keep hb0 c0
  have y0 := cell_keep hb0 e0
  have y1 := cell_keep hb0 e1
  have y2 := cell_keep hb0 e2
  have y3 := cell_keep hb0 e3
  have ho0 : okind (bops p.blocks b) k = o.kind := by unfold okind; rw [ho]
  have ho1 : oa (bops p.blocks b) k = o.a := by unfold oa; rw [ho]
  have ho2 : ob (bops p.blocks b) k = o.b := by unfold ob; rw [ho]
  have ho3 : oc (bops p.blocks b) k = o.c := by unfold oc; rw [ho]
  rw [ho0] at y0
  rw [ho1] at y1
  rw [ho2] at y2
  rw [ho3] at y3
  clear es e0 e1 e2 e3 c0 hc hoc ho0 ho1 ho2 ho3 hb0 hb1 hv
  have hbi : (0 : Int) ≤ (b : Int) := by omega
  have hbj : (b : Int) < (p.blocks.length : Int) := by omega
  have hki : (0 : Int) ≤ (k : Int) := by omega
  have hkj : (k : Int) < ((bops p.blocks b).length : Int) := by omega
  have hbk := rBehind_int p (.slice (some ⟨bb, off, none⟩) p.blocks.length cap) nv b names hg hb hnm k (Nat.le_of_lt hk)
  have qb := fun place w P => hbk place w P
  have HTab := Lib.hid V.rd.tab
  have HV := Lib.hid V
  have HFine := Lib.hid hfine
  have hkk : o.kind = 1 ∨ (3 ≤ o.kind ∧ o.kind ≤ 11) ∨ o.kind = 2 ∨ o.kind = 12 ∨ o.kind = 13 ∨ o.kind = 14 ∨ o.kind = 15 := by omega
  unfold viewV at qb ⊢
  clear V hfine hol hll hbk
  rcases hkk with hkk | hkk | hkk | hkk | hkk | hkk | hkk
  · have HM := Lib.hid (rmark_none (data := p.data) (names := names) (regs := p.regs) (slots := p.slots) ho (by omega))
    have HB := Lib.hid HV.out.keep
    clear qb HV HTab HFine
    rw [hkk] at y0 HB
    go_enter Tryz.func115, Tryz.ntmps115
    go_wp2
    go_ret
    exact ⟨by rw [HM.out]; rfl, HB.out⟩
  · by_cases h11 : o.kind = 11
    · have hob : (0 ≤ o.b ∧ o.b < p.regs) ∧ (0 ≤ o.c ∧ o.c < p.regs) := by omega
      have HM := Lib.hid (rmark_div (data := p.data) (names := names) (regs := p.regs) (slots := p.slots) ho h11)
      have hfu := HFine.out o.b (by omega) (by omega)
      have hfv := HFine.out o.c (by omega) (by omega)
      have hsu := hsize o.b
      have hsv := hsize o.c
      have hso := show_size hfu hsu
      have hsp := show_size hfv hsv
      have HFu := Lib.hid hfu
      have HFv := Lib.hid hfv
      have HK1 := Lib.hid (And.intro (isNum_kind hfu) (isNum_none hfu))
      have HK2 := Lib.hid (And.intro (isNum_kind hfv) (isNum_none hfv))
      have q1 := fun P => qb o.b ((w.alloc (.cells #[.int .i64 p.args, .int .i64 p.regs, .int .i64 p.data, .int .i64 p.slots, .slice (some ⟨bb, off, none⟩) p.blocks.length cap, .int .i64 b, nv] 87)).alloc (.cells #[.int .i64 o.kind, .int .i64 o.a, .int .i64 o.b, .int .i64 o.c] 77)) P HV.out.rd (by omega) (by omega)
      have hbc : 0 ≤ o.c ∧ o.c ≤ p.regs + p.slots := by omega
      rw [h11] at y0 q1 HV HTab
      clear hfu hfv hkk
      go_enter Tryz.func115, Tryz.ntmps115
      go_wp2_with fail
      refine q1 _ ?_
      intro g4 w4 t4 b4
      have h4 := HV.out
      have vw := h4.view.keep b4
      have ow := h4.op.keep b4
      have rd4 := h4.rd.keep b4
      have k4 := h4.keep.trans (b4.mono h4.keep.size)
      have q2 := fun P => qb o.c w4 P rd4 hbc.1 hbc.2
      have v0 := vw.cell (i := 0) rfl
      have v1 := vw.cell (i := 1) rfl
      have v2 := vw.cell (i := 2) rfl
      have v3 := vw.cell (i := 3) rfl
      have v4 := vw.cell (i := 4) rfl
      have v5 := vw.cell (i := 5) rfl
      have v6 := vw.cell (i := 6) rfl
      have o3 := ow.cell (i := 3) rfl
      have HT4 := Lib.hid rd4.tab
      clear q1 b4 x0 y0 y1 y2 y3 HV h4 vw ow rd4 qb HTab
      go_wp2_with fail
      refine q2 _ ?_
      intro g5 w5 t5 b5
      have T4 := Lib.hid (t4.keep b5)
      have T5 := Lib.hid t5
      have c0 := (t4.keep b5).kindc
      have d0 := t5.kindc
      have d1 := t5.numc
      have HK5 := Lib.hid (k4.trans (b5.mono k4.size))
      have HT5 := Lib.hid (HT4.out.keep b5)
      clear q2 t4 t5 b5 k4 HT4 v0 v1 v2 v3 v4 v5 v6 o3
      generalize behindT p.regs p.slots names (bops p.blocks b) k o.b = u at *
      generalize behindT p.regs p.slots names (bops p.blocks b) k o.c = v at *
      by_cases hn : u.kind = 100
      · have hun := HK1.out.1.1 hn
        rw [hn] at c0
        by_cases hm : v.kind = 100
        · have hvn := HK2.out.1.1 hm
          rw [hm] at d0
          by_cases hz : v.num = 0
          · rw [hz] at hvn d1
            have HE := Lib.hid (divMark_on (u := u) (v := v) (.inr (.inr hvn)))
            clear HK1 HK2 hun hvn hn hm hz
            have qs := rShow_any u g4 w5 T4.out (HT5.out) HFu.out hsu
            have qs2 := fun w6 (hb : Below w5.heap.size w5 w6) => rShow_any v g5 w6 (T5.out.keep hb) (HT5.out.keep hb) HFv.out hsv
            go_wp2_with fail
            refine qs.mono ?_
            rintro e w6 ⟨rfl, b6⟩
            go_wp2_with fail
            refine (qs2 w6 b6).mono ?_
            rintro e w7 ⟨rfl, b7⟩
            have b57 := b6.trans (b7.mono b6.size)
            have HB := Lib.hid (HK5.out.trans (b57.mono HK5.out.size))
            clear qs qs2 b6 b7 b57
            go_wp2
            go_ret
            exact ⟨by rw [HM.out, HE.out, ← div_str]; rfl, HB.out⟩
          · have HE := Lib.hid (divMark_off hun hvn hz)
            have hz2 : (v.num == 0) = false := by simp [hz]
            clear HK1 HK2 hun hvn hn hm
            generalize v.num = n at *
            go_wp2
            go_ret
            exact ⟨by rw [HM.out, HE.out]; rfl, HK5.out⟩
        · have hvn := HK2.out.2.1 hm
          have HE := Lib.hid (divMark_on (u := u) (v := v) (.inr (.inl hvn)))
          have hd1 : (v.kind == 100) = false := by simp [hm]
          clear HK1 HK2 hun hvn hn
          generalize v.kind = vk at *
          have qs := rShow_any u g4 w5 T4.out (HT5.out) HFu.out hsu
          have qs2 := fun w6 (hb : Below w5.heap.size w5 w6) => rShow_any v g5 w6 (T5.out.keep hb) (HT5.out.keep hb) HFv.out hsv
          go_wp2_with fail
          refine qs.mono ?_
          rintro e w6 ⟨rfl, b6⟩
          go_wp2_with fail
          refine (qs2 w6 b6).mono ?_
          rintro e w7 ⟨rfl, b7⟩
          have b57 := b6.trans (b7.mono b6.size)
          have HB := Lib.hid (HK5.out.trans (b57.mono HK5.out.size))
          clear qs qs2 b6 b7 b57
          go_wp2
          go_ret
          exact ⟨by rw [HM.out, HE.out, ← div_str]; rfl, HB.out⟩
      · have hun := HK1.out.2.1 hn
        have HE := Lib.hid (divMark_on (u := u) (v := v) (.inl hun))
        have hd1 : (u.kind == 100) = false := by simp [hn]
        clear HK1 HK2 hun
        generalize u.kind = uk at *
        have qs := rShow_any u g4 w5 T4.out (HT5.out) HFu.out hsu
        have qs2 := fun w6 (hb : Below w5.heap.size w5 w6) => rShow_any v g5 w6 (T5.out.keep hb) (HT5.out.keep hb) HFv.out hsv
        go_wp2_with fail
        refine qs.mono ?_
        rintro e w6 ⟨rfl, b6⟩
        go_wp2_with fail
        refine (qs2 w6 b6).mono ?_
        rintro e w7 ⟨rfl, b7⟩
        have b57 := b6.trans (b7.mono b6.size)
        have HB := Lib.hid (HK5.out.trans (b57.mono HK5.out.size))
        clear qs qs2 b6 b7 b57
        go_wp2
        go_ret
        exact ⟨by rw [HM.out, HE.out, ← div_str]; rfl, HB.out⟩
    · have n1 : (o.kind == 11) = false := by simp [h11]
      have n2 : (o.kind == 12) = false := by simp; omega
      have n3 : (o.kind == 13) = false := by simp; omega
      have HM := Lib.hid (rmark_none (data := p.data) (names := names) (regs := p.regs) (slots := p.slots) ho (by omega))
      have HB := Lib.hid HV.out.keep
      clear qb HV HTab HFine
      go_enter Tryz.func115, Tryz.ntmps115
      go_wp2
      go_ret
      exact ⟨by rw [HM.out]; rfl, HB.out⟩
  · have HM := Lib.hid (rmark_none (data := p.data) (names := names) (regs := p.regs) (slots := p.slots) ho (by omega))
    have HB := Lib.hid HV.out.keep
    clear qb HV HTab HFine
    rw [hkk] at y0 HB
    go_enter Tryz.func115, Tryz.ntmps115
    go_wp2
    go_ret
    exact ⟨by rw [HM.out]; rfl, HB.out⟩
  · have hob : 0 ≤ o.b ∧ o.b < p.regs := by omega
    have HM := Lib.hid (rmark_at (data := p.data) (names := names) (regs := p.regs) (slots := p.slots) ho (at_ := o.b) (.inl ⟨hkk, rfl⟩))
    have hfu := HFine.out o.b (by omega) (by omega)
    have hsu := hsize o.b
    have hso := show_size hfu hsu
    have HFu := Lib.hid hfu
    have HK1 := Lib.hid (And.intro (isNum_kind hfu) (isNum_none hfu))
    have q1 := fun P => qb o.b ((w.alloc (.cells #[.int .i64 p.args, .int .i64 p.regs, .int .i64 p.data, .int .i64 p.slots, .slice (some ⟨bb, off, none⟩) p.blocks.length cap, .int .i64 b, nv] 87)).alloc (.cells #[.int .i64 o.kind, .int .i64 o.a, .int .i64 o.b, .int .i64 o.c] 77)) P HV.out.rd (by omega) (by omega)
    rw [hkk] at y0 q1 HV HTab
    clear hfu qb
    go_enter Tryz.func115, Tryz.ntmps115
    go_wp2_with fail
    refine q1 _ ?_
    intro g4 w4 t4 b4
    have h4 := HV.out
    have d2 := (h4.view.keep b4).cell (i := 2) rfl
    have k4 := h4.keep.trans (b4.mono h4.keep.size)
    have T4 := Lib.hid t4
    have c0 := t4.kindc
    have c1 := t4.numc
    have bN : ∀ n, Below w4.heap.size w4 (w4.drewN n) := fun n => below_drewN (Below.refl _ _) n
    have kN : ∀ n, Below w.heap.size w (w4.drewN n) := fun n => below_drewN k4 n
    have bT : ∀ n, Below ((w.alloc (.cells #[.int .i64 p.args, .int .i64 p.regs, .int .i64 p.data, .int .i64 p.slots, .slice (some ⟨bb, off, none⟩) p.blocks.length cap, .int .i64 b, nv] 87)).alloc (.cells #[.int .i64 12, .int .i64 o.a, .int .i64 o.b, .int .i64 o.c] 77)).heap.size _ (w4.drewN n) := fun n => below_drewN b4 n
    generalize behindT p.regs p.slots names (bops p.blocks b) k o.b = u at *
    clear q1 b4 t4 x0 y0 y1 y2 y3 HV h4
    by_cases hn : u.kind = 100
    · have hun := HK1.out.1.1 hn
      rw [hn] at c0
      by_cases hin : 0 ≤ u.num ∧ u.num < p.data
      · have HE := Lib.hid (cellMark_in hun hin)
        obtain ⟨hi1, hi2⟩ := hin
        clear HK1 hun hn
        generalize u.num = n at *
        go_wp2
        go_quiet (fail)
        go_wp2
        go_ret
        exact ⟨by rw [HM.out, HE.out]; rfl, kN nq⟩
      · have HE := Lib.hid (cellMark_out hun hin)
        by_cases hi1 : 0 ≤ u.num
        · have hi2 : ¬ (u.num < p.data) := fun q => hin ⟨hi1, q⟩
          have hi3 : p.data ≤ u.num := by omega
          have hd2' : decide (u.num < p.data) = false := by simp; omega
          clear HK1 hun hn hin
          generalize u.num = n at *
          go_wp2
          go_quiet (fail)
          have qs := rShow_any u g4 (w4.drewN nq) (T4.out.keep (bN nq)) (HTab.out.keep (bT nq)) HFu.out hsu
          go_wp2_with fail
          refine qs.mono ?_
          rintro e w5 ⟨rfl, b5⟩
          have HB := Lib.hid ((kN nq).trans (b5.mono (kN nq).size))
          clear qs b5
          go_wp2
          go_ret
          exact ⟨by rw [HM.out, HE.out, ← cell_str]; rfl, HB.out⟩
        · have hi3 : u.num < 0 := by omega
          have hd2' : decide (0 ≤ u.num) = false := by simp; omega
          clear HK1 hun hn hin
          generalize u.num = n at *
          go_wp2
          go_quiet (fail)
          have qs := rShow_any u g4 (w4.drewN nq) (T4.out.keep (bN nq)) (HTab.out.keep (bT nq)) HFu.out hsu
          go_wp2_with fail
          refine qs.mono ?_
          rintro e w5 ⟨rfl, b5⟩
          have HB := Lib.hid ((kN nq).trans (b5.mono (kN nq).size))
          clear qs b5
          go_wp2
          go_ret
          exact ⟨by rw [HM.out, HE.out, ← cell_str]; rfl, HB.out⟩
    · have hun := HK1.out.2.1 hn
      have HE := Lib.hid (cellMark_none (data := p.data) hun)
      have hd1 : (u.kind == 100) = false := by simp [hn]
      have hd2' : decide (u.kind = 100) = false := by simp [hn]
      clear HK1 hun
      generalize u.kind = uk at *
      go_wp2
      go_quiet (fail)
      have qs := rShow_any u g4 (w4.drewN nq) (T4.out.keep (bN nq)) (HTab.out.keep (bT nq)) HFu.out hsu
      go_wp2_with fail
      refine qs.mono ?_
      rintro e w5 ⟨rfl, b5⟩
      have HB := Lib.hid ((kN nq).trans (b5.mono (kN nq).size))
      clear qs b5
      go_wp2
      go_ret
      exact ⟨by rw [HM.out, HE.out, ← cell_str]; rfl, HB.out⟩
  · have hob : 0 ≤ o.a ∧ o.a < p.regs := by omega
    have HM := Lib.hid (rmark_at (data := p.data) (names := names) (regs := p.regs) (slots := p.slots) ho (at_ := o.a) (.inr ⟨hkk, rfl⟩))
    have hfu := HFine.out o.a (by omega) (by omega)
    have hsu := hsize o.a
    have hso := show_size hfu hsu
    have HFu := Lib.hid hfu
    have HK1 := Lib.hid (And.intro (isNum_kind hfu) (isNum_none hfu))
    have q1 := fun P => qb o.a ((w.alloc (.cells #[.int .i64 p.args, .int .i64 p.regs, .int .i64 p.data, .int .i64 p.slots, .slice (some ⟨bb, off, none⟩) p.blocks.length cap, .int .i64 b, nv] 87)).alloc (.cells #[.int .i64 o.kind, .int .i64 o.a, .int .i64 o.b, .int .i64 o.c] 77)) P HV.out.rd (by omega) (by omega)
    rw [hkk] at y0 q1 HV HTab
    clear hfu qb
    go_enter Tryz.func115, Tryz.ntmps115
    go_wp2_with fail
    refine q1 _ ?_
    intro g4 w4 t4 b4
    have h4 := HV.out
    have d2 := (h4.view.keep b4).cell (i := 2) rfl
    have k4 := h4.keep.trans (b4.mono h4.keep.size)
    have T4 := Lib.hid t4
    have c0 := t4.kindc
    have c1 := t4.numc
    have bN : ∀ n, Below w4.heap.size w4 (w4.drewN n) := fun n => below_drewN (Below.refl _ _) n
    have kN : ∀ n, Below w.heap.size w (w4.drewN n) := fun n => below_drewN k4 n
    have bT : ∀ n, Below ((w.alloc (.cells #[.int .i64 p.args, .int .i64 p.regs, .int .i64 p.data, .int .i64 p.slots, .slice (some ⟨bb, off, none⟩) p.blocks.length cap, .int .i64 b, nv] 87)).alloc (.cells #[.int .i64 13, .int .i64 o.a, .int .i64 o.b, .int .i64 o.c] 77)).heap.size _ (w4.drewN n) := fun n => below_drewN b4 n
    generalize behindT p.regs p.slots names (bops p.blocks b) k o.a = u at *
    clear q1 b4 t4 x0 y0 y1 y2 y3 HV h4
    by_cases hn : u.kind = 100
    · have hun := HK1.out.1.1 hn
      rw [hn] at c0
      by_cases hin : 0 ≤ u.num ∧ u.num < p.data
      · have HE := Lib.hid (cellMark_in hun hin)
        obtain ⟨hi1, hi2⟩ := hin
        clear HK1 hun hn
        generalize u.num = n at *
        go_wp2
        go_quiet (fail)
        go_wp2
        go_ret
        exact ⟨by rw [HM.out, HE.out]; rfl, kN nq⟩
      · have HE := Lib.hid (cellMark_out hun hin)
        by_cases hi1 : 0 ≤ u.num
        · have hi2 : ¬ (u.num < p.data) := fun q => hin ⟨hi1, q⟩
          have hi3 : p.data ≤ u.num := by omega
          have hd2' : decide (u.num < p.data) = false := by simp; omega
          clear HK1 hun hn hin
          generalize u.num = n at *
          go_wp2
          go_quiet (fail)
          have qs := rShow_any u g4 (w4.drewN nq) (T4.out.keep (bN nq)) (HTab.out.keep (bT nq)) HFu.out hsu
          go_wp2_with fail
          refine qs.mono ?_
          rintro e w5 ⟨rfl, b5⟩
          have HB := Lib.hid ((kN nq).trans (b5.mono (kN nq).size))
          clear qs b5
          go_wp2
          go_ret
          exact ⟨by rw [HM.out, HE.out, ← cell_str]; rfl, HB.out⟩
        · have hi3 : u.num < 0 := by omega
          have hd2' : decide (0 ≤ u.num) = false := by simp; omega
          clear HK1 hun hn hin
          generalize u.num = n at *
          go_wp2
          go_quiet (fail)
          have qs := rShow_any u g4 (w4.drewN nq) (T4.out.keep (bN nq)) (HTab.out.keep (bT nq)) HFu.out hsu
          go_wp2_with fail
          refine qs.mono ?_
          rintro e w5 ⟨rfl, b5⟩
          have HB := Lib.hid ((kN nq).trans (b5.mono (kN nq).size))
          clear qs b5
          go_wp2
          go_ret
          exact ⟨by rw [HM.out, HE.out, ← cell_str]; rfl, HB.out⟩
    · have hun := HK1.out.2.1 hn
      have HE := Lib.hid (cellMark_none (data := p.data) hun)
      have hd1 : (u.kind == 100) = false := by simp [hn]
      have hd2' : decide (u.kind = 100) = false := by simp [hn]
      clear HK1 hun
      generalize u.kind = uk at *
      go_wp2
      go_quiet (fail)
      have qs := rShow_any u g4 (w4.drewN nq) (T4.out.keep (bN nq)) (HTab.out.keep (bT nq)) HFu.out hsu
      go_wp2_with fail
      refine qs.mono ?_
      rintro e w5 ⟨rfl, b5⟩
      have HB := Lib.hid ((kN nq).trans (b5.mono (kN nq).size))
      clear qs b5
      go_wp2
      go_ret
      exact ⟨by rw [HM.out, HE.out, ← cell_str]; rfl, HB.out⟩
  · have HM := Lib.hid (rmark_none (data := p.data) (names := names) (regs := p.regs) (slots := p.slots) ho (by omega))
    have HB := Lib.hid HV.out.keep
    clear qb HV HTab HFine
    rw [hkk] at y0 HB
    go_enter Tryz.func115, Tryz.ntmps115
    go_wp2
    go_ret
    exact ⟨by rw [HM.out]; rfl, HB.out⟩
  · have HM := Lib.hid (rmark_none (data := p.data) (names := names) (regs := p.regs) (slots := p.slots) ho (by omega))
    have HB := Lib.hid HV.out.keep
    clear qb HV HTab HFine
    rw [hkk] at y0 HB
    go_enter Tryz.func115, Tryz.ntmps115
    go_wp2
    go_ret
    exact ⟨by rw [HM.out]; rfl, HB.out⟩

end Go.Proofs.YtblhmeidbjigaaaGreatDoor

/- Well made operations and ends, in the document's answer. -/
set_option linter.unusedSimpArgs false
set_option linter.unusedVariables false
namespace Go.Proofs.YtblhmeidbjigaaaGreatDoor
open Go.RowKit

set_option maxHeartbeats 400000 in
theorem register_any (args regs data slots : Int) (bo : Option Addr) (bn bc : Nat) (n : Int) (w : World) :
    Calls Tryz.prog 138 #[.agg #[.int .i64 args, .int .i64 regs, .int .i64 data, .int .i64 slots, .slice bo bn bc], .int .i64 n] w fun e w' => e = .returned (.bool (below n regs)) ∧ w.alloc (.cells #[.int .i64 args, .int .i64 regs, .int .i64 data, .int .i64 slots, .slice bo bn bc] 33) = w' := by
  by_cases h : 0 ≤ n
  · go_enter Tryz.func138, Tryz.ntmps138
    go_wp2
    go_ret
    exact ⟨by simp [below, h], rfl⟩
  · have hb : below n regs = false := by simp only [below, h, false_and, decide_false]
    go_enter Tryz.func138, Tryz.ntmps138
    go_wp2
    go_ret
    exact ⟨by simp [hb], rfl⟩

set_option maxHeartbeats 400000 in
theorem slot_any (args regs data slots : Int) (bo : Option Addr) (bn bc : Nat) (n : Int) (w : World) :
    Calls Tryz.prog 140 #[.agg #[.int .i64 args, .int .i64 regs, .int .i64 data, .int .i64 slots, .slice bo bn bc], .int .i64 n] w fun e w' => e = .returned (.bool (below n slots)) ∧ w.alloc (.cells #[.int .i64 args, .int .i64 regs, .int .i64 data, .int .i64 slots, .slice bo bn bc] 33) = w' := by
  by_cases h : 0 ≤ n
  · go_enter Tryz.func140, Tryz.ntmps140
    go_wp2
    go_ret
    exact ⟨by simp [below, h], rfl⟩
  · have hb : below n slots = false := by simp only [below, h, false_and, decide_false]
    go_enter Tryz.func140, Tryz.ntmps140
    go_wp2
    go_ret
    exact ⟨by simp [hb], rfl⟩

set_option maxHeartbeats 400000 in
theorem octet_any (n : Int) (w : World) : Calls Tryz.prog 139 #[.int .i64 n] w fun e w' => e = .returned (.bool (below n 256)) ∧ w = w' := by
  by_cases h : 0 ≤ n
  · go_enter Tryz.func139, Tryz.ntmps139
    go_wp2
    go_ret
    refine ⟨?_, rfl⟩
    have : decide (n ≤ 255) = below n 256 := by simp only [below, h, true_and]; exact decide_eq_decide.2 (by omega)
    simp [← this]
  · have hb : below n 256 = false := by simp only [below, h, false_and, decide_false]
    go_enter Tryz.func139, Tryz.ntmps139
    go_wp2
    go_ret
    exact ⟨by simp [hb], rfl⟩

theorem Below.al {B : Nat} {a w : World} {o : Obj} (h : Below B a w) (hB : B ≤ a.heap.size) : Below B a (w.alloc o) := h.alloc (Nat.le_trans hB h.size) o

theorem int_beq_z (c : Int) : (c == 0) = decide (c = 0) := by by_cases h : c = 0 <;> simp [h]

set_option maxRecDepth 100000 in
set_option maxHeartbeats 2000000 in
theorem gOp1 (args regs data slots : Int) (bo : Option Addr) (bn bc : Nat) (a b c : Int) (w : World) :
    Calls Tryz.prog 108 #[.agg #[.int .i64 args, .int .i64 regs, .int .i64 data, .int .i64 slots, .slice bo bn bc], .agg #[.int .i64 1, .int .i64 a, .int .i64 b, .int .i64 c]] w fun e w' => e = .returned (.bool (opGood regs slots ⟨1, a, b, c⟩)) ∧ Below w.heap.size w w' := by
  cases h1 : below a regs
  · go_enter Tryz.func108, Tryz.ntmps108
    go_wp2_with (first | (go_at_call 138; refine (register_any _ _ _ _ _ _ _ _ _).mono ?_; rintro e w' ⟨rfl, rfl⟩) | (go_at_call 140; refine (slot_any _ _ _ _ _ _ _ _ _).mono ?_; rintro e w' ⟨rfl, rfl⟩) | (go_at_call 139; refine (octet_any _ _).mono ?_; rintro e w' ⟨rfl, rfl⟩))
    go_ret
    exact ⟨by simp [opGood, h1], (by (repeat refine Below.al ?_ (Nat.le_refl _)); exact Below.refl _ _)⟩
  cases h2 : below b 256
  · go_enter Tryz.func108, Tryz.ntmps108
    go_wp2_with (first | (go_at_call 138; refine (register_any _ _ _ _ _ _ _ _ _).mono ?_; rintro e w' ⟨rfl, rfl⟩) | (go_at_call 140; refine (slot_any _ _ _ _ _ _ _ _ _).mono ?_; rintro e w' ⟨rfl, rfl⟩) | (go_at_call 139; refine (octet_any _ _).mono ?_; rintro e w' ⟨rfl, rfl⟩))
    go_ret
    exact ⟨by simp [opGood, h1, h2], (by (repeat refine Below.al ?_ (Nat.le_refl _)); exact Below.refl _ _)⟩
  · go_enter Tryz.func108, Tryz.ntmps108
    go_wp2_with (first | (go_at_call 138; refine (register_any _ _ _ _ _ _ _ _ _).mono ?_; rintro e w' ⟨rfl, rfl⟩) | (go_at_call 140; refine (slot_any _ _ _ _ _ _ _ _ _).mono ?_; rintro e w' ⟨rfl, rfl⟩) | (go_at_call 139; refine (octet_any _ _).mono ?_; rintro e w' ⟨rfl, rfl⟩))
    go_ret
    exact ⟨by simp [opGood, h1, h2, int_beq_z], (by (repeat refine Below.al ?_ (Nat.le_refl _)); exact Below.refl _ _)⟩

set_option maxRecDepth 100000 in
set_option maxHeartbeats 2000000 in
theorem gOp2 (args regs data slots : Int) (bo : Option Addr) (bn bc : Nat) (a b c : Int) (w : World) :
    Calls Tryz.prog 108 #[.agg #[.int .i64 args, .int .i64 regs, .int .i64 data, .int .i64 slots, .slice bo bn bc], .agg #[.int .i64 2, .int .i64 a, .int .i64 b, .int .i64 c]] w fun e w' => e = .returned (.bool (opGood regs slots ⟨2, a, b, c⟩)) ∧ Below w.heap.size w w' := by
  cases h1 : below a regs
  · go_enter Tryz.func108, Tryz.ntmps108
    go_wp2_with (first | (go_at_call 138; refine (register_any _ _ _ _ _ _ _ _ _).mono ?_; rintro e w' ⟨rfl, rfl⟩) | (go_at_call 140; refine (slot_any _ _ _ _ _ _ _ _ _).mono ?_; rintro e w' ⟨rfl, rfl⟩) | (go_at_call 139; refine (octet_any _ _).mono ?_; rintro e w' ⟨rfl, rfl⟩))
    go_ret
    exact ⟨by simp [opGood, h1], (by (repeat refine Below.al ?_ (Nat.le_refl _)); exact Below.refl _ _)⟩
  cases h2 : below b regs
  · go_enter Tryz.func108, Tryz.ntmps108
    go_wp2_with (first | (go_at_call 138; refine (register_any _ _ _ _ _ _ _ _ _).mono ?_; rintro e w' ⟨rfl, rfl⟩) | (go_at_call 140; refine (slot_any _ _ _ _ _ _ _ _ _).mono ?_; rintro e w' ⟨rfl, rfl⟩) | (go_at_call 139; refine (octet_any _ _).mono ?_; rintro e w' ⟨rfl, rfl⟩))
    go_ret
    exact ⟨by simp [opGood, h1, h2], (by (repeat refine Below.al ?_ (Nat.le_refl _)); exact Below.refl _ _)⟩
  · go_enter Tryz.func108, Tryz.ntmps108
    go_wp2_with (first | (go_at_call 138; refine (register_any _ _ _ _ _ _ _ _ _).mono ?_; rintro e w' ⟨rfl, rfl⟩) | (go_at_call 140; refine (slot_any _ _ _ _ _ _ _ _ _).mono ?_; rintro e w' ⟨rfl, rfl⟩) | (go_at_call 139; refine (octet_any _ _).mono ?_; rintro e w' ⟨rfl, rfl⟩))
    go_ret
    exact ⟨by simp [opGood, h1, h2, int_beq_z], (by (repeat refine Below.al ?_ (Nat.le_refl _)); exact Below.refl _ _)⟩

set_option maxRecDepth 100000 in
set_option maxHeartbeats 2000000 in
theorem gOp3 (args regs data slots : Int) (bo : Option Addr) (bn bc : Nat) (a b c : Int) (w : World) :
    Calls Tryz.prog 108 #[.agg #[.int .i64 args, .int .i64 regs, .int .i64 data, .int .i64 slots, .slice bo bn bc], .agg #[.int .i64 3, .int .i64 a, .int .i64 b, .int .i64 c]] w fun e w' => e = .returned (.bool (opGood regs slots ⟨3, a, b, c⟩)) ∧ Below w.heap.size w w' := by
  cases h1 : below a regs
  · go_enter Tryz.func108, Tryz.ntmps108
    go_wp2_with (first | (go_at_call 138; refine (register_any _ _ _ _ _ _ _ _ _).mono ?_; rintro e w' ⟨rfl, rfl⟩) | (go_at_call 140; refine (slot_any _ _ _ _ _ _ _ _ _).mono ?_; rintro e w' ⟨rfl, rfl⟩) | (go_at_call 139; refine (octet_any _ _).mono ?_; rintro e w' ⟨rfl, rfl⟩))
    go_ret
    exact ⟨by simp [opGood, h1], (by (repeat refine Below.al ?_ (Nat.le_refl _)); exact Below.refl _ _)⟩
  cases h2 : below b regs
  · go_enter Tryz.func108, Tryz.ntmps108
    go_wp2_with (first | (go_at_call 138; refine (register_any _ _ _ _ _ _ _ _ _).mono ?_; rintro e w' ⟨rfl, rfl⟩) | (go_at_call 140; refine (slot_any _ _ _ _ _ _ _ _ _).mono ?_; rintro e w' ⟨rfl, rfl⟩) | (go_at_call 139; refine (octet_any _ _).mono ?_; rintro e w' ⟨rfl, rfl⟩))
    go_ret
    exact ⟨by simp [opGood, h1, h2], (by (repeat refine Below.al ?_ (Nat.le_refl _)); exact Below.refl _ _)⟩
  · go_enter Tryz.func108, Tryz.ntmps108
    go_wp2_with (first | (go_at_call 138; refine (register_any _ _ _ _ _ _ _ _ _).mono ?_; rintro e w' ⟨rfl, rfl⟩) | (go_at_call 140; refine (slot_any _ _ _ _ _ _ _ _ _).mono ?_; rintro e w' ⟨rfl, rfl⟩) | (go_at_call 139; refine (octet_any _ _).mono ?_; rintro e w' ⟨rfl, rfl⟩))
    go_ret
    exact ⟨by simp [opGood, h1, h2, int_beq_z], (by (repeat refine Below.al ?_ (Nat.le_refl _)); exact Below.refl _ _)⟩

set_option maxRecDepth 100000 in
set_option maxHeartbeats 2000000 in
theorem gOp4 (args regs data slots : Int) (bo : Option Addr) (bn bc : Nat) (a b c : Int) (w : World) :
    Calls Tryz.prog 108 #[.agg #[.int .i64 args, .int .i64 regs, .int .i64 data, .int .i64 slots, .slice bo bn bc], .agg #[.int .i64 4, .int .i64 a, .int .i64 b, .int .i64 c]] w fun e w' => e = .returned (.bool (opGood regs slots ⟨4, a, b, c⟩)) ∧ Below w.heap.size w w' := by
  cases h1 : below a regs
  · go_enter Tryz.func108, Tryz.ntmps108
    go_wp2_with (first | (go_at_call 138; refine (register_any _ _ _ _ _ _ _ _ _).mono ?_; rintro e w' ⟨rfl, rfl⟩) | (go_at_call 140; refine (slot_any _ _ _ _ _ _ _ _ _).mono ?_; rintro e w' ⟨rfl, rfl⟩) | (go_at_call 139; refine (octet_any _ _).mono ?_; rintro e w' ⟨rfl, rfl⟩))
    go_ret
    exact ⟨by simp [opGood, h1], (by (repeat refine Below.al ?_ (Nat.le_refl _)); exact Below.refl _ _)⟩
  cases h2 : below b regs
  · go_enter Tryz.func108, Tryz.ntmps108
    go_wp2_with (first | (go_at_call 138; refine (register_any _ _ _ _ _ _ _ _ _).mono ?_; rintro e w' ⟨rfl, rfl⟩) | (go_at_call 140; refine (slot_any _ _ _ _ _ _ _ _ _).mono ?_; rintro e w' ⟨rfl, rfl⟩) | (go_at_call 139; refine (octet_any _ _).mono ?_; rintro e w' ⟨rfl, rfl⟩))
    go_ret
    exact ⟨by simp [opGood, h1, h2], (by (repeat refine Below.al ?_ (Nat.le_refl _)); exact Below.refl _ _)⟩
  · go_enter Tryz.func108, Tryz.ntmps108
    go_wp2_with (first | (go_at_call 138; refine (register_any _ _ _ _ _ _ _ _ _).mono ?_; rintro e w' ⟨rfl, rfl⟩) | (go_at_call 140; refine (slot_any _ _ _ _ _ _ _ _ _).mono ?_; rintro e w' ⟨rfl, rfl⟩) | (go_at_call 139; refine (octet_any _ _).mono ?_; rintro e w' ⟨rfl, rfl⟩))
    go_ret
    exact ⟨by simp [opGood, h1, h2, int_beq_z], (by (repeat refine Below.al ?_ (Nat.le_refl _)); exact Below.refl _ _)⟩

set_option maxRecDepth 100000 in
set_option maxHeartbeats 2000000 in
theorem gOp5 (args regs data slots : Int) (bo : Option Addr) (bn bc : Nat) (a b c : Int) (w : World) :
    Calls Tryz.prog 108 #[.agg #[.int .i64 args, .int .i64 regs, .int .i64 data, .int .i64 slots, .slice bo bn bc], .agg #[.int .i64 5, .int .i64 a, .int .i64 b, .int .i64 c]] w fun e w' => e = .returned (.bool (opGood regs slots ⟨5, a, b, c⟩)) ∧ Below w.heap.size w w' := by
  cases h1 : below a regs
  · go_enter Tryz.func108, Tryz.ntmps108
    go_wp2_with (first | (go_at_call 138; refine (register_any _ _ _ _ _ _ _ _ _).mono ?_; rintro e w' ⟨rfl, rfl⟩) | (go_at_call 140; refine (slot_any _ _ _ _ _ _ _ _ _).mono ?_; rintro e w' ⟨rfl, rfl⟩) | (go_at_call 139; refine (octet_any _ _).mono ?_; rintro e w' ⟨rfl, rfl⟩))
    go_ret
    exact ⟨by simp [opGood, h1], (by (repeat refine Below.al ?_ (Nat.le_refl _)); exact Below.refl _ _)⟩
  cases h2 : below b regs
  · go_enter Tryz.func108, Tryz.ntmps108
    go_wp2_with (first | (go_at_call 138; refine (register_any _ _ _ _ _ _ _ _ _).mono ?_; rintro e w' ⟨rfl, rfl⟩) | (go_at_call 140; refine (slot_any _ _ _ _ _ _ _ _ _).mono ?_; rintro e w' ⟨rfl, rfl⟩) | (go_at_call 139; refine (octet_any _ _).mono ?_; rintro e w' ⟨rfl, rfl⟩))
    go_ret
    exact ⟨by simp [opGood, h1, h2], (by (repeat refine Below.al ?_ (Nat.le_refl _)); exact Below.refl _ _)⟩
  · go_enter Tryz.func108, Tryz.ntmps108
    go_wp2_with (first | (go_at_call 138; refine (register_any _ _ _ _ _ _ _ _ _).mono ?_; rintro e w' ⟨rfl, rfl⟩) | (go_at_call 140; refine (slot_any _ _ _ _ _ _ _ _ _).mono ?_; rintro e w' ⟨rfl, rfl⟩) | (go_at_call 139; refine (octet_any _ _).mono ?_; rintro e w' ⟨rfl, rfl⟩))
    go_ret
    exact ⟨by simp [opGood, h1, h2, int_beq_z], (by (repeat refine Below.al ?_ (Nat.le_refl _)); exact Below.refl _ _)⟩

set_option maxRecDepth 100000 in
set_option maxHeartbeats 2000000 in
theorem gOp6 (args regs data slots : Int) (bo : Option Addr) (bn bc : Nat) (a b c : Int) (w : World) :
    Calls Tryz.prog 108 #[.agg #[.int .i64 args, .int .i64 regs, .int .i64 data, .int .i64 slots, .slice bo bn bc], .agg #[.int .i64 6, .int .i64 a, .int .i64 b, .int .i64 c]] w fun e w' => e = .returned (.bool (opGood regs slots ⟨6, a, b, c⟩)) ∧ Below w.heap.size w w' := by
  cases h1 : below a regs
  · go_enter Tryz.func108, Tryz.ntmps108
    go_wp2_with (first | (go_at_call 138; refine (register_any _ _ _ _ _ _ _ _ _).mono ?_; rintro e w' ⟨rfl, rfl⟩) | (go_at_call 140; refine (slot_any _ _ _ _ _ _ _ _ _).mono ?_; rintro e w' ⟨rfl, rfl⟩) | (go_at_call 139; refine (octet_any _ _).mono ?_; rintro e w' ⟨rfl, rfl⟩))
    go_ret
    exact ⟨by simp [opGood, h1], (by (repeat refine Below.al ?_ (Nat.le_refl _)); exact Below.refl _ _)⟩
  cases h2 : below b regs
  · go_enter Tryz.func108, Tryz.ntmps108
    go_wp2_with (first | (go_at_call 138; refine (register_any _ _ _ _ _ _ _ _ _).mono ?_; rintro e w' ⟨rfl, rfl⟩) | (go_at_call 140; refine (slot_any _ _ _ _ _ _ _ _ _).mono ?_; rintro e w' ⟨rfl, rfl⟩) | (go_at_call 139; refine (octet_any _ _).mono ?_; rintro e w' ⟨rfl, rfl⟩))
    go_ret
    exact ⟨by simp [opGood, h1, h2], (by (repeat refine Below.al ?_ (Nat.le_refl _)); exact Below.refl _ _)⟩
  · go_enter Tryz.func108, Tryz.ntmps108
    go_wp2_with (first | (go_at_call 138; refine (register_any _ _ _ _ _ _ _ _ _).mono ?_; rintro e w' ⟨rfl, rfl⟩) | (go_at_call 140; refine (slot_any _ _ _ _ _ _ _ _ _).mono ?_; rintro e w' ⟨rfl, rfl⟩) | (go_at_call 139; refine (octet_any _ _).mono ?_; rintro e w' ⟨rfl, rfl⟩))
    go_ret
    exact ⟨by simp [opGood, h1, h2, int_beq_z], (by (repeat refine Below.al ?_ (Nat.le_refl _)); exact Below.refl _ _)⟩

set_option maxRecDepth 100000 in
set_option maxHeartbeats 2000000 in
theorem gOp7 (args regs data slots : Int) (bo : Option Addr) (bn bc : Nat) (a b c : Int) (w : World) :
    Calls Tryz.prog 108 #[.agg #[.int .i64 args, .int .i64 regs, .int .i64 data, .int .i64 slots, .slice bo bn bc], .agg #[.int .i64 7, .int .i64 a, .int .i64 b, .int .i64 c]] w fun e w' => e = .returned (.bool (opGood regs slots ⟨7, a, b, c⟩)) ∧ Below w.heap.size w w' := by
  cases h1 : below a regs
  · go_enter Tryz.func108, Tryz.ntmps108
    go_wp2_with (first | (go_at_call 138; refine (register_any _ _ _ _ _ _ _ _ _).mono ?_; rintro e w' ⟨rfl, rfl⟩) | (go_at_call 140; refine (slot_any _ _ _ _ _ _ _ _ _).mono ?_; rintro e w' ⟨rfl, rfl⟩) | (go_at_call 139; refine (octet_any _ _).mono ?_; rintro e w' ⟨rfl, rfl⟩))
    go_ret
    exact ⟨by simp [opGood, h1], (by (repeat refine Below.al ?_ (Nat.le_refl _)); exact Below.refl _ _)⟩
  cases h2 : below b regs
  · go_enter Tryz.func108, Tryz.ntmps108
    go_wp2_with (first | (go_at_call 138; refine (register_any _ _ _ _ _ _ _ _ _).mono ?_; rintro e w' ⟨rfl, rfl⟩) | (go_at_call 140; refine (slot_any _ _ _ _ _ _ _ _ _).mono ?_; rintro e w' ⟨rfl, rfl⟩) | (go_at_call 139; refine (octet_any _ _).mono ?_; rintro e w' ⟨rfl, rfl⟩))
    go_ret
    exact ⟨by simp [opGood, h1, h2], (by (repeat refine Below.al ?_ (Nat.le_refl _)); exact Below.refl _ _)⟩
  · go_enter Tryz.func108, Tryz.ntmps108
    go_wp2_with (first | (go_at_call 138; refine (register_any _ _ _ _ _ _ _ _ _).mono ?_; rintro e w' ⟨rfl, rfl⟩) | (go_at_call 140; refine (slot_any _ _ _ _ _ _ _ _ _).mono ?_; rintro e w' ⟨rfl, rfl⟩) | (go_at_call 139; refine (octet_any _ _).mono ?_; rintro e w' ⟨rfl, rfl⟩))
    go_ret
    exact ⟨by simp [opGood, h1, h2, int_beq_z], (by (repeat refine Below.al ?_ (Nat.le_refl _)); exact Below.refl _ _)⟩

set_option maxRecDepth 100000 in
set_option maxHeartbeats 2000000 in
theorem gOp8 (args regs data slots : Int) (bo : Option Addr) (bn bc : Nat) (a b c : Int) (w : World) :
    Calls Tryz.prog 108 #[.agg #[.int .i64 args, .int .i64 regs, .int .i64 data, .int .i64 slots, .slice bo bn bc], .agg #[.int .i64 8, .int .i64 a, .int .i64 b, .int .i64 c]] w fun e w' => e = .returned (.bool (opGood regs slots ⟨8, a, b, c⟩)) ∧ Below w.heap.size w w' := by
  cases h1 : below a regs
  · go_enter Tryz.func108, Tryz.ntmps108
    go_wp2_with (first | (go_at_call 138; refine (register_any _ _ _ _ _ _ _ _ _).mono ?_; rintro e w' ⟨rfl, rfl⟩) | (go_at_call 140; refine (slot_any _ _ _ _ _ _ _ _ _).mono ?_; rintro e w' ⟨rfl, rfl⟩) | (go_at_call 139; refine (octet_any _ _).mono ?_; rintro e w' ⟨rfl, rfl⟩))
    go_ret
    exact ⟨by simp [opGood, h1], (by (repeat refine Below.al ?_ (Nat.le_refl _)); exact Below.refl _ _)⟩
  cases h2 : below b regs
  · go_enter Tryz.func108, Tryz.ntmps108
    go_wp2_with (first | (go_at_call 138; refine (register_any _ _ _ _ _ _ _ _ _).mono ?_; rintro e w' ⟨rfl, rfl⟩) | (go_at_call 140; refine (slot_any _ _ _ _ _ _ _ _ _).mono ?_; rintro e w' ⟨rfl, rfl⟩) | (go_at_call 139; refine (octet_any _ _).mono ?_; rintro e w' ⟨rfl, rfl⟩))
    go_ret
    exact ⟨by simp [opGood, h1, h2], (by (repeat refine Below.al ?_ (Nat.le_refl _)); exact Below.refl _ _)⟩
  · go_enter Tryz.func108, Tryz.ntmps108
    go_wp2_with (first | (go_at_call 138; refine (register_any _ _ _ _ _ _ _ _ _).mono ?_; rintro e w' ⟨rfl, rfl⟩) | (go_at_call 140; refine (slot_any _ _ _ _ _ _ _ _ _).mono ?_; rintro e w' ⟨rfl, rfl⟩) | (go_at_call 139; refine (octet_any _ _).mono ?_; rintro e w' ⟨rfl, rfl⟩))
    go_ret
    exact ⟨by simp [opGood, h1, h2, int_beq_z], (by (repeat refine Below.al ?_ (Nat.le_refl _)); exact Below.refl _ _)⟩

end Go.Proofs.YtblhmeidbjigaaaGreatDoor

/- Well made operations, in the document's answer. -/
set_option linter.unusedSimpArgs false
set_option linter.unusedVariables false
namespace Go.Proofs.YtblhmeidbjigaaaGreatDoor
open Go.RowKit

set_option maxRecDepth 100000 in
set_option maxHeartbeats 2000000 in
theorem gOp9 (args regs data slots : Int) (bo : Option Addr) (bn bc : Nat) (a b c : Int) (w : World) :
    Calls Tryz.prog 108 #[.agg #[.int .i64 args, .int .i64 regs, .int .i64 data, .int .i64 slots, .slice bo bn bc], .agg #[.int .i64 9, .int .i64 a, .int .i64 b, .int .i64 c]] w fun e w' => e = .returned (.bool (opGood regs slots ⟨9, a, b, c⟩)) ∧ Below w.heap.size w w' := by
  cases h1 : below a regs
  · go_enter Tryz.func108, Tryz.ntmps108
    go_wp2_with (first | (go_at_call 138; refine (register_any _ _ _ _ _ _ _ _ _).mono ?_; rintro e w' ⟨rfl, rfl⟩) | (go_at_call 140; refine (slot_any _ _ _ _ _ _ _ _ _).mono ?_; rintro e w' ⟨rfl, rfl⟩) | (go_at_call 139; refine (octet_any _ _).mono ?_; rintro e w' ⟨rfl, rfl⟩))
    go_ret
    exact ⟨by simp [opGood, h1], (by (repeat refine Below.al ?_ (Nat.le_refl _)); exact Below.refl _ _)⟩
  cases h2 : below b regs
  · go_enter Tryz.func108, Tryz.ntmps108
    go_wp2_with (first | (go_at_call 138; refine (register_any _ _ _ _ _ _ _ _ _).mono ?_; rintro e w' ⟨rfl, rfl⟩) | (go_at_call 140; refine (slot_any _ _ _ _ _ _ _ _ _).mono ?_; rintro e w' ⟨rfl, rfl⟩) | (go_at_call 139; refine (octet_any _ _).mono ?_; rintro e w' ⟨rfl, rfl⟩))
    go_ret
    exact ⟨by simp [opGood, h1, h2], (by (repeat refine Below.al ?_ (Nat.le_refl _)); exact Below.refl _ _)⟩
  · go_enter Tryz.func108, Tryz.ntmps108
    go_wp2_with (first | (go_at_call 138; refine (register_any _ _ _ _ _ _ _ _ _).mono ?_; rintro e w' ⟨rfl, rfl⟩) | (go_at_call 140; refine (slot_any _ _ _ _ _ _ _ _ _).mono ?_; rintro e w' ⟨rfl, rfl⟩) | (go_at_call 139; refine (octet_any _ _).mono ?_; rintro e w' ⟨rfl, rfl⟩))
    go_ret
    exact ⟨by simp [opGood, h1, h2, int_beq_z], (by (repeat refine Below.al ?_ (Nat.le_refl _)); exact Below.refl _ _)⟩

set_option maxRecDepth 100000 in
set_option maxHeartbeats 2000000 in
theorem gOp10 (args regs data slots : Int) (bo : Option Addr) (bn bc : Nat) (a b c : Int) (w : World) :
    Calls Tryz.prog 108 #[.agg #[.int .i64 args, .int .i64 regs, .int .i64 data, .int .i64 slots, .slice bo bn bc], .agg #[.int .i64 10, .int .i64 a, .int .i64 b, .int .i64 c]] w fun e w' => e = .returned (.bool (opGood regs slots ⟨10, a, b, c⟩)) ∧ Below w.heap.size w w' := by
  cases h1 : below a regs
  · go_enter Tryz.func108, Tryz.ntmps108
    go_wp2_with (first | (go_at_call 138; refine (register_any _ _ _ _ _ _ _ _ _).mono ?_; rintro e w' ⟨rfl, rfl⟩) | (go_at_call 140; refine (slot_any _ _ _ _ _ _ _ _ _).mono ?_; rintro e w' ⟨rfl, rfl⟩) | (go_at_call 139; refine (octet_any _ _).mono ?_; rintro e w' ⟨rfl, rfl⟩))
    go_ret
    exact ⟨by simp [opGood, h1], (by (repeat refine Below.al ?_ (Nat.le_refl _)); exact Below.refl _ _)⟩
  cases h2 : below b regs
  · go_enter Tryz.func108, Tryz.ntmps108
    go_wp2_with (first | (go_at_call 138; refine (register_any _ _ _ _ _ _ _ _ _).mono ?_; rintro e w' ⟨rfl, rfl⟩) | (go_at_call 140; refine (slot_any _ _ _ _ _ _ _ _ _).mono ?_; rintro e w' ⟨rfl, rfl⟩) | (go_at_call 139; refine (octet_any _ _).mono ?_; rintro e w' ⟨rfl, rfl⟩))
    go_ret
    exact ⟨by simp [opGood, h1, h2], (by (repeat refine Below.al ?_ (Nat.le_refl _)); exact Below.refl _ _)⟩
  · go_enter Tryz.func108, Tryz.ntmps108
    go_wp2_with (first | (go_at_call 138; refine (register_any _ _ _ _ _ _ _ _ _).mono ?_; rintro e w' ⟨rfl, rfl⟩) | (go_at_call 140; refine (slot_any _ _ _ _ _ _ _ _ _).mono ?_; rintro e w' ⟨rfl, rfl⟩) | (go_at_call 139; refine (octet_any _ _).mono ?_; rintro e w' ⟨rfl, rfl⟩))
    go_ret
    exact ⟨by simp [opGood, h1, h2, int_beq_z], (by (repeat refine Below.al ?_ (Nat.le_refl _)); exact Below.refl _ _)⟩

set_option maxRecDepth 100000 in
set_option maxHeartbeats 2000000 in
theorem gOp11 (args regs data slots : Int) (bo : Option Addr) (bn bc : Nat) (a b c : Int) (w : World) :
    Calls Tryz.prog 108 #[.agg #[.int .i64 args, .int .i64 regs, .int .i64 data, .int .i64 slots, .slice bo bn bc], .agg #[.int .i64 11, .int .i64 a, .int .i64 b, .int .i64 c]] w fun e w' => e = .returned (.bool (opGood regs slots ⟨11, a, b, c⟩)) ∧ Below w.heap.size w w' := by
  cases h1 : below a regs
  · go_enter Tryz.func108, Tryz.ntmps108
    go_wp2_with (first | (go_at_call 138; refine (register_any _ _ _ _ _ _ _ _ _).mono ?_; rintro e w' ⟨rfl, rfl⟩) | (go_at_call 140; refine (slot_any _ _ _ _ _ _ _ _ _).mono ?_; rintro e w' ⟨rfl, rfl⟩) | (go_at_call 139; refine (octet_any _ _).mono ?_; rintro e w' ⟨rfl, rfl⟩))
    go_ret
    exact ⟨by simp [opGood, h1], (by (repeat refine Below.al ?_ (Nat.le_refl _)); exact Below.refl _ _)⟩
  cases h2 : below b regs
  · go_enter Tryz.func108, Tryz.ntmps108
    go_wp2_with (first | (go_at_call 138; refine (register_any _ _ _ _ _ _ _ _ _).mono ?_; rintro e w' ⟨rfl, rfl⟩) | (go_at_call 140; refine (slot_any _ _ _ _ _ _ _ _ _).mono ?_; rintro e w' ⟨rfl, rfl⟩) | (go_at_call 139; refine (octet_any _ _).mono ?_; rintro e w' ⟨rfl, rfl⟩))
    go_ret
    exact ⟨by simp [opGood, h1, h2], (by (repeat refine Below.al ?_ (Nat.le_refl _)); exact Below.refl _ _)⟩
  · go_enter Tryz.func108, Tryz.ntmps108
    go_wp2_with (first | (go_at_call 138; refine (register_any _ _ _ _ _ _ _ _ _).mono ?_; rintro e w' ⟨rfl, rfl⟩) | (go_at_call 140; refine (slot_any _ _ _ _ _ _ _ _ _).mono ?_; rintro e w' ⟨rfl, rfl⟩) | (go_at_call 139; refine (octet_any _ _).mono ?_; rintro e w' ⟨rfl, rfl⟩))
    go_ret
    exact ⟨by simp [opGood, h1, h2, int_beq_z], (by (repeat refine Below.al ?_ (Nat.le_refl _)); exact Below.refl _ _)⟩

set_option maxRecDepth 100000 in
set_option maxHeartbeats 2000000 in
theorem gOp12 (args regs data slots : Int) (bo : Option Addr) (bn bc : Nat) (a b c : Int) (w : World) :
    Calls Tryz.prog 108 #[.agg #[.int .i64 args, .int .i64 regs, .int .i64 data, .int .i64 slots, .slice bo bn bc], .agg #[.int .i64 12, .int .i64 a, .int .i64 b, .int .i64 c]] w fun e w' => e = .returned (.bool (opGood regs slots ⟨12, a, b, c⟩)) ∧ Below w.heap.size w w' := by
  cases h1 : below a regs
  · go_enter Tryz.func108, Tryz.ntmps108
    go_wp2_with (first | (go_at_call 138; refine (register_any _ _ _ _ _ _ _ _ _).mono ?_; rintro e w' ⟨rfl, rfl⟩) | (go_at_call 140; refine (slot_any _ _ _ _ _ _ _ _ _).mono ?_; rintro e w' ⟨rfl, rfl⟩) | (go_at_call 139; refine (octet_any _ _).mono ?_; rintro e w' ⟨rfl, rfl⟩))
    go_ret
    exact ⟨by simp [opGood, h1], (by (repeat refine Below.al ?_ (Nat.le_refl _)); exact Below.refl _ _)⟩
  cases h2 : below b regs
  · go_enter Tryz.func108, Tryz.ntmps108
    go_wp2_with (first | (go_at_call 138; refine (register_any _ _ _ _ _ _ _ _ _).mono ?_; rintro e w' ⟨rfl, rfl⟩) | (go_at_call 140; refine (slot_any _ _ _ _ _ _ _ _ _).mono ?_; rintro e w' ⟨rfl, rfl⟩) | (go_at_call 139; refine (octet_any _ _).mono ?_; rintro e w' ⟨rfl, rfl⟩))
    go_ret
    exact ⟨by simp [opGood, h1, h2], (by (repeat refine Below.al ?_ (Nat.le_refl _)); exact Below.refl _ _)⟩
  · go_enter Tryz.func108, Tryz.ntmps108
    go_wp2_with (first | (go_at_call 138; refine (register_any _ _ _ _ _ _ _ _ _).mono ?_; rintro e w' ⟨rfl, rfl⟩) | (go_at_call 140; refine (slot_any _ _ _ _ _ _ _ _ _).mono ?_; rintro e w' ⟨rfl, rfl⟩) | (go_at_call 139; refine (octet_any _ _).mono ?_; rintro e w' ⟨rfl, rfl⟩))
    go_ret
    exact ⟨by simp [opGood, h1, h2, int_beq_z], (by (repeat refine Below.al ?_ (Nat.le_refl _)); exact Below.refl _ _)⟩

set_option maxRecDepth 100000 in
set_option maxHeartbeats 2000000 in
theorem gOp13 (args regs data slots : Int) (bo : Option Addr) (bn bc : Nat) (a b c : Int) (w : World) :
    Calls Tryz.prog 108 #[.agg #[.int .i64 args, .int .i64 regs, .int .i64 data, .int .i64 slots, .slice bo bn bc], .agg #[.int .i64 13, .int .i64 a, .int .i64 b, .int .i64 c]] w fun e w' => e = .returned (.bool (opGood regs slots ⟨13, a, b, c⟩)) ∧ Below w.heap.size w w' := by
  cases h1 : below a regs
  · go_enter Tryz.func108, Tryz.ntmps108
    go_wp2_with (first | (go_at_call 138; refine (register_any _ _ _ _ _ _ _ _ _).mono ?_; rintro e w' ⟨rfl, rfl⟩) | (go_at_call 140; refine (slot_any _ _ _ _ _ _ _ _ _).mono ?_; rintro e w' ⟨rfl, rfl⟩) | (go_at_call 139; refine (octet_any _ _).mono ?_; rintro e w' ⟨rfl, rfl⟩))
    go_ret
    exact ⟨by simp [opGood, h1], (by (repeat refine Below.al ?_ (Nat.le_refl _)); exact Below.refl _ _)⟩
  cases h2 : below b regs
  · go_enter Tryz.func108, Tryz.ntmps108
    go_wp2_with (first | (go_at_call 138; refine (register_any _ _ _ _ _ _ _ _ _).mono ?_; rintro e w' ⟨rfl, rfl⟩) | (go_at_call 140; refine (slot_any _ _ _ _ _ _ _ _ _).mono ?_; rintro e w' ⟨rfl, rfl⟩) | (go_at_call 139; refine (octet_any _ _).mono ?_; rintro e w' ⟨rfl, rfl⟩))
    go_ret
    exact ⟨by simp [opGood, h1, h2], (by (repeat refine Below.al ?_ (Nat.le_refl _)); exact Below.refl _ _)⟩
  · go_enter Tryz.func108, Tryz.ntmps108
    go_wp2_with (first | (go_at_call 138; refine (register_any _ _ _ _ _ _ _ _ _).mono ?_; rintro e w' ⟨rfl, rfl⟩) | (go_at_call 140; refine (slot_any _ _ _ _ _ _ _ _ _).mono ?_; rintro e w' ⟨rfl, rfl⟩) | (go_at_call 139; refine (octet_any _ _).mono ?_; rintro e w' ⟨rfl, rfl⟩))
    go_ret
    exact ⟨by simp [opGood, h1, h2, int_beq_z], (by (repeat refine Below.al ?_ (Nat.le_refl _)); exact Below.refl _ _)⟩

set_option maxRecDepth 100000 in
set_option maxHeartbeats 2000000 in
theorem gOp14 (args regs data slots : Int) (bo : Option Addr) (bn bc : Nat) (a b c : Int) (w : World) :
    Calls Tryz.prog 108 #[.agg #[.int .i64 args, .int .i64 regs, .int .i64 data, .int .i64 slots, .slice bo bn bc], .agg #[.int .i64 14, .int .i64 a, .int .i64 b, .int .i64 c]] w fun e w' => e = .returned (.bool (opGood regs slots ⟨14, a, b, c⟩)) ∧ Below w.heap.size w w' := by
  cases h1 : below a slots
  · go_enter Tryz.func108, Tryz.ntmps108
    go_wp2_with (first | (go_at_call 138; refine (register_any _ _ _ _ _ _ _ _ _).mono ?_; rintro e w' ⟨rfl, rfl⟩) | (go_at_call 140; refine (slot_any _ _ _ _ _ _ _ _ _).mono ?_; rintro e w' ⟨rfl, rfl⟩) | (go_at_call 139; refine (octet_any _ _).mono ?_; rintro e w' ⟨rfl, rfl⟩))
    go_ret
    exact ⟨by simp [opGood, h1], (by (repeat refine Below.al ?_ (Nat.le_refl _)); exact Below.refl _ _)⟩
  cases h2 : below b regs
  · go_enter Tryz.func108, Tryz.ntmps108
    go_wp2_with (first | (go_at_call 138; refine (register_any _ _ _ _ _ _ _ _ _).mono ?_; rintro e w' ⟨rfl, rfl⟩) | (go_at_call 140; refine (slot_any _ _ _ _ _ _ _ _ _).mono ?_; rintro e w' ⟨rfl, rfl⟩) | (go_at_call 139; refine (octet_any _ _).mono ?_; rintro e w' ⟨rfl, rfl⟩))
    go_ret
    exact ⟨by simp [opGood, h1, h2], (by (repeat refine Below.al ?_ (Nat.le_refl _)); exact Below.refl _ _)⟩
  · go_enter Tryz.func108, Tryz.ntmps108
    go_wp2_with (first | (go_at_call 138; refine (register_any _ _ _ _ _ _ _ _ _).mono ?_; rintro e w' ⟨rfl, rfl⟩) | (go_at_call 140; refine (slot_any _ _ _ _ _ _ _ _ _).mono ?_; rintro e w' ⟨rfl, rfl⟩) | (go_at_call 139; refine (octet_any _ _).mono ?_; rintro e w' ⟨rfl, rfl⟩))
    go_ret
    exact ⟨by simp [opGood, h1, h2, int_beq_z], (by (repeat refine Below.al ?_ (Nat.le_refl _)); exact Below.refl _ _)⟩

set_option maxRecDepth 100000 in
set_option maxHeartbeats 2000000 in
theorem gOp15 (args regs data slots : Int) (bo : Option Addr) (bn bc : Nat) (a b c : Int) (w : World) :
    Calls Tryz.prog 108 #[.agg #[.int .i64 args, .int .i64 regs, .int .i64 data, .int .i64 slots, .slice bo bn bc], .agg #[.int .i64 15, .int .i64 a, .int .i64 b, .int .i64 c]] w fun e w' => e = .returned (.bool (opGood regs slots ⟨15, a, b, c⟩)) ∧ Below w.heap.size w w' := by
  cases h1 : below a regs
  · go_enter Tryz.func108, Tryz.ntmps108
    go_wp2_with (first | (go_at_call 138; refine (register_any _ _ _ _ _ _ _ _ _).mono ?_; rintro e w' ⟨rfl, rfl⟩) | (go_at_call 140; refine (slot_any _ _ _ _ _ _ _ _ _).mono ?_; rintro e w' ⟨rfl, rfl⟩) | (go_at_call 139; refine (octet_any _ _).mono ?_; rintro e w' ⟨rfl, rfl⟩))
    go_ret
    exact ⟨by simp [opGood, h1], (by (repeat refine Below.al ?_ (Nat.le_refl _)); exact Below.refl _ _)⟩
  cases h2 : below b slots
  · go_enter Tryz.func108, Tryz.ntmps108
    go_wp2_with (first | (go_at_call 138; refine (register_any _ _ _ _ _ _ _ _ _).mono ?_; rintro e w' ⟨rfl, rfl⟩) | (go_at_call 140; refine (slot_any _ _ _ _ _ _ _ _ _).mono ?_; rintro e w' ⟨rfl, rfl⟩) | (go_at_call 139; refine (octet_any _ _).mono ?_; rintro e w' ⟨rfl, rfl⟩))
    go_ret
    exact ⟨by simp [opGood, h1, h2], (by (repeat refine Below.al ?_ (Nat.le_refl _)); exact Below.refl _ _)⟩
  · go_enter Tryz.func108, Tryz.ntmps108
    go_wp2_with (first | (go_at_call 138; refine (register_any _ _ _ _ _ _ _ _ _).mono ?_; rintro e w' ⟨rfl, rfl⟩) | (go_at_call 140; refine (slot_any _ _ _ _ _ _ _ _ _).mono ?_; rintro e w' ⟨rfl, rfl⟩) | (go_at_call 139; refine (octet_any _ _).mono ?_; rintro e w' ⟨rfl, rfl⟩))
    go_ret
    exact ⟨by simp [opGood, h1, h2, int_beq_z], (by (repeat refine Below.al ?_ (Nat.le_refl _)); exact Below.refl _ _)⟩

set_option maxRecDepth 100000 in
set_option maxHeartbeats 2000000 in
theorem gOpNo (args regs data slots : Int) (bo : Option Addr) (bn bc : Nat) (k a b c : Int) (w : World) (hk : k < 1 ∨ 15 < k) :
    Calls Tryz.prog 108 #[.agg #[.int .i64 args, .int .i64 regs, .int .i64 data, .int .i64 slots, .slice bo bn bc], .agg #[.int .i64 k, .int .i64 a, .int .i64 b, .int .i64 c]] w fun e w' => e = .returned (.bool (opGood regs slots ⟨k, a, b, c⟩)) ∧ Below w.heap.size w w' := by
  have hg : opGood regs slots ⟨k, a, b, c⟩ = false := by
    unfold opGood
    rw [if_neg (by simp only []; omega), if_neg (by simp only []; omega), if_neg (by simp only []; omega), if_neg (by simp only []; omega), if_neg (by simp only []; omega)]
  have n1 : (k == 1) = false := by rw [beq_eq_false_iff_ne]; omega
  have n2 : (k == 2) = false := by rw [beq_eq_false_iff_ne]; omega
  have n12 : (k == 12) = false := by rw [beq_eq_false_iff_ne]; omega
  have n13 : (k == 13) = false := by rw [beq_eq_false_iff_ne]; omega
  have n14 : (k == 14) = false := by rw [beq_eq_false_iff_ne]; omega
  have n15 : (k == 15) = false := by rw [beq_eq_false_iff_ne]; omega
  rcases hk with hk | hk
  · have m1 : ¬ (3 ≤ k) := by omega
    go_enter Tryz.func108, Tryz.ntmps108
    go_wp2_with (first | (go_at_call 138; refine (register_any _ _ _ _ _ _ _ _ _).mono ?_; rintro e w' ⟨rfl, rfl⟩) | (go_at_call 140; refine (slot_any _ _ _ _ _ _ _ _ _).mono ?_; rintro e w' ⟨rfl, rfl⟩) | (go_at_call 139; refine (octet_any _ _).mono ?_; rintro e w' ⟨rfl, rfl⟩))
    go_ret
    exact ⟨by simp [hg], (by (repeat refine Below.al ?_ (Nat.le_refl _)); exact Below.refl _ _)⟩
  · have m1 : 3 ≤ k := by omega
    have m2 : ¬ (k ≤ 11) := by omega
    go_enter Tryz.func108, Tryz.ntmps108
    go_wp2_with (first | (go_at_call 138; refine (register_any _ _ _ _ _ _ _ _ _).mono ?_; rintro e w' ⟨rfl, rfl⟩) | (go_at_call 140; refine (slot_any _ _ _ _ _ _ _ _ _).mono ?_; rintro e w' ⟨rfl, rfl⟩) | (go_at_call 139; refine (octet_any _ _).mono ?_; rintro e w' ⟨rfl, rfl⟩))
    go_ret
    exact ⟨by simp [hg], (by (repeat refine Below.al ?_ (Nat.le_refl _)); exact Below.refl _ _)⟩

theorem gOp_any (args regs data slots : Int) (bo : Option Addr) (bn bc : Nat) (k a b c : Int) (w : World) :
    Calls Tryz.prog 108 #[.agg #[.int .i64 args, .int .i64 regs, .int .i64 data, .int .i64 slots, .slice bo bn bc], .agg #[.int .i64 k, .int .i64 a, .int .i64 b, .int .i64 c]] w fun e w' => e = .returned (.bool (opGood regs slots ⟨k, a, b, c⟩)) ∧ Below w.heap.size w w' := by
  by_cases hk : 1 ≤ k ∧ k ≤ 15
  · have : k = 1 ∨ k = 2 ∨ k = 3 ∨ k = 4 ∨ k = 5 ∨ k = 6 ∨ k = 7 ∨ k = 8 ∨ k = 9 ∨ k = 10 ∨ k = 11 ∨ k = 12 ∨ k = 13 ∨ k = 14 ∨ k = 15 := by omega
    rcases this with rfl | rfl | rfl | rfl | rfl | rfl | rfl | rfl | rfl | rfl | rfl | rfl | rfl | rfl | rfl
    · exact gOp1 args regs data slots bo bn bc a b c w
    · exact gOp2 args regs data slots bo bn bc a b c w
    · exact gOp3 args regs data slots bo bn bc a b c w
    · exact gOp4 args regs data slots bo bn bc a b c w
    · exact gOp5 args regs data slots bo bn bc a b c w
    · exact gOp6 args regs data slots bo bn bc a b c w
    · exact gOp7 args regs data slots bo bn bc a b c w
    · exact gOp8 args regs data slots bo bn bc a b c w
    · exact gOp9 args regs data slots bo bn bc a b c w
    · exact gOp10 args regs data slots bo bn bc a b c w
    · exact gOp11 args regs data slots bo bn bc a b c w
    · exact gOp12 args regs data slots bo bn bc a b c w
    · exact gOp13 args regs data slots bo bn bc a b c w
    · exact gOp14 args regs data slots bo bn bc a b c w
    · exact gOp15 args regs data slots bo bn bc a b c w
  · exact gOpNo args regs data slots bo bn bc k a b c w (by omega)

end Go.Proofs.YtblhmeidbjigaaaGreatDoor
