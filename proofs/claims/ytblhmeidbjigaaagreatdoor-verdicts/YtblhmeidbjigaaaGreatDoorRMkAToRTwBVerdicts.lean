/- The reference's marks: mark. -/
import Derived.Test.YtblhmeidbjigaaaGreatDoorRows
import Derived.WalkKit
import Derived.WalkSpells
import Derived.WalkLawsBesides
import Derived.Laws.BytesArg
import Derived.Deep.QuietTactic
import Derived.BigQuiet
import Derived.Deep.RegionHeld3
import Derived.Lib.ItoaNum
import Derived.Lib.ItoaLen
import Derived.OpenShut
import Derived.Maps.AppendAt
import Derived.Shelf.Strconv.Itoa3
import Derived.Shelf.Lay
import Derived.Ground.NamesProg
import Derived.Lib.SmallJoins
import Derived.Lib.Hide
import Derived.StillTailTactics
import Derived.Test.YtblhmeidbjigaaaGreatDoorPTxtToRTwAVerdicts

set_option linter.unusedSimpArgs false
set_option linter.unusedVariables false
namespace Go.Proofs.YtblhmeidbjigaaaGreatDoor
open Go.RowKit

section
variable {regs slots data : Int} {names : List Int} {ops : List OpD} {k : Nat} {o : OpD}

/-- The mark of a Load or Store. -/
def cellMark (data : Int) (u : TD) : List UInt8 := match u.isNum with | some n => if 0 ≤ n ∧ n < data then [] else 64 :: 32 :: showT u | none => 64 :: 32 :: showT u
/-- The mark of a Div. -/
def divMark (u v : TD) : List UInt8 := match u.isNum, v.isNum with | some _, some y => if y ≠ 0 then [] else 47 :: 32 :: (showT u ++ 32 :: showT v) | _, _ => 47 :: 32 :: (showT u ++ 32 :: showT v)

theorem rmark_div (ho : ops.getD k oz = o) (h : o.kind = 11) : markT regs slots data names ops k = divMark (behindT regs slots names ops k o.b) (behindT regs slots names ops k o.c) := by
  subst ho; simp only [markT]; rw [if_pos h]; rfl
theorem rmark_at (ho : ops.getD k oz = o) {at_ : Int} (h : (o.kind = 12 ∧ at_ = o.b) ∨ (o.kind = 13 ∧ at_ = o.a)) : markT regs slots data names ops k = cellMark data (behindT regs slots names ops k at_) := by
  subst ho; simp only [markT]
  rcases h with ⟨h, rfl⟩ | ⟨h, rfl⟩
  · rw [if_neg (by omega), if_pos (.inl h), if_pos h]; rfl
  · rw [if_neg (by omega), if_pos (.inr h), if_neg (by omega)]; rfl
theorem rmark_none (ho : ops.getD k oz = o) (h : o.kind ≠ 11 ∧ o.kind ≠ 12 ∧ o.kind ≠ 13) : markT regs slots data names ops k = [] := by
  subst ho; simp only [markT]; rw [if_neg h.1, if_neg (by omega)]
end

theorem cellMark_in {data : Int} {u : TD} {n : Int} (h : u.isNum = some n) (hn : 0 ≤ n ∧ n < data) : cellMark data u = [] := by unfold cellMark; rw [h]; simp only; rw [if_pos hn]
theorem cellMark_out {data : Int} {u : TD} {n : Int} (h : u.isNum = some n) (hn : ¬ (0 ≤ n ∧ n < data)) : cellMark data u = 64 :: 32 :: showT u := by unfold cellMark; rw [h]; simp only; rw [if_neg hn]
theorem cellMark_none {data : Int} {u : TD} (h : u.isNum = none) : cellMark data u = 64 :: 32 :: showT u := by unfold cellMark; rw [h]
theorem divMark_off {u v : TD} {x y : Int} (h : u.isNum = some x) (h' : v.isNum = some y) (hy : y ≠ 0) : divMark u v = [] := by unfold divMark; rw [h, h']; simp only; rw [if_pos hy]
theorem divMark_on {u v : TD} (h : u.isNum = none ∨ v.isNum = none ∨ v.isNum = some 0) : divMark u v = 47 :: 32 :: (showT u ++ 32 :: showT v) := by
  unfold divMark
  cases hu : u.isNum with
  | none => rfl
  | some x =>
    cases hv : v.isNum with
    | none => rfl
    | some y =>
      rcases h with h | h | h
      · rw [hu] at h; cases h
      · rw [hv] at h; cases h
      · rw [hv] at h; cases h; rfl

theorem cell_str (u : TD) : (⟨#[64, 32]⟩ : ByteArray) ++ str (showT u) = str (64 :: 32 :: showT u) := by
  show str [64, 32] ++ _ = _
  rw [str_append]; rfl
theorem div_str (u v : TD) : (⟨#[47, 32]⟩ : ByteArray) ++ str (showT u) ++ ⟨#[32]⟩ ++ str (showT v) = str (47 :: 32 :: (showT u ++ 32 :: showT v)) := by
  show str [47, 32] ++ _ ++ str [32] ++ _ = _
  simp only [str_append]; congr 1; simp


set_option maxRecDepth 100000 in
set_option maxHeartbeats 4000000 in
theorem rMark_any (p : ProgD) (pv nv : Value) (b : Nat) (names : List Int) (hg : progGood p = true) (hb : b < p.blocks.length) (hnm : ∀ x ∈ names, x ≤ 1000) (k : Nat) (hk : k < (bops p.blocks b).length) (w : World) (hv : RdView w p pv nv names) :
    Calls Tryz.prog 115 #[viewV p pv b nv, .int .i64 k] w fun e w' => e = .returned (.string (str (markT p.regs p.slots p.data names (bops p.blocks b) k))) ∧ Below w.heap.size w w' := by
  obtain ⟨hr, hargs, hdata, hs⟩ := good_shape hg
  obtain ⟨h12, hops⟩ := good_block hg hb
  have hfine := behindT_fine (names := names) (show 0 ≤ p.regs ∧ p.regs ≤ 100 by omega) (show 0 ≤ p.slots ∧ p.slots ≤ 100 by omega) hnm hops k (by omega)
  have hsize : ∀ q : Int, (behindT p.regs p.slots names (bops p.blocks b) k q).size ≤ 4000000000000 := fun q => by
    have h1 := behindT_size p.regs p.slots names (bops p.blocks b) k q
    have h2 := most_12 (show k ≤ 12 by omega)
    omega
  obtain ⟨o, ho⟩ : ∃ o, (bops p.blocks b).getD k oz = o := ⟨_, rfl⟩
  have hog := op_cases (show opGood p.regs p.slots o = true by rw [← ho]; exact good_op hops hk)
  have hb0 : Below w.heap.size w (w.alloc (.cells #[.int .i64 p.args, .int .i64 p.regs, .int .i64 p.data, .int .i64 p.slots, pv, .int .i64 b, nv] 87)) := (Below.refl _ _).alloc (Nat.le_refl _) _
  have hb1 : Below w.heap.size w ((w.alloc (.cells #[.int .i64 p.args, .int .i64 p.regs, .int .i64 p.data, .int .i64 p.slots, pv, .int .i64 b, nv] 87)).alloc (.cells #[.int .i64 o.kind, .int .i64 o.a, .int .i64 o.b, .int .i64 o.c] 77)) := hb0.alloc hb0.size _
  have es : (w.alloc (.cells #[.int .i64 p.args, .int .i64 p.regs, .int .i64 p.data, .int .i64 p.slots, pv, .int .i64 b, nv] 87)).heap.size = w.heap.size + 1 := by simp
  have V : VAt w ((w.alloc (.cells #[.int .i64 p.args, .int .i64 p.regs, .int .i64 p.data, .int .i64 p.slots, pv, .int .i64 b, nv] 87)).alloc (.cells #[.int .i64 o.kind, .int .i64 o.a, .int .i64 o.b, .int .i64 o.c] 77)) w.heap.size (w.heap.size + 1) p pv nv b names o :=
    ⟨Row.alloc (heap_alloc_new w _) _, by have := heap_alloc_new (w.alloc (.cells #[.int .i64 p.args, .int .i64 p.regs, .int .i64 p.data, .int .i64 p.slots, pv, .int .i64 b, nv] 87)) (.cells #[.int .i64 o.kind, .int .i64 o.a, .int .i64 o.b, .int .i64 o.c] 77); rw [es] at this; exact this, hv.keep hb1, hb1⟩
  obtain ⟨ao, cap, rfl, hll, hc⟩ := hv.blocks
  obtain ⟨bb, off, sv, rfl, c0, _, _, _, _, hrd⟩ := hc b hb
  obtain ⟨so, sc, rfl, hol, hoc⟩ := hrd
  obtain ⟨b2, off2, rfl, e0, e1, e2, e3⟩ := hoc k hk
  have x0 := cell_keep hb0 c0
  have y0 := cell_keep hb0 e0
  have y1 := cell_keep hb0 e1
  have y2 := cell_keep hb0 e2
  have y3 := cell_keep hb0 e3
  have ho0 : okind (bops p.blocks b) k = o.kind := by unfold okind; rw [ho]
  have ho1 : oa (bops p.blocks b) k = o.a := by unfold oa; rw [ho]
  have ho2 : ob (bops p.blocks b) k = o.b := by unfold ob; rw [ho]
  have ho3 : oc (bops p.blocks b) k = o.c := by unfold oc; rw [ho]
  rw [ho0] at y0
  rw [ho1] at y1
  rw [ho2] at y2
  rw [ho3] at y3
  clear es e0 e1 e2 e3 c0 hc hoc ho0 ho1 ho2 ho3 hb0 hb1 hv
  have hbi : (0 : Int) ≤ (b : Int) := by omega
  have hbj : (b : Int) < (p.blocks.length : Int) := by omega
  have hki : (0 : Int) ≤ (k : Int) := by omega
  have hkj : (k : Int) < ((bops p.blocks b).length : Int) := by omega
  have hbk := rBehind_int p (.slice (some ⟨bb, off, none⟩) p.blocks.length cap) nv b names hg hb hnm k (Nat.le_of_lt hk)
  have qb := fun place w P => hbk place w P
  have HTab := Lib.hid V.rd.tab
  have HV := Lib.hid V
  have HFine := Lib.hid hfine
  have hkk : o.kind = 1 ∨ (3 ≤ o.kind ∧ o.kind ≤ 11) ∨ o.kind = 2 ∨ o.kind = 12 ∨ o.kind = 13 ∨ o.kind = 14 ∨ o.kind = 15 := by omega
  unfold viewV at qb ⊢
  clear V hfine hol hll hbk
  rcases hkk with hkk | hkk | hkk | hkk | hkk | hkk | hkk
  · have HM := Lib.hid (rmark_none (data := p.data) (names := names) (regs := p.regs) (slots := p.slots) ho (by omega))
    have HB := Lib.hid HV.out.keep
    clear qb HV HTab HFine
    rw [hkk] at y0 HB
    go_enter Tryz.func115, Tryz.ntmps115
    go_wp2
    go_ret
    exact ⟨by rw [HM.out]; rfl, HB.out⟩
  · by_cases h11 : o.kind = 11
    · have hob : (0 ≤ o.b ∧ o.b < p.regs) ∧ (0 ≤ o.c ∧ o.c < p.regs) := by omega
      have HM := Lib.hid (rmark_div (data := p.data) (names := names) (regs := p.regs) (slots := p.slots) ho h11)
      have hfu := HFine.out o.b (by omega) (by omega)
      have hfv := HFine.out o.c (by omega) (by omega)
      have hsu := hsize o.b
      have hsv := hsize o.c
      have hso := show_size hfu hsu
      have hsp := show_size hfv hsv
      have HFu := Lib.hid hfu
      have HFv := Lib.hid hfv
      have HK1 := Lib.hid (And.intro (isNum_kind hfu) (isNum_none hfu))
      have HK2 := Lib.hid (And.intro (isNum_kind hfv) (isNum_none hfv))
      have q1 := fun P => qb o.b ((w.alloc (.cells #[.int .i64 p.args, .int .i64 p.regs, .int .i64 p.data, .int .i64 p.slots, .slice (some ⟨bb, off, none⟩) p.blocks.length cap, .int .i64 b, nv] 87)).alloc (.cells #[.int .i64 o.kind, .int .i64 o.a, .int .i64 o.b, .int .i64 o.c] 77)) P HV.out.rd (by omega) (by omega)
      have hbc : 0 ≤ o.c ∧ o.c ≤ p.regs + p.slots := by omega
      rw [h11] at y0 q1 HV HTab
      clear hfu hfv hkk
      go_enter Tryz.func115, Tryz.ntmps115
      go_wp2_with fail
      refine q1 _ ?_
      intro g4 w4 t4 b4
      have h4 := HV.out
      have vw := h4.view.keep b4
      have ow := h4.op.keep b4
      have rd4 := h4.rd.keep b4
      have k4 := h4.keep.trans (b4.mono h4.keep.size)
      have q2 := fun P => qb o.c w4 P rd4 hbc.1 hbc.2
      have v0 := vw.cell (i := 0) rfl
      have v1 := vw.cell (i := 1) rfl
      have v2 := vw.cell (i := 2) rfl
      have v3 := vw.cell (i := 3) rfl
      have v4 := vw.cell (i := 4) rfl
      have v5 := vw.cell (i := 5) rfl
      have v6 := vw.cell (i := 6) rfl
      have o3 := ow.cell (i := 3) rfl
      have HT4 := Lib.hid rd4.tab
      clear q1 b4 x0 y0 y1 y2 y3 HV h4 vw ow rd4 qb HTab
      go_wp2_with fail
      refine q2 _ ?_
      intro g5 w5 t5 b5
      have T4 := Lib.hid (t4.keep b5)
      have T5 := Lib.hid t5
      have c0 := (t4.keep b5).kindc
      have d0 := t5.kindc
      have d1 := t5.numc
      have HK5 := Lib.hid (k4.trans (b5.mono k4.size))
      have HT5 := Lib.hid (HT4.out.keep b5)
      clear q2 t4 t5 b5 k4 HT4 v0 v1 v2 v3 v4 v5 v6 o3
      generalize behindT p.regs p.slots names (bops p.blocks b) k o.b = u at *
      generalize behindT p.regs p.slots names (bops p.blocks b) k o.c = v at *
      by_cases hn : u.kind = 100
      · have hun := HK1.out.1.1 hn
        rw [hn] at c0
        by_cases hm : v.kind = 100
        · have hvn := HK2.out.1.1 hm
          rw [hm] at d0
          by_cases hz : v.num = 0
          · rw [hz] at hvn d1
            have HE := Lib.hid (divMark_on (u := u) (v := v) (.inr (.inr hvn)))
            clear HK1 HK2 hun hvn hn hm hz
            have qs := rShow_any u g4 w5 T4.out (HT5.out) HFu.out hsu
            have qs2 := fun w6 (hb : Below w5.heap.size w5 w6) => rShow_any v g5 w6 (T5.out.keep hb) (HT5.out.keep hb) HFv.out hsv
            go_wp2_with fail
            refine qs.mono ?_
            rintro e w6 ⟨rfl, b6⟩
            go_wp2_with fail
            refine (qs2 w6 b6).mono ?_
            rintro e w7 ⟨rfl, b7⟩
            have b57 := b6.trans (b7.mono b6.size)
            have HB := Lib.hid (HK5.out.trans (b57.mono HK5.out.size))
            clear qs qs2 b6 b7 b57
            go_wp2
            go_ret
            exact ⟨by rw [HM.out, HE.out, ← div_str]; rfl, HB.out⟩
          · have HE := Lib.hid (divMark_off hun hvn hz)
            have hz2 : (v.num == 0) = false := by simp [hz]
            clear HK1 HK2 hun hvn hn hm
            generalize v.num = n at *
            go_wp2
            go_ret
            exact ⟨by rw [HM.out, HE.out]; rfl, HK5.out⟩
        · have hvn := HK2.out.2.1 hm
          have HE := Lib.hid (divMark_on (u := u) (v := v) (.inr (.inl hvn)))
          have hd1 : (v.kind == 100) = false := by simp [hm]
          clear HK1 HK2 hun hvn hn
          generalize v.kind = vk at *
          have qs := rShow_any u g4 w5 T4.out (HT5.out) HFu.out hsu
          have qs2 := fun w6 (hb : Below w5.heap.size w5 w6) => rShow_any v g5 w6 (T5.out.keep hb) (HT5.out.keep hb) HFv.out hsv
          go_wp2_with fail
          refine qs.mono ?_
          rintro e w6 ⟨rfl, b6⟩
          go_wp2_with fail
          refine (qs2 w6 b6).mono ?_
          rintro e w7 ⟨rfl, b7⟩
          have b57 := b6.trans (b7.mono b6.size)
          have HB := Lib.hid (HK5.out.trans (b57.mono HK5.out.size))
          clear qs qs2 b6 b7 b57
          go_wp2
          go_ret
          exact ⟨by rw [HM.out, HE.out, ← div_str]; rfl, HB.out⟩
      · have hun := HK1.out.2.1 hn
        have HE := Lib.hid (divMark_on (u := u) (v := v) (.inl hun))
        have hd1 : (u.kind == 100) = false := by simp [hn]
        clear HK1 HK2 hun
        generalize u.kind = uk at *
        have qs := rShow_any u g4 w5 T4.out (HT5.out) HFu.out hsu
        have qs2 := fun w6 (hb : Below w5.heap.size w5 w6) => rShow_any v g5 w6 (T5.out.keep hb) (HT5.out.keep hb) HFv.out hsv
        go_wp2_with fail
        refine qs.mono ?_
        rintro e w6 ⟨rfl, b6⟩
        go_wp2_with fail
        refine (qs2 w6 b6).mono ?_
        rintro e w7 ⟨rfl, b7⟩
        have b57 := b6.trans (b7.mono b6.size)
        have HB := Lib.hid (HK5.out.trans (b57.mono HK5.out.size))
        clear qs qs2 b6 b7 b57
        go_wp2
        go_ret
        exact ⟨by rw [HM.out, HE.out, ← div_str]; rfl, HB.out⟩
    · have n1 : (o.kind == 11) = false := by simp [h11]
      have n2 : (o.kind == 12) = false := by simp; omega
      have n3 : (o.kind == 13) = false := by simp; omega
      have HM := Lib.hid (rmark_none (data := p.data) (names := names) (regs := p.regs) (slots := p.slots) ho (by omega))
      have HB := Lib.hid HV.out.keep
      clear qb HV HTab HFine
      go_enter Tryz.func115, Tryz.ntmps115
      go_wp2
      go_ret
      exact ⟨by rw [HM.out]; rfl, HB.out⟩
  · have HM := Lib.hid (rmark_none (data := p.data) (names := names) (regs := p.regs) (slots := p.slots) ho (by omega))
    have HB := Lib.hid HV.out.keep
    clear qb HV HTab HFine
    rw [hkk] at y0 HB
    go_enter Tryz.func115, Tryz.ntmps115
    go_wp2
    go_ret
    exact ⟨by rw [HM.out]; rfl, HB.out⟩
  · have hob : 0 ≤ o.b ∧ o.b < p.regs := by omega
    have HM := Lib.hid (rmark_at (data := p.data) (names := names) (regs := p.regs) (slots := p.slots) ho (at_ := o.b) (.inl ⟨hkk, rfl⟩))
    have hfu := HFine.out o.b (by omega) (by omega)
    have hsu := hsize o.b
    have hso := show_size hfu hsu
    have HFu := Lib.hid hfu
    have HK1 := Lib.hid (And.intro (isNum_kind hfu) (isNum_none hfu))
    have q1 := fun P => qb o.b ((w.alloc (.cells #[.int .i64 p.args, .int .i64 p.regs, .int .i64 p.data, .int .i64 p.slots, .slice (some ⟨bb, off, none⟩) p.blocks.length cap, .int .i64 b, nv] 87)).alloc (.cells #[.int .i64 o.kind, .int .i64 o.a, .int .i64 o.b, .int .i64 o.c] 77)) P HV.out.rd (by omega) (by omega)
    rw [hkk] at y0 q1 HV HTab
    clear hfu qb
    go_enter Tryz.func115, Tryz.ntmps115
    go_wp2_with fail
    refine q1 _ ?_
    intro g4 w4 t4 b4
    have h4 := HV.out
    have d2 := (h4.view.keep b4).cell (i := 2) rfl
    have k4 := h4.keep.trans (b4.mono h4.keep.size)
    have T4 := Lib.hid t4
    have c0 := t4.kindc
    have c1 := t4.numc
    have bN : ∀ n, Below w4.heap.size w4 (w4.drewN n) := fun n => below_drewN (Below.refl _ _) n
    have kN : ∀ n, Below w.heap.size w (w4.drewN n) := fun n => below_drewN k4 n
    have bT : ∀ n, Below ((w.alloc (.cells #[.int .i64 p.args, .int .i64 p.regs, .int .i64 p.data, .int .i64 p.slots, .slice (some ⟨bb, off, none⟩) p.blocks.length cap, .int .i64 b, nv] 87)).alloc (.cells #[.int .i64 12, .int .i64 o.a, .int .i64 o.b, .int .i64 o.c] 77)).heap.size _ (w4.drewN n) := fun n => below_drewN b4 n
    generalize behindT p.regs p.slots names (bops p.blocks b) k o.b = u at *
    clear q1 b4 t4 x0 y0 y1 y2 y3 HV h4
    by_cases hn : u.kind = 100
    · have hun := HK1.out.1.1 hn
      rw [hn] at c0
      by_cases hin : 0 ≤ u.num ∧ u.num < p.data
      · have HE := Lib.hid (cellMark_in hun hin)
        obtain ⟨hi1, hi2⟩ := hin
        clear HK1 hun hn
        generalize u.num = n at *
        go_wp2
        go_quiet (fail)
        go_wp2
        go_ret
        exact ⟨by rw [HM.out, HE.out]; rfl, kN nq⟩
      · have HE := Lib.hid (cellMark_out hun hin)
        by_cases hi1 : 0 ≤ u.num
        · have hi2 : ¬ (u.num < p.data) := fun q => hin ⟨hi1, q⟩
          have hi3 : p.data ≤ u.num := by omega
          have hd2' : decide (u.num < p.data) = false := by simp; omega
          clear HK1 hun hn hin
          generalize u.num = n at *
          go_wp2
          go_quiet (fail)
          have qs := rShow_any u g4 (w4.drewN nq) (T4.out.keep (bN nq)) (HTab.out.keep (bT nq)) HFu.out hsu
          go_wp2_with fail
          refine qs.mono ?_
          rintro e w5 ⟨rfl, b5⟩
          have HB := Lib.hid ((kN nq).trans (b5.mono (kN nq).size))
          clear qs b5
          go_wp2
          go_ret
          exact ⟨by rw [HM.out, HE.out, ← cell_str]; rfl, HB.out⟩
        · have hi3 : u.num < 0 := by omega
          have hd2' : decide (0 ≤ u.num) = false := by simp; omega
          clear HK1 hun hn hin
          generalize u.num = n at *
          go_wp2
          go_quiet (fail)
          have qs := rShow_any u g4 (w4.drewN nq) (T4.out.keep (bN nq)) (HTab.out.keep (bT nq)) HFu.out hsu
          go_wp2_with fail
          refine qs.mono ?_
          rintro e w5 ⟨rfl, b5⟩
          have HB := Lib.hid ((kN nq).trans (b5.mono (kN nq).size))
          clear qs b5
          go_wp2
          go_ret
          exact ⟨by rw [HM.out, HE.out, ← cell_str]; rfl, HB.out⟩
    · have hun := HK1.out.2.1 hn
      have HE := Lib.hid (cellMark_none (data := p.data) hun)
      have hd1 : (u.kind == 100) = false := by simp [hn]
      have hd2' : decide (u.kind = 100) = false := by simp [hn]
      clear HK1 hun
      generalize u.kind = uk at *
      go_wp2
      go_quiet (fail)
      have qs := rShow_any u g4 (w4.drewN nq) (T4.out.keep (bN nq)) (HTab.out.keep (bT nq)) HFu.out hsu
      go_wp2_with fail
      refine qs.mono ?_
      rintro e w5 ⟨rfl, b5⟩
      have HB := Lib.hid ((kN nq).trans (b5.mono (kN nq).size))
      clear qs b5
      go_wp2
      go_ret
      exact ⟨by rw [HM.out, HE.out, ← cell_str]; rfl, HB.out⟩
  · have hob : 0 ≤ o.a ∧ o.a < p.regs := by omega
    have HM := Lib.hid (rmark_at (data := p.data) (names := names) (regs := p.regs) (slots := p.slots) ho (at_ := o.a) (.inr ⟨hkk, rfl⟩))
    have hfu := HFine.out o.a (by omega) (by omega)
    have hsu := hsize o.a
    have hso := show_size hfu hsu
    have HFu := Lib.hid hfu
    have HK1 := Lib.hid (And.intro (isNum_kind hfu) (isNum_none hfu))
    have q1 := fun P => qb o.a ((w.alloc (.cells #[.int .i64 p.args, .int .i64 p.regs, .int .i64 p.data, .int .i64 p.slots, .slice (some ⟨bb, off, none⟩) p.blocks.length cap, .int .i64 b, nv] 87)).alloc (.cells #[.int .i64 o.kind, .int .i64 o.a, .int .i64 o.b, .int .i64 o.c] 77)) P HV.out.rd (by omega) (by omega)
    rw [hkk] at y0 q1 HV HTab
    clear hfu qb
    go_enter Tryz.func115, Tryz.ntmps115
    go_wp2_with fail
    refine q1 _ ?_
    intro g4 w4 t4 b4
    have h4 := HV.out
    have d2 := (h4.view.keep b4).cell (i := 2) rfl
    have k4 := h4.keep.trans (b4.mono h4.keep.size)
    have T4 := Lib.hid t4
    have c0 := t4.kindc
    have c1 := t4.numc
    have bN : ∀ n, Below w4.heap.size w4 (w4.drewN n) := fun n => below_drewN (Below.refl _ _) n
    have kN : ∀ n, Below w.heap.size w (w4.drewN n) := fun n => below_drewN k4 n
    have bT : ∀ n, Below ((w.alloc (.cells #[.int .i64 p.args, .int .i64 p.regs, .int .i64 p.data, .int .i64 p.slots, .slice (some ⟨bb, off, none⟩) p.blocks.length cap, .int .i64 b, nv] 87)).alloc (.cells #[.int .i64 13, .int .i64 o.a, .int .i64 o.b, .int .i64 o.c] 77)).heap.size _ (w4.drewN n) := fun n => below_drewN b4 n
    generalize behindT p.regs p.slots names (bops p.blocks b) k o.a = u at *
    clear q1 b4 t4 x0 y0 y1 y2 y3 HV h4
    by_cases hn : u.kind = 100
    · have hun := HK1.out.1.1 hn
      rw [hn] at c0
      by_cases hin : 0 ≤ u.num ∧ u.num < p.data
      · have HE := Lib.hid (cellMark_in hun hin)
        obtain ⟨hi1, hi2⟩ := hin
        clear HK1 hun hn
        generalize u.num = n at *
        go_wp2
        go_quiet (fail)
        go_wp2
        go_ret
        exact ⟨by rw [HM.out, HE.out]; rfl, kN nq⟩
      · have HE := Lib.hid (cellMark_out hun hin)
        by_cases hi1 : 0 ≤ u.num
        · have hi2 : ¬ (u.num < p.data) := fun q => hin ⟨hi1, q⟩
          have hi3 : p.data ≤ u.num := by omega
          have hd2' : decide (u.num < p.data) = false := by simp; omega
          clear HK1 hun hn hin
          generalize u.num = n at *
          go_wp2
          go_quiet (fail)
          have qs := rShow_any u g4 (w4.drewN nq) (T4.out.keep (bN nq)) (HTab.out.keep (bT nq)) HFu.out hsu
          go_wp2_with fail
          refine qs.mono ?_
          rintro e w5 ⟨rfl, b5⟩
          have HB := Lib.hid ((kN nq).trans (b5.mono (kN nq).size))
          clear qs b5
          go_wp2
          go_ret
          exact ⟨by rw [HM.out, HE.out, ← cell_str]; rfl, HB.out⟩
        · have hi3 : u.num < 0 := by omega
          have hd2' : decide (0 ≤ u.num) = false := by simp; omega
          clear HK1 hun hn hin
          generalize u.num = n at *
          go_wp2
          go_quiet (fail)
          have qs := rShow_any u g4 (w4.drewN nq) (T4.out.keep (bN nq)) (HTab.out.keep (bT nq)) HFu.out hsu
          go_wp2_with fail
          refine qs.mono ?_
          rintro e w5 ⟨rfl, b5⟩
          have HB := Lib.hid ((kN nq).trans (b5.mono (kN nq).size))
          clear qs b5
          go_wp2
          go_ret
          exact ⟨by rw [HM.out, HE.out, ← cell_str]; rfl, HB.out⟩
    · have hun := HK1.out.2.1 hn
      have HE := Lib.hid (cellMark_none (data := p.data) hun)
      have hd1 : (u.kind == 100) = false := by simp [hn]
      have hd2' : decide (u.kind = 100) = false := by simp [hn]
      clear HK1 hun
      generalize u.kind = uk at *
      go_wp2
      go_quiet (fail)
      have qs := rShow_any u g4 (w4.drewN nq) (T4.out.keep (bN nq)) (HTab.out.keep (bT nq)) HFu.out hsu
      go_wp2_with fail
      refine qs.mono ?_
      rintro e w5 ⟨rfl, b5⟩
      have HB := Lib.hid ((kN nq).trans (b5.mono (kN nq).size))
      clear qs b5
      go_wp2
      go_ret
      exact ⟨by rw [HM.out, HE.out, ← cell_str]; rfl, HB.out⟩
  · have HM := Lib.hid (rmark_none (data := p.data) (names := names) (regs := p.regs) (slots := p.slots) ho (by omega))
    have HB := Lib.hid HV.out.keep
    clear qb HV HTab HFine
    rw [hkk] at y0 HB
    go_enter Tryz.func115, Tryz.ntmps115
    go_wp2
    go_ret
    exact ⟨by rw [HM.out]; rfl, HB.out⟩
  · have HM := Lib.hid (rmark_none (data := p.data) (names := names) (regs := p.regs) (slots := p.slots) ho (by omega))
    have HB := Lib.hid HV.out.keep
    clear qb HV HTab HFine
    rw [hkk] at y0 HB
    go_enter Tryz.func115, Tryz.ntmps115
    go_wp2
    go_ret
    exact ⟨by rw [HM.out]; rfl, HB.out⟩

end Go.Proofs.YtblhmeidbjigaaaGreatDoor

/- The reference's marks: in, Marked, Marks. -/
set_option linter.unusedSimpArgs false
set_option linter.unusedVariables false
namespace Go.Proofs.YtblhmeidbjigaaaGreatDoor
open Go.RowKit

/-- Texts as cells. -/
def texts (l : List (List UInt8)) : List Value := l.map fun x => .string (str x)

theorem texts_length (l : List (List UInt8)) : (texts l).length = l.length := by simp [texts]
theorem texts_snoc (l : List (List UInt8)) (s : List UInt8) : texts (l ++ [s]) = texts l ++ [.string (str s)] := by simp [texts]

theorem Tryz.infoStr : (Tryz.prog.info? 9).map (fun i => (i.zero, i.size, i.bytes)) = some (some (.string ⟨#[]⟩), 1, 16) := by kernel_rfl

/-- A list of texts that is read. -/
def RdTexts (w : World) (v : Value) (l : List (List UInt8)) : Prop :=
  ∃ ao cap, v = .slice ao l.length cap ∧ l.length ≤ 9223372036854775807 ∧ ∀ i, i < l.length → ∃ b off, ao = some ⟨b, off, none⟩ ∧ w.cell? ⟨b, off + i, none⟩ = some (.string (str (l.getD i [])))

theorem RdTexts.keep {w w' : World} {v : Value} {l : List (List UInt8)} (h : RdTexts w v l) (hb : Below w.heap.size w w') : RdTexts w' v l := by
  obtain ⟨ao, cap, rfl, hl, hc⟩ := h
  exact ⟨ao, cap, rfl, hl, fun i hi => let ⟨b, off, e, h1⟩ := hc i hi; ⟨b, off, e, cell_keep hb h1⟩⟩

theorem texts_rd {w : World} {B : Nat} {v : Value} {l : List (List UInt8)} (h : w.ownsRow B 9 1 v l.length (texts l)) : RdTexts w v l := by
  obtain ⟨ao, cap, rfl⟩ := owns_slice h
  refine ⟨ao, cap, rfl, owns_le h, fun i hi => ?_⟩
  obtain ⟨b, rfl, _, hb, hc⟩ := owns_cell h rfl (i := i) (by rw [texts_length]; exact hi)
  refine ⟨b, 0, rfl, ?_⟩
  rw [Nat.zero_add, hc]
  simp [texts, List.getD, hi]

theorem str_eq (x y : List UInt8) : ((str x).toList == (str y).toList) = true ↔ x = y := by simp [str]
theorem str_ne {x y : List UInt8} (h : x ≠ y) : ((str x).toList == (str y).toList) = false := by simp [str, h]

set_option maxRecDepth 100000 in
set_option maxHeartbeats 1000000 in
theorem rIn_any (v : Value) (l : List (List UInt8)) (s : List UInt8) (w : World) (hr : RdTexts w v l) :
    Calls Tryz.prog 116 #[v, .string (str s)] w fun e w' => e = .returned (.bool (decide (s ∈ l))) ∧ w = w' := by
  obtain ⟨ao, cap, rfl, hl, hc⟩ := hr
  go_enter Tryz.func116, Tryz.ntmps116
  go_wp2
  go_loopw [5] (fun i wr => wr = w ∧ ∃ (k : Nat), k ≤ l.length ∧ i = .int .i64 k ∧ Hid (∀ j, j < k → l.getD j [] ≠ s))
    (fun i _ => l.length - (intOf i).toNat)
  case atStart => exact ⟨rfl, 0, Nat.zero_le _, rfl, fun j hj => by omega⟩
  case round =>
    obtain ⟨rfl, k, hk, rfl, hno⟩ := hrel
    by_cases hlt : k < l.length
    · obtain ⟨b, off, rfl, h1⟩ := hc k hlt
      have hki : (0 : Int) ≤ (k : Int) := by omega
      have hkj : (k : Int) < (l.length : Int) := by omega
      by_cases he : l.getD k [] = s
      · have h2 := (str_eq (l.getD k []) s).2 he
        have HM : Hid (decide (s ∈ l) = true) := by show _ = _; rw [decide_eq_true_eq, ← he]; exact getD_mem' hlt
        have HE := Lib.hid he
        clear hno he
        generalize l.getD k [] = x at *
        go_wp2
        (try simp only [Exit.inBlock, Exit.then])
        refine bodyPost_ret (v := .bool true) ?_ rfl ?_
        · simp [results, Tryz.results116, go_sem]
        · exact ⟨by rw [HM.out], rfl⟩
      · have h2 := str_ne he
        have hno2 : Hid (∀ j, j < k + 1 → l.getD j [] ≠ s) := fun j hj => by
          by_cases e : j = k
          · subst e; exact he
          · exact hno.out j (by omega)
        clear hno he
        generalize l.getD k [] = x at *
        go_wp2
        go_roundw
        case rel => exact ⟨by first | rfl | trivial, k + 1, by omega, by go_num, hno2⟩
        case measure => simp [intOf]; omega
    · obtain rfl : k = l.length := by omega
      have HM : Hid (decide (s ∈ l) = false) := by
        show _ = _
        rw [decide_eq_false_iff_not]
        intro hm
        obtain ⟨j, hj, e⟩ := List.getElem_of_mem hm
        exact hno.out j hj (by simp [List.getD, hj, e])
      clear hno hc
      go_wp2
      go_ret
      exact ⟨by rw [HM.out]; rfl, rfl⟩

theorem tx_new (w : World) (x : Value) (t : TypeId) : ∀ j u, [x][j]? = some u → (w.alloc (.cells #[x] t)).cell? ((⟨w.heap.size, 0, none⟩ : Addr).add j) = some u := by
  intro j u hj
  match j, hj with
  | 0, hj => simp at hj; subst hj; simp [Addr.add]

theorem tx_one (x : ByteArray) : ∀ u ∈ [Value.string x], u.oneCell' = true := by
  intro u hu; simp at hu; subst hu; rfl

theorem marksT_length (regs slots data : Int) (names : List Int) (ops : List OpD) : ∀ k, (marksT regs slots data names ops k).length ≤ k
  | 0 => by simp [marksT]
  | k + 1 => by
    have := marksT_length regs slots data names ops k
    simp only [marksT]
    split
    · simp; omega
    · omega

theorem marks_more {regs slots data : Int} {names : List Int} {ops : List OpD} {k : Nat} (h : markT regs slots data names ops k ≠ [] ∧ markT regs slots data names ops k ∉ marksT regs slots data names ops k) : marksT regs slots data names ops (k + 1) = marksT regs slots data names ops k ++ [markT regs slots data names ops k] := by
  simp only [marksT]; rw [if_pos h]
theorem marks_same {regs slots data : Int} {names : List Int} {ops : List OpD} {k : Nat} (h : ¬ (markT regs slots data names ops k ≠ [] ∧ markT regs slots data names ops k ∉ marksT regs slots data names ops k)) : marksT regs slots data names ops (k + 1) = marksT regs slots data names ops k := by
  simp only [marksT]; rw [if_neg h]

set_option maxRecDepth 100000 in
set_option maxHeartbeats 4000000 in
theorem rMarked_cps (p : ProgD) (pv nv : Value) (b : Nat) (names : List Int) (hg : progGood p = true) (hb : b < p.blocks.length) (hnm : ∀ x ∈ names, x ≤ 1000) (w : World) (hv : RdView w p pv nv names) (Post : Ending → World → Prop)
    (hp : ∀ v w', w'.ownsRow w.heap.size 9 1 v (marksT p.regs p.slots p.data names (bops p.blocks b) (bops p.blocks b).length).length (texts (marksT p.regs p.slots p.data names (bops p.blocks b) (bops p.blocks b).length)) → Below w.heap.size w w' → Post (.returned v) w') :
    Calls Tryz.prog 76 #[viewV p pv b nv] w Post := by
  obtain ⟨i0, ii, iz0, iz1, iz2⟩ := info_parts Tryz.infoStr
  obtain ⟨h12, hops⟩ := good_block hg hb
  have hb0 : Below w.heap.size w (w.alloc (.cells #[.int .i64 p.args, .int .i64 p.regs, .int .i64 p.data, .int .i64 p.slots, pv, .int .i64 b, nv] 87)) := (Below.refl _ _).alloc (Nat.le_refl _) _
  have r : Row (w.alloc (.cells #[.int .i64 p.args, .int .i64 p.regs, .int .i64 p.data, .int .i64 p.slots, pv, .int .i64 b, nv] 87)) w.heap.size 87 (viewC p pv b nv) := heap_alloc_new w _
  have hz0 : w.heap.size + 1 ≤ (w.alloc (.cells #[.int .i64 p.args, .int .i64 p.regs, .int .i64 p.data, .int .i64 p.slots, pv, .int .i64 b, nv] 87)).heap.size := by simp
  have qm := fun k hk W hW => rMark_any p pv nv b names hg hb hnm k hk W hW
  obtain ⟨ao, cap, rfl, hll, hc⟩ := id hv.blocks
  obtain ⟨bb, off, sv, rfl, c0, _, _, _, _, hrd⟩ := hc b hb
  obtain ⟨so, sc, rfl, hol, hoc⟩ := hrd
  have hbi : (0 : Int) ≤ (b : Int) := by omega
  have hbj : (b : Int) < (p.blocks.length : Int) := by omega
  have HV := Lib.hid hv
  have HR := Lib.hid r
  have HB := Lib.hid hb0
  have HP := Lib.hid hp
  have hml := fun k => marksT_length p.regs p.slots p.data names (bops p.blocks b) k
  unfold viewV at qm ⊢
  clear r hv hc hb0 hp hoc
  go_enter Tryz.func76, Tryz.ntmps76
  go_wp2
  go_loopw [3, 4] (fun l i wr => ∃ (k : Nat), k ≤ (bops p.blocks b).length ∧ i = .int .i64 k ∧ wr.ownsRow (w.heap.size + 1) 9 1 l (marksT p.regs p.slots p.data names (bops p.blocks b) k).length (texts (marksT p.regs p.slots p.data names (bops p.blocks b) k)) ∧ Row wr w.heap.size 87 (viewC p (.slice (some ⟨bb, off, none⟩) p.blocks.length cap) b nv) ∧ Below w.heap.size w wr ∧ w.heap.size + 1 ≤ wr.heap.size)
    (fun _ i _ => (bops p.blocks b).length - (intOf i).toNat)
  case atStart => exact ⟨0, Nat.zero_le _, rfl, World.ownsRow_nil _ _ _ _, HR.out, HB.out, hz0⟩
  case round =>
    clear HR HB hz0
    obtain ⟨k, hk, rfl, hown, r, hbel, hz⟩ := hrel
    obtain ⟨lo, lc, rfl⟩ := owns_slice hown
    have x0 := cell_keep hbel c0
    have v0 := r.cell (i := 0) rfl
    have v1 := r.cell (i := 1) rfl
    have v2 := r.cell (i := 2) rfl
    have v3 := r.cell (i := 3) rfl
    have v4 := r.cell (i := 4) rfl
    have v5 := r.cell (i := 5) rfl
    have v6 := r.cell (i := 6) rfl
    have hmk := hml k
    by_cases hlt : k < (bops p.blocks b).length
    · have q1 := qm k hlt wr (HV.out.keep hbel)
      have hkj : (k : Int) < ((bops p.blocks b).length : Int) := by omega
      obtain ⟨M, hM⟩ : ∃ M, markT p.regs p.slots p.data names (bops p.blocks b) k = M := ⟨_, rfl⟩
      obtain ⟨L, hL⟩ : ∃ L, marksT p.regs p.slots p.data names (bops p.blocks b) k = L := ⟨_, rfl⟩
      have HS1 : Hid (M ≠ [] ∧ M ∉ L → marksT p.regs p.slots p.data names (bops p.blocks b) (k + 1) = L ++ [M]) := fun h => by rw [← hM, ← hL] at h ⊢; exact marks_more h
      have HS2 : Hid (¬ (M ≠ [] ∧ M ∉ L) → marksT p.regs p.slots p.data names (bops p.blocks b) (k + 1) = L) := fun h => by rw [← hM, ← hL] at h; rw [← hL]; exact marks_same h
      rw [hM] at q1
      rw [hL] at hown hmk ⊢
      clear hM hL
      go_wp2_with fail
      refine q1.mono ?_
      rintro e w2 ⟨rfl, b2⟩
      have own2 := owns_below hown b2 (Nat.le_refl _)
      have r2 := r.keep b2
      have bel2 := hbel.trans (b2.mono hbel.size)
      have z2 : w.heap.size + 1 ≤ w2.heap.size := Nat.le_trans hz b2.size
      have q2 := rIn_any _ L M w2 (texts_rd own2)
      clear q1 hown r hbel hz b2 v0 v1 v2 v3 v4 v5 v6 x0
      go_wp2_with fail
      refine q2.mono ?_
      rintro e w3 ⟨rfl, rfl⟩
      by_cases hmn : M = []
      · subst hmn
        have HX := Lib.hid (HS2.out (by simp))
        have h0 : (str []).toList = [] := by simp [str]
        clear q2 HS1 HS2
        generalize decide ([] ∈ L) = z at *
        go_wp2
        go_roundw
        case rel => exact ⟨k + 1, by omega, by go_num, by rw [HX.out]; exact own2, r2, bel2, z2⟩
        case measure => simp [intOf]; omega
      · have hne0 : (str M).toList ≠ [] := by simp [str, hmn]
        have hne1 : ((str M).toList == []) = false := by simp [str, hmn]
        have hne2 : (str M).toList.isEmpty = false := by simp [str, hmn]
        by_cases hin : M ∈ L
        · have hd : decide (M ∈ L) = true := by simp [hin]
          rw [hd]
          have HX := Lib.hid (HS2.out (fun q => q.2 hin))
          clear q2 HS1 HS2 hd hin hmn
          go_wp2
          go_roundw
          case rel => exact ⟨k + 1, by omega, by go_num, by rw [HX.out]; exact own2, r2, bel2, z2⟩
          case measure => simp [intOf]; omega
        · have hd : decide (M ∈ L) = false := by simp [hin]
          rw [hd]
          have HX := Lib.hid (HS1.out ⟨hmn, hin⟩)
          clear q2 HS1 HS2 hd hin hmn
          go_wp2_with (at_builtin; refine wpList_append_own _ rfl _ _ 26 rfl (w.heap.size + 1) 9 i0 (.string ⟨#[]⟩) 1 16 Tryz.underlying26 ii iz0 iz1 iz2 rfl (by decide) _ _ _ rfl (own2.alloc _) ⟨w2.heap.size, 0, none⟩ 1 1 [.string (str M)] rfl rfl ?c1 (tx_one _) ?c3 ?c4 ?c5 ?_)
          case c1 => exact tx_new w2 _ _
          case c3 => unfold maxLen; omega
          case c4 => omega
          case c5 => simp; omega
          intro v' w4 hown' hgrow _
          rw [← texts_snoc] at hown'
          have hb4 := ((Below.refl (w.heap.size + 1) w2).alloc z2 (.cells #[.string (str M)] 9)).grown hgrow (by simp; omega) (fun g hg => (own2.lt g hg).1)
          have r4 := r2.below hb4 (by omega)
          have bel4 := bel2.trans (hb4.mono (by omega))
          have z4 : w.heap.size + 1 ≤ w4.heap.size := Nat.le_trans z2 hb4.size
          obtain ⟨lo', lc', rfl⟩ := owns_slice hown'
          clear hgrow own2 r2 bel2 hb4
          go_wp2
          go_roundw
          case rel => exact ⟨k + 1, by omega, by go_num, by rw [HX.out]; simpa using hown', r4, bel4, z4⟩
          case measure => simp [intOf]; omega
    · obtain rfl : k = (bops p.blocks b).length := by omega
      have HF := Lib.hid (HP.out _ _ (owns_base hown (by omega)) hbel)
      clear HP hown hbel r
      go_wp2
      exact HF.out

end Go.Proofs.YtblhmeidbjigaaaGreatDoor

/- The reference's twins: views as they are held against each other; paired, marksAlike. -/
set_option linter.unusedSimpArgs false
set_option linter.unusedVariables false
namespace Go.Proofs.YtblhmeidbjigaaaGreatDoor
open Go.RowKit

/-- A view of a block that is read. -/
structure VwF (w : World) (p : ProgD) (pv nv : Value) (b : Nat) (names : List Int) : Prop where
  rd : RdView w p pv nv names
  good : progGood p = true
  lt : b < p.blocks.length
  small : ∀ x ∈ names, x ≤ 1000

theorem VwF.keep {w w' : World} {p : ProgD} {pv nv : Value} {b : Nat} {names : List Int} (h : VwF w p pv nv b names) (hb : Below w.heap.size w w') : VwF w' p pv nv b names :=
  ⟨h.rd.keep hb, h.good, h.lt, h.small⟩

/-- What a place holds at the block's end. -/
noncomputable def finT (p : ProgD) (names : List Int) (b : Nat) (i : Int) : TD := behindT p.regs p.slots names (bops p.blocks b) (bops p.blocks b).length i
/-- A view's marks. -/
noncomputable def mksT (p : ProgD) (names : List Int) (b : Nat) : List (List UInt8) := marksT p.regs p.slots p.data names (bops p.blocks b) (bops p.blocks b).length

theorem VwF.fine {w : World} {p : ProgD} {pv nv : Value} {b : Nat} {names : List Int} (h : VwF w p pv nv b names) {i : Int} (h0 : 0 ≤ i) (h1 : i ≤ p.regs + p.slots) : (finT p names b i).fine := by
  obtain ⟨hr, hargs, hdata, hs⟩ := good_shape h.good
  obtain ⟨h12, hops⟩ := good_block h.good h.lt
  exact behindT_fine (by omega) (by omega) h.small hops _ (Nat.le_refl _) i h0 h1

theorem VwF.final {w : World} {p : ProgD} {pv nv : Value} {b : Nat} {names : List Int} (h : VwF w p pv nv b names) (i : Int) (h0 : 0 ≤ i) (h1 : i ≤ p.regs + p.slots) (Post : Ending → World → Prop)
    (hp : ∀ g' w', TreeAt w' (finT p names b i) g' → Below w.heap.size w w' → Post (.returned (.pointer (some ⟨g', 0, none⟩))) w') :
    Calls Tryz.prog 37 #[viewV p pv b nv, .int .i64 i] w Post :=
  rFinal_cps p pv nv b names h.good h.lt h.small i w Post h.rd h0 h1 hp

theorem rSame_bel (t u : TD) (g h : Nat) (w : World) (h1 : TreeAt w t g) (h2 : TreeAt w u h) (f1 : t.fine) (f2 : u.fine) (Post : Ending → World → Prop)
    (hp : ∀ z w', (z = true ↔ t = u) → Below w.heap.size w w' → Post (.returned (.bool z)) w') :
    Calls Tryz.prog 91 #[.pointer (some ⟨g, 0, none⟩), .pointer (some ⟨h, 0, none⟩)] w Post :=
  (rSame_any t u g h w h1 h2 f1 f2).mono fun e w' ⟨he, m, hw⟩ => by
    subst he hw
    exact hp _ _ (sameT_iff t u) (below_drewN (Below.refl _ _) m)

set_option maxRecDepth 100000 in
set_option maxHeartbeats 4000000 in
theorem rPaired_cps (p q : ProgD) (po no qo mo : Option Addr) (pn pc nn nc qn qc mn mc a b : Nat) (np nq : List Int) (qs : List PairD) (lo : Option Addr) (ln lc : Nat) (w : World) (h1 : VwF w p (.slice po pn pc) (.slice no nn nc) a np) (h2 : VwF w q (.slice qo qn qc) (.slice mo mn mc) b nq) (hl : RdPairs w (.slice lo ln lc) qs) (hin : ∀ x ∈ qs, (0 ≤ x.reg ∧ x.reg ≤ p.regs + p.slots) ∧ (0 ≤ x.place ∧ x.place ≤ q.regs + q.slots)) (Post : Ending → World → Prop)
    (hp : ∀ z w', (z = true ↔ ∀ x ∈ qs, finT p np a x.reg = finT q nq b x.place) → Below w.heap.size w w' → Post (.returned (.bool z)) w') :
    Calls Tryz.prog 131 #[viewV p (.slice po pn pc) a (.slice no nn nc), viewV q (.slice qo qn qc) b (.slice mo mn mc), .slice lo ln lc] w Post := by
  obtain ⟨lo', lc', e0, hql, hqs⟩ := hl
  simp only [Value.slice.injEq] at e0
  obtain ⟨rfl, rfl, rfl⟩ := e0
  unfold viewV
  obtain ⟨A, hA⟩ : ∃ A, A = (w.alloc (.cells #[.int .i64 p.args, .int .i64 p.regs, .int .i64 p.data, .int .i64 p.slots, .slice po pn pc, .int .i64 a, .slice no nn nc] 87)).alloc (.cells #[.int .i64 q.args, .int .i64 q.regs, .int .i64 q.data, .int .i64 q.slots, .slice qo qn qc, .int .i64 b, .slice mo mn mc] 87) := ⟨_, rfl⟩
  have r1 : Row A w.heap.size 87 [.int .i64 p.args, .int .i64 p.regs, .int .i64 p.data, .int .i64 p.slots, .slice po pn pc, .int .i64 a, .slice no nn nc] := by subst hA; exact Row.alloc (heap_alloc_new w _) _
  have r2 : Row A (w.heap.size + 1) 87 [.int .i64 q.args, .int .i64 q.regs, .int .i64 q.data, .int .i64 q.slots, .slice qo qn qc, .int .i64 b, .slice mo mn mc] := by subst hA; exact heap_alloc2_new w _ _
  have b0 : Below w.heap.size w A := by subst hA; exact ((Below.refl w.heap.size w).alloc (Nat.le_refl _) _).alloc (by simp) _
  have HA := Lib.hid hA
  have HP := Lib.hid hp
  have H1 := Lib.hid h1
  have H2 := Lib.hid h2
  have HIN := Lib.hid hin
  clear hA hp h1 h2 hin
  go_enter Tryz.func131, Tryz.ntmps131
  go_wp2
  rw [← HA.out]
  clear HA
  go_loopw [7] (fun i wr => ∃ (k : Nat), k ≤ qs.length ∧ i = .int .i64 k ∧ Below A.heap.size A wr ∧ Hid (∀ j, j < k → finT p np a (preg qs j) = finT q nq b (pplace qs j)))
    (fun i _ => qs.length - (intOf i).toNat)
  case atStart => exact ⟨0, Nat.zero_le _, rfl, Below.refl _ _, fun j hj => by omega⟩
  case round =>
    obtain ⟨k, hk, rfl, hbel, hall⟩ := hrel
    have hbw : Below w.heap.size w wr := b0.trans (hbel.mono b0.size)
    by_cases hlt : k < qs.length
    · obtain ⟨lb, loff, rfl, g0, g1⟩ := hqs k hlt
      have hM := HIN.out _ (getD_mem' (d := pz) hlt)
      have hM1 : 0 ≤ preg qs k ∧ preg qs k ≤ p.regs + p.slots := hM.1
      have hM2 : 0 ≤ pplace qs k ∧ pplace qs k ≤ q.regs + q.slots := hM.2
      have k0 : Below wr.heap.size wr wr.drew := (Below.refl _ _).drew
      have hbd : Below w.heap.size w wr.drew := hbw.trans (k0.mono hbw.size)
      have q1 := fun P' => (H1.out.keep hbd).final (preg qs k) hM1.1 hM1.2 P'
      have c0 := fun V (hV : Below wr.heap.size wr V) => cell_keep hV (cell_keep hbel (r1.cell (i := 0) rfl))
      have c1 := fun V (hV : Below wr.heap.size wr V) => cell_keep hV (cell_keep hbel (r1.cell (i := 1) rfl))
      have c2 := fun V (hV : Below wr.heap.size wr V) => cell_keep hV (cell_keep hbel (r1.cell (i := 2) rfl))
      have c3 := fun V (hV : Below wr.heap.size wr V) => cell_keep hV (cell_keep hbel (r1.cell (i := 3) rfl))
      have c4 := fun V (hV : Below wr.heap.size wr V) => cell_keep hV (cell_keep hbel (r1.cell (i := 4) rfl))
      have c5 := fun V (hV : Below wr.heap.size wr V) => cell_keep hV (cell_keep hbel (r1.cell (i := 5) rfl))
      have c6 := fun V (hV : Below wr.heap.size wr V) => cell_keep hV (cell_keep hbel (r1.cell (i := 6) rfl))
      have y0 : ∀ V, Below wr.heap.size wr V → V.cell? ⟨lb, loff + k * 2, none⟩ = some (.int .i64 (preg qs k)) := fun V hV => cell_keep hV (cell_keep hbw g0)
      have hki : (0 : Int) ≤ (k : Int) := by omega
      have hkj : (k : Int) < (qs.length : Int) := by omega
      have HG1 := Lib.hid g1
      have HBEL := Lib.hid hbel
      have HBW := Lib.hid hbw
      have HM := Lib.hid (getD_mem' (d := pz) hlt)
      have HR : Hid ((qs.getD k pz).reg = preg qs k ∧ (qs.getD k pz).place = pplace qs k) := ⟨rfl, rfl⟩
      have HR1 := Lib.hid r1
      have HR2 := Lib.hid r2
      have F1 := Lib.hid (H1.out.fine hM1.1 hM1.2)
      have F2 := Lib.hid (H2.out.fine hM2.1 hM2.2)
      unfold viewV at q1
      clear g0 g1 hqs hbel hbw hbd r1 r2 hM hM1
      generalize preg qs k = rg at *
      generalize pplace qs k = pg at *
      go_wp2
      go_region_held3 (fun V => Below wr.heap.size wr V) (first | with_reducible exact k0 | with_reducible exact b3) (first | (go_at_call 37; refine q1 _ ?_; intro g1 w2 t1 b2; have b3 : Below wr.heap.size wr w2 := k0.trans (b2.mono k0.size)))
      have hb2 : Below A.heap.size A w2 := HBEL.out.trans (b3.mono HBEL.out.size)
      have hw2 : Below w.heap.size w w2 := HBW.out.trans (b3.mono HBW.out.size)
      clear q1 b2 c0 c1 c2 c3 c4 c5 c6 y0 HBEL k0
      have k2 : Below w2.heap.size w2 w2.drew := (Below.refl _ _).drew
      have hbd2 : Below w.heap.size w w2.drew := hw2.trans (k2.mono hw2.size)
      have q2 := fun P' => (H2.out.keep hbd2).final pg hM2.1 hM2.2 P'
      have c0 := fun V (hV : Below w2.heap.size w2 V) => cell_keep hV (cell_keep hb2 (HR2.out.cell (i := 0) rfl))
      have c1 := fun V (hV : Below w2.heap.size w2 V) => cell_keep hV (cell_keep hb2 (HR2.out.cell (i := 1) rfl))
      have c2 := fun V (hV : Below w2.heap.size w2 V) => cell_keep hV (cell_keep hb2 (HR2.out.cell (i := 2) rfl))
      have c3 := fun V (hV : Below w2.heap.size w2 V) => cell_keep hV (cell_keep hb2 (HR2.out.cell (i := 3) rfl))
      have c4 := fun V (hV : Below w2.heap.size w2 V) => cell_keep hV (cell_keep hb2 (HR2.out.cell (i := 4) rfl))
      have c5 := fun V (hV : Below w2.heap.size w2 V) => cell_keep hV (cell_keep hb2 (HR2.out.cell (i := 5) rfl))
      have c6 := fun V (hV : Below w2.heap.size w2 V) => cell_keep hV (cell_keep hb2 (HR2.out.cell (i := 6) rfl))
      have y1 : ∀ V, Below w2.heap.size w2 V → V.cell? ⟨lb, loff + k * 2 + 1, none⟩ = some (.int .i64 pg) := fun V hV => cell_keep hV (cell_keep hw2 HG1.out)
      have HT1 := Lib.hid t1
      have HB2 := Lib.hid hb2
      have HW2 := Lib.hid hw2
      unfold viewV at q2
      clear t1 hb2 hw2 hbd2 b3 HG1
      go_wp2
      go_region_held3 (fun V => Below w2.heap.size w2 V) (first | with_reducible exact k2 | with_reducible exact b5) (first | (go_at_call 37; refine q2 _ ?_; intro g2 w3 t2 b4; have b5 : Below w2.heap.size w2 w3 := k2.trans (b4.mono k2.size)))
      have q3 := fun P' => rSame_bel _ _ g1 g2 w3 (HT1.out.keep b5) t2 F1.out F2.out P'
      have HB3 := Lib.hid (HB2.out.trans (b5.mono HB2.out.size))
      have HW3 := Lib.hid (HW2.out.trans (b5.mono HW2.out.size))
      clear q2 b4 c0 c1 c2 c3 c4 c5 c6 y1 k2 HT1 t2 HB2 HW2 b5
      go_wp2_with fail
      refine q3 _ ?_
      intro z w4 hz b6
      have HZ := Lib.hid hz
      have b7 := HB3.out.trans (b6.mono HB3.out.size)
      have b8 := HW3.out.trans (b6.mono HW3.out.size)
      clear q3 hz b6 HB3 HW3
      cases z with
      | true =>
        have hall2 : Hid (∀ j, j < k + 1 → finT p np a (preg qs j) = finT q nq b (pplace qs j)) := fun j hj => by
          by_cases e : j = k
          · rw [e]
            have e1 : preg qs k = rg := HR.out.1
            have e2 : pplace qs k = pg := HR.out.2
            rw [e1, e2]; exact HZ.out.1 rfl
          · exact hall.out j (by omega)
        clear hall HR HM
        go_wp2
        go_roundw
        case rel => exact ⟨k + 1, by omega, by go_num, b7, hall2⟩
        case measure => simp [intOf]; omega
      | false =>
        have HF := Lib.hid (HP.out false w4 ⟨fun hq => (by cases hq), fun hA => by
          have := hA _ HM.out
          rw [HR.out.1, HR.out.2] at this
          have := HZ.out.2 this; cases this⟩ b8)
        clear hall HR HM
        go_wp2
        exact HF.out
    · obtain rfl : k = qs.length := by omega
      have HY : Hid (∀ x ∈ qs, finT p np a x.reg = finT q nq b x.place) := fun x hx => by
        obtain ⟨j, hj, rfl⟩ := List.getElem_of_mem hx
        have := hall.out j hj
        simpa [preg, pplace, List.getD, hj] using this
      have HF := Lib.hid (HP.out true _ ⟨fun _ => HY.out, fun _ => rfl⟩ hbw)
      clear hqs hall hbel hbw
      go_wp2
      exact HF.out

theorem VwF.marked {w : World} {p : ProgD} {pv nv : Value} {b : Nat} {names : List Int} (h : VwF w p pv nv b names) (Post : Ending → World → Prop)
    (hp : ∀ v w', w'.ownsRow w.heap.size 9 1 v (mksT p names b).length (texts (mksT p names b)) → Below w.heap.size w w' → Post (.returned v) w') :
    Calls Tryz.prog 76 #[viewV p pv b nv] w Post :=
  rMarked_cps p pv nv b names h.good h.lt h.small w h.rd Post hp

set_option maxRecDepth 100000 in
set_option maxHeartbeats 4000000 in
theorem rAlike_cps (p q : ProgD) (po no qo mo : Option Addr) (pn pc nn nc qn qc mn mc a b : Nat) (np nq : List Int) (w : World) (h1 : VwF w p (.slice po pn pc) (.slice no nn nc) a np) (h2 : VwF w q (.slice qo qn qc) (.slice mo mn mc) b nq) (Post : Ending → World → Prop)
    (hp : ∀ z w', (z = true ↔ mksT p np a = mksT q nq b) → Below w.heap.size w w' → Post (.returned (.bool z)) w') :
    Calls Tryz.prog 90 #[viewV p (.slice po pn pc) a (.slice no nn nc), viewV q (.slice qo qn qc) b (.slice mo mn mc)] w Post := by
  obtain ⟨A, hA⟩ : ∃ A, A = (w.alloc (.cells #[.int .i64 p.args, .int .i64 p.regs, .int .i64 p.data, .int .i64 p.slots, .slice po pn pc, .int .i64 a, .slice no nn nc] 87)).alloc (.cells #[.int .i64 q.args, .int .i64 q.regs, .int .i64 q.data, .int .i64 q.slots, .slice qo qn qc, .int .i64 b, .slice mo mn mc] 87) := ⟨_, rfl⟩
  have r2 : Row A (w.heap.size + 1) 87 [.int .i64 q.args, .int .i64 q.regs, .int .i64 q.data, .int .i64 q.slots, .slice qo qn qc, .int .i64 b, .slice mo mn mc] := by subst hA; exact heap_alloc2_new w _ _
  have b0 : Below w.heap.size w A := by subst hA; exact ((Below.refl w.heap.size w).alloc (Nat.le_refl _) _).alloc (by simp) _
  have q1 := fun P' => (h1.keep b0).marked P'
  rw [hA] at q1
  unfold viewV at q1 ⊢
  have HR2 := Lib.hid r2
  have HB0 := Lib.hid b0
  have HP := Lib.hid hp
  have H2 := Lib.hid h2
  subst hA
  clear r2 b0 hp h1 h2
  go_enter Tryz.func90, Tryz.ntmps90
  go_wp2_with fail
  refine q1 _ ?_
  intro v w1 own1 b1
  obtain ⟨uo, uc, rfl⟩ := owns_slice own1
  have r2 := HR2.out.keep b1
  have b01 := HB0.out.trans (b1.mono HB0.out.size)
  have q2 := fun P' => (H2.out.keep b01).marked P'
  have c0 := r2.cell (i := 0) rfl
  have c1 := r2.cell (i := 1) rfl
  have c2 := r2.cell (i := 2) rfl
  have c3 := r2.cell (i := 3) rfl
  have c4 := r2.cell (i := 4) rfl
  have c5 := r2.cell (i := 5) rfl
  have c6 := r2.cell (i := 6) rfl
  have HO1 := Lib.hid own1
  unfold viewV at q2
  clear q1 HR2 HB0 r2 own1 b1
  go_wp2_with fail
  refine q2 _ ?_
  intro v2 w2 own2 b2
  obtain ⟨vo, vc, rfl⟩ := owns_slice own2
  have b02 := b01.trans (b2.mono b01.size)
  have hu := texts_rd (owns_below HO1.out b2 (Nat.le_refl _))
  have hv := texts_rd own2
  clear q2 HO1 own2 b2 b01 c0 c1 c2 c3 c4 c5 c6 H2
  generalize mksT p np a = l at *
  generalize mksT q nq b = m at *
  obtain ⟨uo', uc', e0, hul, hucs⟩ := hu
  simp only [Value.slice.injEq, true_and] at e0
  obtain ⟨rfl, rfl⟩ := e0
  obtain ⟨vo', vc', e0, hvl, hvcs⟩ := hv
  simp only [Value.slice.injEq, true_and] at e0
  obtain ⟨rfl, rfl⟩ := e0
  by_cases hlen : l.length = m.length
  · obtain ⟨n, hn⟩ : ∃ n, l.length = n := ⟨_, rfl⟩
    have hm : m.length = n := by rw [← hlen, hn]
    have HLEN := Lib.hid hlen
    have HN := Lib.hid hn
    rw [hn] at hucs hul ⊢
    rw [hm] at hvcs hvl ⊢
    clear hlen hn hm
    go_wp2
    go_loopw [7] (fun i wr => ∃ (k : Nat), k ≤ n ∧ i = .int .i64 k ∧ Below w2.heap.size w2 wr ∧ Hid (∀ j, j < k → l.getD j [] = m.getD j []))
      (fun i _ => n - (intOf i).toNat)
    case atStart => exact ⟨0, Nat.zero_le _, rfl, Below.refl _ _, fun j hj => by omega⟩
    case round =>
      obtain ⟨k, hk, rfl, hbel, hall⟩ := hrel
      by_cases hlt : k < n
      · obtain ⟨b, off, rfl, h1⟩ := hucs k hlt
        obtain ⟨b', off', rfl, h2⟩ := hvcs k hlt
        have g1 := cell_keep hbel h1
        have g2 := cell_keep hbel h2
        have hki : (k : Int) < (n : Int) := by omega
        have hbd := Lib.hid (fun d => below_drewN hbel d)
        have hbd2 := Lib.hid (fun d => below_drewN (b02.trans (hbel.mono b02.size)) d)
        clear h1 h2 hucs hvcs
        by_cases he : l.getD k [] = m.getD k []
        · have hq := (str_eq (l.getD k []) (m.getD k [])).2 he
          have hall2 : Hid (∀ j, j < k + 1 → l.getD j [] = m.getD j []) := fun j hj => by
            by_cases q : j = k
            · rw [q]; exact he
            · exact hall.out j (by omega)
          clear he hall
          generalize str (l.getD k []) = x at *
          generalize str (m.getD k []) = y at *
          go_wp2
          go_quiet (fail)
          go_wp2
          go_roundw
          case rel => exact ⟨k + 1, by omega, by go_num, hbd.out _, hall2⟩
          case measure => simp [intOf]; omega
        · have hq := str_ne he
          have HD : Hid (¬ l = m) := by
            intro q
            rw [q] at he
            exact he rfl
          clear he hall
          generalize str (l.getD k []) = x at *
          generalize str (m.getD k []) = y at *
          go_wp2
          go_quiet (fail)
          go_wp2
          exact HP.out false _ ⟨fun hq => (by cases hq), fun hA => absurd hA HD.out⟩ (hbd2.out _)
      · obtain rfl : k = n := by omega
        have HD : Hid (l = m) := by
          show l = m
          apply List.ext_getElem (by rw [HLEN.out])
          intro j h1 h2
          have := hall.out j (by rw [← HN.out]; exact h1)
          simpa [List.getD, h1, h2] using this
        have HF := Lib.hid (HP.out true _ ⟨fun _ => HD.out, fun _ => rfl⟩ (b02.trans (hbel.mono b02.size)))
        clear hucs hvcs hall hbel
        go_wp2
        exact HF.out
  · have hq : ((l.length : Int) == (m.length : Int)) = false := by simp; omega
    have HF := Lib.hid (HP.out false w2 ⟨fun hq => (by cases hq), fun hA => absurd (congrArg List.length hA) hlen⟩ b02)
    clear hucs hvcs hlen
    go_wp2
    exact HF.out

end Go.Proofs.YtblhmeidbjigaaaGreatDoor
