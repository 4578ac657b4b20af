/- The reference's marks: mark. -/
import Derived.Test.YtblhmeidbjigaabGreatDoorRows
import Derived.WalkKit
import Derived.WalkSpells
import Derived.WalkLawsBesides
import Derived.Laws.BytesArg
import Derived.Deep.QuietTactic
import Derived.BigQuiet
import Derived.Deep.RegionHeld3
import Derived.Lib.ItoaNum
import Derived.Lib.ItoaLen
import Derived.OpenShut
import Derived.Maps.AppendAt
import Derived.Shelf.Strconv.Itoa3
import Derived.Shelf.Lay
import Derived.Ground.NamesProg
import Derived.Lib.SmallJoins
import Derived.Lib.Hide
import Derived.StillTailTactics
import Derived.Test.YtblhmeidbjigaabGreatDoorRVwBToRVwEAll

set_option linter.unusedSimpArgs false
set_option linter.unusedVariables false
namespace Go.Proofs.YtblhmeidbjigaabGreatDoor
open Go.RowKit

section
variable {regs slots data : Int} {names : List Int} {ops : List OpD} {k : Nat} {o : OpD}

/-- The mark of a Load or Store. -/
def cellMark (data : Int) (u : TD) : List UInt8 := match u.isNum with | some n => if 0 ≤ n ∧ n < data then [] else 64 :: 32 :: showT u | none => 64 :: 32 :: showT u
/-- The mark of a Div. -/
def divMark (u v : TD) : List UInt8 := match u.isNum, v.isNum with | some _, some y => if y ≠ 0 then [] else 47 :: 32 :: (showT u ++ 32 :: showT v) | _, _ => 47 :: 32 :: (showT u ++ 32 :: showT v)

theorem rmark_div (ho : ops.getD k oz = o) (h : o.kind = 11) : markT regs slots data names ops k = divMark (behindT regs slots names ops k o.b) (behindT regs slots names ops k o.c) := by
  subst ho; simp only [markT]; rw [if_pos h]; rfl
theorem rmark_at (ho : ops.getD k oz = o) {at_ : Int} (h : (o.kind = 12 ∧ at_ = o.b) ∨ (o.kind = 13 ∧ at_ = o.a)) : markT regs slots data names ops k = cellMark data (behindT regs slots names ops k at_) := by
  subst ho; simp only [markT]
  rcases h with ⟨h, rfl⟩ | ⟨h, rfl⟩
  · rw [if_neg (by omega), if_pos (.inl h), if_pos h]; rfl
  · rw [if_neg (by omega), if_pos (.inr h), if_neg (by omega)]; rfl
theorem rmark_none (ho : ops.getD k oz = o) (h : o.kind ≠ 11 ∧ o.kind ≠ 12 ∧ o.kind ≠ 13) : markT regs slots data names ops k = [] := by
  subst ho; simp only [markT]; rw [if_neg h.1, if_neg (by omega)]
end

theorem cellMark_in {data : Int} {u : TD} {n : Int} (h : u.isNum = some n) (hn : 0 ≤ n ∧ n < data) : cellMark data u = [] := by unfold cellMark; rw [h]; simp only; rw [if_pos hn]
theorem cellMark_out {data : Int} {u : TD} {n : Int} (h : u.isNum = some n) (hn : ¬ (0 ≤ n ∧ n < data)) : cellMark data u = 64 :: 32 :: showT u := by unfold cellMark; rw [h]; simp only; rw [if_neg hn]
theorem cellMark_none {data : Int} {u : TD} (h : u.isNum = none) : cellMark data u = 64 :: 32 :: showT u := by unfold cellMark; rw [h]
theorem divMark_off {u v : TD} {x y : Int} (h : u.isNum = some x) (h' : v.isNum = some y) (hy : y ≠ 0) : divMark u v = [] := by unfold divMark; rw [h, h']; simp only; rw [if_pos hy]
theorem divMark_on {u v : TD} (h : u.isNum = none ∨ v.isNum = none ∨ v.isNum = some 0) : divMark u v = 47 :: 32 :: (showT u ++ 32 :: showT v) := by
  unfold divMark
  cases hu : u.isNum with
  | none => rfl
  | some x =>
    cases hv : v.isNum with
    | none => rfl
    | some y =>
      rcases h with h | h | h
      · rw [hu] at h; cases h
      · rw [hv] at h; cases h
      · rw [hv] at h; cases h; rfl

theorem cell_str (u : TD) : (⟨#[64, 32]⟩ : ByteArray) ++ str (showT u) = str (64 :: 32 :: showT u) := by
  show str [64, 32] ++ _ = _
  rw [str_append]; rfl
theorem div_str (u v : TD) : (⟨#[47, 32]⟩ : ByteArray) ++ str (showT u) ++ ⟨#[32]⟩ ++ str (showT v) = str (47 :: 32 :: (showT u ++ 32 :: showT v)) := by
  show str [47, 32] ++ _ ++ str [32] ++ _ = _
  simp only [str_append]; congr 1; simp


set_option maxRecDepth 100000 in
set_option maxHeartbeats 4000000 in
theorem rMark_any (p : ProgD) (pv nv : Value) (b : Nat) (names : List Int) (hg : progGood p = true) (hb : b < p.blocks.length) (hnm : ∀ x ∈ names, x ≤ 1000) (k : Nat) (hk : k < (bops p.blocks b).length) (w : World) (hv : RdView w p pv nv names) :
    Calls Tryz.prog 153 #[viewV p pv b nv, .int .i64 k] w fun e w' => e = .returned (.string (str (markT p.regs p.slots p.data names (bops p.blocks b) k))) ∧ Below w.heap.size w w' := by
  obtain ⟨hr, hargs, hdata, hs⟩ := good_shape hg
  obtain ⟨h12, hops⟩ := good_block hg hb
  have hfine := behindT_fine (names := names) (show 0 ≤ p.regs ∧ p.regs ≤ 100 by omega) (show 0 ≤ p.slots ∧ p.slots ≤ 100 by omega) hnm hops k (by omega)
  have hsize : ∀ q : Int, (behindT p.regs p.slots names (bops p.blocks b) k q).size ≤ 4000000000000 := fun q => by
    have h1 := behindT_size p.regs p.slots names (bops p.blocks b) k q
    have h2 := most_12 (show k ≤ 12 by omega)
    omega
  obtain ⟨o, ho⟩ : ∃ o, (bops p.blocks b).getD k oz = o := ⟨_, rfl⟩
  have hog := op_cases (show opGood p.regs p.slots o = true by rw [← ho]; exact good_op hops hk)
  have hb0 : Below w.heap.size w (w.alloc (.cells #[.int .i64 p.args, .int .i64 p.regs, .int .i64 p.data, .int .i64 p.slots, pv, .int .i64 b, nv] 164)) := (Below.refl _ _).alloc (Nat.le_refl _) _
  have hb1 : Below w.heap.size w ((w.alloc (.cells #[.int .i64 p.args, .int .i64 p.regs, .int .i64 p.data, .int .i64 p.slots, pv, .int .i64 b, nv] 164)).alloc (.cells #[.int .i64 o.kind, .int .i64 o.a, .int .i64 o.b, .int .i64 o.c] 36)) := hb0.alloc hb0.size _
  have es : (w.alloc (.cells #[.int .i64 p.args, .int .i64 p.regs, .int .i64 p.data, .int .i64 p.slots, pv, .int .i64 b, nv] 164)).heap.size = w.heap.size + 1 := by simp
  have V : VAt w ((w.alloc (.cells #[.int .i64 p.args, .int .i64 p.regs, .int .i64 p.data, .int .i64 p.slots, pv, .int .i64 b, nv] 164)).alloc (.cells #[.int .i64 o.kind, .int .i64 o.a, .int .i64 o.b, .int .i64 o.c] 36)) w.heap.size (w.heap.size + 1) p pv nv b names o :=
    ⟨Row.alloc (heap_alloc_new w _) _, by have := heap_alloc_new (w.alloc (.cells #[.int .i64 p.args, .int .i64 p.regs, .int .i64 p.data, .int .i64 p.slots, pv, .int .i64 b, nv] 164)) (.cells #[.int .i64 o.kind, .int .i64 o.a, .int .i64 o.b, .int .i64 o.c] 36); rw [es] at this; exact this, hv.keep hb1, hb1⟩
  obtain ⟨ao, cap, rfl, hll, hc⟩ := hv.blocks
  obtain ⟨bb, off, sv, rfl, c0, _, _, _, _, hrd⟩ := hc b hb
  obtain ⟨so, sc, rfl, hol, hoc⟩ := hrd
  obtain ⟨b2, off2, rfl, e0, e1, e2, e3⟩ := hoc k hk
  have x0 := cell_keep hb0 c0
  have y0 := cell_keep hb0 e0
  have y1 := cell_keep hb0 e1
  have y2 := cell_keep hb0 e2
  have y3 := cell_keep hb0 e3
  have ho0 : okind (bops p.blocks b) k = o.kind := by unfold okind; rw [ho]
  have ho1 : oa (bops p.blocks b) k = o.a := by unfold oa; rw [ho]
  have ho2 : ob (bops p.blocks b) k = o.b := by unfold ob; rw [ho]
  have ho3 : oc (bops p.blocks b) k = o.c := by unfold oc; rw [ho]
  rw [ho0] at y0
  rw [ho1] at y1
  rw [ho2] at y2
  rw [ho3] at y3
  clear es e0 e1 e2 e3 c0 hc hoc ho0 ho1 ho2 ho3 hb0 hb1 hv
  have hbi : (0 : Int) ≤ (b : Int) := by omega
  have hbj : (b : Int) < (p.blocks.length : Int) := by omega
  have hki : (0 : Int) ≤ (k : Int) := by omega
  have hkj : (k : Int) < ((bops p.blocks b).length : Int) := by omega
  have hbk := rBehind_int p (.slice (some ⟨bb, off, none⟩) p.blocks.length cap) nv b names hg hb hnm k (Nat.le_of_lt hk)
  have qb := fun place w P => hbk place w P
  have HTab := Lib.hid V.rd.tab
  have HV := Lib.hid V
  have HFine := Lib.hid hfine
  have hkk : o.kind = 1 ∨ (3 ≤ o.kind ∧ o.kind ≤ 11) ∨ o.kind = 2 ∨ o.kind = 12 ∨ o.kind = 13 ∨ o.kind = 14 ∨ o.kind = 15 := by omega
  unfold viewV at qb ⊢
  clear V hfine hol hll hbk
  rcases hkk with hkk | hkk | hkk | hkk | hkk | hkk | hkk
  · have HM := Lib.hid (rmark_none (data := p.data) (names := names) (regs := p.regs) (slots := p.slots) ho (by omega))
    have HB := Lib.hid HV.out.keep
    clear qb HV HTab HFine
    rw [hkk] at y0 HB
    go_enter Tryz.func153, Tryz.ntmps153
    go_wp2
    go_ret
    exact ⟨by rw [HM.out]; rfl, HB.out⟩
  · by_cases h11 : o.kind = 11
    · have hob : (0 ≤ o.b ∧ o.b < p.regs) ∧ (0 ≤ o.c ∧ o.c < p.regs) := by omega
      have HM := Lib.hid (rmark_div (data := p.data) (names := names) (regs := p.regs) (slots := p.slots) ho h11)
      have hfu := HFine.out o.b (by omega) (by omega)
      have hfv := HFine.out o.c (by omega) (by omega)
      have hsu := hsize o.b
      have hsv := hsize o.c
      have hso := show_size hfu hsu
      have hsp := show_size hfv hsv
      have HFu := Lib.hid hfu
      have HFv := Lib.hid hfv
      have HK1 := Lib.hid (And.intro (isNum_kind hfu) (isNum_none hfu))
      have HK2 := Lib.hid (And.intro (isNum_kind hfv) (isNum_none hfv))
      have q1 := fun P => qb o.b ((w.alloc (.cells #[.int .i64 p.args, .int .i64 p.regs, .int .i64 p.data, .int .i64 p.slots, .slice (some ⟨bb, off, none⟩) p.blocks.length cap, .int .i64 b, nv] 164)).alloc (.cells #[.int .i64 o.kind, .int .i64 o.a, .int .i64 o.b, .int .i64 o.c] 36)) P HV.out.rd (by omega) (by omega)
      have hbc : 0 ≤ o.c ∧ o.c ≤ p.regs + p.slots := by omega
      rw [h11] at y0 q1 HV HTab
      clear hfu hfv hkk
      go_enter Tryz.func153, Tryz.ntmps153
      go_wp2_with fail
      refine q1 _ ?_
      intro g4 w4 t4 b4
      have h4 := HV.out
      have vw := h4.view.keep b4
      have ow := h4.op.keep b4
      have rd4 := h4.rd.keep b4
      have k4 := h4.keep.trans (b4.mono h4.keep.size)
      have q2 := fun P => qb o.c w4 P rd4 hbc.1 hbc.2
      have v0 := vw.cell (i := 0) rfl
      have v1 := vw.cell (i := 1) rfl
      have v2 := vw.cell (i := 2) rfl
      have v3 := vw.cell (i := 3) rfl
      have v4 := vw.cell (i := 4) rfl
      have v5 := vw.cell (i := 5) rfl
      have v6 := vw.cell (i := 6) rfl
      have o3 := ow.cell (i := 3) rfl
      have HT4 := Lib.hid rd4.tab
      clear q1 b4 x0 y0 y1 y2 y3 HV h4 vw ow rd4 qb HTab
      go_wp2_with fail
      refine q2 _ ?_
      intro g5 w5 t5 b5
      have T4 := Lib.hid (t4.keep b5)
      have T5 := Lib.hid t5
      have c0 := (t4.keep b5).kindc
      have d0 := t5.kindc
      have d1 := t5.numc
      have HK5 := Lib.hid (k4.trans (b5.mono k4.size))
      have HT5 := Lib.hid (HT4.out.keep b5)
      clear q2 t4 t5 b5 k4 HT4 v0 v1 v2 v3 v4 v5 v6 o3
      generalize behindT p.regs p.slots names (bops p.blocks b) k o.b = u at *
      generalize behindT p.regs p.slots names (bops p.blocks b) k o.c = v at *
      by_cases hn : u.kind = 100
      · have hun := HK1.out.1.1 hn
        rw [hn] at c0
        by_cases hm : v.kind = 100
        · have hvn := HK2.out.1.1 hm
          rw [hm] at d0
          by_cases hz : v.num = 0
          · rw [hz] at hvn d1
            have HE := Lib.hid (divMark_on (u := u) (v := v) (.inr (.inr hvn)))
            clear HK1 HK2 hun hvn hn hm hz
            have qs := rShow_any u g4 w5 T4.out (HT5.out) HFu.out hsu
            have qs2 := fun w6 (hb : Below w5.heap.size w5 w6) => rShow_any v g5 w6 (T5.out.keep hb) (HT5.out.keep hb) HFv.out hsv
            go_wp2_with fail
            refine qs.mono ?_
            rintro e w6 ⟨rfl, b6⟩
            go_wp2_with fail
            refine (qs2 w6 b6).mono ?_
            rintro e w7 ⟨rfl, b7⟩
            have b57 := b6.trans (b7.mono b6.size)
            have HB := Lib.hid (HK5.out.trans (b57.mono HK5.out.size))
            clear qs qs2 b6 b7 b57
            go_wp2
            go_ret
            exact ⟨by rw [HM.out, HE.out, ← div_str]; rfl, HB.out⟩
          · have HE := Lib.hid (divMark_off hun hvn hz)
            have hz2 : (v.num == 0) = false := by simp [hz]
            clear HK1 HK2 hun hvn hn hm
            generalize v.num = n at *
            go_wp2
            go_ret
            exact ⟨by rw [HM.out, HE.out]; rfl, HK5.out⟩
        · have hvn := HK2.out.2.1 hm
          have HE := Lib.hid (divMark_on (u := u) (v := v) (.inr (.inl hvn)))
          have hd1 : (v.kind == 100) = false := by simp [hm]
          clear HK1 HK2 hun hvn hn
          generalize v.kind = vk at *
          have qs := rShow_any u g4 w5 T4.out (HT5.out) HFu.out hsu
          have qs2 := fun w6 (hb : Below w5.heap.size w5 w6) => rShow_any v g5 w6 (T5.out.keep hb) (HT5.out.keep hb) HFv.out hsv
          go_wp2_with fail
          refine qs.mono ?_
          rintro e w6 ⟨rfl, b6⟩
          go_wp2_with fail
          refine (qs2 w6 b6).mono ?_
          rintro e w7 ⟨rfl, b7⟩
          have b57 := b6.trans (b7.mono b6.size)
          have HB := Lib.hid (HK5.out.trans (b57.mono HK5.out.size))
          clear qs qs2 b6 b7 b57
          go_wp2
          go_ret
          exact ⟨by rw [HM.out, HE.out, ← div_str]; rfl, HB.out⟩
      · have hun := HK1.out.2.1 hn
        have HE := Lib.hid (divMark_on (u := u) (v := v) (.inl hun))
        have hd1 : (u.kind == 100) = false := by simp [hn]
        clear HK1 HK2 hun
        generalize u.kind = uk at *
        have qs := rShow_any u g4 w5 T4.out (HT5.out) HFu.out hsu
        have qs2 := fun w6 (hb : Below w5.heap.size w5 w6) => rShow_any v g5 w6 (T5.out.keep hb) (HT5.out.keep hb) HFv.out hsv
        go_wp2_with fail
        refine qs.mono ?_
        rintro e w6 ⟨rfl, b6⟩
        go_wp2_with fail
        refine (qs2 w6 b6).mono ?_
        rintro e w7 ⟨rfl, b7⟩
        have b57 := b6.trans (b7.mono b6.size)
        have HB := Lib.hid (HK5.out.trans (b57.mono HK5.out.size))
        clear qs qs2 b6 b7 b57
        go_wp2
        go_ret
        exact ⟨by rw [HM.out, HE.out, ← div_str]; rfl, HB.out⟩
    · have n1 : (o.kind == 11) = false := by simp [h11]
      have n2 : (o.kind == 12) = false := by simp; omega
      have n3 : (o.kind == 13) = false := by simp; omega
      have HM := Lib.hid (rmark_none (data := p.data) (names := names) (regs := p.regs) (slots := p.slots) ho (by omega))
      have HB := Lib.hid HV.out.keep
      clear qb HV HTab HFine
      go_enter Tryz.func153, Tryz.ntmps153
      go_wp2
      go_ret
      exact ⟨by rw [HM.out]; rfl, HB.out⟩
  · have HM := Lib.hid (rmark_none (data := p.data) (names := names) (regs := p.regs) (slots := p.slots) ho (by omega))
    have HB := Lib.hid HV.out.keep
    clear qb HV HTab HFine
    rw [hkk] at y0 HB
    go_enter Tryz.func153, Tryz.ntmps153
    go_wp2
    go_ret
    exact ⟨by rw [HM.out]; rfl, HB.out⟩
  · have hob : 0 ≤ o.b ∧ o.b < p.regs := by omega
    have HM := Lib.hid (rmark_at (data := p.data) (names := names) (regs := p.regs) (slots := p.slots) ho (at_ := o.b) (.inl ⟨hkk, rfl⟩))
    have hfu := HFine.out o.b (by omega) (by omega)
    have hsu := hsize o.b
    have hso := show_size hfu hsu
    have HFu := Lib.hid hfu
    have HK1 := Lib.hid (And.intro (isNum_kind hfu) (isNum_none hfu))
    have q1 := fun P => qb o.b ((w.alloc (.cells #[.int .i64 p.args, .int .i64 p.regs, .int .i64 p.data, .int .i64 p.slots, .slice (some ⟨bb, off, none⟩) p.blocks.length cap, .int .i64 b, nv] 164)).alloc (.cells #[.int .i64 o.kind, .int .i64 o.a, .int .i64 o.b, .int .i64 o.c] 36)) P HV.out.rd (by omega) (by omega)
    rw [hkk] at y0 q1 HV HTab
    clear hfu qb
    go_enter Tryz.func153, Tryz.ntmps153
    go_wp2_with fail
    refine q1 _ ?_
    intro g4 w4 t4 b4
    have h4 := HV.out
    have d2 := (h4.view.keep b4).cell (i := 2) rfl
    have k4 := h4.keep.trans (b4.mono h4.keep.size)
    have T4 := Lib.hid t4
    have c0 := t4.kindc
    have c1 := t4.numc
    have bN : ∀ n, Below w4.heap.size w4 (w4.drewN n) := fun n => below_drewN (Below.refl _ _) n
    have kN : ∀ n, Below w.heap.size w (w4.drewN n) := fun n => below_drewN k4 n
    have bT : ∀ n, Below ((w.alloc (.cells #[.int .i64 p.args, .int .i64 p.regs, .int .i64 p.data, .int .i64 p.slots, .slice (some ⟨bb, off, none⟩) p.blocks.length cap, .int .i64 b, nv] 164)).alloc (.cells #[.int .i64 12, .int .i64 o.a, .int .i64 o.b, .int .i64 o.c] 36)).heap.size _ (w4.drewN n) := fun n => below_drewN b4 n
    generalize behindT p.regs p.slots names (bops p.blocks b) k o.b = u at *
    clear q1 b4 t4 x0 y0 y1 y2 y3 HV h4
    by_cases hn : u.kind = 100
    · have hun := HK1.out.1.1 hn
      rw [hn] at c0
      by_cases hin : 0 ≤ u.num ∧ u.num < p.data
      · have HE := Lib.hid (cellMark_in hun hin)
        obtain ⟨hi1, hi2⟩ := hin
        clear HK1 hun hn
        generalize u.num = n at *
        go_wp2
        go_quiet (fail)
        go_wp2
        go_ret
        exact ⟨by rw [HM.out, HE.out]; rfl, kN nq⟩
      · have HE := Lib.hid (cellMark_out hun hin)
        by_cases hi1 : 0 ≤ u.num
        · have hi2 : ¬ (u.num < p.data) := fun q => hin ⟨hi1, q⟩
          have hi3 : p.data ≤ u.num := by omega
          have hd2' : decide (u.num < p.data) = false := by simp; omega
          clear HK1 hun hn hin
          generalize u.num = n at *
          go_wp2
          go_quiet (fail)
          have qs := rShow_any u g4 (w4.drewN nq) (T4.out.keep (bN nq)) (HTab.out.keep (bT nq)) HFu.out hsu
          go_wp2_with fail
          refine qs.mono ?_
          rintro e w5 ⟨rfl, b5⟩
          have HB := Lib.hid ((kN nq).trans (b5.mono (kN nq).size))
          clear qs b5
          go_wp2
          go_ret
          exact ⟨by rw [HM.out, HE.out, ← cell_str]; rfl, HB.out⟩
        · have hi3 : u.num < 0 := by omega
          have hd2' : decide (0 ≤ u.num) = false := by simp; omega
          clear HK1 hun hn hin
          generalize u.num = n at *
          go_wp2
          go_quiet (fail)
          have qs := rShow_any u g4 (w4.drewN nq) (T4.out.keep (bN nq)) (HTab.out.keep (bT nq)) HFu.out hsu
          go_wp2_with fail
          refine qs.mono ?_
          rintro e w5 ⟨rfl, b5⟩
          have HB := Lib.hid ((kN nq).trans (b5.mono (kN nq).size))
          clear qs b5
          go_wp2
          go_ret
          exact ⟨by rw [HM.out, HE.out, ← cell_str]; rfl, HB.out⟩
    · have hun := HK1.out.2.1 hn
      have HE := Lib.hid (cellMark_none (data := p.data) hun)
      have hd1 : (u.kind == 100) = false := by simp [hn]
      have hd2' : decide (u.kind = 100) = false := by simp [hn]
      clear HK1 hun
      generalize u.kind = uk at *
      go_wp2
      go_quiet (fail)
      have qs := rShow_any u g4 (w4.drewN nq) (T4.out.keep (bN nq)) (HTab.out.keep (bT nq)) HFu.out hsu
      go_wp2_with fail
      refine qs.mono ?_
      rintro e w5 ⟨rfl, b5⟩
      have HB := Lib.hid ((kN nq).trans (b5.mono (kN nq).size))
      clear qs b5
      go_wp2
      go_ret
      exact ⟨by rw [HM.out, HE.out, ← cell_str]; rfl, HB.out⟩
  · have hob : 0 ≤ o.a ∧ o.a < p.regs := by omega
    have HM := Lib.hid (rmark_at (data := p.data) (names := names) (regs := p.regs) (slots := p.slots) ho (at_ := o.a) (.inr ⟨hkk, rfl⟩))
    have hfu := HFine.out o.a (by omega) (by omega)
    have hsu := hsize o.a
    have hso := show_size hfu hsu
    have HFu := Lib.hid hfu
    have HK1 := Lib.hid (And.intro (isNum_kind hfu) (isNum_none hfu))
    have q1 := fun P => qb o.a ((w.alloc (.cells #[.int .i64 p.args, .int .i64 p.regs, .int .i64 p.data, .int .i64 p.slots, .slice (some ⟨bb, off, none⟩) p.blocks.length cap, .int .i64 b, nv] 164)).alloc (.cells #[.int .i64 o.kind, .int .i64 o.a, .int .i64 o.b, .int .i64 o.c] 36)) P HV.out.rd (by omega) (by omega)
    rw [hkk] at y0 q1 HV HTab
    clear hfu qb
    go_enter Tryz.func153, Tryz.ntmps153
    go_wp2_with fail
    refine q1 _ ?_
    intro g4 w4 t4 b4
    have h4 := HV.out
    have d2 := (h4.view.keep b4).cell (i := 2) rfl
    have k4 := h4.keep.trans (b4.mono h4.keep.size)
    have T4 := Lib.hid t4
    have c0 := t4.kindc
    have c1 := t4.numc
    have bN : ∀ n, Below w4.heap.size w4 (w4.drewN n) := fun n => below_drewN (Below.refl _ _) n
    have kN : ∀ n, Below w.heap.size w (w4.drewN n) := fun n => below_drewN k4 n
    have bT : ∀ n, Below ((w.alloc (.cells #[.int .i64 p.args, .int .i64 p.regs, .int .i64 p.data, .int .i64 p.slots, .slice (some ⟨bb, off, none⟩) p.blocks.length cap, .int .i64 b, nv] 164)).alloc (.cells #[.int .i64 13, .int .i64 o.a, .int .i64 o.b, .int .i64 o.c] 36)).heap.size _ (w4.drewN n) := fun n => below_drewN b4 n
    generalize behindT p.regs p.slots names (bops p.blocks b) k o.a = u at *
    clear q1 b4 t4 x0 y0 y1 y2 y3 HV h4
    by_cases hn : u.kind = 100
    · have hun := HK1.out.1.1 hn
      rw [hn] at c0
      by_cases hin : 0 ≤ u.num ∧ u.num < p.data
      · have HE := Lib.hid (cellMark_in hun hin)
        obtain ⟨hi1, hi2⟩ := hin
        clear HK1 hun hn
        generalize u.num = n at *
        go_wp2
        go_quiet (fail)
        go_wp2
        go_ret
        exact ⟨by rw [HM.out, HE.out]; rfl, kN nq⟩
      · have HE := Lib.hid (cellMark_out hun hin)
        by_cases hi1 : 0 ≤ u.num
        · have hi2 : ¬ (u.num < p.data) := fun q => hin ⟨hi1, q⟩
          have hi3 : p.data ≤ u.num := by omega
          have hd2' : decide (u.num < p.data) = false := by simp; omega
          clear HK1 hun hn hin
          generalize u.num = n at *
          go_wp2
          go_quiet (fail)
          have qs := rShow_any u g4 (w4.drewN nq) (T4.out.keep (bN nq)) (HTab.out.keep (bT nq)) HFu.out hsu
          go_wp2_with fail
          refine qs.mono ?_
          rintro e w5 ⟨rfl, b5⟩
          have HB := Lib.hid ((kN nq).trans (b5.mono (kN nq).size))
          clear qs b5
          go_wp2
          go_ret
          exact ⟨by rw [HM.out, HE.out, ← cell_str]; rfl, HB.out⟩
        · have hi3 : u.num < 0 := by omega
          have hd2' : decide (0 ≤ u.num) = false := by simp; omega
          clear HK1 hun hn hin
          generalize u.num = n at *
          go_wp2
          go_quiet (fail)
          have qs := rShow_any u g4 (w4.drewN nq) (T4.out.keep (bN nq)) (HTab.out.keep (bT nq)) HFu.out hsu
          go_wp2_with fail
          refine qs.mono ?_
          rintro e w5 ⟨rfl, b5⟩
          have HB := Lib.hid ((kN nq).trans (b5.mono (kN nq).size))
          clear qs b5
          go_wp2
          go_ret
          exact ⟨by rw [HM.out, HE.out, ← cell_str]; rfl, HB.out⟩
    · have hun := HK1.out.2.1 hn
      have HE := Lib.hid (cellMark_none (data := p.data) hun)
      have hd1 : (u.kind == 100) = false := by simp [hn]
      have hd2' : decide (u.kind = 100) = false := by simp [hn]
      clear HK1 hun
      generalize u.kind = uk at *
      go_wp2
      go_quiet (fail)
      have qs := rShow_any u g4 (w4.drewN nq) (T4.out.keep (bN nq)) (HTab.out.keep (bT nq)) HFu.out hsu
      go_wp2_with fail
      refine qs.mono ?_
      rintro e w5 ⟨rfl, b5⟩
      have HB := Lib.hid ((kN nq).trans (b5.mono (kN nq).size))
      clear qs b5
      go_wp2
      go_ret
      exact ⟨by rw [HM.out, HE.out, ← cell_str]; rfl, HB.out⟩
  · have HM := Lib.hid (rmark_none (data := p.data) (names := names) (regs := p.regs) (slots := p.slots) ho (by omega))
    have HB := Lib.hid HV.out.keep
    clear qb HV HTab HFine
    rw [hkk] at y0 HB
    go_enter Tryz.func153, Tryz.ntmps153
    go_wp2
    go_ret
    exact ⟨by rw [HM.out]; rfl, HB.out⟩
  · have HM := Lib.hid (rmark_none (data := p.data) (names := names) (regs := p.regs) (slots := p.slots) ho (by omega))
    have HB := Lib.hid HV.out.keep
    clear qb HV HTab HFine
    rw [hkk] at y0 HB
    go_enter Tryz.func153, Tryz.ntmps153
    go_wp2
    go_ret
    exact ⟨by rw [HM.out]; rfl, HB.out⟩

end Go.Proofs.YtblhmeidbjigaabGreatDoor

/- A block traps at the first of its marks that fails: pure. -/
set_option linter.unusedSimpArgs false
set_option linter.unusedVariables false
noncomputable section
namespace Go.Proofs.YtblhmeidbjigaabGreatDoor
open Go.RowKit Classical

/-- A mark: a cell's number, or two words that are divided. -/
inductive MD where
  | cell (u : TD)
  | div (u v : TD)

/-- The mark of the operation behind the first k ones, as it is before any is left out. -/
def rawMark (regs slots : Int) (names : List Int) (ops : List OpD) (k : Nat) : Option MD :=
  if (ops.getD k oz).kind = 11 then some (.div (behindT regs slots names ops k (ops.getD k oz).b) (behindT regs slots names ops k (ops.getD k oz).c))
  else if (ops.getD k oz).kind = 12 then some (.cell (behindT regs slots names ops k (ops.getD k oz).b))
  else if (ops.getD k oz).kind = 13 then some (.cell (behindT regs slots names ops k (ops.getD k oz).a))
  else none

/-- A mark that is left out for its numbers. -/
def idle (data : Int) : MD → Bool
  | .cell u => match u.isNum with | some n => decide (0 ≤ n ∧ n < data) | none => false
  | .div u v => match u.isNum, v.isNum with | some _, some y => decide (y ≠ 0) | _, _ => false

/-- P11: the marks of the first k operations. -/
def marksD (regs slots data : Int) (names : List Int) (ops : List OpD) : Nat → List MD
  | 0 => []
  | k + 1 => match rawMark regs slots names ops k with
    | some m => if idle data m = true ∨ m ∈ marksD regs slots data names ops k then marksD regs slots data names ops k else marksD regs slots data names ops k ++ [m]
    | none => marksD regs slots data names ops k

end Go.Proofs.YtblhmeidbjigaabGreatDoor

/- Two blocks that start alike and whose terms are the same end alike: pure. -/
set_option linter.unusedSimpArgs false
set_option linter.unusedVariables false
noncomputable section
namespace Go.Proofs.YtblhmeidbjigaabGreatDoor
open Go.RowKit Classical

/-- By place the register of the source that a pair names; -1: none does. -/
def namesOf (ps : List PairD) (n : Nat) : List Int := (List.range n).map fun (p : Nat) => match ps.find? (fun x => decide (x.place = (p : Int))) with | some x => x.reg | none => -1

theorem namesOf_get (ps : List PairD) {n : Nat} {p : Int} (h0 : 0 ≤ p) (h1 : p < n) : (namesOf ps n).getD p.toNat 0 = match ps.find? (fun x => decide (x.place = p)) with | some x => x.reg | none => -1 := by
  have e : ((p.toNat : Nat) : Int) = p := by omega
  simp only [namesOf, List.getD]
  rw [List.getElem?_map, List.getElem?_range (by omega)]
  simp only [Option.map_some, Option.getD_some]
  rw [e]

end Go.Proofs.YtblhmeidbjigaabGreatDoor

/- Writing behind the end of a program's lists. -/
set_option linter.unusedSimpArgs false
set_option linter.unusedVariables false
namespace Go.Proofs.YtblhmeidbjigaabGreatDoor
open Go.RowKit

set_option maxRecDepth 100000 in
set_option maxHeartbeats 2000000 in
theorem behindProg_any (a0 a1 a2 a3 : Int) (v : Value) (hv : List (BlockD × Value)) (w : World) (base : Nat) (hown : OwnBlocks w base v hv) (hbs : base ≤ w.heap.size) (hl : hv.length ≤ 1000) (hl2 : ∀ x ∈ hv, x.1.ops.length ≤ 1000)
    (S : Nat → Prop) (hSv : ∀ g, v.ownBlock = some g → S g) (hSx : ∀ x ∈ hv, ∀ g, x.2.ownBlock = some g → S g) :
    Calls Tryz.prog 73 #[.agg #[.int .i64 a0, .int .i64 a1, .int .i64 a2, .int .i64 a3, v]] w fun e w' => e = .returned (.tuple #[]) ∧ OwnBlocks w' base v hv ∧ Keep S w w' := by
  obtain ⟨i0, ii, iz0, iz1, iz2⟩ := info_parts Tryz.infoBlk
  obtain ⟨j0, ji, jz0, jz1, jz2⟩ := info_parts Tryz.infoOp
  obtain ⟨ao, cap, rfl⟩ := owns_slice hown.row
  have hrd := hown.rd
  go_enter Tryz.func73, Tryz.ntmps73
  go_wp2
  go_loopw [2] (fun i wr => ∃ (k : Nat), k ≤ hv.length ∧ i = .int .i64 k ∧ OwnBlocks wr base (.slice ao hv.length cap) hv ∧ wr.cell? ⟨w.heap.size, 4, none⟩ = some (.slice ao hv.length cap) ∧ Keep S w wr ∧ w.heap.size + 1 ≤ wr.heap.size)
    (fun i _ => hv.length - (intOf i).toNat)
  case atStart => exact ⟨0, Nat.zero_le _, rfl, hown.alloc _, by simp, (Keep.refl _ _).alloc _, by simp⟩
  case round =>
    obtain ⟨k, hk, rfl, ho, hx0, hbel, hz⟩ := hrel
    by_cases hlt : k < hv.length
    case neg =>
      obtain ⟨wo, hwo⟩ : ∃ wo, wo = wr := ⟨_, rfl⟩
      subst hwo
      go_wp2
      go_loopw [5, 6] (fun l i w2 => ∃ (j : Nat), j ≤ 9 ∧ i = .int .i64 j ∧ OwnBlocks w2 base (.slice ao hv.length cap) hv ∧ w2.ownsRow base 42 5 l (hv.length + j) (blkCells hv ++ pad [.slice none 0 0, .int .i64 0, .int .i64 0, .int .i64 0, .int .i64 0] j) ∧ Hid (∀ g, l.ownBlock = some g → S g ∨ w.heap.size ≤ g) ∧ Keep S w w2 ∧ w.heap.size + 1 ≤ w2.heap.size)
        (fun _ i _ => 9 - (intOf i).toNat)
      case atStart => exact ⟨0, Nat.zero_le _, rfl, ho, by simpa [pad] using ho.row, fun g hg => .inl (hSv g hg), hbel, hz⟩
      case round =>
        obtain ⟨j, hj, rfl, ho2, hrow, hlb, hbin, hz2⟩ := hrel
        obtain ⟨lo, lc, rfl⟩ := owns_slice hrow
        by_cases hjl : j < 9
        · have HP : Hid (pad [.slice none 0 0, .int .i64 0, .int .i64 0, .int .i64 0, .int .i64 0] (j + 1) = pad [.slice none 0 0, .int .i64 0, .int .i64 0, .int .i64 0, .int .i64 0] j ++ [.slice none 0 0, .int .i64 0, .int .i64 0, .int .i64 0, .int .i64 0]) := rfl
          go_wp2_with (at_builtin; refine wpList_append_stay _ rfl _ _ 23 rfl base 42 i0 (.agg #[.slice none 0 0, .int .i64 0, .int .i64 0, .int .i64 0, .int .i64 0]) 5 56 Tryz.underlying23 ii iz0 iz1 iz2 rfl (by decide) _ _ _ rfl (hrow.alloc _) ⟨wr.heap.size, 0, none⟩ 1 1 [.slice none 0 0, .int .i64 0, .int .i64 0, .int .i64 0, .int .i64 0] rfl rfl (five_new wr _ _ _ _ _ _) ?d2 ?d3 ?d4 ?d5 (by decide) ?_)
          case d2 => first | exact ⟨rfl, rfl, rfl, rfl, rfl⟩ | exact five_one | (intro u hu; simp at hu; rcases hu with rfl | rfl <;> rfl)
          case d3 => unfold maxLen; omega
          case d4 => omega
          case d5 => first | omega | (simp; omega)
          intro v' w2 hrow' hgrow hstay hfr
          try rw [List.append_assoc] at hrow'
          rw [← HP.out] at hrow'
          have ho3 := (ho2.alloc _).appOut (hrow.alloc _) (fun g _ _ => ⟨_, rfl⟩) hgrow hstay
          have hb3 := (hbin.alloc _).grown hgrow hlb.out
          have hlb' : Hid (∀ g, v'.ownBlock = some g → S g ∨ w.heap.size ≤ g) := fun g hg => by
            rcases hfr g hg with e | e
            · exact hlb.out g e
            · exact .inr (by omega)
          have hz3 := hgrow.size
          simp at hz3
          obtain ⟨lo', lc', rfl⟩ := owns_slice hrow'
          clear hgrow hstay hfr hrow ho2 hbin
          go_wp2
          go_roundw
          case rel => exact ⟨j + 1, by omega, by go_num, ho3, hrow', hlb', hb3, by omega⟩
          case measure => simp [intOf]; omega
        · go_wp2
          go_end0
          exact ⟨rfl, ho2, hbin⟩
    obtain ⟨wo, hwo⟩ : ∃ wo, wo = wr := ⟨_, rfl⟩
    subst hwo
    obtain ⟨b, rfl, hbb, c0, c1, c2, c3, c4, cf⟩ := ownBlocks_at ho hlt
    have hsl := hl2 _ (List.getElem_mem hlt)
    have hrow0 := ho.each _ (List.getElem_mem hlt)
    have hpre0 := PreO.start ho hlt
    have hne0 : Hid (∀ g, hv[k].2.ownBlock = some g → S g ∧ g < w.heap.size ∨ w.heap.size + 1 ≤ g) := fun g hg => .inl ⟨hSx _ (List.getElem_mem hlt) g hg, ((hown.each _ (List.getElem_mem hlt)).lt g hg).2⟩
    generalize hv[k].1.ops = ps at *
    generalize hv[k].2 = sv at *
    go_wp2
    go_loopw [3, 4] (fun l i w2 => ∃ (j : Nat), j ≤ 9 ∧ i = .int .i64 j ∧ OwnBlocks w2 base (.slice (some ⟨b, 0, none⟩) hv.length cap) hv ∧ w2.ownsRow base 36 4 l (ps.length + j) (opCells ps ++ pad [.int .i64 77, .int .i64 0, .int .i64 0, .int .i64 0] j) ∧ PreO hv l (opCells ps ++ pad [.int .i64 77, .int .i64 0, .int .i64 0, .int .i64 0] j) ∧
        Hid (∀ g, l.ownBlock = some g → S g ∧ g < w.heap.size ∨ w.heap.size + 1 ≤ g) ∧ w2.cell? ⟨w.heap.size, 4, none⟩ = some (.slice (some ⟨b, 0, none⟩) hv.length cap) ∧ Keep S w w2 ∧ w.heap.size + 1 ≤ w2.heap.size)
      (fun _ i _ => 9 - (intOf i).toNat)
    case atStart => exact ⟨0, Nat.zero_le _, rfl, ho, by simpa [pad] using hrow0, by simpa [pad] using hpre0, hne0, hx0, hbel, hz⟩
    case round =>
      obtain ⟨j, hj, rfl, ho2, hrow, hpre, hne, hy0, hbin, hz2⟩ := hrel
      obtain ⟨lo, lc, rfl⟩ := owns_slice hrow
      by_cases hjl : j < 9
      · have HP : Hid (pad [.int .i64 77, .int .i64 0, .int .i64 0, .int .i64 0] (j + 1) = pad [.int .i64 77, .int .i64 0, .int .i64 0, .int .i64 0] j ++ [.int .i64 77, .int .i64 0, .int .i64 0, .int .i64 0]) := rfl
        go_wp2_with (at_builtin; refine wpList_append_stay _ rfl _ _ 34 rfl base 36 j0 (.agg #[.int .i64 0, .int .i64 0, .int .i64 0, .int .i64 0]) 4 32 Tryz.underlying34 ji jz0 jz1 jz2 rfl (by decide) _ _ _ rfl (hrow.alloc _) ⟨wr.heap.size, 0, none⟩ 1 1 [.int .i64 77, .int .i64 0, .int .i64 0, .int .i64 0] rfl rfl (four_new wr _ _ _ _ _) ?e2 ?e3 ?e4 ?e5 (by decide) ?_)
        case e2 => first | exact ⟨rfl, rfl, rfl, rfl⟩ | exact four_one | (intro u hu; simp at hu; rcases hu with rfl | rfl <;> rfl)
        case e3 => unfold maxLen; omega
        case e4 => omega
        case e5 => first | omega | (simp; omega)
        intro v' w2 hrow' hgrow hstay hfr
        have hpre' := PreO.step (news := [.int .i64 77, .int .i64 0, .int .i64 0, .int .i64 0]) ho2 hpre (fun g hg => by rcases hfr g hg with e | e; exact .inl e; exact .inr (by omega))
        try rw [List.append_assoc] at hrow'
        rw [← HP.out] at hrow'
        rw [List.append_assoc, ← HP.out] at hpre'
        have ho3 := (ho2.alloc _).app (hrow.alloc _) hpre hgrow hstay
        have hb3 := (hbin.alloc _).grown hgrow (fun g hg => by
          rcases hne.out g hg with e | e
          · exact .inl e.1
          · exact .inr (by omega))
        have hy3 : w2.cell? ⟨w.heap.size, 4, none⟩ = some (.slice (some ⟨b, 0, none⟩) hv.length cap) := hgrow.cell (by rw [World.cell?_alloc_lt _ _ _ (by show w.heap.size < _; omega)]; exact hy0) (fun e => by rcases hne.out _ e.symm with e1 | e1; exact absurd e1.2 (Nat.lt_irrefl _); exact absurd e1 (by simp))
        have hne' : Hid (∀ g, v'.ownBlock = some g → S g ∧ g < w.heap.size ∨ w.heap.size + 1 ≤ g) := fun g hg => by
          rcases hfr g hg with e | e
          · exact hne.out g e
          · exact .inr (by omega)
        have hz3 := hgrow.size
        simp at hz3
        obtain ⟨lo', lc', rfl⟩ := owns_slice hrow'
        clear hgrow hstay hfr hrow ho2 hbin hpre hy0 hne
        go_wp2
        go_roundw
        case rel => exact ⟨j + 1, by omega, by go_num, ho3, hrow', hpre', hne', hy3, hb3, by omega⟩
        case measure => simp [intOf]; omega
      · go_wp2
        go_roundw
        case rel => exact ⟨k + 1, by omega, by go_num, ho2, hy0, hbin, hz2⟩
        case measure => simp [intOf]; omega

end Go.Proofs.YtblhmeidbjigaabGreatDoor

/- The owner writes into each list of a program. -/
set_option linter.unusedSimpArgs false
set_option linter.unusedVariables false
namespace Go.Proofs.YtblhmeidbjigaabGreatDoor
open Go.RowKit

/-- The first k blocks bear their marks. -/
def MkdP (mark : Int) (k : Nat) (hv : List (BlockD × Value)) : Prop := ∀ i (hi : i < hv.length), i < k → hv[i].1.fin.kind = mark + i ∧ ∀ j, j < hv[i].1.ops.length → okind hv[i].1.ops j = mark + i

theorem MkdP.set {mark : Int} {k : Nat} {hv : List (BlockD × Value)} (h : MkdP mark k hv) (x : BlockD × Value) : MkdP mark k (hv.set k x) := by
  intro i hi hik
  have e : (hv.set k x)[i] = hv[i]'(by simpa using hi) := by rw [List.getElem_set, if_neg (by omega)]
  rw [e]
  exact h i _ hik

end Go.Proofs.YtblhmeidbjigaabGreatDoor

/- The law on programs: writing. -/
set_option linter.unusedSimpArgs false
set_option linter.unusedVariables false
namespace Go.Proofs.YtblhmeidbjigaabGreatDoor
open Go.RowKit

set_option maxRecDepth 100000 in
set_option maxHeartbeats 4000000 in
theorem encoded_any (a0 a1 a2 a3 : Int) (u : Value) (l : List BlockD) (w : World) (hr : RdBlocks w u l) (hn : l.length ≤ 2513169434916) (hn2 : ∀ k, k < l.length → (bops l k).length ≤ 4398046511104) :
    Calls Tryz.prog 38 #[.agg #[.int .i64 a0, .int .i64 a1, .int .i64 a2, .int .i64 a3, u]] w fun e w' => e = .returned (.bool true) ∧ Below w.heap.size w w' := by
  obtain ⟨uo, uc, e0, _, _⟩ := id hr
  subst e0
  have hbU : Below w.heap.size w (w.alloc (.cells #[.int .i64 a0, .int .i64 a1, .int .i64 a2, .int .i64 a3, .slice uo l.length uc] 25)) := (Below.refl w.heap.size w).alloc (Nat.le_refl _) _
  have WU : Row (w.alloc (.cells #[.int .i64 a0, .int .i64 a1, .int .i64 a2, .int .i64 a3, .slice uo l.length uc] 25)) w.heap.size 25 [.int .i64 a0, .int .i64 a1, .int .i64 a2, .int .i64 a3, .slice uo l.length uc] := heap_alloc_new w _
  have hr1 := hr.keep hbU
  go_enter Tryz.func38, Tryz.ntmps38
  go_wp2_with fail
  refine roomyProg_cps a0 a1 a2 a3 _ l _ hr1 hn hn2 _ ?_
  intro w1 bv L D hdt hlies hL hD hb1
  have VU := WU.keep hb1
  have hb1' : Below (w.heap.size + 1) (w.alloc (.cells #[.int .i64 a0, .int .i64 a1, .int .i64 a2, .int .i64 a3, .slice uo l.length uc] 25)) w1 := by simpa using hb1
  have hz1 := hb1'.size
  simp at hz1
  have hb01 := Below.under hb1'
  have x0 := VU.cell (i := 0) rfl
  have x1 := VU.cell (i := 1) rfl
  have x2 := VU.cell (i := 2) rfl
  have x3 := VU.cell (i := 3) rfl
  have x4 := VU.cell (i := 4) rfl
  have hvl : bv.length = l.length := by rw [← hdt, bdat_length]
  have n2 : ∀ x ∈ bv, x.1.ops.length ≤ 4398046511104 := by
    intro x hx
    obtain ⟨k, hk, rfl⟩ := List.getElem_of_mem hx
    have := hn2 k (by omega)
    rw [← hdt, (bdat_get bv hk).1] at this
    exact this
  have HV : Hid (bv.length = l.length) := hvl
  have rg := rows_rdb (cap := bv.length + 1) hlies hL (by omega) (fun x hx => by have := n2 x hx; omega)
  rw [hdt] at rg
  have HD : Hid (bdat bv = l) := hdt
  clear hb1 hvl hdt
  have hzl : w.heap.size < w1.heap.size := by omega
  -- Encode
  have WL : Row (w1.alloc (.cells #[.int .i64 a0, .int .i64 a1, .int .i64 a2, .int .i64 a3, .slice (some ⟨L, 0, none⟩) bv.length (bv.length + 1)] 25)) w1.heap.size 25 [.int .i64 a0, .int .i64 a1, .int .i64 a2, .int .i64 a3, .slice (some ⟨L, 0, none⟩) bv.length (bv.length + 1)] := heap_alloc_new w1 _
  have hc := tEncode_any ⟨a0, a1, a2, a3, l⟩ _ (w1.alloc (.cells #[.int .i64 a0, .int .i64 a1, .int .i64 a2, .int .i64 a3, .slice (some ⟨L, 0, none⟩) bv.length (bv.length + 1)] 25)) (rg.keep ((Below.refl _ _).alloc (Nat.le_refl _) _))
  simp only [progV] at hc
  go_wp2_with fail
  refine hc.mono ?_
  clear hc
  rintro e w2 ⟨rfl, hb2⟩
  have VL := WL.keep hb2
  have hb2' : Below (w1.heap.size + 1) (w1.alloc (.cells #[.int .i64 a0, .int .i64 a1, .int .i64 a2, .int .i64 a3, .slice (some ⟨L, 0, none⟩) bv.length (bv.length + 1)] 25)) w2 := by simpa using hb2
  have hb12 := Below.under hb2'
  have hz2 := hb2'.size
  simp at hz2
  have VU2 := VU.keep hb12
  have y0 := VU2.cell (i := 0) rfl
  have y1 := VU2.cell (i := 1) rfl
  have y2 := VU2.cell (i := 2) rfl
  have y3 := VU2.cell (i := 3) rfl
  have y4 := VU2.cell (i := 4) rfl
  have z0 := VL.cell (i := 0) rfl
  have z1 := VL.cell (i := 1) rfl
  have z2 := VL.cell (i := 2) rfl
  have z3 := VL.cell (i := 3) rfl
  have z4 := VL.cell (i := 4) rfl
  have hb02 := hb01.trans (hb12.mono (by omega))
  have hu2 := hr.keep hb02
  have hu2' : RdBlocks w2 (.slice uo l.length uc) (bdat bv) := by rw [HD.out]; exact hu2
  have hw := wholeProg_any a0 a1 a2 a3 bv L D _ _ w2 (hlies.keep hb12) (hL.keep hb12) (hD.keep hb12) hu2' (by rw [HV.out]; exact hn) n2
  clear hb2 hb2' x0 x1 x2 x3 x4
  cases hg : progGood ⟨a0, a1, a2, a3, l⟩
  · simp only [Bool.false_eq_true, if_false]
    go_wp2_with fail
    refine hw.mono ?_
    clear hw
    rintro e w3 ⟨rfl, hb3⟩
    have VU3 := VU2.keep hb3
    have t0 := VU3.cell (i := 0) rfl
    have t1 := VU3.cell (i := 1) rfl
    have t2 := VU3.cell (i := 2) rfl
    have t3 := VU3.cell (i := 3) rfl
    have t4 := VU3.cell (i := 4) rfl
    have hb03 := hb02.trans (hb3.mono (by omega))
    have hz3 := hb3.size
    clear y0 y1 y2 y3 y4 z0 z1 z2 z3 z4
    go_wp2_with fail
    refine (rGood_any a0 a1 a2 a3 _ l _ (hr.keep hb03)).mono ?_
    rintro e w4 ⟨rfl, hb4⟩
    have hb04 := hb03.trans (hb4.mono (by omega))
    clear hlies hL hD rg hu2 hu2' t0 t1 t2 t3 t4
    rw [hg]
    go_wp2
    go_ret
    exact ⟨by simp, hb04⟩
  · simp only [if_true]
    go_wp2_with fail
    refine hw.mono ?_
    clear hw
    rintro e w3 ⟨rfl, hb3⟩
    have VU3 := VU2.keep hb3
    have t0 := VU3.cell (i := 0) rfl
    have t1 := VU3.cell (i := 1) rfl
    have t2 := VU3.cell (i := 2) rfl
    have t3 := VU3.cell (i := 3) rfl
    have t4 := VU3.cell (i := 4) rfl
    have hb03 := hb02.trans (hb3.mono (by omega))
    have hz3 := hb3.size
    clear y0 y1 y2 y3 y4 z0 z1 z2 z3 z4
    go_wp2_with fail
    refine (rGood_any a0 a1 a2 a3 _ l _ (hr.keep hb03)).mono ?_
    rintro e w4 ⟨rfl, hb4⟩
    have VU4 := VU3.keep hb4
    have hb04 := hb03.trans (hb4.mono (by omega))
    have hz4 := hb4.size
    clear hlies hL hD rg hu2 hu2' t0 t1 t2 t3 t4
    have t0 := VU4.cell (i := 0) rfl
    have t1 := VU4.cell (i := 1) rfl
    have t2 := VU4.cell (i := 2) rfl
    have t3 := VU4.cell (i := 3) rfl
    have t4 := VU4.cell (i := 4) rfl
    rw [hg]
    go_wp2_with fail
    refine (rText_any ⟨a0, a1, a2, a3, l⟩ _ _ (hr.keep hb04) hg).mono ?_
    rintro e w5 ⟨rfl, hb5⟩
    have hb05 := hb04.trans (hb5.mono (by omega))
    have hs := toList_self (str (progText ⟨a0, a1, a2, a3, l⟩))
    clear t0 t1 t2 t3 t4
    go_wp2
    go_ret
    exact ⟨by simp, hb05⟩

end Go.Proofs.YtblhmeidbjigaabGreatDoor

/- The law on programs: reading. -/
set_option linter.unusedSimpArgs false
set_option linter.unusedVariables false
namespace Go.Proofs.YtblhmeidbjigaabGreatDoor
open Go.RowKit

theorem Row.kept {S : Nat → Prop} {w w' : World} {g : Nat} {e : TypeId} {xs : List Value} (h : Row w g e xs) (hk : Keep S w w') (hn : ¬ S g) : Row w' g e xs := h.same (hk.block g h.lt hn)

theorem OwnBlocks.apartFrom {S : Nat → Prop} {w w' : World} {base : Nat} {v : Value} {bv : List (BlockD × Value)} (h : OwnBlocks w base v bv) (hk : Keep S w w') (hS : ∀ g, S g → g < base) : OwnBlocks w' base v bv := by
  have key : ∀ (e : TypeId) (sz : Nat) (u : Value) (n : Nat) (xs : List Value), w.ownsRow base e sz u n xs → w'.ownsRow base e sz u n xs := by
    intro e sz u n xs hu
    refine owns_same hu fun g hg => hk.block g (hu.lt g hg).2 (fun hs => ?_)
    have := hS g hs
    have := (hu.lt g hg).1
    omega
  exact ⟨key _ _ _ _ _ h.row, fun x hx => key _ _ _ _ _ (h.each x hx), h.apart⟩

/-- The blocks of memory that a program's lists lie in. -/
def bblk (v : Value) (bv : List (BlockD × Value)) (g : Nat) : Prop := v.ownBlock = some g ∨ ∃ x ∈ bv, x.2.ownBlock = some g

theorem bblk_lt {w : World} {base : Nat} {v : Value} {bv : List (BlockD × Value)} (h : OwnBlocks w base v bv) : ∀ g, bblk v bv g → base ≤ g ∧ g < w.heap.size := by
  rintro g (hg | ⟨x, hx, hg⟩)
  · exact h.row.lt g hg
  · exact (h.each x hx).lt g hg

theorem good_smallP {bv : List (BlockD × Value)} {p : ProgD} (hd : bdat bv = p.blocks) (hg : progGood p = true) : bv.length ≤ 1000 ∧ ∀ x ∈ bv, x.1.ops.length ≤ 1000 := by
  have h1 := progGood_len hg
  rw [← hd, bdat_length] at h1
  refine ⟨by omega, fun x hx => ?_⟩
  have := progGood_block hg x.1 (by rw [← hd]; exact List.mem_map.2 ⟨x, hx, rfl⟩)
  simp [blockGood] at this
  omega

end Go.Proofs.YtblhmeidbjigaabGreatDoor

/- An end out of raw numbers. -/
set_option linter.unusedSimpArgs false
set_option linter.unusedVariables false
namespace Go.Proofs.YtblhmeidbjigaabGreatDoor
open Go.RowKit

theorem Keep.trans {S : Nat → Prop} {w a b : World} (h : Keep S w a) (h2 : Keep S a b) : Keep S w b :=
  h.step h2.os h2.tape h2.output h2.size fun k hk hn => h2.block k (Nat.lt_of_lt_of_le hk h.size) hn

end Go.Proofs.YtblhmeidbjigaabGreatDoor

/- The machine lets words out. -/
set_option linter.unusedSimpArgs false
set_option linter.unusedVariables false
namespace Go.Proofs.YtblhmeidbjigaabGreatDoor
open Go.RowKit

theorem Row.grown {w w' : World} {M : Nat} {t : TypeId} {xs : List Value} {row : Option Nat} (h : Row w M t xs) (hg : w.grownBy w' row) (hne : row ≠ some M) : Row w' M t xs := h.same (hg.block M h.lt (fun e => hne e.symm))

theorem Keep.mono {S S' : Nat → Prop} {w w' : World} (h : Keep S w w') (hs : ∀ g, S g → S' g) : Keep S' w w' := ⟨h.os, h.tape, h.output, h.size, fun k hk hn => h.block k hk (fun e => hn (hs k e))⟩

/-- The machine at block M. -/
def Mach (K : Nat → Prop) (w : World) (M : Nat) (s : RunD) : Prop :=
  ∃ rv cv sv lv, Row w M 126 [rv, cv, sv, lv, .int .i64 s.trap] ∧ Bunch K w rv cv sv lv s ∧ ¬ K M

theorem Mach.keep {K : Nat → Prop} {w w' : World} {M : Nat} {s : RunD} (h : Mach K w M s) (hb : Below w.heap.size w w') : Mach K w' M s := by
  obtain ⟨rv, cv, sv, lv, h1, h2, h3⟩ := h
  exact ⟨rv, cv, sv, lv, h1.keep hb, h2.keep hb, h3⟩

/-- Other blocks are kept: some of those, and new ones. -/
theorem Mach.kept {K K' : Nat → Prop} {w w' : World} {M : Nat} {s : RunD} (h : Mach K w M s) (hk : ∀ g, K' g → K g ∨ w.heap.size ≤ g) (hl : ∀ g, K' g → g < w'.heap.size) (hb : Below w.heap.size w w') : Mach K' w' M s := by
  obtain ⟨rv, cv, sv, lv, h1, h2, h3⟩ := h
  refine ⟨rv, cv, sv, lv, h1.keep hb, h2.kept hk hl hb, fun e => ?_⟩
  rcases hk M e with q | q
  · exact h3 q
  · have := h1.lt; omega

theorem Mach.lt {K : Nat → Prop} {w : World} {M : Nat} {s : RunD} (h : Mach K w M s) : ∀ g, K g → g < w.heap.size := by
  obtain ⟨rv, cv, sv, lv, h1, h2, h3⟩ := h
  exact h2.lt

theorem one_new (w : World) (x : Value) (t : TypeId) : ∀ j u, [x][j]? = some u → (w.alloc (.cells #[x] t)).cell? ((⟨w.heap.size, 0, none⟩ : Addr).add j) = some u := by
  intro j u hj
  match j, hj with
  | 0, hj => simp at hj; subst hj; simp [Addr.add]

set_option maxRecDepth 100000 in
set_option maxHeartbeats 2000000 in
theorem letOut_cps (K : Nat → Prop) (M : Nat) (s : RunD) (x : Int) (w : World) (h : Mach K w M s) (hl : s.leak.length ≤ 100000) (Post : Ending → World → Prop)
    (hp : ∀ w', Mach K w' M (s.out x) → Keep (fun g => ¬ K g) w w' → Post (.returned (.tuple #[])) w') :
    Calls Tryz.prog 141 #[.pointer (some ⟨M, 0, none⟩), .int .i64 x] w Post := by
  obtain ⟨rv, cv, sv, lv, hrow, hb, hK⟩ := h
  obtain ⟨i0, ii, iz0, iz1, iz2⟩ := info_parts Tryz.infoInt
  obtain ⟨lo, lc, rfl⟩ := owns_slice hb.leak
  have x3 := hrow.cell (i := 3) rfl
  have hne := row_owns_apart hrow hb.leak (by decide)
  have hal := (Below.refl w.heap.size w).alloc (Nat.le_refl _) (.cells #[.int .i64 x] 3)
  have hb0 := hb.keep hal
  have hr0 := hrow.keep hal
  have hk0 : Keep (fun g => ¬ K g) w (w.alloc (.cells #[.int .i64 x] 3)) := (Keep.refl _ _).alloc _
  go_enter Tryz.func141, Tryz.ntmps141
  go_wp2_with (at_builtin; refine wpList_append_own_at _ rfl _ _ 22 rfl 0 3 i0 (.int .i64 0) 1 8 Tryz.underlying22 ii iz0 iz1 iz2 rfl (by decide) _ _ _ rfl hb0.leak ⟨w.heap.size, 0, none⟩ 1 1 [.int .i64 x] rfl rfl ?c1 ?c2 ?c3 ?c4 (by omega) ?_)
  case c1 => exact one_new w _ _
  case c2 => intro u hu; simp at hu; subst hu; rfl
  case c3 => unfold maxLen; omega
  case c4 => omega
  intro v' w1 hown hgrow _ hat
  have hb1 := hb0.app hown hgrow (by simpa using hat)
  have hr1 := hr0.grown hgrow hne
  have hk1 := hk0.grown hgrow (fun g e => .inl (hb.kl g e))
  have y3 := hr1.cell (i := 3) rfl
  have yf := hr1.frozen 3
  have hb2 := hb1.far hr1 (by decide) 3 v'
  have hr2 := hr1.set 3 v'
  have hk2 := hk1.setCell (p := ⟨M, 3, none⟩) (.inl hK) v'
  have HF : Hid (Post (.returned (.tuple #[])) (w1.setCell ⟨M, 3, none⟩ v')) := hp _ ⟨rv, cv, sv, v', hr2, hb2, hK⟩ hk2
  obtain ⟨lo', lc', rfl⟩ := owns_slice hown
  clear hp hb hb0 hr0 hb1 hr1 hk1 hb2 hr2 hk2 hgrow hown hat hal hk0 hrow
  go_wp2
  go_end0
  exact HF.out

set_option maxRecDepth 100000 in
set_option maxHeartbeats 2000000 in
theorem reaches_cps (K : Nat → Prop) (M : Nat) (s : RunD) (n : Int) (w : World) (h : Mach K w M s) (hl : s.leak.length ≤ 100000) (Post : Ending → World → Prop)
    (hyes : 0 ≤ n ∧ n < s.cells.length → ∀ w', Mach K w' M (s.out n) → Keep (fun g => ¬ K g) w w' → Post (.returned (.bool true)) w')
    (hno : ¬ (0 ≤ n ∧ n < s.cells.length) → ∀ w', Mach K w' M ((s.out n).die 2) → Keep (fun g => ¬ K g) w w' → Post (.returned (.bool false)) w') :
    Calls Tryz.prog 186 #[.pointer (some ⟨M, 0, none⟩), .int .i64 n] w Post := by
  go_enter Tryz.func186, Tryz.ntmps186
  go_wp2_with fail
  refine letOut_cps K M s n w h hl _ ?_
  intro w1 hm hk
  clear h hl
  obtain ⟨rv, cv, sv, lv, hrow, hb, hK⟩ := id hm
  obtain ⟨co, cc, rfl⟩ := owns_slice hb.cells
  have x1 := hrow.cell (i := 1) rfl
  have hlc : (s.out n).cells.length = s.cells.length := rfl
  rw [hlc] at x1 hrow hb
  by_cases h0 : n < 0
  · have x4 := hrow.cell (i := 4) rfl
    have xf := hrow.frozen 4
    have hk2 := hk.setCell (p := ⟨M, 4, none⟩) (.inl hK) (.int .i64 2)
    have HF : Hid (Post (.returned (.bool false)) (w1.setCell ⟨M, 4, none⟩ (.int .i64 2))) := hno (by omega) _ ⟨rv, _, sv, lv, hrow.set 4 (.int .i64 2), (hb.far hrow (by decide) 4 _).trapped 2, hK⟩ hk2
    clear hyes hno hk hk2 hb hrow hm
    go_wp2
    exact HF.out
  by_cases h1 : n < s.cells.length
  · have HF : Hid (Post (.returned (.bool true)) w1) := hyes ⟨by omega, h1⟩ _ hm hk
    clear hyes hno hk hb hrow hm
    go_wp2
    exact HF.out
  · have x4 := hrow.cell (i := 4) rfl
    have xf := hrow.frozen 4
    have hk2 := hk.setCell (p := ⟨M, 4, none⟩) (.inl hK) (.int .i64 2)
    have HF : Hid (Post (.returned (.bool false)) (w1.setCell ⟨M, 4, none⟩ (.int .i64 2))) := hno (by omega) _ ⟨rv, _, sv, lv, hrow.set 4 (.int .i64 2), (hb.far hrow (by decide) 4 _).trapped 2, hK⟩ hk2
    clear hyes hno hk hk2 hb hrow hm
    go_wp2
    exact HF.out

end Go.Proofs.YtblhmeidbjigaabGreatDoor

/- The machine's Load. -/
set_option linter.unusedSimpArgs false
set_option linter.unusedVariables false
namespace Go.Proofs.YtblhmeidbjigaabGreatDoor
open Go.RowKit

/-- A region that reads, then one store (or what follows of itself). -/
theorem wp_tail {P : Program} {id : Nat} {Q : Exit → Act → World → Prop} {a : Act} {w : World} {l : List Oper} (n : Nat) (hm : P.follows .mixedOrders = true) (hB : Region.lexTailB .any l.toArray n = true)
    (h : wpStill P l.toArray w.drew (fun a' => wpList P l.toArray Q (l.drop n) a' w.drew) (l.take n) a) : (Code.region id l.toArray true).wp P Q a w :=
  wp_region_still_tail n hm hB h

/-- The machine beside a boxed operation (or end) at block O. -/
structure With (K : Nat → Prop) (w0 w : World) (M O : Nat) (t : TypeId) (xs : List Value) (s : RunD) : Prop where
  mach : Mach (fun g => K g ∨ g = O) w M s
  row : Row w O t xs
  keep : Keep (fun g => ¬ K g) w0 w
  lt : ∀ g, K g → g < w0.heap.size
  ge : w0.heap.size ≤ O

theorem With.start {K : Nat → Prop} {w : World} {M : Nat} {s : RunD} (h : Mach K w M s) (t : TypeId) (xs : List Value) : With K w (w.alloc (.cells xs.toArray t)) M w.heap.size t xs s :=
  ⟨h.kept (fun g hg => by rcases hg with hg | hg; exact .inl hg; exact .inr (by omega)) (fun g hg => by rcases hg with hg | hg; have := h.lt g hg; simp; omega; simp; omega) ((Below.refl _ _).alloc (Nat.le_refl _) _),
    heap_alloc_new w _, (Keep.refl _ _).alloc _, h.lt, Nat.le_refl _⟩

theorem With.below {K : Nat → Prop} {w0 w w' : World} {M O : Nat} {t : TypeId} {xs : List Value} {s : RunD} (h : With K w0 w M O t xs s) (hb : Below w.heap.size w w') : With K w0 w' M O t xs s :=
  ⟨h.mach.keep hb, h.row.keep hb, h.keep.below hb h.keep.size, h.lt, h.ge⟩

theorem With.next {K : Nat → Prop} {w0 w w' : World} {M O : Nat} {t : TypeId} {xs : List Value} {s s' : RunD} (h : With K w0 w M O t xs s) (hm : Mach (fun g => K g ∨ g = O) w' M s') (hk : Keep (fun g => ¬ (K g ∨ g = O)) w w') : With K w0 w' M O t xs s' :=
  ⟨hm, h.row.same (hk.block O h.row.lt (fun hn => hn (.inr rfl))), h.keep.trans (hk.mono (fun g hn e => hn (.inl e))), h.lt, h.ge⟩

theorem With.done {K : Nat → Prop} {w0 w : World} {M O : Nat} {t : TypeId} {xs : List Value} {s : RunD} (h : With K w0 w M O t xs s) : Mach K w M s :=
  h.mach.kept (fun g hg => .inl (.inl hg)) (fun g hg => Nat.lt_of_lt_of_le (h.lt g hg) h.keep.size) (Below.refl _ _)

/-- A word becomes another: a register. -/
theorem With.setReg {K : Nat → Prop} {w0 w : World} {M O : Nat} {t : TypeId} {xs : List Value} {s : RunD} (h : With K w0 w M O t xs s) {rv cv sv lv : Value} (hrow : Row w M 126 [rv, cv, sv, lv, .int .i64 s.trap]) (hb : Bunch (fun g => K g ∨ g = O) w rv cv sv lv s)
    {g i : Nat} (hg : rv.ownBlock = some g) (hi : i < s.regs.length) (u : Int) : Mach K (w.setCell ⟨g, i, none⟩ (.int .i64 u)) M (s.reg i u) ∧ Keep (fun g => ¬ K g) w0 (w.setCell ⟨g, i, none⟩ (.int .i64 u)) := by
  have hne : ¬ (rv.ownBlock = some M) := row_owns_apart hrow hb.regs (by decide)
  have hK : ¬ (K g ∨ g = O) := hb.kr g hg
  have hM : ¬ K M := by obtain ⟨_, _, _, _, _, _, h3⟩ := h.mach; exact fun e => h3 (.inl e)
  have b2 := hb.setReg hg hi u
  have r2 := hrow.unset (a := ⟨g, i, none⟩) (fun e => hne (by rw [hg]; exact congrArg some e.symm)) (.int .i64 u)
  have b3 := b2.kept (K' := K) (fun g hg => .inl (.inl hg)) (fun g hg => by have := h.lt g hg; have := h.keep.size; simp; omega) (Below.refl _ _)
  exact ⟨⟨rv, cv, sv, lv, r2, b3, hM⟩, h.keep.setCell (.inl (fun e => hK (.inl e))) _⟩

theorem With.setMem {K : Nat → Prop} {w0 w : World} {M O : Nat} {t : TypeId} {xs : List Value} {s : RunD} (h : With K w0 w M O t xs s) {rv cv sv lv : Value} (hrow : Row w M 126 [rv, cv, sv, lv, .int .i64 s.trap]) (hb : Bunch (fun g => K g ∨ g = O) w rv cv sv lv s)
    {g i : Nat} (hg : cv.ownBlock = some g) (hi : i < s.cells.length) (u : Int) : Mach K (w.setCell ⟨g, i, none⟩ (.int .i64 u)) M (s.cell i u) ∧ Keep (fun g => ¬ K g) w0 (w.setCell ⟨g, i, none⟩ (.int .i64 u)) := by
  have hne : ¬ (cv.ownBlock = some M) := row_owns_apart hrow hb.cells (by decide)
  have hK : ¬ (K g ∨ g = O) := hb.kc g hg
  have hM : ¬ K M := by obtain ⟨_, _, _, _, _, _, h3⟩ := h.mach; exact fun e => h3 (.inl e)
  have b2 := hb.setMem hg hi u
  have r2 := hrow.unset (a := ⟨g, i, none⟩) (fun e => hne (by rw [hg]; exact congrArg some e.symm)) (.int .i64 u)
  have b3 := b2.kept (K' := K) (fun g hg => .inl (.inl hg)) (fun g hg => by have := h.lt g hg; have := h.keep.size; simp; omega) (Below.refl _ _)
  exact ⟨⟨rv, cv, sv, lv, r2, b3, hM⟩, h.keep.setCell (.inl (fun e => hK (.inl e))) _⟩

theorem With.setSlot {K : Nat → Prop} {w0 w : World} {M O : Nat} {t : TypeId} {xs : List Value} {s : RunD} (h : With K w0 w M O t xs s) {rv cv sv lv : Value} (hrow : Row w M 126 [rv, cv, sv, lv, .int .i64 s.trap]) (hb : Bunch (fun g => K g ∨ g = O) w rv cv sv lv s)
    {g i : Nat} (hg : sv.ownBlock = some g) (hi : i < s.slots.length) (u : Int) : Mach K (w.setCell ⟨g, i, none⟩ (.int .i64 u)) M (s.slot i u) ∧ Keep (fun g => ¬ K g) w0 (w.setCell ⟨g, i, none⟩ (.int .i64 u)) := by
  have hne : ¬ (sv.ownBlock = some M) := row_owns_apart hrow hb.slots (by decide)
  have hK : ¬ (K g ∨ g = O) := hb.ks g hg
  have hM : ¬ K M := by obtain ⟨_, _, _, _, _, _, h3⟩ := h.mach; exact fun e => h3 (.inl e)
  have b2 := hb.setSlot hg hi u
  have r2 := hrow.unset (a := ⟨g, i, none⟩) (fun e => hne (by rw [hg]; exact congrArg some e.symm)) (.int .i64 u)
  have b3 := b2.kept (K' := K) (fun g hg => .inl (.inl hg)) (fun g hg => by have := h.lt g hg; have := h.keep.size; simp; omega) (Below.refl _ _)
  exact ⟨⟨rv, cv, sv, lv, r2, b3, hM⟩, h.keep.setCell (.inl (fun e => hK (.inl e))) _⟩

set_option maxRecDepth 100000 in
set_option maxHeartbeats 4000000 in
theorem load_cps (K : Nat → Prop) (M : Nat) (s : RunD) (k c : Int) (a b : Nat) (w : World) (h : Mach K w M s) (hl : s.leak.length ≤ 100000) (ha : a < s.regs.length) (hb : b < s.regs.length) (Post : Ending → World → Prop)
    (hp : ∀ w', Mach K w' M (if 0 ≤ rg s.regs b ∧ rg s.regs b < s.cells.length then (s.out (rg s.regs b)).reg a (rg s.cells (rg s.regs b)) else (s.out (rg s.regs b)).die 2) → Keep (fun g => ¬ K g) w w' → Post (.returned (.tuple #[])) w') :
    Calls Tryz.prog 168 #[.pointer (some ⟨M, 0, none⟩), .agg #[.int .i64 k, .int .i64 a, .int .i64 b, .int .i64 c]] w Post := by
  have W0 := With.start h 36 [.int .i64 k, .int .i64 a, .int .i64 b, .int .i64 c]
  clear h
  obtain ⟨rv, cv, sv, lv, hrow, hbu, hK⟩ := id W0.mach
  obtain ⟨rb, rc, hrv, hrb, hrc, hrf⟩ := hbu.regs.at hb
  subst hrv
  have m0 := hrow.cell (i := 0) rfl
  have o2 := W0.row.cell (i := 2) rfl
  have hbi : (0 : Int) ≤ (b : Int) := by omega
  have hbj : (b : Int) < (s.regs.length : Int) := by omega
  have hn : s.regs.getD b 0 = rg s.regs b := by simp [rg]
  rw [hn] at hrc
  generalize rg s.regs b = n at *
  have Wd : ∀ d, With K w ((w.alloc (.cells #[.int .i64 k, .int .i64 a, .int .i64 b, .int .i64 c] 36)).drewN d) M w.heap.size 36 [.int .i64 k, .int .i64 a, .int .i64 b, .int .i64 c] s := fun d => W0.below (below_drewN (Below.refl _ _) d)
  clear W0 hrow hbu
  go_enter Tryz.func168, Tryz.ntmps168
  go_wp2
  go_quiet (fail)
  go_wp2_with fail
  generalize hwq : (w.alloc (.cells #[.int .i64 k, .int .i64 a, .int .i64 b, .int .i64 c] 36)).drewN _ = wq
  have Wq : With K w wq M w.heap.size 36 [.int .i64 k, .int .i64 a, .int .i64 b, .int .i64 c] s := by rw [← hwq]; exact Wd _
  clear Wd hwq m0 o2 hrc hrf
  refine reaches_cps _ M s n wq Wq.mach hl _ ?_ ?_
  · intro hin w2 hm2 hk2
    rw [if_pos hin] at hp
    obtain ⟨hn0, hn1⟩ := hin
    obtain ⟨j, rfl⟩ := Int.eq_ofNat_of_zero_le hn0
    have W2 := Wq.next hm2 hk2
    clear Wq hm2 hk2
    have Wd := W2.below ((Below.refl w2.heap.size w2).drew)
    obtain ⟨rv, cv, sv, lv, hrow, hbu, hK⟩ := id Wd.mach
    obtain ⟨g1, cc, hcv, hgc, hcc, hcf⟩ := hbu.cells.at (i := j) (by show j < s.cells.length; omega)
    obtain ⟨g2, rc, hrv, hgr, hrc, hrf⟩ := hbu.regs.at (i := a) ha
    subst hcv hrv
    have e1 : (s.out j).cells.getD j 0 = rg s.cells j := by simp [rg, RunD.out]
    rw [e1] at hcc
    have m0 := hrow.cell (i := 0) rfl
    have m1 := hrow.cell (i := 1) rfl
    have o1 := Wd.row.cell (i := 1) rfl
    have f2 := hrf a
    have hai : (0 : Int) ≤ (a : Int) := by omega
    have haj : (a : Int) < ((s.out j).regs.length : Int) := by show (a : Int) < (s.regs.length : Int); omega
    have hji : (0 : Int) ≤ (j : Int) := by omega
    have hjj : (j : Int) < ((s.out j).cells.length : Int) := hn1
    obtain ⟨q1, q2⟩ := Wd.setReg hrow hbu hgr (i := a) ha (rg s.cells j)
    have HF : Hid (Post (.returned (.tuple #[])) (w2.drew.setCell ⟨g2, a, none⟩ (.int .i64 (rg s.cells j)))) := hp _ q1 q2
    clear hp q1 q2 W2 Wd hrow hbu
    go_wp2
    refine wp_tail 14 (by kernel_rfl) (by kernel_rfl) ?_
    simp only [List.take_succ_cons, List.take_zero, List.drop_succ_cons, List.drop_zero]
    repeat still_step
    refine wpStill_nil ?_
    go_wp2
    go_end0
    exact HF.out
  · intro hin w2 hm2 hk2
    rw [if_neg hin] at hp
    have W2 := Wq.next hm2 hk2
    have HF : Hid (Post (.returned (.tuple #[])) w2) := hp _ W2.done W2.keep
    clear hp W2 Wq hm2 hk2
    go_wp2
    go_end0
    exact HF.out

end Go.Proofs.YtblhmeidbjigaabGreatDoor
