/- Well made hints, in the document's answer. -/
import Derived.Test.YtdjdjkgoelbbdaaDat
set_option linter.unusedSimpArgs false
set_option linter.unusedVariables false
namespace Go.Proofs.Ytdjdjkgoelbbdaa
open Go.RowKit

theorem below_true {a b : Int} (h1 : 0 ≤ a) (h2 : a < b) : below a b = true := by simp [below, h1, h2]
theorem below_lo {a b : Int} (h : a < 0) : below a b = false := by simp only [below, decide_eq_false_iff_not]; omega
theorem below_hi {a b : Int} (h : b ≤ a) : below a b = false := by simp only [below, decide_eq_false_iff_not]; omega

def lastAt (ps : List PairD) (j : Nat) : Int := if j = 0 then -1 else pplace ps (j - 1)

theorem lastAt_succ (ps : List PairD) (j : Nat) : lastAt ps (j + 1) = pplace ps j := by simp [lastAt]

/-- A block that opened with a box, behind which others were laid. -/
theorem cell_box {w w' : World} {B : Nat} {o : Obj} {v : Value} {i : Nat} (hb : Below (B + 1) (w.alloc o) w') (hB : B = w.heap.size) (h : (w.alloc o).cell? ⟨B, i, none⟩ = some v) : w'.cell? ⟨B, i, none⟩ = some v :=
  (hb.cell (p := ⟨B, i, none⟩) (by simp)).trans h

set_option maxRecDepth 100000 in
set_option maxHeartbeats 2000000 in
theorem rGoodHint_any (v : Value) (h : List PingD) (w : World) (hr : RdHint w v h) :
    Calls Try.prog 46 #[.agg #[v]] w fun e w' => e = .returned (.bool (goodHint h)) ∧ Below w.heap.size w w' := by
  have hr0 := hr
  obtain ⟨ao, cap, rfl, hl, hc⟩ := hr
  obtain ⟨G, hG⟩ : ∃ G, goodHint h = G := ⟨_, rfl⟩
  rw [hG]
  by_cases h1 : (h.length : Int) < 1
  · have hGf : G = false := by rw [← hG]; simp [goodHint]; omega
    subst hGf
    clear hG
    go_enter Try.func46, Try.ntmps46
    go_wp2
    go_ret
    exact ⟨rfl, (Below.refl _ _).alloc (Nat.le_refl _) _⟩
  by_cases h2 : (6 : Int) < h.length
  · have hGf : G = false := by rw [← hG]; simp [goodHint]; omega
    subst hGf
    clear hG
    go_enter Try.func46, Try.ntmps46
    go_wp2
    go_ret
    exact ⟨rfl, (Below.refl _ _).alloc (Nat.le_refl _) _⟩
  have HG : Hid (G = gpFrom h 0) := by show G = _; rw [← hG]; simp [goodHint, gpFrom, show 1 ≤ h.length ∧ h.length ≤ 6 by omega]
  clear hG
  go_enter Try.func46, Try.ntmps46
  go_wp2
  go_loopw [3] (fun i wr => ∃ (k : Nat), k ≤ h.length ∧ i = .int .i64 k ∧ Hid (G = gpFrom h k) ∧ Below (w.heap.size + 1) (w.alloc (.cells #[.slice ao h.length cap] 31)) wr)
    (fun i _ => h.length - (intOf i).toNat)
  case atStart => exact ⟨0, Nat.zero_le _, rfl, HG, Below.refl _ _⟩
  case round =>
    obtain ⟨k, hk, rfl, hg, hbel⟩ := hrel
    have hx0 : wr.cell? ⟨w.heap.size, 0, none⟩ = some (.slice ao h.length cap) := (hbel.cell (by simp)).trans (by simp)
    have hz := hbel.size
    clear HG
    by_cases hlt : k < h.length
    case neg =>
      have hGt : G = true := by rw [hg.out, gpFrom_end (by omega)]
      subst hGt
      clear hg
      go_wp2
      go_ret
      exact ⟨rfl, Below.under hbel⟩
    obtain ⟨b, off, sv, rfl, hc1, hc2, hc3⟩ := hc k hlt
    have hd1 := cell_keep (Below.under hbel) hc1
    have hd2 := cell_keep (Below.under hbel) hc2
    have hd3 := hc3.keep (Below.under hbel)
    obtain ⟨so, sc, rfl, hsl, hsc⟩ := hd3
    have HS : Hid (gpFrom h k = (goodPing ⟨hsrc h k, hpairs h k⟩ && gpFrom h (k + 1))) := gpFrom_step hlt
    simp at hz
    by_cases s1 : hsrc h k < 0
    · have hGf : G = false := by rw [hg.out, HS.out]; simp [goodPing, below_lo s1]
      subst hGf
      clear hg HS
      go_wp2
      go_ret
      exact ⟨rfl, (Below.under hbel).alloc (by omega) _⟩
    by_cases s2 : 6 ≤ hsrc h k
    · have hGf : G = false := by rw [hg.out, HS.out]; simp [goodPing, below_hi s2]
      subst hGf
      clear hg HS
      go_wp2
      go_ret
      exact ⟨rfl, (Below.under hbel).alloc (by omega) _⟩
    by_cases s3 : (16 : Int) < (hpairs h k).length
    · have hGf : G = false := by rw [hg.out, HS.out]; simp [goodPing, show ¬ (hpairs h k).length ≤ 16 by omega]
      subst hGf
      clear hg HS
      go_wp2
      go_ret
      exact ⟨rfl, (Below.under hbel).alloc (by omega) _⟩
    have HP : Hid (G = (gFrom (hpairs h k) (lastAt (hpairs h k) 0) 0 && gpFrom h (k + 1))) := by
      show G = _
      rw [hg.out, HS.out]; simp [goodPing, below_true (show 0 ≤ hsrc h k by omega) (show hsrc h k < 6 by omega), show (hpairs h k).length ≤ 16 by omega, gFrom, lastAt]
    clear hg HS
    generalize hpairs h k = ps at *
    generalize hsrc h k = src at *
    obtain ⟨wo, hwo⟩ : ∃ wo, wo = wr := ⟨_, rfl⟩
    subst hwo
    have hbo := (Below.under hbel)
    go_wp2
    clear hc1 hc2 hc3 hd1 hd2
    go_loopw [5] (fun i w2 => ∃ (j : Nat), j ≤ ps.length ∧ i = .int .i64 j ∧ Hid (G = (gFrom ps (lastAt ps j) j && gpFrom h (k + 1))) ∧ Below (wo.heap.size + 1) (wo.alloc (.cells #[.int .i64 src, .slice so ps.length sc] 82)) w2)
      (fun i _ => ps.length - (intOf i).toNat)
    case atStart => exact ⟨0, Nat.zero_le _, rfl, HP, Below.refl _ _⟩
    case round =>
      obtain ⟨j, hj, rfl, hg, hbin⟩ := hrel
      clear HP
      have hy1 : wr.cell? ⟨wo.heap.size, 1, none⟩ = some (.slice so ps.length sc) := (hbin.cell (by simp)).trans (by simp)
      have hzi := hbin.size
      simp at hzi
      have hzk : wo.heap.size < wr.heap.size := by omega
      have hbw := hbo.trans ((Below.under hbin).mono (by omega))
      by_cases hjl : j < ps.length
      case neg =>
        have hG' : Hid (G = gpFrom h (k + 1)) := by show G = _; rw [hg.out, gFrom_end (by omega)]; rfl
        clear hg
        have hb' := hbel.trans ((Below.under hbin).mono (by omega))
        go_wp2
        go_roundw
        case rel => exact ⟨k + 1, by omega, by go_num, hG', hb'⟩
        case measure => simp [intOf]; omega
      obtain ⟨b2, off2, rfl, e1, e2⟩ := hsc j hjl
      have hd1 := cell_keep (Below.under hbin) e1
      have hd2 := cell_keep (Below.under hbin) e2
      have HS : Hid (gFrom ps (lastAt ps j) j = (below (preg ps j) 8 && below (pplace ps j) 16 && decide (lastAt ps j < pplace ps j) && gFrom ps (pplace ps j) (j + 1))) := gFrom_step hjl
      by_cases t1 : preg ps j < 0
      · have hGf : G = false := by rw [hg.out, HS.out, below_lo t1]; rfl
        subst hGf
        clear hg HS
        go_wp2
        go_ret
        exact ⟨rfl, hbw.alloc (by omega) _⟩
      by_cases t2 : 8 ≤ preg ps j
      · have hGf : G = false := by rw [hg.out, HS.out, below_hi t2]; rfl
        subst hGf
        clear hg HS
        go_wp2
        go_ret
        exact ⟨rfl, hbw.alloc (by omega) _⟩
      by_cases t3 : pplace ps j < 0
      · have hGf : G = false := by rw [hg.out, HS.out, below_lo t3]; simp
        subst hGf
        clear hg HS
        go_wp2
        go_ret
        exact ⟨rfl, hbw.alloc (by omega) _⟩
      by_cases t4 : 16 ≤ pplace ps j
      · have hGf : G = false := by rw [hg.out, HS.out, below_hi t4]; simp
        subst hGf
        clear hg HS
        go_wp2
        go_ret
        exact ⟨rfl, hbw.alloc (by omega) _⟩
      have HG : Hid (G = (decide (lastAt ps j < pplace ps j) && gFrom ps (lastAt ps (j + 1)) (j + 1) && gpFrom h (k + 1))) := by
        show G = _
        rw [hg.out, HS.out, below_true (show 0 ≤ preg ps j by omega) (by omega), below_true (show 0 ≤ pplace ps j by omega) (by omega), lastAt_succ]; rfl
      clear hg HS
      by_cases t5 : j = 0
      · have hG' : Hid (G = (gFrom ps (lastAt ps (j + 1)) (j + 1) && gpFrom h (k + 1))) := by
          show G = _
          rw [HG.out, show lastAt ps j = -1 by simp [lastAt, t5], show decide ((-1 : Int) < pplace ps j) = true by simp; omega]; rfl
        clear HG
        have hgd : decide ((0 : Int) < (j : Int)) = false := by simp; omega
        have hgd2 : decide (0 < j) = false := by simp; omega
        have hgd3 : (0 < j) = False := by simp; omega
        clear t5
        go_wp2
        go_quiet (fail)
        go_wp2
        go_roundw
        case rel => exact ⟨j + 1, by omega, by go_num, hG', below_drewN (hbin.alloc (by omega) _) _⟩
        case measure => simp [intOf]; omega
      obtain ⟨i, rfl⟩ : ∃ i, j = i + 1 := ⟨j - 1, by omega⟩
      clear t5
      have hgd : (0 : Int) < ((i + 1 : Nat) : Int) := by omega
      obtain ⟨b3, off3, e3, e4, e5⟩ := hsc i (by omega)
      obtain ⟨rfl, rfl⟩ : b2 = b3 ∧ off2 = off3 := by simpa using e3
      have hd3 := cell_keep (Below.under hbin) e5
      have hbl : b2 < wr.heap.size := World.block_lt_of_cell? _ _ hd3
      have hq : ((i : Int) + 1 - 1) = (i : Int) := by omega
      have hil : (i : Int) < ps.length := by omega
      have hin : (0 : Int) ≤ i := by omega
      rw [lastAt_succ] at HG
      by_cases t6 : pplace ps (i + 1) ≤ pplace ps i
      · have hGf : G = false := by rw [HG.out, show decide (pplace ps i < pplace ps (i + 1)) = false by simp; omega]; rfl
        subst hGf
        clear HG
        go_wp2
        go_quiet (fail)
        go_wp2
        go_ret
        exact ⟨rfl, below_drewN (hbw.alloc (by omega) _) _⟩
      have hG' : Hid (G = (gFrom ps (lastAt ps (i + 1 + 1)) (i + 1 + 1) && gpFrom h (k + 1))) := by
        show G = _
        rw [HG.out, show decide (pplace ps i < pplace ps (i + 1)) = true by simp; omega, lastAt_succ]; rfl
      clear HG
      go_wp2
      go_quiet (fail)
      go_wp2
      go_roundw
      case rel => exact ⟨i + 1 + 1, by omega, by go_num, hG', below_drewN (hbin.alloc (by omega) _) _⟩
      case measure => simp [intOf]; omega

end Go.Proofs.Ytdjdjkgoelbbdaa
