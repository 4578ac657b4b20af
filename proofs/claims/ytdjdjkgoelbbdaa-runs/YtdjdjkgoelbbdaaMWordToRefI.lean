/- Words: what an operation from Add to Div gives, in the program's package word and in the reference. -/
import Derived.Test.YtdjdjkgoelbbdaaCodAToDat
import Derived.Deep.RegionHeld3
set_option linter.unusedSimpArgs false
set_option linter.unusedVariables false
namespace Go.Proofs.Ytdjdjkgoelbbdaa
open Go.RowKit

/-- The word of an operation from Add to Div. -/
def calcW (k x y : Int) : Int :=
  if k = 3 then wrap64 (x + y)
  else if k = 4 then wrap64 (x - y)
  else if k = 5 then wrap64 (x * y)
  else if k = 6 then bits .and .i64 x y
  else if k = 7 then bits .or .i64 x y
  else if k = 8 then bits .xor .i64 x y
  else if k = 9 then (if x < y then 1 else 0)
  else if k = 10 then (if x = y then 1 else 0)
  else wrap64 (x.tdiv y)

theorem ofTruth_any (b : Bool) (w : World) : Calls Try.prog 120 #[.bool b] w fun e w' => e = .returned (.int .i64 (if b then 1 else 0)) ∧ w = w' := by
  go_enter Try.func120, Try.ntmps120
  cases b
  · go_wp2
    go_ret
    exact ⟨by simp, rfl⟩
  · go_wp2
    go_ret
    exact ⟨by simp, rfl⟩

theorem one_any (b : Bool) (w : World) : Calls Try.prog 113 #[.bool b] w fun e w' => e = .returned (.int .i64 (if b then 1 else 0)) ∧ w = w' := by
  go_enter Try.func113, Try.ntmps113
  cases b
  · go_wp2
    go_ret
    exact ⟨by simp, rfl⟩
  · go_wp2
    go_ret
    exact ⟨by simp, rfl⟩

theorem ofConst_any (b c : Int) (w : World) (hb : 0 ≤ b ∧ b < 256) (hc : 0 ≤ c ∧ c < 256) : Calls Try.prog 114 #[.int .i64 b, .int .i64 c] w fun e w' => e = .returned (.int .i64 (256 * b + c - 32768)) ∧ w = w' := by
  go_enter Try.func114, Try.ntmps114
  go_wp2
  go_ret
  exact ⟨by simp, rfl⟩

theorem quotient_any (x y : Int) (hy : y ≠ 0) (w : World) : Calls Try.prog 121 #[.int .i64 x, .int .i64 y] w fun e w' => e = .returned (.tuple #[.int .i64 (wrap64 (x.tdiv y)), .bool true]) ∧ w = w' := by
  go_enter Try.func121, Try.ntmps121
  go_wp2
  go_ret2
  exact ⟨by simp, rfl⟩

theorem quotient_zero (x : Int) (w : World) : Calls Try.prog 121 #[.int .i64 x, .int .i64 0] w fun e w' => e = .returned (.tuple #[.int .i64 0, .bool false]) ∧ w = w' := by
  go_enter Try.func121, Try.ntmps121
  go_wp2
  go_ret2
  exact ⟨by simp, rfl⟩

set_option maxHeartbeats 2000000 in
theorem wordOf_any (k x y : Int) (w : World) (hk : 3 ≤ k ∧ k ≤ 11) (hy : k = 11 → y ≠ 0) : Calls Try.prog 119 #[.int .i64 k, .int .i64 x, .int .i64 y] w fun e w' => e = .returned (.tuple #[.int .i64 (calcW k x y), .bool true]) ∧ w = w' := by
  obtain rfl | rfl | rfl | rfl | rfl | rfl | rfl | rfl | rfl : k = 9 ∨ k = 10 ∨ k = 3 ∨ k = 4 ∨ k = 5 ∨ k = 6 ∨ k = 7 ∨ k = 8 ∨ k = 11 := by omega
  · by_cases h : x < y
    all_goals
      go_enter Try.func119, Try.ntmps119
      go_wp2_with (first | (go_at_call 120; refine (ofTruth_any _ _).mono ?_; rintro e w' ⟨rfl, rfl⟩))
      go_ret2
      exact ⟨by simp [calcW, h], rfl⟩
  · by_cases h : x = y
    all_goals
      go_enter Try.func119, Try.ntmps119
      go_wp2_with (first | (go_at_call 120; refine (ofTruth_any _ _).mono ?_; rintro e w' ⟨rfl, rfl⟩))
      go_ret2
      exact ⟨by simp [calcW, h], rfl⟩
  all_goals
    go_enter Try.func119, Try.ntmps119
    go_wp2_with (first | (go_at_call 121; refine (quotient_any _ _ (hy rfl) _).mono ?_; rintro e w' ⟨rfl, rfl⟩))
    go_ret2
    exact ⟨by simp [calcW], rfl⟩

set_option maxHeartbeats 2000000 in
theorem wordOf_zero (x : Int) (w : World) : Calls Try.prog 119 #[.int .i64 11, .int .i64 x, .int .i64 0] w fun e w' => e = .returned (.tuple #[.int .i64 0, .bool false]) ∧ w = w' := by
  go_enter Try.func119, Try.ntmps119
  go_wp2_with (go_at_call 121; refine (quotient_zero _ _).mono ?_; rintro e w' ⟨rfl, rfl⟩)
  go_ret2
  exact ⟨by simp, rfl⟩

set_option maxHeartbeats 2000000 in
theorem calcW_any (k x y : Int) (w : World) (hk : 3 ≤ k ∧ k ≤ 11) (hy : k = 11 → y ≠ 0) : Calls Try.prog 110 #[.int .i64 k, .int .i64 x, .int .i64 y] w fun e w' => e = .returned (.int .i64 (calcW k x y)) ∧ w = w' := by
  obtain rfl | rfl | rfl | rfl | rfl | rfl | rfl | rfl | rfl : k = 9 ∨ k = 10 ∨ k = 11 ∨ k = 3 ∨ k = 4 ∨ k = 5 ∨ k = 6 ∨ k = 7 ∨ k = 8 := by omega
  · by_cases h : x < y
    all_goals
      go_enter Try.func110, Try.ntmps110
      go_wp2_with (first | (go_at_call 113; refine (one_any _ _).mono ?_; rintro e w' ⟨rfl, rfl⟩))
      go_ret
      exact ⟨by simp [calcW, h], rfl⟩
  · by_cases h : x = y
    all_goals
      go_enter Try.func110, Try.ntmps110
      go_wp2_with (first | (go_at_call 113; refine (one_any _ _).mono ?_; rintro e w' ⟨rfl, rfl⟩))
      go_ret
      exact ⟨by simp [calcW, h], rfl⟩
  · have hy := hy rfl
    go_enter Try.func110, Try.ntmps110
    go_wp2
    go_ret
    exact ⟨by simp [calcW], rfl⟩
  all_goals
    go_enter Try.func110, Try.ntmps110
    go_wp2
    go_ret
    exact ⟨by simp [calcW], rfl⟩

end Go.Proofs.Ytdjdjkgoelbbdaa

/- Well made hints, in the document's answer. -/
set_option linter.unusedSimpArgs false
set_option linter.unusedVariables false
namespace Go.Proofs.Ytdjdjkgoelbbdaa
open Go.RowKit

theorem below_true {a b : Int} (h1 : 0 ≤ a) (h2 : a < b) : below a b = true := by simp [below, h1, h2]
theorem below_lo {a b : Int} (h : a < 0) : below a b = false := by simp only [below, decide_eq_false_iff_not]; omega
theorem below_hi {a b : Int} (h : b ≤ a) : below a b = false := by simp only [below, decide_eq_false_iff_not]; omega

def lastAt (ps : List PairD) (j : Nat) : Int := if j = 0 then -1 else pplace ps (j - 1)

theorem lastAt_succ (ps : List PairD) (j : Nat) : lastAt ps (j + 1) = pplace ps j := by simp [lastAt]

/-- A block that opened with a box, behind which others were laid. -/
theorem cell_box {w w' : World} {B : Nat} {o : Obj} {v : Value} {i : Nat} (hb : Below (B + 1) (w.alloc o) w') (hB : B = w.heap.size) (h : (w.alloc o).cell? ⟨B, i, none⟩ = some v) : w'.cell? ⟨B, i, none⟩ = some v :=
  (hb.cell (p := ⟨B, i, none⟩) (by simp)).trans h

set_option maxRecDepth 100000 in
set_option maxHeartbeats 2000000 in
theorem rGoodHint_any (v : Value) (h : List PingD) (w : World) (hr : RdHint w v h) :
    Calls Try.prog 46 #[.agg #[v]] w fun e w' => e = .returned (.bool (goodHint h)) ∧ Below w.heap.size w w' := by
  have hr0 := hr
  obtain ⟨ao, cap, rfl, hl, hc⟩ := hr
  obtain ⟨G, hG⟩ : ∃ G, goodHint h = G := ⟨_, rfl⟩
  rw [hG]
  by_cases h1 : (h.length : Int) < 1
  · have hGf : G = false := by rw [← hG]; simp [goodHint]; omega
    subst hGf
    clear hG
    go_enter Try.func46, Try.ntmps46
    go_wp2
    go_ret
    exact ⟨rfl, (Below.refl _ _).alloc (Nat.le_refl _) _⟩
  by_cases h2 : (6 : Int) < h.length
  · have hGf : G = false := by rw [← hG]; simp [goodHint]; omega
    subst hGf
    clear hG
    go_enter Try.func46, Try.ntmps46
    go_wp2
    go_ret
    exact ⟨rfl, (Below.refl _ _).alloc (Nat.le_refl _) _⟩
  have HG : Hid (G = gpFrom h 0) := by show G = _; rw [← hG]; simp [goodHint, gpFrom, show 1 ≤ h.length ∧ h.length ≤ 6 by omega]
  clear hG
  go_enter Try.func46, Try.ntmps46
  go_wp2
  go_loopw [3] (fun i wr => ∃ (k : Nat), k ≤ h.length ∧ i = .int .i64 k ∧ Hid (G = gpFrom h k) ∧ Below (w.heap.size + 1) (w.alloc (.cells #[.slice ao h.length cap] 31)) wr)
    (fun i _ => h.length - (intOf i).toNat)
  case atStart => exact ⟨0, Nat.zero_le _, rfl, HG, Below.refl _ _⟩
  case round =>
    obtain ⟨k, hk, rfl, hg, hbel⟩ := hrel
    have hx0 : wr.cell? ⟨w.heap.size, 0, none⟩ = some (.slice ao h.length cap) := (hbel.cell (by simp)).trans (by simp)
    have hz := hbel.size
    clear HG
    by_cases hlt : k < h.length
    case neg =>
      have hGt : G = true := by rw [hg.out, gpFrom_end (by omega)]
      subst hGt
      clear hg
      go_wp2
      go_ret
      exact ⟨rfl, Below.under hbel⟩
    obtain ⟨b, off, sv, rfl, hc1, hc2, hc3⟩ := hc k hlt
    have hd1 := cell_keep (Below.under hbel) hc1
    have hd2 := cell_keep (Below.under hbel) hc2
    have hd3 := hc3.keep (Below.under hbel)
    obtain ⟨so, sc, rfl, hsl, hsc⟩ := hd3
    have HS : Hid (gpFrom h k = (goodPing ⟨hsrc h k, hpairs h k⟩ && gpFrom h (k + 1))) := gpFrom_step hlt
    simp at hz
    by_cases s1 : hsrc h k < 0
    · have hGf : G = false := by rw [hg.out, HS.out]; simp [goodPing, below_lo s1]
      subst hGf
      clear hg HS
      go_wp2
      go_ret
      exact ⟨rfl, (Below.under hbel).alloc (by omega) _⟩
    by_cases s2 : 6 ≤ hsrc h k
    · have hGf : G = false := by rw [hg.out, HS.out]; simp [goodPing, below_hi s2]
      subst hGf
      clear hg HS
      go_wp2
      go_ret
      exact ⟨rfl, (Below.under hbel).alloc (by omega) _⟩
    by_cases s3 : (16 : Int) < (hpairs h k).length
    · have hGf : G = false := by rw [hg.out, HS.out]; simp [goodPing, show ¬ (hpairs h k).length ≤ 16 by omega]
      subst hGf
      clear hg HS
      go_wp2
      go_ret
      exact ⟨rfl, (Below.under hbel).alloc (by omega) _⟩
    have HP : Hid (G = (gFrom (hpairs h k) (lastAt (hpairs h k) 0) 0 && gpFrom h (k + 1))) := by
      show G = _
      rw [hg.out, HS.out]; simp [goodPing, below_true (show 0 ≤ hsrc h k by omega) (show hsrc h k < 6 by omega), show (hpairs h k).length ≤ 16 by omega, gFrom, lastAt]
    clear hg HS
    generalize hpairs h k = ps at *
    generalize hsrc h k = src at *
    obtain ⟨wo, hwo⟩ : ∃ wo, wo = wr := ⟨_, rfl⟩
    subst hwo
    have hbo := (Below.under hbel)
    go_wp2
    clear hc1 hc2 hc3 hd1 hd2
    go_loopw [5] (fun i w2 => ∃ (j : Nat), j ≤ ps.length ∧ i = .int .i64 j ∧ Hid (G = (gFrom ps (lastAt ps j) j && gpFrom h (k + 1))) ∧ Below (wo.heap.size + 1) (wo.alloc (.cells #[.int .i64 src, .slice so ps.length sc] 82)) w2)
      (fun i _ => ps.length - (intOf i).toNat)
    case atStart => exact ⟨0, Nat.zero_le _, rfl, HP, Below.refl _ _⟩
    case round =>
      obtain ⟨j, hj, rfl, hg, hbin⟩ := hrel
      clear HP
      have hy1 : wr.cell? ⟨wo.heap.size, 1, none⟩ = some (.slice so ps.length sc) := (hbin.cell (by simp)).trans (by simp)
      have hzi := hbin.size
      simp at hzi
      have hzk : wo.heap.size < wr.heap.size := by omega
      have hbw := hbo.trans ((Below.under hbin).mono (by omega))
      by_cases hjl : j < ps.length
      case neg =>
        have hG' : Hid (G = gpFrom h (k + 1)) := by show G = _; rw [hg.out, gFrom_end (by omega)]; rfl
        clear hg
        have hb' := hbel.trans ((Below.under hbin).mono (by omega))
        go_wp2
        go_roundw
        case rel => exact ⟨k + 1, by omega, by go_num, hG', hb'⟩
        case measure => simp [intOf]; omega
      obtain ⟨b2, off2, rfl, e1, e2⟩ := hsc j hjl
      have hd1 := cell_keep (Below.under hbin) e1
      have hd2 := cell_keep (Below.under hbin) e2
      have HS : Hid (gFrom ps (lastAt ps j) j = (below (preg ps j) 8 && below (pplace ps j) 16 && decide (lastAt ps j < pplace ps j) && gFrom ps (pplace ps j) (j + 1))) := gFrom_step hjl
      by_cases t1 : preg ps j < 0
      · have hGf : G = false := by rw [hg.out, HS.out, below_lo t1]; rfl
        subst hGf
        clear hg HS
        go_wp2
        go_ret
        exact ⟨rfl, hbw.alloc (by omega) _⟩
      by_cases t2 : 8 ≤ preg ps j
      · have hGf : G = false := by rw [hg.out, HS.out, below_hi t2]; rfl
        subst hGf
        clear hg HS
        go_wp2
        go_ret
        exact ⟨rfl, hbw.alloc (by omega) _⟩
      by_cases t3 : pplace ps j < 0
      · have hGf : G = false := by rw [hg.out, HS.out, below_lo t3]; simp
        subst hGf
        clear hg HS
        go_wp2
        go_ret
        exact ⟨rfl, hbw.alloc (by omega) _⟩
      by_cases t4 : 16 ≤ pplace ps j
      · have hGf : G = false := by rw [hg.out, HS.out, below_hi t4]; simp
        subst hGf
        clear hg HS
        go_wp2
        go_ret
        exact ⟨rfl, hbw.alloc (by omega) _⟩
      have HG : Hid (G = (decide (lastAt ps j < pplace ps j) && gFrom ps (lastAt ps (j + 1)) (j + 1) && gpFrom h (k + 1))) := by
        show G = _
        rw [hg.out, HS.out, below_true (show 0 ≤ preg ps j by omega) (by omega), below_true (show 0 ≤ pplace ps j by omega) (by omega), lastAt_succ]; rfl
      clear hg HS
      by_cases t5 : j = 0
      · have hG' : Hid (G = (gFrom ps (lastAt ps (j + 1)) (j + 1) && gpFrom h (k + 1))) := by
          show G = _
          rw [HG.out, show lastAt ps j = -1 by simp [lastAt, t5], show decide ((-1 : Int) < pplace ps j) = true by simp; omega]; rfl
        clear HG
        have hgd : decide ((0 : Int) < (j : Int)) = false := by simp; omega
        have hgd2 : decide (0 < j) = false := by simp; omega
        have hgd3 : (0 < j) = False := by simp; omega
        clear t5
        go_wp2
        go_quiet (fail)
        go_wp2
        go_roundw
        case rel => exact ⟨j + 1, by omega, by go_num, hG', below_drewN (hbin.alloc (by omega) _) _⟩
        case measure => simp [intOf]; omega
      obtain ⟨i, rfl⟩ : ∃ i, j = i + 1 := ⟨j - 1, by omega⟩
      clear t5
      have hgd : (0 : Int) < ((i + 1 : Nat) : Int) := by omega
      obtain ⟨b3, off3, e3, e4, e5⟩ := hsc i (by omega)
      obtain ⟨rfl, rfl⟩ : b2 = b3 ∧ off2 = off3 := by simpa using e3
      have hd3 := cell_keep (Below.under hbin) e5
      have hbl : b2 < wr.heap.size := World.block_lt_of_cell? _ _ hd3
      have hq : ((i : Int) + 1 - 1) = (i : Int) := by omega
      have hil : (i : Int) < ps.length := by omega
      have hin : (0 : Int) ≤ i := by omega
      rw [lastAt_succ] at HG
      by_cases t6 : pplace ps (i + 1) ≤ pplace ps i
      · have hGf : G = false := by rw [HG.out, show decide (pplace ps i < pplace ps (i + 1)) = false by simp; omega]; rfl
        subst hGf
        clear HG
        go_wp2
        go_quiet (fail)
        go_wp2
        go_ret
        exact ⟨rfl, below_drewN (hbw.alloc (by omega) _) _⟩
      have hG' : Hid (G = (gFrom ps (lastAt ps (i + 1 + 1)) (i + 1 + 1) && gpFrom h (k + 1))) := by
        show G = _
        rw [HG.out, show decide (pplace ps i < pplace ps (i + 1)) = true by simp; omega, lastAt_succ]; rfl
      clear HG
      go_wp2
      go_quiet (fail)
      go_wp2
      go_roundw
      case rel => exact ⟨i + 1 + 1, by omega, by go_num, hG', below_drewN (hbin.alloc (by omega) _) _⟩
      case measure => simp [intOf]; omega

end Go.Proofs.Ytdjdjkgoelbbdaa

/- The text of a hint, in the document's answer. -/
set_option linter.unusedSimpArgs false
set_option linter.unusedVariables false
namespace Go.Proofs.Ytdjdjkgoelbbdaa
open Go.RowKit

theorem Below.cell_some {w w' : World} (hb : Below w.heap.size w w') {a : Addr} {v : Value} (h : w.cell? a = some v) : w'.cell? a = some v := cell_keep hb h

theorem bytes1 (x : Int) (w : World) : Calls Try.prog 72 #[.slice (some ⟨w.heap.size, 0, none⟩) 1 1] (w.alloc (.cells #[.int .i64 x] 3)) fun e w' => e = .returned (.string ⟨#[byt x]⟩) ∧ Below w.heap.size w w' := by
  have h := bytes_any w.heap.size 0 1 [x] (w.alloc (.cells #[.int .i64 x] 3)) (by simp) (by simp) (by
    intro i hi
    obtain rfl : i = 0 := by simp at hi; omega
    simp [el])
  refine h.mono ?_
  rintro e w' ⟨rfl, hb⟩
  exact ⟨rfl, ((Below.refl _ _).alloc (Nat.le_refl _) _).trans (hb.mono (by simp))⟩

theorem bytes2 (x y : Int) (w : World) : Calls Try.prog 72 #[.slice (some ⟨w.heap.size, 0, none⟩) 2 2] (w.alloc (.cells #[.int .i64 x, .int .i64 y] 3)) fun e w' => e = .returned (.string ⟨#[byt x, byt y]⟩) ∧ Below w.heap.size w w' := by
  have h := bytes_any w.heap.size 0 2 [x, y] (w.alloc (.cells #[.int .i64 x, .int .i64 y] 3)) (by simp) (by simp) (by
    intro i hi
    obtain rfl | rfl : i = 0 ∨ i = 1 := by simp at hi; omega
    all_goals simp [el])
  refine h.mono ?_
  rintro e w' ⟨rfl, hb⟩
  exact ⟨rfl, ((Below.refl _ _).alloc (Nat.le_refl _) _).trans (hb.mono (by simp))⟩

/-- The text of a hint as far as its first k blocks, the k-th begun, and j of its pairs. -/
def hintAt (h : List PingD) (k j : Nat) : ByteArray := hintTo h k ++ pingTo (hsrc h k) (hpairs h k) j

theorem hintAt_start (h : List PingD) (k : Nat) : hintAt h k 0 = hintTo h k ++ ⟨#[byt (hsrc h k), byt (hpairs h k).length]⟩ := rfl

theorem bappend_assoc (a b c : ByteArray) : a ++ b ++ c = a ++ (b ++ c) := by
  apply ByteArray.ext; simp [Array.append_assoc]

theorem hintAt_step {h : List PingD} {k j : Nat} (hj : j < (hpairs h k).length) : hintAt h k (j + 1) = hintAt h k j ++ ⟨#[byt (preg (hpairs h k) j), byt (pplace (hpairs h k) j)]⟩ := by
  unfold hintAt; rw [pingTo_step hj, bappend_assoc]

theorem hintAt_end {h : List PingD} {k j : Nat} (hk : k < h.length) (hj : (hpairs h k).length ≤ j) : hintAt h k j = hintTo h (k + 1) := by
  unfold hintAt; rw [pingTo_end hj, hintTo_step hk]

theorem hintAt_size {h : List PingD} (hg : goodHint h = true) {k j : Nat} (hk : k < h.length) (hj : j ≤ (hpairs h k).length) : (hintAt h k j).size ≤ 310 := by
  have h1 := hintTo_size hg k
  have h2 := goodHint_pairs hg hk
  have h3 := pingTo_size (hsrc h k) (hpairs h k) j hj
  unfold hintAt
  rw [ByteArray.size_append]
  omega

set_option maxRecDepth 100000 in
set_option maxHeartbeats 2000000 in
theorem rHintText_any (v : Value) (h : List PingD) (w : World) (hr : RdHint w v h) (hg : goodHint h = true) :
    Calls Try.prog 47 #[.agg #[v]] w fun e w' => e = .returned (.string (str (hintText h))) ∧ Below w.heap.size w w' := by
  have hr0 := hr
  obtain ⟨ao, cap, rfl, hl, hc⟩ := hr
  obtain ⟨G, hG⟩ : ∃ G, str (hintText h) = G := ⟨_, rfl⟩
  rw [hG]
  have HG : Hid (str (hintText h) = G) := hG
  clear hG
  have hlen := (goodHint_len hg).2
  go_enter Try.func47, Try.ntmps47
  go_wp2_with fail
  have hb := bytes1 (h.length) (w.alloc (.cells #[.slice ao h.length cap] 31))
  simp only [World.size_alloc] at hb
  refine hb.mono ?_
  rintro e w1 ⟨rfl, hb1⟩
  have h0 : (⟨#[84, 72]⟩ : ByteArray) ++ ⟨#[byt h.length]⟩ = hintTo h 0 := by
    show str [84, 72] ++ str [byt h.length] = _
    rw [str_append]; rfl
  go_wp2
  clear h0 hb
  go_loopw [3, 4] (fun l i wr => ∃ (k : Nat), k ≤ h.length ∧ i = .int .i64 k ∧ l = .string (hintTo h k) ∧ Below (w.heap.size + 1) (w.alloc (.cells #[.slice ao h.length cap] 31)) wr)
      (fun _ i _ => h.length - (intOf i).toNat)
  case atStart => exact ⟨0, Nat.zero_le _, rfl, rfl, by simpa using hb1⟩
  case round =>
    obtain ⟨k, hk, rfl, rfl, hbel⟩ := hrel
    clear hb1 w1
    have hx0 : wr.cell? ⟨w.heap.size, 0, none⟩ = some (.slice ao h.length cap) := (hbel.cell (by simp)).trans (by simp)
    have hz := hbel.size
    simp at hz
    by_cases hlt : k < h.length
    case neg =>
      have he : hintTo h k = G := (hintTo_end (by omega)).trans HG.out
      go_wp2
      go_ret
      exact ⟨by simp [he], Below.under hbel⟩
    obtain ⟨b, off, sv, rfl, hc1, hc2, hc3⟩ := hc k hlt
    have hd1 := cell_keep (Below.under hbel) hc1
    have hd2 := cell_keep (Below.under hbel) hc2
    have hd3 := hc3.keep (Below.under hbel)
    obtain ⟨so, sc, rfl, hsl, hsc⟩ := hd3
    have hsz := hintTo_size hg k
    have hpl := goodHint_pairs hg hlt
    have hb2 := bytes2 (hsrc h k) (hpairs h k).length (wr.alloc (.cells #[.int .i64 (hsrc h k), .slice so (hpairs h k).length sc] 82))
    simp only [World.size_alloc] at hb2
    go_wp2_with fail
    refine hb2.mono ?_
    rintro e w1 ⟨rfl, hb3⟩
    clear hb2
    have HA : Hid (hintAt h k 0 = hintTo h k ++ ⟨#[byt (hsrc h k), byt (hpairs h k).length]⟩) := hintAt_start h k
    have hbo := (Below.under hbel)
    obtain ⟨wo, hwo⟩ : ∃ wo, wo = wr := ⟨_, rfl⟩
    subst hwo
    clear hc1 hc2 hc3 hd1 hd2 hx0
    go_wp2
    go_loopw [3, 6] (fun l i w2 => ∃ (j : Nat), j ≤ (hpairs h k).length ∧ i = .int .i64 j ∧ l = .string (hintAt h k j) ∧ Below (wo.heap.size + 1) (wo.alloc (.cells #[.int .i64 (hsrc h k), .slice so (hpairs h k).length sc] 82)) w2)
      (fun _ i _ => (hpairs h k).length - (intOf i).toNat)
    case atStart => exact ⟨0, Nat.zero_le _, rfl, by rw [HA.out], by simpa using hb3⟩
    case round =>
      obtain ⟨j, hj, rfl, rfl, hbin⟩ := hrel
      clear hb3 w1
      have hy1 : wr.cell? ⟨wo.heap.size, 1, none⟩ = some (.slice so (hpairs h k).length sc) := (hbin.cell (by simp)).trans (by simp)
      have hzi := hbin.size
      simp at hzi
      by_cases hjl : j < (hpairs h k).length
      case neg =>
        have he : hintAt h k j = hintTo h (k + 1) := hintAt_end hlt (by omega)
        have hb' := hbel.trans ((Below.under hbin).mono (by omega))
        go_wp2
        go_roundw
        case rel => exact ⟨k + 1, by omega, by go_num, by rw [he], hb'⟩
        case measure => simp [intOf]; omega
      obtain ⟨b2, off2, rfl, e1, e2⟩ := hsc j hjl
      have hd1 := cell_keep (Below.under hbin) e1
      have hd2 := cell_keep (Below.under hbin) e2
      have q0 := fun (w' : World) (hb : Below wr.heap.size wr w') => cell_keep hb hy1
      have q1 := fun (w' : World) (hb : Below wr.heap.size wr w') => cell_keep hb hd1
      have q2 := fun (w' : World) (hb : Below wr.heap.size wr w') => cell_keep hb hd2
      have hsz2 := hintAt_size hg hlt hj
      go_wp2
      have hbt : Calls Try.prog 72 #[.slice (some ⟨wr.heap.size, 0, none⟩) 2 2] (wr.alloc (.cells #[.int .i64 (preg (hpairs h k) j), .int .i64 (pplace (hpairs h k) j)] 3)).drew fun e w' => e = .returned (.string ⟨#[byt (preg (hpairs h k) j), byt (pplace (hpairs h k) j)]⟩) ∧ Below wr.heap.size wr w' :=
        (bytes2 _ _ wr.drew).mono fun e w' h => ⟨h.1, (Below.refl wr.heap.size wr).drew.trans h.2⟩
      have f1 : (9223372036854775807 < (hintAt h k j).size + 2) = False := by simp only [eq_iff_iff, iff_false]; omega
      have f2 : (9223372036854775805 < (hintAt h k j).size) = False := by simp only [eq_iff_iff, iff_false]; omega
      go_region_held3 (fun w' => Below wr.heap.size wr w') (first | exact (Below.refl _ _).drew | exact ((Below.refl _ _).alloc (Nat.le_refl _) _).drew | assumption) (first | (go_at_call 72; refine hbt.mono ?_; rintro e w' ⟨rfl, hb9⟩))
      have HS : Hid (hintAt h k (j + 1) = hintAt h k j ++ ⟨#[byt (preg (hpairs h k) j), byt (pplace (hpairs h k) j)]⟩) := hintAt_step hjl
      clear q0 q1 q2 hd1 hd2 hy1
      go_wp2
      go_roundw
      case rel => exact ⟨j + 1, by omega, by go_num, by rw [HS.out], hbin.trans (Below.mono (by assumption) (by omega))⟩
      case measure => simp [intOf]; omega

end Go.Proofs.Ytdjdjkgoelbbdaa
