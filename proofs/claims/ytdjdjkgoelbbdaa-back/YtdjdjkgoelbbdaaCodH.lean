/- Hints in the codec: what each call gives. -/
import Derived.Test.YtdjdjkgoelbbdaaDat
set_option linter.unusedSimpArgs false
set_option linter.unusedVariables false
namespace Go.Proofs.Ytdjdjkgoelbbdaa
open Go.RowKit

set_option maxHeartbeats 1000000 in
theorem wmPairing_any (src : Int) (sv : Value) (ps : List PairD) (w : World) (hr : RdPairs w sv ps) :
    Calls Try.prog 100 #[.agg #[.int .i64 src, sv]] w fun e w' => e = .returned (.bool (goodPing ⟨src, ps⟩)) ∧ Below w.heap.size w w' := by
  obtain ⟨ao, cap, rfl, hl, hc⟩ := hr
  obtain ⟨G, hG⟩ : ∃ G, goodPing ⟨src, ps⟩ = G := ⟨_, rfl⟩
  rw [hG]
  cases h1 : below src 6
  · have hGf : G = false := by rw [← hG]; simp [goodPing, h1]
    subst hGf
    clear hG
    go_enter Try.func100, Try.ntmps100
    go_wp2_with (go_at_call 98; refine (isBelow_any _ _ _).mono ?_; rintro e w' ⟨rfl, rfl⟩)
    go_ret
    exact ⟨rfl, (Below.refl _ _).alloc (Nat.le_refl _) _⟩
  by_cases h2 : (16 : Int) < ps.length
  · have hGf : G = false := by rw [← hG]; simp [goodPing, h1]; omega
    subst hGf
    clear hG
    go_enter Try.func100, Try.ntmps100
    go_wp2_with (go_at_call 98; refine (isBelow_any _ _ _).mono ?_; rintro e w' ⟨rfl, rfl⟩)
    go_ret
    exact ⟨rfl, (Below.refl _ _).alloc (Nat.le_refl _) _⟩
  have HG : Hid (G = gFrom ps (-1) 0) := by show G = _; rw [← hG]; simp [goodPing, h1, gFrom, show ps.length ≤ 16 by omega]
  clear hG
  go_enter Try.func100, Try.ntmps100
  go_wp2_with (go_at_call 98; refine (isBelow_any _ _ _).mono ?_; rintro e w' ⟨rfl, rfl⟩)
  go_loopw [3, 4] (fun l i wr => ∃ (k : Nat) (last : Int), k ≤ ps.length ∧ i = .int .i64 k ∧ l = .int .i64 last ∧ Hid (G = gFrom ps last k) ∧ Below (w.heap.size + 1) (w.alloc (.cells #[.int .i64 src, .slice ao ps.length cap] 82)) wr)
    (fun _ i _ => ps.length - (intOf i).toNat)
  case atStart => exact ⟨0, -1, Nat.zero_le _, rfl, rfl, HG, Below.refl _ _⟩
  case round =>
    obtain ⟨k, last, hk, rfl, rfl, hg, hbel⟩ := hrel
    have hx0 : wr.cell? ⟨w.heap.size, 0, none⟩ = some (.int .i64 src) := (hbel.cell (by simp)).trans (by simp)
    have hx1 : wr.cell? ⟨w.heap.size, 1, none⟩ = some (.slice ao ps.length cap) := (hbel.cell (by simp)).trans (by simp)
    have hz := hbel.size
    by_cases hlt : k < ps.length
    · obtain ⟨b, off, rfl, hc1, hc2⟩ := hc k hlt
      have hd1 := cell_keep (Below.under hbel) hc1
      have hd2 := cell_keep (Below.under hbel) hc2
      have HS : Hid (gFrom ps last k = (below (preg ps k) 8 && below (pplace ps k) 16 && decide (last < pplace ps k) && gFrom ps (pplace ps k) (k + 1))) := gFrom_step hlt
      cases h3 : below (preg ps k) 8
      · have hGf : G = false := by rw [hg.out, HS.out, h3]; rfl
        subst hGf
        clear hg HS HG
        go_wp2_with (go_at_call 98; refine (isBelow_any _ _ _).mono ?_; rintro e w' ⟨rfl, rfl⟩)
        go_ret
        exact ⟨rfl, (Below.under hbel).alloc (by simp at hz; omega) _⟩
      cases h4 : below (pplace ps k) 16
      · have hGf : G = false := by rw [hg.out, HS.out, h3, h4]; rfl
        subst hGf
        clear hg HS HG
        go_wp2_with (go_at_call 98; refine (isBelow_any _ _ _).mono ?_; rintro e w' ⟨rfl, rfl⟩)
        go_ret
        exact ⟨rfl, (Below.under hbel).alloc (by simp at hz; omega) _⟩
      by_cases h5 : last < pplace ps k
      · have hG' : Hid (G = gFrom ps (pplace ps k) (k + 1)) := by show G = _; rw [hg.out, HS.out, h3, h4]; simp [h5]
        clear hg HS HG
        go_wp2_with (go_at_call 98; refine (isBelow_any _ _ _).mono ?_; rintro e w' ⟨rfl, rfl⟩)
        go_roundw
        case rel => exact ⟨k + 1, _, by omega, by go_num, rfl, hG', hbel.alloc (by simp at hz; omega) _⟩
        case measure => simp [intOf]; omega
      · have hGf : G = false := by rw [hg.out, HS.out, h3, h4]; simp [h5]
        subst hGf
        clear hg HS HG
        go_wp2_with (go_at_call 98; refine (isBelow_any _ _ _).mono ?_; rintro e w' ⟨rfl, rfl⟩)
        go_ret
        exact ⟨rfl, (Below.under hbel).alloc (by simp at hz; omega) _⟩
    · have hGt : G = true := by rw [hg.out, gFrom_end (by omega)]
      subst hGt
      clear hg HG
      go_wp2
      go_ret
      exact ⟨rfl, Below.under hbel⟩

set_option maxHeartbeats 1000000 in
theorem wmHint_any (v : Value) (h : List PingD) (w : World) (hr : RdHint w v h) :
    Calls Try.prog 88 #[.agg #[v]] w fun e w' => e = .returned (.bool (goodHint h)) ∧ Below w.heap.size w w' := by
  have hr0 := hr
  obtain ⟨ao, cap, rfl, hl, hc⟩ := hr
  obtain ⟨G, hG⟩ : ∃ G, goodHint h = G := ⟨_, rfl⟩
  rw [hG]
  by_cases h1 : (h.length : Int) < 1
  · have hGf : G = false := by rw [← hG]; simp [goodHint]; omega
    subst hGf
    clear hG
    go_enter Try.func88, Try.ntmps88
    go_wp2
    go_ret
    exact ⟨rfl, (Below.refl _ _).alloc (Nat.le_refl _) _⟩
  by_cases h2 : (6 : Int) < h.length
  · have hGf : G = false := by rw [← hG]; simp [goodHint]; omega
    subst hGf
    clear hG
    go_enter Try.func88, Try.ntmps88
    go_wp2
    go_ret
    exact ⟨rfl, (Below.refl _ _).alloc (Nat.le_refl _) _⟩
  have HG : Hid (G = gpFrom h 0) := by show G = _; rw [← hG]; simp [goodHint, gpFrom, show 1 ≤ h.length ∧ h.length ≤ 6 by omega]
  clear hG
  go_enter Try.func88, Try.ntmps88
  go_wp2
  go_loopw [3] (fun i wr => ∃ (k : Nat), k ≤ h.length ∧ i = .int .i64 k ∧ Hid (G = gpFrom h k) ∧ Below (w.heap.size + 1) (w.alloc (.cells #[.slice ao h.length cap] 31)) wr)
    (fun i _ => h.length - (intOf i).toNat)
  case atStart => exact ⟨0, Nat.zero_le _, rfl, HG, Below.refl _ _⟩
  case round =>
    obtain ⟨k, hk, rfl, hg, hbel⟩ := hrel
    have hx0 : wr.cell? ⟨w.heap.size, 0, none⟩ = some (.slice ao h.length cap) := (hbel.cell (by simp)).trans (by simp)
    have hz := hbel.size
    by_cases hlt : k < h.length
    · obtain ⟨b, off, sv, rfl, hc1, hc2, hc3⟩ := hc k hlt
      have hd1 := cell_keep (Below.under hbel) hc1
      have hd2 := cell_keep (Below.under hbel) hc2
      have hd3 := hc3.keep (Below.under hbel)
      have HS : Hid (gpFrom h k = (goodPing ⟨hsrc h k, hpairs h k⟩ && gpFrom h (k + 1))) := gpFrom_step hlt
      cases h3 : goodPing ⟨hsrc h k, hpairs h k⟩
      · have hGf : G = false := by rw [hg.out, HS.out, h3]; rfl
        subst hGf
        clear hg HS HG
        go_wp2_with fail
        refine (wmPairing_any _ _ _ _ hd3).mono ?_
        rintro e w' ⟨rfl, hb2⟩
        go_wp2
        go_ret
        exact ⟨rfl, (Below.under hbel).trans (hb2.mono (by simp at hz; omega))⟩
      · have hG' : Hid (G = gpFrom h (k + 1)) := by show G = _; rw [hg.out, HS.out, h3]; rfl
        clear hg HS HG
        go_wp2_with fail
        refine (wmPairing_any _ _ _ _ hd3).mono ?_
        rintro e w' ⟨rfl, hb2⟩
        go_wp2
        go_roundw
        case rel => exact ⟨k + 1, by omega, by go_num, hG', hbel.trans (hb2.mono (by simp at hz; omega))⟩
        case measure => simp [intOf]; omega
    · have hGt : G = true := by rw [hg.out, gpFrom_end (by omega)]
      subst hGt
      clear hg HG
      go_wp2
      go_ret
      exact ⟨rfl, Below.under hbel⟩

end Go.Proofs.Ytdjdjkgoelbbdaa
