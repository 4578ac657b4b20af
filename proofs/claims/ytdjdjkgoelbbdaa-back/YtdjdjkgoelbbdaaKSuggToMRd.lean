/- A hint out of raw numbers. -/
import Derived.Test.YtdjdjkgoelbbdaaKWholeJoined
import Derived.Deep.RegionLaw
import Derived.Deep.AppendLies
import Derived.Test.YtdjdjkgoelbbdaaCodAToDat
set_option linter.unusedSimpArgs false
set_option linter.unusedVariables false
namespace Go.Proofs.Ytdjdjkgoelbbdaa
open Go.RowKit

theorem goodPairs_snoc {ps : List PairD} {last : Int} {x : PairD} (h : goodPairs last ps = true) (hl : last < x.place) (hq : ∀ q ∈ ps, q.place < x.place) (h1 : below x.reg 8 = true) (h2 : below x.place 16 = true) : goodPairs last (ps ++ [x]) = true := by
  induction ps generalizing last with
  | nil => simp [goodPairs, h1, h2, hl]
  | cons p r ih =>
    simp only [goodPairs, List.cons_append, Bool.and_eq_true] at h ⊢
    exact ⟨h.1, ih h.2 (hq p (by simp)) (fun q hq' => hq q (by simp [hq']))⟩

theorem pairs_one (a b : Int) : ∀ u ∈ [Value.int .i64 a, Value.int .i64 b], u.oneCell' = true := by
  intro u hu; simp at hu; rcases hu with rfl | rfl <;> rfl

/-- Pairs underway, at the places below p. -/
structure PairsTo (ps : List PairD) (p : Nat) : Prop where
  good : goodPairs (-1) ps = true
  low : ∀ q ∈ ps, q.place < p
  len : ps.length ≤ p

theorem PairsTo.skip {ps : List PairD} {p : Nat} (h : PairsTo ps p) : PairsTo ps (p + 1) :=
  ⟨h.good, fun q hq => by have := h.low q hq; omega, by have := h.len; omega⟩

theorem PairsTo.snoc {ps : List PairD} {p : Nat} (h : PairsTo ps p) (hp : p < 16) {x : Int} (h0 : 0 ≤ x) (h8 : x < 8) : PairsTo (ps ++ [⟨x, p⟩]) (p + 1) := by
  refine ⟨goodPairs_snoc h.good (by simp; omega) (fun q hq => by simpa using h.low q hq) (by simp [below]; omega) (by simp [below]; omega), ?_, by have := h.len; simp; omega⟩
  intro q hq
  rcases List.mem_append.1 hq with hq | hq
  · have := h.low q hq; omega
  · simp at hq; subst hq; simp; omega

set_option maxRecDepth 100000 in
set_option maxHeartbeats 8000000 in
theorem sugg_cps (ao : Option Addr) (n cap : Nat) (w : World) (hraw : RdInts w (.slice ao n cap) n) (Post : Ending → World → Prop)
    (hp : ∀ v hv w', goodHint (hdat hv) = true → OwnHint w' w.heap.size v hv → Below w.heap.size w w' → Post (.returned (.agg #[v])) w') :
    Calls Try.prog 16 #[.slice ao n cap] w Post := by
  obtain ⟨i0, ii, iz0, iz1, iz2⟩ := info_parts Try.infoPing
  obtain ⟨j0, ji, jz0, jz1, jz2⟩ := info_parts Try.infoPair
  have rA : Row (((w.alloc (.cells #[.slice none 0 0] 31)).alloc (.cells #[.slice ao n cap, .int .i64 0] 103)).alloc (.cells #[.slice none 0 0] 31)) w.heap.size 31 [.slice none 0 0] := by
    have q : Row (w.alloc (.cells #[.slice none 0 0] 31)) w.heap.size 31 [.slice none 0 0] := heap_alloc_new w _
    exact (q.alloc _).alloc _
  have rR : Row (((w.alloc (.cells #[.slice none 0 0] 31)).alloc (.cells #[.slice ao n cap, .int .i64 0] 103)).alloc (.cells #[.slice none 0 0] 31)) (w.heap.size + 1) 103 [.slice ao n cap, .int .i64 0] := by
    have q : Row ((w.alloc (.cells #[.slice none 0 0] 31)).alloc (.cells #[.slice ao n cap, .int .i64 0] 103)) (w.heap.size + 1) 103 [.slice ao n cap, .int .i64 0] := heap_alloc2_new w _ _
    exact q.alloc _
  have rH : Row (((w.alloc (.cells #[.slice none 0 0] 31)).alloc (.cells #[.slice ao n cap, .int .i64 0] 103)).alloc (.cells #[.slice none 0 0] 31)) (w.heap.size + 2) 31 [.slice none 0 0] := by
    have q := heap_alloc2_new (w.alloc (.cells #[.slice none 0 0] 31)) (.cells #[.slice ao n cap, .int .i64 0] 103) (.cells #[.slice none 0 0] 31)
    simp only [World.size_alloc] at q
    exact q
  have hb0 : Below w.heap.size w (((w.alloc (.cells #[.slice none 0 0] 31)).alloc (.cells #[.slice ao n cap, .int .i64 0] 103)).alloc (.cells #[.slice none 0 0] 31)) := (((Below.refl w.heap.size w).alloc (Nat.le_refl _) _).alloc (by simp) _).alloc (by simp; omega) _
  have ro0 := Rolls.fresh hraw hb0 rR (by omega)
  have ke : Keep (fun g => g = w.heap.size + 1) w (((w.alloc (.cells #[.slice none 0 0] 31)).alloc (.cells #[.slice ao n cap, .int .i64 0] 103)).alloc (.cells #[.slice none 0 0] 31)) := (((Keep.refl _ _).alloc _).alloc _).alloc _
  clear rR hb0
  go_enter Try.func16, Try.ntmps16
  go_wp2_with fail
  refine next_cps (w.heap.size + 1) ao n cap _ 6 _ ro0 (by omega) _ ?_
  intro x0 k0 w0 xa0 xb0 hr hk hzz
  have ro := hr
  have rA := rA.kept hk (by omega)
  have rH := rH.kept hk (by omega)
  have ke := ke.trans hk
  have hz : w.heap.size + 3 ≤ w0.heap.size := by have := rH.lt; omega
  clear hr hk hzz ro0
  go_wp2
  go_loopw [6] (fun i wr => ∃ (j : Nat) (v : Value) (hv : List (PingD × Value)) (kk : Nat), (j : Int) ≤ 1 + x0 ∧ i = .int .i64 j ∧ Hid (hv.length = j) ∧ Hid (∀ x ∈ hv, goodPing x.1 = true) ∧ Row wr w.heap.size 31 [.slice none 0 0] ∧ Row wr (w.heap.size + 2) 31 [v] ∧
      OwnHint wr (w.heap.size + 3) v hv ∧ Rolls wr (w.heap.size + 1) ao n cap kk ∧ Keep (fun g => g = w.heap.size + 1) w wr ∧ w.heap.size + 3 ≤ wr.heap.size)
    (fun i _ => (1 + x0).toNat - (intOf i).toNat)
  case atStart => exact ⟨0, .slice none 0 0, [], _, by omega, rfl, rfl, (fun x hx => by cases hx), rA, rH, ownHint_nil _ _, ro, ke, hz⟩
  case round =>
    clear rA rH ke ro hz w0
    obtain ⟨j, v, hv, kk, hj, rfl, hvl, hbg, rA, rH, own, ro, ke, hz⟩ := hrel
    obtain ⟨bo, bc, rfl⟩ := owns_slice own.row
    by_cases hlt : (j : Int) < 1 + x0
    · go_wp2_with fail
      refine next_cps (w.heap.size + 1) ao n cap _ 6 _ ro (by omega) _ ?_
      intro src k1 w1 sa sb hr1 hk1 hz1
      have rA1 := rA.kept hk1 (by omega)
      have rH1 := rH.kept hk1 (by omega)
      have own1 := own.apartFrom hk1 (fun g hg => by omega)
      have ke1 := ke.trans hk1
      have hz1' : w.heap.size + 3 ≤ w1.heap.size := by omega
      have rX1 : Row (w1.alloc (.cells #[.int .i64 src, .slice none 0 0] 82)) w1.heap.size 82 [.int .i64 src, .slice none 0 0] := heap_alloc_new w1 _
      have roX := hr1.belowB hraw ((Below.refl w1.heap.size w1).alloc (Nat.le_refl _) (.cells #[.int .i64 src, .slice none 0 0] 82)) (by omega) (by omega)
      have keX : Keep (fun g => g = w.heap.size + 1) w1 (w1.alloc (.cells #[.int .i64 src, .slice none 0 0] 82)) := (Keep.refl _ _).alloc _
      clear rA rH own ke hz hz1 hr1 hk1 ro
      go_wp2
      go_loopw [8] (fun i wi => ∃ (p : Nat) (ps : List PairD) (sv : Value) (k2 : Nat), p ≤ 16 ∧ i = .int .i64 p ∧ Hid (PairsTo ps p) ∧ Row wi w1.heap.size 82 [.int .i64 src, sv] ∧ wi.ownsRow (w1.heap.size + 1) 84 2 sv ps.length (pairCells ps) ∧
          Rolls wi (w.heap.size + 1) ao n cap k2 ∧ Keep (fun g => g = w.heap.size + 1) w1 wi ∧ w1.heap.size + 1 ≤ wi.heap.size)
        (fun i _ => 16 - (intOf i).toNat)
      case atStart => exact ⟨0, [], _, _, by omega, rfl, ⟨rfl, (fun x hx => by cases hx), Nat.le_refl _⟩, rX1, World.ownsRow_nil _ _ _ _, roX, keX, by simp⟩
      case round =>
        clear rX1 roX keX
        obtain ⟨p, ps, sv, k2, hpp, rfl, hpt, rX, pown, ro, ke, hzi⟩ := hrel
        obtain ⟨so, sc, rfl⟩ := owns_slice pown
        by_cases hp16 : p < 16
        · go_wp2_with fail
          refine next_cps (w.heap.size + 1) ao n cap _ 2 _ ro (by omega) _ ?_
          intro yes k3 w3 ya yb hr3 hk3 hz3
          have rX3 := rX.kept hk3 (by omega)
          have pown3 := owns_keep pown hk3 (fun g hg => by omega)
          have ke3 := ke.trans hk3
          have hz3' : w1.heap.size + 1 ≤ w3.heap.size := by omega
          clear rX pown ke hz3 hk3 ro hzi
          by_cases hy : yes = 1
          · subst hy
            have hdb : Below w3.heap.size w3 w3.drew := (Below.refl _ _).drew
            have hrd := hr3.keep hdb
            have rXd := rX3.keep hdb
            have pownd := owns_below pown3 hdb (Nat.le_refl _)
            have ked := ke3.below hdb (by omega)
            have hzd : w1.heap.size + 1 ≤ w3.drew.heap.size := hz3'
            have a1 := rX3.cell (i := 1) rfl
            clear hr3 hdb
            go_wp2
            go_region_law (first | (go_simp; go_at_call 52; refine next_cps (w.heap.size + 1) ao n cap k3 8 w3.drew hrd (by omega) _ ?_; intro y k4 w4 ya yb hr4 hk4 hz4; have rX4 := rXd.kept hk4 (by omega); have b1 := rX4.cell (i := 1) rfl; have b2 := (rX4.alloc (.cells #[.int .i64 y, .int .i64 p] 84)).cell (i := 1) rfl; have pown4 := owns_keep pownd hk4 (fun g hg => by omega); have ke4 := ked.trans hk4; have hz4' : w1.heap.size + 1 ≤ w4.heap.size := (by omega); clear hz4) | (refine step_append_lies _ (by rfl) _ _ 80 (by rfl) (w1.heap.size + 1) 84 j0 (.agg #[.int .i64 0, .int .i64 0]) 2 16 Try.underlying80 ji jz0 jz1 jz2 rfl (by decide) _ _ _ (by rfl) (pown4.alloc _) ⟨w4.heap.size, 0, none⟩ 1 1 [.int .i64 y, .int .i64 p] (by rfl) rfl (by simpa using two_new w4 _ _ _) (pairs_one _ _) (by decide) (by have := hpt.out.len; unfold maxLen; omega) (by have := hpt.out.len; omega) (by simp; omega) _ rfl ?_; intro g c5 w5 hown5 hgrow5 _ _; have hb5 := ((Below.refl (w1.heap.size + 1) w4).alloc hz4' (.cells #[.int .i64 y, .int .i64 p] 84)).grown hgrow5 (by simp; omega) (fun g hg => (pown4.lt g hg).1); have rX5 := rX4.below hb5 (by omega); have y1 := rX5.cell (i := 1) rfl; have yf := rX5.frozen 1; have ro5 := hr4.belowB hraw hb5 (by omega) (by omega); have ke5 := ke4.below hb5 (by omega); have hz5 := hb5.size))
            all_goals
              have rX6 := rX5.set 1 (.slice (some ⟨g, 0, none⟩) (ps.length + 1) c5)
              have ro6 := ro5.away hraw (g := w1.heap.size) (i := 1) (by omega) (by omega) (.slice (some ⟨g, 0, none⟩) (ps.length + 1) c5)
              have ke6 := ke5.setCell (p := ⟨w1.heap.size, 1, none⟩) (.inr (Nat.le_refl _)) (.slice (some ⟨g, 0, none⟩) (ps.length + 1) c5)
              have own6 := ownsRow_setCell_below hown5 (a := ⟨w1.heap.size, 1, none⟩) (by show w1.heap.size < w1.heap.size + 1; omega) (.slice (some ⟨g, 0, none⟩) (ps.length + 1) c5)
              rw [← pairCells_snoc] at own6
              have HP : Hid (PairsTo (ps ++ [⟨y, p⟩]) (p + 1)) := hpt.out.snoc hp16 ya yb
              clear rX5 ro5 ke5 hown5 hgrow5 hb5 y1 yf rX4 b1 b2 pown4 ke4 hr4 hk4 hrd rXd pownd ked a1 rX3 pown3 ke3 hpt
              go_wp2
              go_roundw
              case rel => exact ⟨p + 1, ps ++ [⟨y, p⟩], _, _, by omega, by go_num, HP, rX6, by simpa using own6, ro6, ke6, by simp; omega⟩
              case measure => simp [intOf]; omega
          · have HP : Hid (PairsTo ps (p + 1)) := hpt.out.skip
            have hy0 : yes = 0 := by omega
            subst hy0
            go_wp2
            go_roundw
            case rel => exact ⟨p + 1, ps, _, _, by omega, by go_num, HP, rX3, pown3, hr3, ke3, hz3'⟩
            case measure => simp [intOf]; omega
        · obtain rfl : p = 16 := by omega
          have rA2 := rA1.kept ke (by omega)
          have rH2 := rH1.kept ke (by omega)
          have own2 := own1.apartFrom ke (fun g hg => by omega)
          have ke2 := ke1.trans ke
          have hzl : w.heap.size + 3 ≤ wr.heap.size := by omega
          have h0 := rH2.cell (i := 0) rfl
          have x0' := rX.cell (i := 0) rfl
          have x1' := rX.cell (i := 1) rfl
          have hfree : ∀ y ∈ hv, ∀ g, y.2.ownBlock = some g → (Value.slice so ps.length sc).ownBlock ≠ some g := by
            intro y hy g hg e
            have q1 := ((own1.each y hy).lt g hg).2
            have q2 := (pown.lt g e).1
            omega
          have HG : Hid (∀ x ∈ hv ++ [(⟨src, ps⟩, Value.slice so ps.length sc)], goodPing x.1 = true) := by
            intro x hx
            rcases List.mem_append.1 hx with hx | hx
            · exact hbg.out x hx
            · simp at hx
              subst hx
              have := hpt.out
              simp only [goodPing, below, Bool.and_eq_true, decide_eq_true_eq]
              exact ⟨⟨by omega, this.len⟩, this.good⟩
          have pown2 := owns_base pown (show w.heap.size + 3 ≤ _ by omega)
          clear rA1 rH1 own1 ke1 ke pown hbg rX
          go_wp2_with (at_builtin; refine wpList_append_own _ rfl _ _ 29 rfl (w.heap.size + 3) 82 i0 (.agg #[.int .i64 0, .slice none 0 0]) 2 32 Try.underlying29 ii iz0 iz1 iz2 rfl (by decide) _ _ _ rfl (own2.row.alloc _) ⟨wr.heap.size, 0, none⟩ 1 1 [.int .i64 src, .slice so ps.length sc] rfl rfl ?c1 ?c2 ?c3 ?c4 ?c5 ?_)
          case c1 => simpa using two_new wr _ _ _
          case c2 => intro u hu; simp at hu; rcases hu with rfl | rfl <;> rfl
          case c3 => have := hvl.out; unfold maxLen; omega
          case c4 => have := hvl.out; omega
          case c5 => simp; omega
          intro v' w7 hown' hgrow _
          have own7 : OwnHint w7 (w.heap.size + 3) v' (hv ++ [(⟨src, ps⟩, .slice so ps.length sc)]) := (own2.alloc _).snoc (x := ⟨src, ps⟩) (pown2.alloc _) hfree hgrow hown'
          have hb7 := (((Below.refl (w.heap.size + 3) wr).alloc hzl _).grown hgrow (by simp; omega) (fun g hg => (own2.row.lt g hg).1))
          have rA7 := rA2.below hb7 (by omega)
          have rH7 := rH2.below hb7 (by omega)
          have ro7 := ro.belowB hraw hb7 (by omega) (by omega)
          have ke7 := ke2.below hb7 (by omega)
          have hz7 := hb7.size
          have y4 := rH7.cell (i := 0) rfl
          have yf := rH7.frozen 0
          obtain ⟨bo', bc', hv'⟩ := owns_slice own7.row
          rw [List.length_append] at hv'
          simp only [List.length_cons, List.length_nil, Nat.zero_add] at hv'
          subst hv'
          have rH8 := rH7.set 0 (.slice bo' (hv.length + 1) bc')
          have rA8 := rA7.unset (a := ⟨(w.heap.size + 2), 0, none⟩) (by show w.heap.size ≠ w.heap.size + 2; omega) (.slice bo' (hv.length + 1) bc')
          have ro8 := ro7.away hraw (g := (w.heap.size + 2)) (i := 0) (by omega) (by omega) (.slice bo' (hv.length + 1) bc')
          have ke8 := ke7.setCell (p := ⟨(w.heap.size + 2), 0, none⟩) (.inr (by show w.heap.size ≤ w.heap.size + 2; omega)) (.slice bo' (hv.length + 1) bc')
          have own8 := own7.set (a := ⟨(w.heap.size + 2), 0, none⟩) (by show w.heap.size + 2 < w.heap.size + 3; omega) (.slice bo' (hv.length + 1) bc')
          clear hgrow hown' hb7 rA2 rH2 own2 ke2 h0 x0' x1' rA7 rH7 ro7 ke7 own7 pown2 hfree ro
          go_wp2
          go_roundw
          case rel => exact ⟨j + 1, _, _, k2, by omega, by go_num, by show List.length _ = _; have := hvl.out; simp; exact this, HG, rA8, rH8, own8, ro8, ke8, by simp; omega⟩
          case measure => simp [intOf]; omega
    · have hje : (j : Int) = 1 + x0 := by omega
      have b0 := rH.cell (i := 0) rfl
      have a0 := rA.cell (i := 0) rfl
      have f0 := rA.frozen 0
      have hgood : goodHint (hdat hv) = true := by
        have e := hvl.out
        simp only [goodHint, goodPings, Bool.and_eq_true, decide_eq_true_eq, List.all_eq_true, hdat_length]
        refine ⟨by omega, ?_⟩
        intro x hx
        obtain ⟨y, hy, rfl⟩ := List.mem_map.1 hx
        exact hbg.out y hy
      have HF : Hid (Post (.returned (.agg #[.slice bo hv.length bc])) (wr.setCell ⟨w.heap.size, 0, none⟩ (.slice bo hv.length bc))) :=
        hp (.slice bo hv.length bc) hv _ hgood ((own.set (by simp) _).base (by omega)) ((ke.setCell (.inr (by simp)) _).toBelow (Nat.le_refl _) (fun g hg => by omega))
      clear hp hgood own ro ke rA rH
      go_wp2
      exact bodyPost_ret (v := .agg #[.slice bo hv.length bc]) (by simp [results, Try.results16, go_sem, a0]) rfl HF.out

end Go.Proofs.Ytdjdjkgoelbbdaa

/- Lists of words that are read. -/
set_option linter.unusedSimpArgs false
set_option linter.unusedVariables false
namespace Go.Proofs.Ytdjdjkgoelbbdaa
open Go.RowKit

/-- A list of words that is read. -/
def RdWords (w : World) (v : Value) (l : List Int) : Prop :=
  ∃ ao cap, v = .slice ao l.length cap ∧ l.length ≤ 9223372036854775807 ∧ ∀ i, i < l.length → ∃ b off, ao = some ⟨b, off, none⟩ ∧ w.cell? ⟨b, off + i, none⟩ = some (.int .i64 (l.getD i 0))

theorem RdWords.keep {w w' : World} {v : Value} {l : List Int} (h : RdWords w v l) (hb : Below w.heap.size w w') : RdWords w' v l := by
  obtain ⟨ao, cap, rfl, hl, hc⟩ := h
  exact ⟨ao, cap, rfl, hl, fun i hi => let ⟨b, off, e, h1⟩ := hc i hi; ⟨b, off, e, cell_keep hb h1⟩⟩

theorem rdWords_nil (w : World) : RdWords w (.slice none 0 0) [] := ⟨none, 0, rfl, by simp, fun i hi => by simp at hi⟩

end Go.Proofs.Ytdjdjkgoelbbdaa
