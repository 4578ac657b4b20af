/- A hint of its own with spare room behind each of its lists. -/
import Derived.Test.YtdjdjkgoelbbdaaRowJoined
set_option linter.unusedSimpArgs false
set_option linter.unusedVariables false
namespace Go.Proofs.Ytdjdjkgoelbbdaa
open Go.RowKit

/-- Each of the lists lies in a row of its own, with a mark behind its end. -/
def Lies (w : World) (hv : List (PingD × Value)) : Prop := ∀ x ∈ hv, ∃ p, x.2 = .slice (some ⟨p, 0, none⟩) x.1.pairs.length (x.1.pairs.length + 1) ∧ Row w p 84 (pairCells x.1.pairs ++ [.int .i64 77, .int .i64 0])

def zPing : List Value := [.int .i64 0, .slice none 0 0]
def zPair : List Value := [.int .i64 0, .int .i64 0]

/-- The blocks' row, the first k blocks laid, n in all. -/
def lRow (hv : List (PingD × Value)) (n : Nat) : List Value := pingCells hv ++ pad zPing (n - hv.length)

theorem zPing_zero : (Value.agg #[.int .i64 0, .slice none 0 0]).cells = zPing.toArray := rfl
theorem zPair_zero : (Value.agg #[.int .i64 0, .int .i64 0]).cells = zPair.toArray := rfl

theorem lRow_get {hv : List (PingD × Value)} {n : Nat} (h : hv.length < n) : (lRow hv n)[hv.length * 2]? = some (.int .i64 0) ∧ (lRow hv n)[hv.length * 2 + 1]? = some (.slice none 0 0) := by
  have hl := pingCells_length hv
  unfold lRow
  obtain ⟨m, hm⟩ : ∃ m, n - hv.length = m + 1 := ⟨n - hv.length - 1, by omega⟩
  rw [hm, pad_cons]
  constructor
  · rw [List.getElem?_append_right (by omega), hl, Nat.sub_self]; rfl
  · rw [List.getElem?_append_right (by omega), hl, Nat.add_sub_cancel_left]; rfl

theorem lRow_set {hv : List (PingD × Value)} {n : Nat} (h : hv.length < n) (x : PingD) (sv : Value) :
    ((lRow hv n).set (hv.length * 2) (.int .i64 x.src)).set (hv.length * 2 + 1) sv = lRow (hv ++ [(x, sv)]) n := by
  have hl := pingCells_length hv
  unfold lRow
  obtain ⟨m, hm⟩ : ∃ m, n - hv.length = m + 1 := ⟨n - hv.length - 1, by omega⟩
  have hm2 : n - (hv ++ [(x, sv)]).length = m := by simp; omega
  rw [hm2, hm, pad_cons, pingCells_snoc]
  rw [List.set_append_right _ _ (by omega), hl, Nat.sub_self]
  rw [List.set_append_right _ _ (by omega), hl, Nat.add_sub_cancel_left]
  simp [zPing]

theorem pRow_set (ps : List PairD) : (pairCells ps ++ zPair).set (ps.length * 2) (.int .i64 77) = pairCells ps ++ [.int .i64 77, .int .i64 0] := by
  have hl := pairCells_length ps
  rw [List.set_append_right _ _ (by omega), hl, Nat.sub_self]
  rfl

theorem pRow_copy (ps : List PairD) : pairCells ps ++ (pad zPair (ps.length + 1)).drop (pairCells ps).length = pairCells ps ++ zPair := by
  have hl := pairCells_length ps
  have hp := pad_length zPair ps.length
  congr 1
  rw [pad, hl, List.drop_append]
  have e1 : zPair.length = 2 := rfl
  rw [e1] at hp
  rw [List.drop_of_length_le (by omega), hp, Nat.sub_self]
  rfl

theorem rd_none {w : World} {n sc : Nat} {ps : List PairD} {so : Option Addr} (h : RdPairs w (.slice so n sc) ps) : so = none → pairCells ps = [] := by
  obtain ⟨ao, cap, e, _, hc⟩ := h
  simp only [Value.slice.injEq] at e
  obtain ⟨rfl, rfl, rfl⟩ := e
  intro h0
  cases ps with
  | nil => rfl
  | cons p r =>
    obtain ⟨b, off, e, _⟩ := hc 0 (by simp)
    rw [h0] at e
    cases e

theorem rd_cells {w : World} {n sc : Nat} {ps : List PairD} {so : Option Addr} (h : RdPairs w (.slice so n sc) ps) : ∀ ad, so = some ad → ∀ j u, (pairCells ps)[j]? = some u → w.cell? (ad.add j) = some u := by
  obtain ⟨ao, cap, e, _, hc⟩ := h
  simp only [Value.slice.injEq] at e
  obtain ⟨rfl, rfl, rfl⟩ := e
  intro ad had j u hj
  have hl := pairCells_length ps
  have hjl : j < (pairCells ps).length := (List.getElem?_eq_some_iff.1 hj).1
  obtain ⟨b, off, e, c1, c2⟩ := hc (j / 2) (by omega)
  rw [had] at e
  obtain rfl := Option.some.inj e
  obtain ⟨g1, g2⟩ := pairCells_get ps (j / 2) (by omega)
  rw [Addr.add_lit]
  rcases Nat.mod_two_eq_zero_or_one j with hm | hm
  · have ej : j / 2 * 2 = j := by omega
    rw [ej] at g1 c1
    rw [c1, ← g1, hj]
  · have ej : j / 2 * 2 + 1 = j := by omega
    rw [ej] at g2
    rw [Nat.add_assoc, ej] at c2
    rw [c2, ← g2, hj]

theorem ints_one (ps : List PairD) : ∀ u ∈ pairCells ps, u.oneCell' = true := by
  intro u hu
  simp only [pairCells, List.mem_flatMap] at hu
  obtain ⟨p, _, hp⟩ := hu
  simp at hp
  rcases hp with rfl | rfl <;> rfl

theorem lies_step {w w' : World} {hv : List (PingD × Value)} (h : Lies w hv) (hs : ∀ p xs, Row w p 84 xs → Row w' p 84 xs) : Lies w' hv :=
  fun x hx => let ⟨p, e, hp⟩ := h x hx; ⟨p, e, hs p _ hp⟩

theorem row_apart {w : World} {g g' : Nat} {e e' : TypeId} {xs ys : List Value} (h : Row w g e xs) (h' : Row w g' e' ys) (he : e ≠ e') : g ≠ g' := by
  intro e0
  subst e0
  unfold Row at h h'
  rw [h] at h'
  simp at h'
  exact he h'.2

set_option maxRecDepth 100000 in
set_option maxHeartbeats 4000000 in
theorem roomyHint_cps (v : Value) (h : List PingD) (w : World) (hr : RdHint w v h) (hn : h.length ≤ 4398046511104) (hn2 : ∀ k, k < h.length → (hpairs h k).length ≤ 8796093022208) (Post : Ending → World → Prop)
    (hyes : ∀ w' hv L D, hdat hv = h → Lies w' hv → Row w' L 82 (pingCells hv ++ [.int .i64 77, .slice none 0 0]) → Row w' D 82 (pingCells hv) → Below w.heap.size w w' →
      Post (.returned (.tuple #[.agg #[.slice (some ⟨L, 0, none⟩) hv.length (hv.length + 1)], .slice (some ⟨D, 0, none⟩) hv.length hv.length])) w') :
    Calls Try.prog 44 #[.agg #[v]] w Post := by
  obtain ⟨i0, ii, iz0, iz1, iz2⟩ := info_parts Try.infoPing
  obtain ⟨j0, ji, jz0, jz1, jz2⟩ := info_parts Try.infoPair
  have hr0 := hr
  obtain ⟨ao, cap, rfl, hl, hc⟩ := hr
  go_enter Try.func44, Try.ntmps44
  go_wp2_with (at_make; refine wpList_make_row _ rfl _ _ 29 rfl 82 i0 _ zPing Try.underlying29 ii iz0 iz1 zPing_zero (by decide) _ _ _ _ (h.length + 1) rfl rfl (by simp) (by simp) ?c1 ?c2 ?_)
  case c1 => first | omega | (rw [iz2]; omega)
  case c2 => unfold maxLen; omega
  intro w1 hL hb1 hz1
  go_wp2
  have hz1' := hz1.out
  try simp only [World.size_alloc] at hb1 hL hz1'
  have hLz : Hid (w.heap.size + 1 + 1 = w.heap.size + 2) := rfl
  clear hz1
  obtain ⟨L, hLe⟩ : ∃ L, L = w.heap.size + 1 + 1 := ⟨_, rfl⟩
  rw [← hLe] at hL hb1 hz1' ⊢
  have HL : Hid (L = w.heap.size + 2) := hLe
  have hLlt : w.heap.size + 1 < L := by omega
  have hb1' : Below (w.heap.size + 2) ((w.alloc (.cells #[.slice ao h.length cap] 31)).alloc (.cells #[.slice none 0 0] 31)) w1 := hb1.mono (by omega)
  clear hLe
  go_loopw [6] (fun i wr => ∃ (k : Nat) (hv : List (PingD × Value)), k ≤ h.length ∧ i = .int .i64 k ∧ Hid (hv.length = k) ∧ Hid (hdat hv = h.take k) ∧ Lies wr hv ∧ Row wr L 82 (lRow hv (h.length + 1)) ∧
      Below (w.heap.size + 2) ((w.alloc (.cells #[.slice ao h.length cap] 31)).alloc (.cells #[.slice none 0 0] 31)) wr)
    (fun i _ => h.length - (intOf i).toNat)
  case atStart => exact ⟨0, [], Nat.zero_le _, rfl, rfl, rfl, fun x hx => by simp at hx, by simpa [lRow, pingCells] using hL, hb1'⟩
  case round =>
    clear hL hb1 hz1' hb1' w1
    obtain ⟨k, hv, hk, rfl, hvl, hdt, hlies, hL, hbel⟩ := hrel
    have hb0 : Below w.heap.size w wr := (((Below.refl w.heap.size w).alloc (Nat.le_refl _) _).alloc (by simp) _).trans (hbel.mono (by omega))
    have x0 : wr.cell? ⟨w.heap.size, 0, none⟩ = some (.slice ao h.length cap) := (hbel.cell (by simp)).trans (by simp)
    have x1 : wr.cell? ⟨w.heap.size + 1, 0, none⟩ = some (.slice none 0 0) := (hbel.cell (by simp)).trans (by simp)
    have xf : wr.frozen? ⟨w.heap.size + 1, 0, none⟩ = false := (hbel.frozen (by simp)).trans (by simp)
    have hz := hbel.size
    simp at hz
    have hLw := hL.lt
    by_cases hlt : k < h.length
    case neg =>
      obtain rfl : k = h.length := by omega
      have hkv : hv.length < h.length + 1 := by have := hvl.out; omega
      have l0 := hL.cell (lRow_get hkv).1
      rw [hvl.out] at l0
      have lf0 := hL.frozen (h.length * 2)
      have hL2 := hL.set (hv.length * 2) (.int .i64 77)
      have e7 : (lRow hv (h.length + 1)).set (hv.length * 2) (.int .i64 77) = pingCells hv ++ [.int .i64 77, .slice none 0 0] := by
        have hl := pingCells_length hv
        have hp : h.length + 1 - hv.length = 1 := by have := hvl.out; omega
        unfold lRow
        rw [hp, List.set_append_right _ _ (by omega), hl, Nat.sub_self]
        rfl
      rw [e7, hvl.out] at hL2
      have hlies2 : Lies (wr.setCell ⟨L, h.length * 2, none⟩ (.int .i64 77)) hv := lies_step hlies fun p xs hp => hp.unset (a := ⟨L, _, none⟩) (row_apart hp hL (by decide)) _
      have hb2 := hbel.setCell (p := ⟨L, h.length * 2, none⟩) (by show _ ≤ L; omega) (.int .i64 77)
      have y1 : (wr.setCell ⟨L, h.length * 2, none⟩ (.int .i64 77)).cell? ⟨w.heap.size + 1, 0, none⟩ = some (.slice none 0 0) := cell_unset (by simp) x1
      have yf : (wr.setCell ⟨L, h.length * 2, none⟩ (.int .i64 77)).frozen? ⟨w.heap.size + 1, 0, none⟩ = false := by simpa using xf
      have hzs : (wr.setCell ⟨L, h.length * 2, none⟩ (.int .i64 77)).heap.size = wr.heap.size := by simp
      have hone : ∀ u ∈ pingCells hv, u.oneCell' = true := by
        intro u hu
        simp only [pingCells, List.mem_flatMap] at hu
        obtain ⟨x, hx, hp⟩ := hu
        obtain ⟨p, e, _⟩ := hlies x hx
        simp at hp
        rcases hp with rfl | rfl
        · rfl
        · rw [e]; rfl
      have hdt' : Hid (hdat hv = h) := by have := hdt.out; rw [List.take_length] at this; exact this
      go_wp2_with (at_make; refine wpList_make_row _ rfl _ _ 29 rfl 82 i0 _ zPing Try.underlying29 ii iz0 iz1 zPing_zero (by decide) _ _ _ _ h.length rfl rfl (by simp) (by simp) ?k1 ?k2 ?_)
      case k1 => first | omega | (rw [iz2]; omega)
      case k2 => unfold maxLen; omega
      intro w2 hD hb3 hz3
      try rw [hzs] at hD
      try rw [hzs] at hb3
      generalize hwe : wr.setCell ⟨L, h.length * 2, none⟩ (.int .i64 77) = we at *
      have hws : wr.heap.size = we.heap.size := hzs.symm
      obtain ⟨D, hDe⟩ : ∃ D, D = wr.heap.size := ⟨_, rfl⟩
      have hLD : L < D := by omega
      have hwD : w.heap.size + 1 < D := by omega
      have hDn : D ≠ w.heap.size + 1 := by omega
      have hL3 := hL2.below hb3 (by omega)
      have hlies3 : Lies w2 hv := lies_step hlies2 fun p xs hp => hp.below hb3 (by have := hp.lt; omega)
      have z1 := (hb3.cell (p := ⟨w.heap.size + 1, 0, none⟩) (by show w.heap.size + 1 < _; omega)).trans y1
      have zf := (hb3.frozen (p := ⟨w.heap.size + 1, 0, none⟩) (by show w.heap.size + 1 < _; omega)).trans yf
      have hb4 := hb2.trans (hb3.mono (by omega))
      rw [← hDe] at hD ⊢
      clear hwe hzs hws hb3 hz3 hDe x0 x1 xf l0 lf0 hb0 hlies hlies2 hL hL2 hb2 y1 yf hbel hz hLw
      have hsrc : ∀ ad, some (⟨L, 0, none⟩ : Addr) = some ad → ∀ j u, (pingCells hv)[j]? = some u → w2.cell? (ad.add j) = some u := by
        intro ad had j u hj
        obtain rfl := Option.some.inj had
        rw [Addr.add_lit, Nat.zero_add]
        exact hL3.cell (by rw [List.getElem?_append_left (List.getElem?_eq_some_iff.1 hj).1]; exact hj)
      go_wp2_with (refine wpList_copy_row _ rfl (.tmp 66) (.tmp 67) 29 rfl 82 i0 Try.underlying29 ii 2 iz1 D _ _ (some ⟨L, 0, none⟩) _ _ rfl rfl _ hD (pingCells hv) ?m1 (by intro h; cases h) hsrc ?m2 hone ?_)
      case m1 => rw [pingCells_length, hvl.out, show (h.length + 1).min h.length = h.length from Nat.min_eq_right (by omega)]
      case m2 => rw [pingCells_length, pad_length, hvl.out]; simp [zPing]
      intro w3 hD3 hu3
      have e8 : pingCells hv ++ (pad zPing h.length).drop (pingCells hv).length = pingCells hv := by
        rw [List.drop_of_length_le (by rw [pad_length, pingCells_length, hvl.out]; simp [zPing]), List.append_nil]
      rw [e8] at hD3
      have hL4 := hL3.same (hu3.block L (by omega))
      have hlies4 : Lies w3 hv := lies_step hlies3 fun p xs hp => hp.same (hu3.block p (row_apart hp hD (by decide)))
      have t1 := (hu3.cell (b := w.heap.size + 1) (o := 0) (by omega)).trans z1
      have tf : w3.frozen? ⟨w.heap.size + 1, 0, none⟩ = false := (World.frozen?_of_block (w := w2) (hu3.block (w.heap.size + 1) (by omega))).trans zf
      have hb5 := hu3.below hb4 (by omega)
      have hb6 : Below w.heap.size w w3 := (((Below.refl w.heap.size w).alloc (Nat.le_refl _) _).alloc (by simp) _).trans (hb5.mono (by omega))
      have hR : Row w3 (w.heap.size + 1) 31 [.slice none 0 0] := (hb5.block (w.heap.size + 1) (by omega)).trans (heap_alloc2_new w _ _)
      have hfin := hyes (w3.setCell ⟨w.heap.size + 1, 0, none⟩ (.slice (some ⟨L, 0, none⟩) h.length (h.length + 1))) hv L D hdt'.out (lies_step hlies4 fun p xs hp => hp.unset (a := ⟨w.heap.size + 1, 0, none⟩) (row_apart hp hR (by decide)) _) (hL4.unset (a := ⟨w.heap.size + 1, 0, none⟩) (by show L ≠ w.heap.size + 1; omega) _) (hD3.unset (a := ⟨w.heap.size + 1, 0, none⟩) hDn _) (hb6.setCell (by simp) _)
      rw [hvl.out] at hfin
      clear hyes hlies4 hL4 hD3 hb6 hb5 hR hu3 hD hL3 hlies3 hsrc hone hb4
      go_wp2
      refine bodyPost_ret (v := .tuple #[.agg #[.slice (some ⟨L, 0, none⟩) h.length (h.length + 1)], .slice (some ⟨D, 0, none⟩) h.length h.length]) (by simp [results, Try.results44, go_sem, t1]) rfl ?_
      exact hfin
    obtain ⟨b, off, sv, rfl, c1, c2, c3⟩ := hc k hlt
    have d1 := cell_keep hb0 c1
    have d2 := cell_keep hb0 c2
    have d3 := c3.keep hb0
    have hbw : b < w.heap.size := World.block_lt_of_cell? _ _ c1
    have hm := hn2 k hlt
    obtain ⟨so, sc, e3, _, _⟩ := id d3
    subst e3
    go_wp2_with (first | (at_make; refine wpList_make_row _ rfl _ _ 80 rfl 84 j0 _ zPair Try.underlying80 ji jz0 jz1 zPair_zero (by decide) _ _ _ _ ((hpairs h k).length + 1) rfl rfl (by simp) (by simp) ?e1 ?e2 ?_))
    case e1 => first | omega | (rw [jz2]; omega)
    case e2 => unfold maxLen; omega
    intro w2 hP hb2 hz2
    obtain ⟨P, hPe⟩ : ∃ P, P = wr.heap.size := ⟨_, rfl⟩
    have hz2' := hz2.out
    have hb2w := hb2
    rw [← hPe] at hP hb2 hz2' ⊢
    clear hz2
    have hLP : L < P := by omega
    have hwP : w.heap.size + 1 < P := by omega
    have hbP : b < P := by omega
    have hLb : b < L := by omega
    have HP : Hid (P = wr.heap.size) := hPe
    clear hPe
    have f0 := (hb2.cell (p := ⟨w.heap.size, 0, none⟩) (by show w.heap.size < P; omega)).trans x0
    have f1 := (hb2.cell (p := ⟨b, off + k * 2, none⟩) (by show b < P; omega)).trans d1
    have f2 := (hb2.cell (p := ⟨b, off + k * 2 + 1, none⟩) (by show b < P; omega)).trans d2
    have f3 := d3.keep hb2w
    go_wp2_with (refine wpList_copy_row _ rfl (.tmp 31) (.tmp 37) 80 rfl 84 j0 Try.underlying80 ji 2 jz1 P _ _ so _ _ rfl rfl _ hP (pairCells (hpairs h k)) ?g1 (rd_none f3) (rd_cells f3) ?g2 (ints_one _) ?_)
    case g1 => rw [pairCells_length, show (hpairs h k).length.min ((hpairs h k).length + 1) = (hpairs h k).length from Nat.min_eq_left (by omega)]
    case g2 => rw [pairCells_length, pad_length]; simp [zPair]; omega
    intro w3 hP3 hu3
    rw [pRow_copy] at hP3
    have hL3 : Row w3 L 82 (lRow hv (h.length + 1)) := (hL.below hb2 hLP).same (hu3.block L (by omega))
    have p0 := hP3.cell (i := (hpairs h k).length * 2) (u := .int .i64 0) (by rw [List.getElem?_append_right (by rw [pairCells_length]; omega), pairCells_length, Nat.sub_self]; rfl)
    have pf := hP3.frozen ((hpairs h k).length * 2)
    have hkv : hv.length < h.length + 1 := by have := hvl.out; omega
    have l0 := hL3.cell (lRow_get hkv).1
    have l1 := hL3.cell (lRow_get hkv).2
    rw [hvl.out] at l0 l1
    have lf0 := hL3.frozen (k * 2)
    have lf1 := hL3.frozen (k * 2 + 1)
    have g0 := (hu3.cell (b := w.heap.size) (o := 0) (by omega)).trans f0
    have g1' := (hu3.cell (b := b) (o := off + k * 2) (by omega)).trans f1
    have g2' := (hu3.cell (b := b) (o := off + k * 2 + 1) (by omega)).trans f2
    have hb3 : Below (w.heap.size + 2) ((w.alloc (.cells #[.slice (some ⟨b, off, none⟩) h.length cap] 31)).alloc (.cells #[.slice none 0 0] 31)) w3 := hu3.below (hbel.trans (hb2.mono (by omega))) (by omega)
    have hPL : P ≠ L := by omega
    have hnP : L ≠ P := by omega
    clear hb2w f0 f1 f2 f3 x0 d1 d2
    have q1 := hP3.set ((hpairs h k).length * 2) (.int .i64 77)
    rw [pRow_set] at q1
    have q2 := (q1.unset (a := ⟨L, k * 2, none⟩) hPL (.int .i64 (hsrc h k))).unset (a := ⟨L, k * 2 + 1, none⟩) hPL (.slice (some ⟨P, 0, none⟩) (hpairs h k).length ((hpairs h k).length + 1))
    have q3 := ((hL3.unset (a := ⟨P, (hpairs h k).length * 2, none⟩) hnP (.int .i64 77)).set (hv.length * 2) (.int .i64 (hsrc h k))).set (hv.length * 2 + 1) (.slice (some ⟨P, 0, none⟩) (hpairs h k).length ((hpairs h k).length + 1))
    rw [lRow_set hkv ⟨hsrc h k, hpairs h k⟩, hvl.out] at q3
    have q4 : Lies (((w3.setCell ⟨P, (hpairs h k).length * 2, none⟩ (.int .i64 77)).setCell ⟨L, k * 2, none⟩ (.int .i64 (hsrc h k))).setCell ⟨L, k * 2 + 1, none⟩ (.slice (some ⟨P, 0, none⟩) (hpairs h k).length ((hpairs h k).length + 1))) (hv ++ [(⟨hsrc h k, hpairs h k⟩, .slice (some ⟨P, 0, none⟩) (hpairs h k).length ((hpairs h k).length + 1))]) := by
      intro x hx
      rcases List.mem_append.1 hx with hx | hx
      · refine lies_step hlies ?_ x hx
        intro p xs hp
        have hpP : p < P := by have := hp.lt; rw [HP.out]; exact this
        have hpL : p ≠ L := row_apart hp hL (by decide)
        exact ((((hp.same (hb2.block p hpP)).same (hu3.block p (by omega))).unset (a := ⟨P, _, none⟩) (by show p ≠ P; omega) _).unset (a := ⟨L, _, none⟩) hpL _).unset (a := ⟨L, _, none⟩) hpL _
      · simp at hx
        subst hx
        exact ⟨P, rfl, q2⟩
    have q5 := ((hb3.setCell (p := ⟨P, (hpairs h k).length * 2, none⟩) (by show _ ≤ P; omega) (.int .i64 77)).setCell (p := ⟨L, k * 2, none⟩) (by show _ ≤ L; omega) (.int .i64 (hsrc h k))).setCell (p := ⟨L, k * 2 + 1, none⟩) (by show _ ≤ L; omega) (.slice (some ⟨P, 0, none⟩) (hpairs h k).length ((hpairs h k).length + 1))
    clear q1 q2 hb3 hlies hL hb2
    go_wp2
    go_roundw
    case rel =>
      refine ⟨k + 1, _, by omega, by go_num, ?_, ?_, q4, q3, q5⟩
      · show List.length _ = _
        have := hvl.out
        simp; exact this
      · show hdat _ = _
        have e := hdt.out
        rw [take_getD h Go.Proofs.Ytdjdjkgoelbbdaa.hz k hlt, ← e]
        simp [hdat, hsrc, hpairs]
    case measure => simp [intOf]; omega

end Go.Proofs.Ytdjdjkgoelbbdaa
