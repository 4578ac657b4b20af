/- A hint of its own with spare room behind each of its lists. -/
import Derived.Test.YtblhmeidbjigaabGreatDoorRows
import Derived.WalkKit
import Derived.WalkSpells
import Derived.WalkLawsBesides
import Derived.Laws.BytesArg
import Derived.Deep.QuietTactic
import Derived.BigQuiet
import Derived.Deep.RegionHeld3
import Derived.Test.YtblhmeidbjigaabGreatDoorTxtToRowAll

set_option linter.unusedSimpArgs false
set_option linter.unusedVariables false
namespace Go.Proofs.YtblhmeidbjigaabGreatDoor
open Go.RowKit

/-- Each of the lists lies in a row of its own, with a mark behind its end. -/
def Lies (w : World) (hv : List (PingD × Value)) : Prop := ∀ x ∈ hv, ∃ p, x.2 = .slice (some ⟨p, 0, none⟩) x.1.pairs.length (x.1.pairs.length + 1) ∧ Row w p 38 (pairCells x.1.pairs ++ [.int .i64 77, .int .i64 0])

def zPing : List Value := [.int .i64 0, .slice none 0 0]
def zPair : List Value := [.int .i64 0, .int .i64 0]

/-- The blocks' row, the first k blocks laid, n in all. -/
def lRow (hv : List (PingD × Value)) (n : Nat) : List Value := pingCells hv ++ pad zPing (n - hv.length)

theorem zPing_zero : (Value.agg #[.int .i64 0, .slice none 0 0]).cells = zPing.toArray := rfl
theorem zPair_zero : (Value.agg #[.int .i64 0, .int .i64 0]).cells = zPair.toArray := rfl

theorem lRow_get {hv : List (PingD × Value)} {n : Nat} (h : hv.length < n) : (lRow hv n)[hv.length * 2]? = some (.int .i64 0) ∧ (lRow hv n)[hv.length * 2 + 1]? = some (.slice none 0 0) := by
  have hl := pingCells_length hv
  unfold lRow
  obtain ⟨m, hm⟩ : ∃ m, n - hv.length = m + 1 := ⟨n - hv.length - 1, by omega⟩
  rw [hm, pad_cons]
  constructor
  · rw [List.getElem?_append_right (by omega), hl, Nat.sub_self]; rfl
  · rw [List.getElem?_append_right (by omega), hl, Nat.add_sub_cancel_left]; rfl

theorem lRow_set {hv : List (PingD × Value)} {n : Nat} (h : hv.length < n) (x : PingD) (sv : Value) :
    ((lRow hv n).set (hv.length * 2) (.int .i64 x.src)).set (hv.length * 2 + 1) sv = lRow (hv ++ [(x, sv)]) n := by
  have hl := pingCells_length hv
  unfold lRow
  obtain ⟨m, hm⟩ : ∃ m, n - hv.length = m + 1 := ⟨n - hv.length - 1, by omega⟩
  have hm2 : n - (hv ++ [(x, sv)]).length = m := by simp; omega
  rw [hm2, hm, pad_cons, pingCells_snoc]
  rw [List.set_append_right _ _ (by omega), hl, Nat.sub_self]
  rw [List.set_append_right _ _ (by omega), hl, Nat.add_sub_cancel_left]
  simp [zPing]

theorem pRow_set (ps : List PairD) : (pairCells ps ++ zPair).set (ps.length * 2) (.int .i64 77) = pairCells ps ++ [.int .i64 77, .int .i64 0] := by
  have hl := pairCells_length ps
  rw [List.set_append_right _ _ (by omega), hl, Nat.sub_self]
  rfl

theorem pRow_copy (ps : List PairD) : pairCells ps ++ (pad zPair (ps.length + 1)).drop (pairCells ps).length = pairCells ps ++ zPair := by
  have hl := pairCells_length ps
  have hp := pad_length zPair ps.length
  congr 1
  rw [pad, hl, List.drop_append]
  have e1 : zPair.length = 2 := rfl
  rw [e1] at hp
  rw [List.drop_of_length_le (by omega), hp, Nat.sub_self]
  rfl

theorem rd_none {w : World} {n sc : Nat} {ps : List PairD} {so : Option Addr} (h : RdPairs w (.slice so n sc) ps) : so = none → pairCells ps = [] := by
  obtain ⟨ao, cap, e, _, hc⟩ := h
  simp only [Value.slice.injEq] at e
  obtain ⟨rfl, rfl, rfl⟩ := e
  intro h0
  cases ps with
  | nil => rfl
  | cons p r =>
    obtain ⟨b, off, e, _⟩ := hc 0 (by simp)
    rw [h0] at e
    cases e

theorem rd_cells {w : World} {n sc : Nat} {ps : List PairD} {so : Option Addr} (h : RdPairs w (.slice so n sc) ps) : ∀ ad, so = some ad → ∀ j u, (pairCells ps)[j]? = some u → w.cell? (ad.add j) = some u := by
  obtain ⟨ao, cap, e, _, hc⟩ := h
  simp only [Value.slice.injEq] at e
  obtain ⟨rfl, rfl, rfl⟩ := e
  intro ad had j u hj
  have hl := pairCells_length ps
  have hjl : j < (pairCells ps).length := (List.getElem?_eq_some_iff.1 hj).1
  obtain ⟨b, off, e, c1, c2⟩ := hc (j / 2) (by omega)
  rw [had] at e
  obtain rfl := Option.some.inj e
  obtain ⟨g1, g2⟩ := pairCells_get ps (j / 2) (by omega)
  rw [Addr.add_lit]
  rcases Nat.mod_two_eq_zero_or_one j with hm | hm
  · have ej : j / 2 * 2 = j := by omega
    rw [ej] at g1 c1
    rw [c1, ← g1, hj]
  · have ej : j / 2 * 2 + 1 = j := by omega
    rw [ej] at g2
    rw [Nat.add_assoc, ej] at c2
    rw [c2, ← g2, hj]

theorem ints_one (ps : List PairD) : ∀ u ∈ pairCells ps, u.oneCell' = true := by
  intro u hu
  simp only [pairCells, List.mem_flatMap] at hu
  obtain ⟨p, _, hp⟩ := hu
  simp at hp
  rcases hp with rfl | rfl <;> rfl

theorem lies_step {w w' : World} {hv : List (PingD × Value)} (h : Lies w hv) (hs : ∀ p xs, Row w p 38 xs → Row w' p 38 xs) : Lies w' hv :=
  fun x hx => let ⟨p, e, hp⟩ := h x hx; ⟨p, e, hs p _ hp⟩

theorem row_apart {w : World} {g g' : Nat} {e e' : TypeId} {xs ys : List Value} (h : Row w g e xs) (h' : Row w g' e' ys) (he : e ≠ e') : g ≠ g' := by
  intro e0
  subst e0
  unfold Row at h h'
  rw [h] at h'
  simp at h'
  exact he h'.2

set_option maxRecDepth 100000 in
set_option maxHeartbeats 4000000 in
theorem roomyHint_cps (v : Value) (h : List PingD) (w : World) (hr : RdHint w v h) (hn : h.length ≤ 4398046511104) (hn2 : ∀ k, k < h.length → (hpairs h k).length ≤ 8796093022208) (Post : Ending → World → Prop)
    (hyes : ∀ w' hv L D, hdat hv = h → Lies w' hv → Row w' L 33 (pingCells hv ++ [.int .i64 77, .slice none 0 0]) → Row w' D 33 (pingCells hv) → Below w.heap.size w w' →
      Post (.returned (.tuple #[.agg #[.slice (some ⟨L, 0, none⟩) hv.length (hv.length + 1)], .slice (some ⟨D, 0, none⟩) hv.length hv.length])) w') :
    Calls Tryz.prog 43 #[.agg #[v]] w Post := by
  obtain ⟨i0, ii, iz0, iz1, iz2⟩ := info_parts Tryz.infoPing
  obtain ⟨j0, ji, jz0, jz1, jz2⟩ := info_parts Tryz.infoPair
  have hr0 := hr
  obtain ⟨ao, cap, rfl, hl, hc⟩ := hr
  go_enter Tryz.func43, Tryz.ntmps43
  go_wp2_with (at_make; refine wpList_make_row _ rfl _ _ 28 rfl 33 i0 _ zPing Tryz.underlying28 ii iz0 iz1 zPing_zero (by decide) _ _ _ _ (h.length + 1) rfl rfl (by simp) (by simp) ?c1 ?c2 ?_)
  case c1 => first | omega | (rw [iz2]; omega)
  case c2 => unfold maxLen; omega
  intro w1 hL hb1 hz1
  go_wp2
  have hz1' := hz1.out
  try simp only [World.size_alloc] at hb1 hL hz1'
  have hLz : Hid (w.heap.size + 1 + 1 = w.heap.size + 2) := rfl
  clear hz1
  obtain ⟨L, hLe⟩ : ∃ L, L = w.heap.size + 1 + 1 := ⟨_, rfl⟩
  rw [← hLe] at hL hb1 hz1' ⊢
  have HL : Hid (L = w.heap.size + 2) := hLe
  have hLlt : w.heap.size + 1 < L := by omega
  have hb1' : Below (w.heap.size + 2) ((w.alloc (.cells #[.slice ao h.length cap] 30)).alloc (.cells #[.slice none 0 0] 30)) w1 := hb1.mono (by omega)
  clear hLe
  go_loopw [6] (fun i wr => ∃ (k : Nat) (hv : List (PingD × Value)), k ≤ h.length ∧ i = .int .i64 k ∧ Hid (hv.length = k) ∧ Hid (hdat hv = h.take k) ∧ Lies wr hv ∧ Row wr L 33 (lRow hv (h.length + 1)) ∧
      Below (w.heap.size + 2) ((w.alloc (.cells #[.slice ao h.length cap] 30)).alloc (.cells #[.slice none 0 0] 30)) wr)
    (fun i _ => h.length - (intOf i).toNat)
  case atStart => exact ⟨0, [], Nat.zero_le _, rfl, rfl, rfl, fun x hx => by simp at hx, by simpa [lRow, pingCells] using hL, hb1'⟩
  case round =>
    clear hL hb1 hz1' hb1' w1
    obtain ⟨k, hv, hk, rfl, hvl, hdt, hlies, hL, hbel⟩ := hrel
    have hb0 : Below w.heap.size w wr := (((Below.refl w.heap.size w).alloc (Nat.le_refl _) _).alloc (by simp) _).trans (hbel.mono (by omega))
    have x0 : wr.cell? ⟨w.heap.size, 0, none⟩ = some (.slice ao h.length cap) := (hbel.cell (by simp)).trans (by simp)
    have x1 : wr.cell? ⟨w.heap.size + 1, 0, none⟩ = some (.slice none 0 0) := (hbel.cell (by simp)).trans (by simp)
    have xf : wr.frozen? ⟨w.heap.size + 1, 0, none⟩ = false := (hbel.frozen (by simp)).trans (by simp)
    have hz := hbel.size
    simp at hz
    have hLw := hL.lt
    by_cases hlt : k < h.length
    case neg =>
      obtain rfl : k = h.length := by omega
      have hkv : hv.length < h.length + 1 := by have := hvl.out; omega
      have l0 := hL.cell (lRow_get hkv).1
      rw [hvl.out] at l0
      have lf0 := hL.frozen (h.length * 2)
      have hL2 := hL.set (hv.length * 2) (.int .i64 77)
      have e7 : (lRow hv (h.length + 1)).set (hv.length * 2) (.int .i64 77) = pingCells hv ++ [.int .i64 77, .slice none 0 0] := by
        have hl := pingCells_length hv
        have hp : h.length + 1 - hv.length = 1 := by have := hvl.out; omega
        unfold lRow
        rw [hp, List.set_append_right _ _ (by omega), hl, Nat.sub_self]
        rfl
      rw [e7, hvl.out] at hL2
      have hlies2 : Lies (wr.setCell ⟨L, h.length * 2, none⟩ (.int .i64 77)) hv := lies_step hlies fun p xs hp => hp.unset (a := ⟨L, _, none⟩) (row_apart hp hL (by decide)) _
      have hb2 := hbel.setCell (p := ⟨L, h.length * 2, none⟩) (by show _ ≤ L; omega) (.int .i64 77)
      have y1 : (wr.setCell ⟨L, h.length * 2, none⟩ (.int .i64 77)).cell? ⟨w.heap.size + 1, 0, none⟩ = some (.slice none 0 0) := cell_unset (by simp) x1
      have yf : (wr.setCell ⟨L, h.length * 2, none⟩ (.int .i64 77)).frozen? ⟨w.heap.size + 1, 0, none⟩ = false := by simpa using xf
      have hzs : (wr.setCell ⟨L, h.length * 2, none⟩ (.int .i64 77)).heap.size = wr.heap.size := by simp
      have hone : ∀ u ∈ pingCells hv, u.oneCell' = true := by
        intro u hu
        simp only [pingCells, List.mem_flatMap] at hu
        obtain ⟨x, hx, hp⟩ := hu
        obtain ⟨p, e, _⟩ := hlies x hx
        simp at hp
        rcases hp with rfl | rfl
        · rfl
        · rw [e]; rfl
      have hdt' : Hid (hdat hv = h) := by have := hdt.out; rw [List.take_length] at this; exact this
      go_wp2_with (at_make; refine wpList_make_row _ rfl _ _ 28 rfl 33 i0 _ zPing Tryz.underlying28 ii iz0 iz1 zPing_zero (by decide) _ _ _ _ h.length rfl rfl (by simp) (by simp) ?k1 ?k2 ?_)
      case k1 => first | omega | (rw [iz2]; omega)
      case k2 => unfold maxLen; omega
      intro w2 hD hb3 hz3
      try rw [hzs] at hD
      try rw [hzs] at hb3
      generalize hwe : wr.setCell ⟨L, h.length * 2, none⟩ (.int .i64 77) = we at *
      have hws : wr.heap.size = we.heap.size := hzs.symm
      obtain ⟨D, hDe⟩ : ∃ D, D = wr.heap.size := ⟨_, rfl⟩
      have hLD : L < D := by omega
      have hwD : w.heap.size + 1 < D := by omega
      have hDn : D ≠ w.heap.size + 1 := by omega
      have hL3 := hL2.below hb3 (by omega)
      have hlies3 : Lies w2 hv := lies_step hlies2 fun p xs hp => hp.below hb3 (by have := hp.lt; omega)
      have z1 := (hb3.cell (p := ⟨w.heap.size + 1, 0, none⟩) (by show w.heap.size + 1 < _; omega)).trans y1
      have zf := (hb3.frozen (p := ⟨w.heap.size + 1, 0, none⟩) (by show w.heap.size + 1 < _; omega)).trans yf
      have hb4 := hb2.trans (hb3.mono (by omega))
      rw [← hDe] at hD ⊢
      clear hwe hzs hws hb3 hz3 hDe x0 x1 xf l0 lf0 hb0 hlies hlies2 hL hL2 hb2 y1 yf hbel hz hLw
      have hsrc : ∀ ad, some (⟨L, 0, none⟩ : Addr) = some ad → ∀ j u, (pingCells hv)[j]? = some u → w2.cell? (ad.add j) = some u := by
        intro ad had j u hj
        obtain rfl := Option.some.inj had
        rw [Addr.add_lit, Nat.zero_add]
        exact hL3.cell (by rw [List.getElem?_append_left (List.getElem?_eq_some_iff.1 hj).1]; exact hj)
      go_wp2_with (refine wpList_copy_row _ rfl (.tmp 66) (.tmp 67) 28 rfl 33 i0 Tryz.underlying28 ii 2 iz1 D _ _ (some ⟨L, 0, none⟩) _ _ rfl rfl _ hD (pingCells hv) ?m1 (by intro h; cases h) hsrc ?m2 hone ?_)
      case m1 => rw [pingCells_length, hvl.out, show (h.length + 1).min h.length = h.length from Nat.min_eq_right (by omega)]
      case m2 => rw [pingCells_length, pad_length, hvl.out]; simp [zPing]
      intro w3 hD3 hu3
      have e8 : pingCells hv ++ (pad zPing h.length).drop (pingCells hv).length = pingCells hv := by
        rw [List.drop_of_length_le (by rw [pad_length, pingCells_length, hvl.out]; simp [zPing]), List.append_nil]
      rw [e8] at hD3
      have hL4 := hL3.same (hu3.block L (by omega))
      have hlies4 : Lies w3 hv := lies_step hlies3 fun p xs hp => hp.same (hu3.block p (row_apart hp hD (by decide)))
      have t1 := (hu3.cell (b := w.heap.size + 1) (o := 0) (by omega)).trans z1
      have tf : w3.frozen? ⟨w.heap.size + 1, 0, none⟩ = false := (World.frozen?_of_block (w := w2) (hu3.block (w.heap.size + 1) (by omega))).trans zf
      have hb5 := hu3.below hb4 (by omega)
      have hb6 : Below w.heap.size w w3 := (((Below.refl w.heap.size w).alloc (Nat.le_refl _) _).alloc (by simp) _).trans (hb5.mono (by omega))
      have hR : Row w3 (w.heap.size + 1) 30 [.slice none 0 0] := (hb5.block (w.heap.size + 1) (by omega)).trans (heap_alloc2_new w _ _)
      have hfin := hyes (w3.setCell ⟨w.heap.size + 1, 0, none⟩ (.slice (some ⟨L, 0, none⟩) h.length (h.length + 1))) hv L D hdt'.out (lies_step hlies4 fun p xs hp => hp.unset (a := ⟨w.heap.size + 1, 0, none⟩) (row_apart hp hR (by decide)) _) (hL4.unset (a := ⟨w.heap.size + 1, 0, none⟩) (by show L ≠ w.heap.size + 1; omega) _) (hD3.unset (a := ⟨w.heap.size + 1, 0, none⟩) hDn _) (hb6.setCell (by simp) _)
      rw [hvl.out] at hfin
      clear hyes hlies4 hL4 hD3 hb6 hb5 hR hu3 hD hL3 hlies3 hsrc hone hb4
      go_wp2
      refine bodyPost_ret (v := .tuple #[.agg #[.slice (some ⟨L, 0, none⟩) h.length (h.length + 1)], .slice (some ⟨D, 0, none⟩) h.length h.length]) (by simp [results, Tryz.results43, go_sem, t1]) rfl ?_
      exact hfin
    obtain ⟨b, off, sv, rfl, c1, c2, c3⟩ := hc k hlt
    have d1 := cell_keep hb0 c1
    have d2 := cell_keep hb0 c2
    have d3 := c3.keep hb0
    have hbw : b < w.heap.size := World.block_lt_of_cell? _ _ c1
    have hm := hn2 k hlt
    obtain ⟨so, sc, e3, _, _⟩ := id d3
    subst e3
    go_wp2_with (first | (at_make; refine wpList_make_row _ rfl _ _ 31 rfl 38 j0 _ zPair Tryz.underlying31 ji jz0 jz1 zPair_zero (by decide) _ _ _ _ ((hpairs h k).length + 1) rfl rfl (by simp) (by simp) ?e1 ?e2 ?_))
    case e1 => first | omega | (rw [jz2]; omega)
    case e2 => unfold maxLen; omega
    intro w2 hP hb2 hz2
    obtain ⟨P, hPe⟩ : ∃ P, P = wr.heap.size := ⟨_, rfl⟩
    have hz2' := hz2.out
    have hb2w := hb2
    rw [← hPe] at hP hb2 hz2' ⊢
    clear hz2
    have hLP : L < P := by omega
    have hwP : w.heap.size + 1 < P := by omega
    have hbP : b < P := by omega
    have hLb : b < L := by omega
    have HP : Hid (P = wr.heap.size) := hPe
    clear hPe
    have f0 := (hb2.cell (p := ⟨w.heap.size, 0, none⟩) (by show w.heap.size < P; omega)).trans x0
    have f1 := (hb2.cell (p := ⟨b, off + k * 2, none⟩) (by show b < P; omega)).trans d1
    have f2 := (hb2.cell (p := ⟨b, off + k * 2 + 1, none⟩) (by show b < P; omega)).trans d2
    have f3 := d3.keep hb2w
    go_wp2_with (refine wpList_copy_row _ rfl (.tmp 31) (.tmp 37) 31 rfl 38 j0 Tryz.underlying31 ji 2 jz1 P _ _ so _ _ rfl rfl _ hP (pairCells (hpairs h k)) ?g1 (rd_none f3) (rd_cells f3) ?g2 (ints_one _) ?_)
    case g1 => rw [pairCells_length, show (hpairs h k).length.min ((hpairs h k).length + 1) = (hpairs h k).length from Nat.min_eq_left (by omega)]
    case g2 => rw [pairCells_length, pad_length]; simp [zPair]; omega
    intro w3 hP3 hu3
    rw [pRow_copy] at hP3
    have hL3 : Row w3 L 33 (lRow hv (h.length + 1)) := (hL.below hb2 hLP).same (hu3.block L (by omega))
    have p0 := hP3.cell (i := (hpairs h k).length * 2) (u := .int .i64 0) (by rw [List.getElem?_append_right (by rw [pairCells_length]; omega), pairCells_length, Nat.sub_self]; rfl)
    have pf := hP3.frozen ((hpairs h k).length * 2)
    have hkv : hv.length < h.length + 1 := by have := hvl.out; omega
    have l0 := hL3.cell (lRow_get hkv).1
    have l1 := hL3.cell (lRow_get hkv).2
    rw [hvl.out] at l0 l1
    have lf0 := hL3.frozen (k * 2)
    have lf1 := hL3.frozen (k * 2 + 1)
    have g0 := (hu3.cell (b := w.heap.size) (o := 0) (by omega)).trans f0
    have g1' := (hu3.cell (b := b) (o := off + k * 2) (by omega)).trans f1
    have g2' := (hu3.cell (b := b) (o := off + k * 2 + 1) (by omega)).trans f2
    have hb3 : Below (w.heap.size + 2) ((w.alloc (.cells #[.slice (some ⟨b, off, none⟩) h.length cap] 30)).alloc (.cells #[.slice none 0 0] 30)) w3 := hu3.below (hbel.trans (hb2.mono (by omega))) (by omega)
    have hPL : P ≠ L := by omega
    have hnP : L ≠ P := by omega
    clear hb2w f0 f1 f2 f3 x0 d1 d2
    have q1 := hP3.set ((hpairs h k).length * 2) (.int .i64 77)
    rw [pRow_set] at q1
    have q2 := (q1.unset (a := ⟨L, k * 2, none⟩) hPL (.int .i64 (hsrc h k))).unset (a := ⟨L, k * 2 + 1, none⟩) hPL (.slice (some ⟨P, 0, none⟩) (hpairs h k).length ((hpairs h k).length + 1))
    have q3 := ((hL3.unset (a := ⟨P, (hpairs h k).length * 2, none⟩) hnP (.int .i64 77)).set (hv.length * 2) (.int .i64 (hsrc h k))).set (hv.length * 2 + 1) (.slice (some ⟨P, 0, none⟩) (hpairs h k).length ((hpairs h k).length + 1))
    rw [lRow_set hkv ⟨hsrc h k, hpairs h k⟩, hvl.out] at q3
    have q4 : Lies (((w3.setCell ⟨P, (hpairs h k).length * 2, none⟩ (.int .i64 77)).setCell ⟨L, k * 2, none⟩ (.int .i64 (hsrc h k))).setCell ⟨L, k * 2 + 1, none⟩ (.slice (some ⟨P, 0, none⟩) (hpairs h k).length ((hpairs h k).length + 1))) (hv ++ [(⟨hsrc h k, hpairs h k⟩, .slice (some ⟨P, 0, none⟩) (hpairs h k).length ((hpairs h k).length + 1))]) := by
      intro x hx
      rcases List.mem_append.1 hx with hx | hx
      · refine lies_step hlies ?_ x hx
        intro p xs hp
        have hpP : p < P := by have := hp.lt; rw [HP.out]; exact this
        have hpL : p ≠ L := row_apart hp hL (by decide)
        exact ((((hp.same (hb2.block p hpP)).same (hu3.block p (by omega))).unset (a := ⟨P, _, none⟩) (by show p ≠ P; omega) _).unset (a := ⟨L, _, none⟩) hpL _).unset (a := ⟨L, _, none⟩) hpL _
      · simp at hx
        subst hx
        exact ⟨P, rfl, q2⟩
    have q5 := ((hb3.setCell (p := ⟨P, (hpairs h k).length * 2, none⟩) (by show _ ≤ P; omega) (.int .i64 77)).setCell (p := ⟨L, k * 2, none⟩) (by show _ ≤ L; omega) (.int .i64 (hsrc h k))).setCell (p := ⟨L, k * 2 + 1, none⟩) (by show _ ≤ L; omega) (.slice (some ⟨P, 0, none⟩) (hpairs h k).length ((hpairs h k).length + 1))
    clear q1 q2 hb3 hlies hL hb2
    go_wp2
    go_roundw
    case rel =>
      refine ⟨k + 1, _, by omega, by go_num, ?_, ?_, q4, q3, q5⟩
      · show List.length _ = _
        have := hvl.out
        simp; exact this
      · show hdat _ = _
        have e := hdt.out
        rw [take_getD h Go.Proofs.YtblhmeidbjigaabGreatDoor.hz k hlt, ← e]
        simp [hdat, hsrc, hpairs]
    case measure => simp [intOf]; omega

end Go.Proofs.YtblhmeidbjigaabGreatDoor

/- Does a hint with spare room read as it did? -/
set_option linter.unusedSimpArgs false
set_option linter.unusedVariables false
namespace Go.Proofs.YtblhmeidbjigaabGreatDoor
open Go.RowKit

theorem rows_rd {w : World} {hv : List (PingD × Value)} {L cap : Nat} {t : List Value} (hl : Lies w hv) (hL : Row w L 33 (pingCells hv ++ t)) (hn : hv.length ≤ 9223372036854775807) (hn2 : ∀ x ∈ hv, x.1.pairs.length ≤ 9223372036854775807) :
    RdHint w (.slice (some ⟨L, 0, none⟩) hv.length cap) (hdat hv) := by
  refine ⟨_, _, by rw [hdat_length], by rw [hdat_length]; exact hn, fun i hi => ?_⟩
  rw [hdat_length] at hi
  have hpl := pingCells_length hv
  obtain ⟨g1, g2⟩ := pingCells_get hv i hi
  obtain ⟨e1, e2⟩ := hdat_get hv hi
  obtain ⟨p, ep, hp⟩ := hl _ (List.getElem_mem hi)
  refine ⟨L, 0, hv[i].2, rfl, ?_, ?_, ?_⟩
  · rw [Nat.zero_add, e1]; exact hL.cell (by rw [List.getElem?_append_left (by omega)]; exact g1)
  · rw [Nat.zero_add]; exact hL.cell (by rw [List.getElem?_append_left (by omega)]; exact g2)
  · rw [e2, ep]
    refine ⟨_, _, rfl, hn2 _ (List.getElem_mem hi), fun j hj => ?_⟩
    have hql := pairCells_length hv[i].1.pairs
    obtain ⟨k1, k2⟩ := pairCells_get hv[i].1.pairs j hj
    refine ⟨p, 0, rfl, ?_, ?_⟩
    · rw [Nat.zero_add]; exact hp.cell (by rw [List.getElem?_append_left (by omega)]; exact k1)
    · rw [Nat.zero_add]; exact hp.cell (by rw [List.getElem?_append_left (by omega)]; exact k2)

theorem Lies.keep {w w' : World} {hv : List (PingD × Value)} (h : Lies w hv) (hb : Below w.heap.size w w') : Lies w' hv := lies_step h fun _ _ hp => hp.keep hb

set_option maxRecDepth 100000 in
set_option maxHeartbeats 2000000 in
theorem wholeHint_any (hv : List (PingD × Value)) (L D : Nat) (u : Value) (w : World) (hl : Lies w hv) (hL : Row w L 33 (pingCells hv ++ [.int .i64 77, .slice none 0 0])) (hD : Row w D 33 (pingCells hv)) (hu : RdHint w u (hdat hv))
    (hn : hv.length ≤ 4398046511104) (hn2 : ∀ x ∈ hv, x.1.pairs.length ≤ 8796093022208) :
    Calls Tryz.prog 75 #[.agg #[.slice (some ⟨L, 0, none⟩) hv.length (hv.length + 1)], .slice (some ⟨D, 0, none⟩) hv.length hv.length, .agg #[u]] w fun e w' => e = .returned (.bool true) ∧ Below w.heap.size w w' := by
  have n1 : hv.length ≤ 9223372036854775807 := by omega
  have n2 : ∀ x ∈ hv, x.1.pairs.length ≤ 9223372036854775807 := fun x hx => by have := hn2 x hx; omega
  have r1 := rows_rd (cap := hv.length + 1) hl hL n1 n2
  have r2 := rows_rd (t := []) (cap := hv.length) hl (by simpa using hD) n1 n2
  obtain ⟨uo, uc, ue, _, _⟩ := id hu
  subst ue
  rw [hdat_length] at hu ⊢
  have hnq := fun (w : World) => run_neq_slice_nil_any (P := Tryz.prog) w 31 38 none 0 0 0 0 Tryz.underlying31
  have HL := hL.lt
  have HD := hD.lt
  go_enter Tryz.func75, Tryz.ntmps75
  go_wp2_with fail
  refine (sameHint_any _ _ _ _ (r1.keep (((Below.refl _ _).alloc (Nat.le_refl _) _).alloc (by simp) _)) (hu.keep (((Below.refl _ _).alloc (Nat.le_refl _) _).alloc (by simp) _))).mono ?_
  rintro e w1 ⟨rfl, hb1⟩
  have hb1' : Below (w.heap.size + 2) ((w.alloc (.cells #[.slice (some ⟨L, 0, none⟩) hv.length (hv.length + 1)] 30)).alloc (.cells #[.slice uo hv.length uc] 30)) w1 := by simpa using hb1
  clear hb1
  have hb01 : Below w.heap.size w w1 := (((Below.refl w.heap.size w).alloc (Nat.le_refl _) _).alloc (by simp) _).trans (hb1'.mono (by omega))
  have x0 : w1.cell? ⟨w.heap.size, 0, none⟩ = some (.slice (some ⟨L, 0, none⟩) hv.length (hv.length + 1)) := (hb1'.cell (by simp)).trans (by simp)
  have x1 : w1.cell? ⟨w.heap.size + 1, 0, none⟩ = some (.slice uo hv.length uc) := (hb1'.cell (by simp)).trans (by simp)
  go_wp2_with fail
  refine (sameHint_any _ _ _ _ (r2.keep hb01) (hu.keep hb01)).mono ?_
  rintro e w2 ⟨rfl, hb2⟩
  have hz1 := hb1'.size
  simp at hz1
  have hb02 := hb01.trans (hb2.mono (by omega))
  have y0 := cell_keep hb2 x0
  have hL2 := hL.keep hb02
  have hD2 := hD.keep hb02
  have hl2 := hl.keep hb02
  have hpl := pingCells_length hv
  have l0 := hL2.cell (i := hv.length * 2) (u := .int .i64 77) (by rw [List.getElem?_append_right (by omega), hpl, Nat.sub_self]; rfl)
  have l1 := hL2.cell (i := hv.length * 2 + 1) (u := .slice none 0 0) (by rw [List.getElem?_append_right (by omega), hpl, Nat.add_sub_cancel_left]; rfl)
  clear x0 x1 r1 r2 hb1' hb01 hb2 hL hD hl
  go_wp2
  go_loop [11] (fun i => ∃ (k : Nat), k ≤ hv.length ∧ i = .int .i64 k) (fun i => hv.length - (intOf i).toNat)
  case atStart => exact ⟨0, Nat.zero_le _, rfl⟩
  case round =>
    obtain ⟨k, hk, rfl⟩ := hrel
    by_cases hlt : k < hv.length
    · obtain ⟨g1, g2⟩ := pingCells_get hv k hlt
      obtain ⟨p, ep, hp⟩ := hl2 _ (List.getElem_mem hlt)
      have hm := hn2 _ (List.getElem_mem hlt)
      have d2 := hD2.cell g2
      rw [ep] at d2
      have hql := pairCells_length hv[k].1.pairs
      have p0 := hp.cell (i := hv[k].1.pairs.length * 2) (u := .int .i64 77) (by rw [List.getElem?_append_right (by omega), hql, Nat.sub_self]; rfl)
      clear ep g1 g2 hql hp
      generalize hv[k].1.pairs.length = m at *
      go_wp2
      go_round
      case rel => exact ⟨k + 1, by omega, by go_num⟩
      case measure => simp [intOf]; omega
    · go_wp2
      go_ret
      exact ⟨rfl, hb02⟩

/-! ### The calls themselves -/

set_option maxRecDepth 100000 in
set_option maxHeartbeats 1000000 in
theorem tEncodeHint_any (v : Value) (h : List PingD) (w : World) (hr : RdHint w v h) :
    Calls Tryz.prog 56 #[.agg #[v]] w fun e w' => e = .returned (.tuple (if goodHint h then #[.string (str (hintText h)), .int .i64 0] else #[.string ⟨#[]⟩, .int .i64 2])) ∧ Below w.heap.size w w' := by
  obtain ⟨ao, cap, e0, _, _⟩ := id hr
  subst e0
  have hc := cEncodeHint_any _ h (w.alloc (.cells #[.slice ao h.length cap] 30)) (hr.keep ((Below.refl _ _).alloc (Nat.le_refl _) _))
  cases hg : goodHint h
  · simp only [hg] at hc
    go_enter Tryz.func56, Tryz.ntmps56
    go_wp2_with fail
    refine hc.mono ?_
    rintro e w1 ⟨rfl, hb1⟩
    clear hc
    go_wp2
    go_ret2
    exact ⟨by simp [hg], ((Below.refl _ _).alloc (Nat.le_refl _) _).trans (hb1.mono (by simp))⟩
  · simp only [hg] at hc
    go_enter Tryz.func56, Tryz.ntmps56
    go_wp2_with fail
    refine hc.mono ?_
    rintro e w1 ⟨rfl, hb1⟩
    clear hc
    go_wp2
    go_ret2
    exact ⟨by simp [hg], ((Below.refl _ _).alloc (Nat.le_refl _) _).trans (hb1.mono (by simp))⟩

set_option maxRecDepth 100000 in
set_option maxHeartbeats 1000000 in
theorem tDecodeHint_any (s : ByteArray) (w : World) (hs : s.size ≤ maxLen) :
    Calls Tryz.prog 57 #[.string s] w fun e w' => ((∃ v hv, e = .returned (.tuple #[.agg #[v], .int .i64 0]) ∧ OwnHint w' w.heap.size v hv ∧ goodHint (hdat hv) = true ∧ str (hintText (hdat hv)) = s) ∨
      ((∀ h, goodHint h = true → str (hintText h) ≠ s) ∧ e = .returned (.tuple #[.agg #[.slice none 0 0], .int .i64 2]))) ∧ Below w.heap.size w w' := by
  obtain ⟨Post, hPost⟩ : ∃ Post : Ending → World → Prop, Post = fun e w' => ((∃ v hv, e = .returned (.tuple #[.agg #[v], .int .i64 0]) ∧ OwnHint w' w.heap.size v hv ∧ goodHint (hdat hv) = true ∧ str (hintText (hdat hv)) = s) ∨
      ((∀ h, goodHint h = true → str (hintText h) ≠ s) ∧ e = .returned (.tuple #[.agg #[.slice none 0 0], .int .i64 2]))) ∧ Below w.heap.size w w' := ⟨_, rfl⟩
  rw [← hPost]
  have HP : Hid (Post = fun e w' => ((∃ v hv, e = .returned (.tuple #[.agg #[v], .int .i64 0]) ∧ OwnHint w' w.heap.size v hv ∧ goodHint (hdat hv) = true ∧ str (hintText (hdat hv)) = s) ∨
      ((∀ h, goodHint h = true → str (hintText h) ≠ s) ∧ e = .returned (.tuple #[.agg #[.slice none 0 0], .int .i64 2]))) ∧ Below w.heap.size w w') := hPost
  clear hPost
  have hc := cDecodeHint_any s (w.alloc (.cells #[.slice none 0 0] 30)) hs
  go_enter Tryz.func57, Tryz.ntmps57
  go_wp2_with fail
  refine hc.mono ?_
  clear hc
  rintro e w1 ⟨hor, hb1⟩
  have hz1 := hb1.size
  simp at hz1
  have x0 : w1.cell? ⟨w.heap.size, 0, none⟩ = some (.slice none 0 0) := (hb1.cell (by simp)).trans (by simp)
  have xf : w1.frozen? ⟨w.heap.size, 0, none⟩ = false := (hb1.frozen (by simp)).trans (by simp)
  have hb2 : Below w.heap.size w w1 := ((Below.refl _ _).alloc (Nat.le_refl _) _).trans (hb1.mono (by simp))
  rcases hor with ⟨v, hv, rfl, ho, hg, ht⟩ | ⟨hno, rfl⟩
  · obtain ⟨ao, cap, rfl⟩ := owns_slice ho.row
    have ho' : OwnHint w1 (w.heap.size + 1) (.slice ao hv.length cap) hv := by simpa using ho
    have hfin : Post (.returned (.tuple #[.agg #[.slice ao hv.length cap], .int .i64 0])) (w1.setCell ⟨w.heap.size, 0, none⟩ (.slice ao hv.length cap)) := by
      rw [HP.out]
      exact ⟨.inl ⟨_, hv, rfl, (ho'.set (by simp) _).base (by omega), hg, ht⟩, hb2.setCell (by simp) _⟩
    clear HP ho ho' hg ht
    go_wp2
    exact bodyPost_ret (v := .tuple #[.agg #[.slice ao hv.length cap], .int .i64 0]) (by simp [results, Tryz.results57, go_sem, x0]) rfl hfin
  · have hfin : Post (.returned (.tuple #[.agg #[.slice none 0 0], .int .i64 2])) (w1.setCell ⟨w.heap.size, 0, none⟩ (.slice none 0 0)) := by
      rw [HP.out]
      exact ⟨.inr ⟨hno, rfl⟩, hb2.setCell (by simp) _⟩
    clear HP hno
    go_wp2
    exact bodyPost_ret (v := .tuple #[.agg #[.slice none 0 0], .int .i64 2]) (by simp [results, Tryz.results57, go_sem, x0]) rfl hfin

end Go.Proofs.YtblhmeidbjigaabGreatDoor

/- Writing behind the end of a hint's lists. -/
set_option linter.unusedSimpArgs false
set_option linter.unusedVariables false
namespace Go.Proofs.YtblhmeidbjigaabGreatDoor
open Go.RowKit

set_option maxRecDepth 100000 in
set_option maxHeartbeats 2000000 in
theorem behindHint_any (v : Value) (hv : List (PingD × Value)) (w : World) (base : Nat) (hown : OwnHint w base v hv) (hbs : base ≤ w.heap.size) (hl : hv.length ≤ 1000) (hl2 : ∀ x ∈ hv, x.1.pairs.length ≤ 1000)
    (S : Nat → Prop) (hSv : ∀ g, v.ownBlock = some g → S g) (hSx : ∀ x ∈ hv, ∀ g, x.2.ownBlock = some g → S g) :
    Calls Tryz.prog 79 #[.agg #[v]] w fun e w' => e = .returned (.tuple #[]) ∧ OwnHint w' base v hv ∧ Keep S w w' := by
  obtain ⟨i0, ii, iz0, iz1, iz2⟩ := info_parts Tryz.infoPing
  obtain ⟨j0, ji, jz0, jz1, jz2⟩ := info_parts Tryz.infoPair
  obtain ⟨ao, cap, rfl⟩ := owns_slice hown.row
  have hrd := hown.rd
  go_enter Tryz.func79, Tryz.ntmps79
  go_wp2
  go_loopw [2] (fun i wr => ∃ (k : Nat), k ≤ hv.length ∧ i = .int .i64 k ∧ OwnHint wr base (.slice ao hv.length cap) hv ∧ wr.cell? ⟨w.heap.size, 0, none⟩ = some (.slice ao hv.length cap) ∧ Keep S w wr ∧ w.heap.size + 1 ≤ wr.heap.size)
    (fun i _ => hv.length - (intOf i).toNat)
  case atStart => exact ⟨0, Nat.zero_le _, rfl, hown.alloc _, by simp, (Keep.refl _ _).alloc _, by simp⟩
  case round =>
    obtain ⟨k, hk, rfl, ho, hx0, hbel, hz⟩ := hrel
    by_cases hlt : k < hv.length
    case neg =>
      obtain ⟨wo, hwo⟩ : ∃ wo, wo = wr := ⟨_, rfl⟩
      subst hwo
      go_wp2
      go_loopw [5, 6] (fun l i w2 => ∃ (j : Nat), j ≤ 9 ∧ i = .int .i64 j ∧ OwnHint w2 base (.slice ao hv.length cap) hv ∧ w2.ownsRow base 33 2 l (hv.length + j) (pingCells hv ++ pad [.int .i64 0, .slice none 0 0] j) ∧ Hid (∀ g, l.ownBlock = some g → S g ∨ w.heap.size ≤ g) ∧ Keep S w w2 ∧ w.heap.size + 1 ≤ w2.heap.size)
        (fun _ i _ => 9 - (intOf i).toNat)
      case atStart => exact ⟨0, Nat.zero_le _, rfl, ho, by simpa [pad] using ho.row, fun g hg => .inl (hSv g hg), hbel, hz⟩
      case round =>
        obtain ⟨j, hj, rfl, ho2, hrow, hlb, hbin, hz2⟩ := hrel
        obtain ⟨lo, lc, rfl⟩ := owns_slice hrow
        by_cases hjl : j < 9
        · have HP : Hid (pad [.int .i64 0, .slice none 0 0] (j + 1) = pad [.int .i64 0, .slice none 0 0] j ++ [.int .i64 0, .slice none 0 0]) := rfl
          go_wp2_with (at_builtin; refine wpList_append_stay _ rfl _ _ 28 rfl base 33 i0 (.agg #[.int .i64 0, .slice none 0 0]) 2 32 Tryz.underlying28 ii iz0 iz1 iz2 rfl (by decide) _ _ _ rfl (hrow.alloc _) ⟨wr.heap.size, 0, none⟩ 1 1 [.int .i64 0, .slice none 0 0] rfl rfl (two_new wr _ _ _) ?d2 ?d3 ?d4 ?d5 (by decide) ?_)
          case d2 => first | exact ⟨rfl, rfl⟩ | (intro u hu; simp at hu; rcases hu with rfl | rfl <;> rfl)
          case d3 => unfold maxLen; omega
          case d4 => omega
          case d5 => first | omega | (simp; omega)
          intro v' w2 hrow' hgrow hstay hfr
          try rw [List.append_assoc] at hrow'
          rw [← HP.out] at hrow'
          have ho3 := (ho2.alloc _).appOut (hrow.alloc _) (fun g _ _ => ⟨_, rfl⟩) hgrow hstay
          have hb3 := (hbin.alloc _).grown hgrow hlb.out
          have hlb' : Hid (∀ g, v'.ownBlock = some g → S g ∨ w.heap.size ≤ g) := fun g hg => by
            rcases hfr g hg with e | e
            · exact hlb.out g e
            · exact .inr (by omega)
          have hz3 := hgrow.size
          simp at hz3
          obtain ⟨lo', lc', rfl⟩ := owns_slice hrow'
          clear hgrow hstay hfr hrow ho2 hbin
          go_wp2
          go_roundw
          case rel => exact ⟨j + 1, by omega, by go_num, ho3, hrow', hlb', hb3, by omega⟩
          case measure => simp [intOf]; omega
        · go_wp2
          go_end0
          exact ⟨rfl, ho2, hbin⟩
    obtain ⟨wo, hwo⟩ : ∃ wo, wo = wr := ⟨_, rfl⟩
    subst hwo
    obtain ⟨b, rfl, hbb, c1, c2, cf⟩ := ownHint_at ho hlt
    have hsl := hl2 _ (List.getElem_mem hlt)
    have hrow0 := ho.each _ (List.getElem_mem hlt)
    have hpre0 := PreP.start ho hlt
    have hne0 : Hid (∀ g, hv[k].2.ownBlock = some g → S g ∧ g < w.heap.size ∨ w.heap.size + 1 ≤ g) := fun g hg => .inl ⟨hSx _ (List.getElem_mem hlt) g hg, ((hown.each _ (List.getElem_mem hlt)).lt g hg).2⟩
    generalize hv[k].1.pairs = ps at *
    generalize hv[k].2 = sv at *
    go_wp2
    go_loopw [3, 4] (fun l i w2 => ∃ (j : Nat), j ≤ 9 ∧ i = .int .i64 j ∧ OwnHint w2 base (.slice (some ⟨b, 0, none⟩) hv.length cap) hv ∧ w2.ownsRow base 38 2 l (ps.length + j) (pairCells ps ++ pad [.int .i64 77, .int .i64 0] j) ∧ PreP hv l (pairCells ps ++ pad [.int .i64 77, .int .i64 0] j) ∧
        Hid (∀ g, l.ownBlock = some g → S g ∧ g < w.heap.size ∨ w.heap.size + 1 ≤ g) ∧ w2.cell? ⟨w.heap.size, 0, none⟩ = some (.slice (some ⟨b, 0, none⟩) hv.length cap) ∧ Keep S w w2 ∧ w.heap.size + 1 ≤ w2.heap.size)
      (fun _ i _ => 9 - (intOf i).toNat)
    case atStart => exact ⟨0, Nat.zero_le _, rfl, ho, by simpa [pad] using hrow0, by simpa [pad] using hpre0, hne0, hx0, hbel, hz⟩
    case round =>
      obtain ⟨j, hj, rfl, ho2, hrow, hpre, hne, hy0, hbin, hz2⟩ := hrel
      obtain ⟨lo, lc, rfl⟩ := owns_slice hrow
      by_cases hjl : j < 9
      · have HP : Hid (pad [.int .i64 77, .int .i64 0] (j + 1) = pad [.int .i64 77, .int .i64 0] j ++ [.int .i64 77, .int .i64 0]) := rfl
        go_wp2_with (at_builtin; refine wpList_append_stay _ rfl _ _ 31 rfl base 38 j0 (.agg #[.int .i64 0, .int .i64 0]) 2 16 Tryz.underlying31 ji jz0 jz1 jz2 rfl (by decide) _ _ _ rfl (hrow.alloc _) ⟨wr.heap.size, 0, none⟩ 1 1 [.int .i64 77, .int .i64 0] rfl rfl (two_new wr _ _ _) ?e2 ?e3 ?e4 ?e5 (by decide) ?_)
        case e2 => first | exact ⟨rfl, rfl⟩ | (intro u hu; simp at hu; rcases hu with rfl | rfl <;> rfl)
        case e3 => unfold maxLen; omega
        case e4 => omega
        case e5 => first | omega | (simp; omega)
        intro v' w2 hrow' hgrow hstay hfr
        have hpre' := PreP.step (news := [.int .i64 77, .int .i64 0]) ho2 hpre (fun g hg => by rcases hfr g hg with e | e; exact .inl e; exact .inr (by omega))
        try rw [List.append_assoc] at hrow'
        rw [← HP.out] at hrow'
        rw [List.append_assoc, ← HP.out] at hpre'
        have ho3 := (ho2.alloc _).app (hrow.alloc _) hpre hgrow hstay
        have hb3 := (hbin.alloc _).grown hgrow (fun g hg => by
          rcases hne.out g hg with e | e
          · exact .inl e.1
          · exact .inr (by omega))
        have hy3 : w2.cell? ⟨w.heap.size, 0, none⟩ = some (.slice (some ⟨b, 0, none⟩) hv.length cap) := hgrow.cell (by rw [World.cell?_alloc_lt _ _ _ (by show w.heap.size < _; omega)]; exact hy0) (fun e => by rcases hne.out _ e.symm with e1 | e1; exact absurd e1.2 (Nat.lt_irrefl _); exact absurd e1 (by simp))
        have hne' : Hid (∀ g, v'.ownBlock = some g → S g ∧ g < w.heap.size ∨ w.heap.size + 1 ≤ g) := fun g hg => by
          rcases hfr g hg with e | e
          · exact hne.out g e
          · exact .inr (by omega)
        have hz3 := hgrow.size
        simp at hz3
        obtain ⟨lo', lc', rfl⟩ := owns_slice hrow'
        clear hgrow hstay hfr hrow ho2 hbin hpre hy0 hne
        go_wp2
        go_roundw
        case rel => exact ⟨j + 1, by omega, by go_num, ho3, hrow', hpre', hne', hy3, hb3, by omega⟩
        case measure => simp [intOf]; omega
      · go_wp2
        go_roundw
        case rel => exact ⟨k + 1, by omega, by go_num, ho2, hy0, hbin, hz2⟩
        case measure => simp [intOf]; omega

end Go.Proofs.YtblhmeidbjigaabGreatDoor

/- The owner writes into each list of a hint. -/
set_option linter.unusedSimpArgs false
set_option linter.unusedVariables false
namespace Go.Proofs.YtblhmeidbjigaabGreatDoor
open Go.RowKit

/-- The first k blocks bear their marks. -/
def Mkd (mark : Int) (k : Nat) (hv : List (PingD × Value)) : Prop := ∀ i (hi : i < hv.length), i < k → hv[i].1.src = mark + i ∧ ∀ j, j < hv[i].1.pairs.length → preg hv[i].1.pairs j = mark + i

theorem Mkd.set {mark : Int} {k : Nat} {hv : List (PingD × Value)} (h : Mkd mark k hv) (x : PingD × Value) : Mkd mark k (hv.set k x) := by
  intro i hi hik
  have e : (hv.set k x)[i] = hv[i]'(by simpa using hi) := by rw [List.getElem_set, if_neg (by omega)]
  rw [e]
  exact h i _ hik

end Go.Proofs.YtblhmeidbjigaabGreatDoor

/- The law on hints. -/
set_option linter.unusedSimpArgs false
set_option linter.unusedVariables false
namespace Go.Proofs.YtblhmeidbjigaabGreatDoor
open Go.RowKit

theorem toList_self (a : ByteArray) : (a.toList == a.toList) = true := by simp

set_option maxRecDepth 100000 in
set_option maxHeartbeats 2000000 in
theorem hinted_any (u : Value) (h : List PingD) (w : World) (hr : RdHint w u h) (hn : h.length ≤ 4398046511104) (hn2 : ∀ k, k < h.length → (hpairs h k).length ≤ 8796093022208) :
    Calls Tryz.prog 41 #[.agg #[u]] w fun e w' => e = .returned (.bool true) ∧ Below w.heap.size w w' := by
  obtain ⟨uo, uc, e0, _, _⟩ := id hr
  subst e0
  have hr1 := hr.keep ((Below.refl w.heap.size w).alloc (Nat.le_refl _) (.cells #[.slice uo h.length uc] 30))
  go_enter Tryz.func41, Tryz.ntmps41
  go_wp2_with fail
  refine roomyHint_cps _ h _ hr1 hn hn2 _ ?_
  intro w1 hv L D hdt hlies hL hD hb1
  have hb1' : Below (w.heap.size + 1) (w.alloc (.cells #[.slice uo h.length uc] 30)) w1 := by simpa using hb1
  have hz1 := hb1'.size
  simp at hz1
  have hb01 := Below.under hb1'
  have x0 : w1.cell? ⟨w.heap.size, 0, none⟩ = some (.slice uo h.length uc) := (hb1'.cell (by simp)).trans (by simp)
  have hvl : hv.length = h.length := by rw [← hdt, hdat_length]
  have n2 : ∀ x ∈ hv, x.1.pairs.length ≤ 8796093022208 := by
    intro x hx
    obtain ⟨k, hk, rfl⟩ := List.getElem_of_mem hx
    have := hn2 k (by omega)
    rw [← hdt, (hdat_get hv hk).2] at this
    exact this
  have hLlt := hL.lt
  have HV : Hid (hv.length = h.length) := hvl
  have rg := rows_rd (cap := hv.length + 1) hlies hL (by omega) (fun x hx => by have := n2 x hx; omega)
  rw [hdt] at rg
  have HD : Hid (hdat hv = h) := hdt
  clear hb1 hvl hdt
  have hzl : w.heap.size < w1.heap.size := by omega
  -- EncodeHint
  have hc := tEncodeHint_any _ h (w1.alloc (.cells #[.slice (some ⟨L, 0, none⟩) hv.length (hv.length + 1)] 30)) (rg.keep ((Below.refl _ _).alloc (Nat.le_refl _) _))
  go_wp2_with fail
  refine hc.mono ?_
  clear hc
  rintro e w2 ⟨rfl, hb2⟩
  have hb2' : Below (w1.heap.size + 1) (w1.alloc (.cells #[.slice (some ⟨L, 0, none⟩) hv.length (hv.length + 1)] 30)) w2 := by simpa using hb2
  have hb12 := Below.under hb2'
  have hz2 := hb2'.size
  simp at hz2
  have y0 := cell_keep hb12 x0
  have y1 : w2.cell? ⟨w1.heap.size, 0, none⟩ = some (.slice (some ⟨L, 0, none⟩) hv.length (hv.length + 1)) := (hb2'.cell (by simp)).trans (by simp)
  have hb02 := hb01.trans (hb12.mono (by omega))
  have hu2 := hr.keep hb02
  have hu2' : RdHint w2 (.slice uo h.length uc) (hdat hv) := by rw [HD.out]; exact hu2
  have hw := wholeHint_any hv L D _ w2 (hlies.keep hb12) (hL.keep hb12) (hD.keep hb12) hu2' (by rw [HV.out]; exact hn) n2
  clear hb2 hb2'
  cases hg : goodHint h
  · simp only [Bool.false_eq_true, if_false]
    go_wp2_with fail
    refine hw.mono ?_
    clear hw
    rintro e w3 ⟨rfl, hb3⟩
    have z0 := cell_keep hb3 y0
    have hb03 := hb02.trans (hb3.mono (by omega))
    have hz3 := hb3.size
    go_wp2_with fail
    refine (rGoodHint_any _ h _ (hr.keep hb03)).mono ?_
    rintro e w4 ⟨rfl, hb4⟩
    have hb04 := hb03.trans (hb4.mono (by omega))
    clear hlies hL hD rg hu2 hu2'
    go_wp2
    go_ret
    exact ⟨by simp, hb04⟩
  · simp only [if_true]
    go_wp2_with fail
    refine hw.mono ?_
    clear hw
    rintro e w3 ⟨rfl, hb3⟩
    have z0 := cell_keep hb3 y0
    have hb03 := hb02.trans (hb3.mono (by omega))
    have hz3 := hb3.size
    go_wp2_with fail
    refine (rGoodHint_any _ h _ (hr.keep hb03)).mono ?_
    rintro e w4 ⟨rfl, hb4⟩
    have hb04 := hb03.trans (hb4.mono (by omega))
    have t0 := cell_keep hb4 z0
    have hz4 := hb4.size
    clear hlies hL hD rg hu2 hu2'
    go_wp2_with fail
    refine (rHintText_any _ h _ (hr.keep hb04) hg).mono ?_
    rintro e w5 ⟨rfl, hb5⟩
    have hb05 := hb04.trans (hb5.mono (by omega))
    have hs := toList_self (str (hintText h))
    go_wp2
    go_ret
    exact ⟨by simp, hb05⟩

end Go.Proofs.YtblhmeidbjigaabGreatDoor

/- The law on hints: reading. -/
set_option linter.unusedSimpArgs false
set_option linter.unusedVariables false
namespace Go.Proofs.YtblhmeidbjigaabGreatDoor
open Go.RowKit

theorem OwnHint.apartFrom {S : Nat → Prop} {w w' : World} {base : Nat} {v : Value} {hv : List (PingD × Value)} (h : OwnHint w base v hv) (hk : Keep S w w') (hS : ∀ g, S g → g < base) : OwnHint w' base v hv := by
  have key : ∀ (e : TypeId) (sz : Nat) (u : Value) (n : Nat) (xs : List Value), w.ownsRow base e sz u n xs → w'.ownsRow base e sz u n xs := by
    intro e sz u n xs hu
    refine owns_same hu fun g hg => hk.block g (hu.lt g hg).2 (fun hs => ?_)
    have := hS g hs
    have := (hu.lt g hg).1
    omega
  exact ⟨key _ _ _ _ _ h.row, fun x hx => key _ _ _ _ _ (h.each x hx), h.apart⟩

theorem OwnHint.apartFrom' {w w' : World} {base : Nat} {v : Value} {hv : List (PingD × Value)} (h : OwnHint w base v hv) (hb : Below w.heap.size w w') : OwnHint w' base v hv := h.below hb (Nat.le_refl _)

/-- The blocks of a hint. -/
def hblk (v : Value) (hv : List (PingD × Value)) (g : Nat) : Prop := v.ownBlock = some g ∨ ∃ x ∈ hv, x.2.ownBlock = some g

theorem hblk_lt {w : World} {base : Nat} {v : Value} {hv : List (PingD × Value)} (h : OwnHint w base v hv) : ∀ g, hblk v hv g → base ≤ g ∧ g < w.heap.size := by
  rintro g (hg | ⟨x, hx, hg⟩)
  · exact h.row.lt g hg
  · exact (h.each x hx).lt g hg

theorem good_small {hv : List (PingD × Value)} (hg : goodHint (hdat hv) = true) : hv.length ≤ 1000 ∧ ∀ x ∈ hv, x.1.pairs.length ≤ 1000 := by
  have h1 := goodHint_len hg
  rw [hdat_length] at h1
  refine ⟨by omega, fun x hx => ?_⟩
  have := goodHint_ping hg x.1 (List.mem_map.2 ⟨x, hx, rfl⟩)
  simp [goodPing] at this
  omega

end Go.Proofs.YtblhmeidbjigaabGreatDoor

/- Programs as plain data; how they lie in memory. -/
set_option linter.unusedSimpArgs false
set_option linter.unusedVariables false
namespace Go.Proofs.YtblhmeidbjigaabGreatDoor
open Go.RowKit

structure OpD where
  kind : Int
  a : Int
  b : Int
  c : Int

structure EndD where
  kind : Int
  r : Int
  x : Int
  y : Int

structure BlockD where
  ops : List OpD
  fin : EndD

structure ProgD where
  args : Int
  regs : Int
  data : Int
  slots : Int
  blocks : List BlockD

def oz : OpD := ⟨0, 0, 0, 0⟩
def ez : EndD := ⟨0, 0, 0, 0⟩
def bz : BlockD := ⟨[], ez⟩

def okind (l : List OpD) (k : Nat) : Int := (l.getD k oz).kind
def oa (l : List OpD) (k : Nat) : Int := (l.getD k oz).a
def ob (l : List OpD) (k : Nat) : Int := (l.getD k oz).b
def oc (l : List OpD) (k : Nat) : Int := (l.getD k oz).c
def bops (l : List BlockD) (k : Nat) : List OpD := (l.getD k bz).ops
def bfin (l : List BlockD) (k : Nat) : EndD := (l.getD k bz).fin
def bek (l : List BlockD) (k : Nat) : Int := (bfin l k).kind
def ber (l : List BlockD) (k : Nat) : Int := (bfin l k).r
def bex (l : List BlockD) (k : Nat) : Int := (bfin l k).x
def bey (l : List BlockD) (k : Nat) : Int := (bfin l k).y

/-! ### Well made -/

def opGood (regs slots : Int) (o : OpD) : Bool :=
  if o.kind = 1 then below o.a regs && below o.b 256 && below o.c 256
  else if 3 ≤ o.kind ∧ o.kind ≤ 11 then below o.a regs && below o.b regs && below o.c regs
  else if o.kind = 2 ∨ o.kind = 12 ∨ o.kind = 13 then below o.a regs && below o.b regs && decide (o.c = 0)
  else if o.kind = 14 then below o.a slots && below o.b regs && decide (o.c = 0)
  else if o.kind = 15 then below o.a regs && below o.b slots && decide (o.c = 0)
  else false

def endGood (regs n : Int) (e : EndD) : Bool :=
  if e.kind = 1 then decide (e.r = 0) && below e.x n && decide (e.y = 0)
  else if e.kind = 2 then below e.r regs && below e.x n && below e.y n
  else if e.kind = 3 then below e.r regs && decide (e.x = 0) && decide (e.y = 0)
  else false

def opsGood (regs slots : Int) (l : List OpD) : Bool := l.all (opGood regs slots)

def blockGood (regs slots n : Int) (b : BlockD) : Bool := decide (b.ops.length ≤ 12) && opsGood regs slots b.ops && endGood regs n b.fin

def blocksGood (regs slots n : Int) (l : List BlockD) : Bool := l.all (blockGood regs slots n)

def progGood (p : ProgD) : Bool :=
  decide (1 ≤ p.regs ∧ p.regs ≤ 8) && decide (0 ≤ p.args ∧ p.args ≤ p.regs) && decide (0 ≤ p.data ∧ p.data ≤ 8) && decide (0 ≤ p.slots ∧ p.slots ≤ 8) && decide (1 ≤ p.blocks.length ∧ p.blocks.length ≤ 6) &&
    blocksGood p.regs p.slots p.blocks.length p.blocks

def ogFrom (regs slots : Int) (l : List OpD) (k : Nat) : Bool := opsGood regs slots (l.drop k)
def bgFrom (regs slots n : Int) (l : List BlockD) (k : Nat) : Bool := blocksGood regs slots n (l.drop k)

theorem ogFrom_end {regs slots : Int} {l : List OpD} {k : Nat} (h : l.length ≤ k) : ogFrom regs slots l k = true := by
  unfold ogFrom; rw [List.drop_of_length_le h]; rfl
theorem ogFrom_step {regs slots : Int} {l : List OpD} {k : Nat} (h : k < l.length) : ogFrom regs slots l k = (opGood regs slots ⟨okind l k, oa l k, ob l k, oc l k⟩ && ogFrom regs slots l (k + 1)) := by
  unfold ogFrom; rw [drop_getD l oz k h]; rfl
theorem bgFrom_end {regs slots n : Int} {l : List BlockD} {k : Nat} (h : l.length ≤ k) : bgFrom regs slots n l k = true := by
  unfold bgFrom; rw [List.drop_of_length_le h]; rfl
theorem bgFrom_step {regs slots n : Int} {l : List BlockD} {k : Nat} (h : k < l.length) : bgFrom regs slots n l k = (blockGood regs slots n ⟨bops l k, ⟨bek l k, ber l k, bex l k, bey l k⟩⟩ && bgFrom regs slots n l (k + 1)) := by
  unfold bgFrom; rw [drop_getD l bz k h]; rfl

/-! ### In memory -/

def RdOps (w : World) (v : Value) (l : List OpD) : Prop :=
  ∃ ao cap, v = .slice ao l.length cap ∧ l.length ≤ 9223372036854775807 ∧ ∀ i, i < l.length → ∃ b off, ao = some ⟨b, off, none⟩ ∧
    w.cell? ⟨b, off + i * 4, none⟩ = some (.int .i64 (okind l i)) ∧ w.cell? ⟨b, off + i * 4 + 1, none⟩ = some (.int .i64 (oa l i)) ∧ w.cell? ⟨b, off + i * 4 + 2, none⟩ = some (.int .i64 (ob l i)) ∧ w.cell? ⟨b, off + i * 4 + 3, none⟩ = some (.int .i64 (oc l i))

def RdBlocks (w : World) (v : Value) (l : List BlockD) : Prop :=
  ∃ ao cap, v = .slice ao l.length cap ∧ l.length ≤ 9223372036854775807 ∧ ∀ i, i < l.length → ∃ b off sv, ao = some ⟨b, off, none⟩ ∧
    w.cell? ⟨b, off + i * 5, none⟩ = some sv ∧ w.cell? ⟨b, off + i * 5 + 1, none⟩ = some (.int .i64 (bek l i)) ∧ w.cell? ⟨b, off + i * 5 + 2, none⟩ = some (.int .i64 (ber l i)) ∧ w.cell? ⟨b, off + i * 5 + 3, none⟩ = some (.int .i64 (bex l i)) ∧ w.cell? ⟨b, off + i * 5 + 4, none⟩ = some (.int .i64 (bey l i)) ∧
    RdOps w sv (bops l i)

theorem RdOps.keep {w w' : World} {v : Value} {l : List OpD} (h : RdOps w v l) (hb : Below w.heap.size w w') : RdOps w' v l := by
  obtain ⟨ao, cap, rfl, hl, hc⟩ := h
  exact ⟨ao, cap, rfl, hl, fun i hi => let ⟨b, off, e, h1, h2, h3, h4⟩ := hc i hi; ⟨b, off, e, cell_keep hb h1, cell_keep hb h2, cell_keep hb h3, cell_keep hb h4⟩⟩

theorem RdBlocks.keep {w w' : World} {v : Value} {l : List BlockD} (h : RdBlocks w v l) (hb : Below w.heap.size w w') : RdBlocks w' v l := by
  obtain ⟨ao, cap, rfl, hl, hc⟩ := h
  exact ⟨ao, cap, rfl, hl, fun i hi => let ⟨b, off, sv, e, h1, h2, h3, h4, h5, h6⟩ := hc i hi; ⟨b, off, sv, e, cell_keep hb h1, cell_keep hb h2, cell_keep hb h3, cell_keep hb h4, cell_keep hb h5, h6.keep hb⟩⟩

/-- A program as a value. -/
def progV (p : ProgD) (v : Value) : Value := .agg #[.int .i64 p.args, .int .i64 p.regs, .int .i64 p.data, .int .i64 p.slots, v]

/-! ### Texts -/

def opText (o : OpD) : List UInt8 := [byt o.kind, byt o.a, byt o.b, byt o.c]
def opsText (l : List OpD) : List UInt8 := l.flatMap opText
def endText (e : EndD) : List UInt8 := [byt e.kind, byt e.r, byt e.x, byt e.y]
def blockText (b : BlockD) : List UInt8 := [byt b.ops.length] ++ opsText b.ops ++ endText b.fin
def headText (p : ProgD) : List UInt8 := [84, 87, byt p.args, byt p.regs, byt p.data, byt p.slots, byt p.blocks.length]
def progText (p : ProgD) : List UInt8 := headText p ++ p.blocks.flatMap blockText

theorem opsText_length (l : List OpD) : (opsText l).length = 4 * l.length := by
  induction l with
  | nil => rfl
  | cons p r ih => simp only [opsText, List.flatMap_cons, List.length_append, List.length_cons, opText, List.length_nil] at *; omega

theorem blockText_length (b : BlockD) : (blockText b).length = 5 + 4 * b.ops.length := by
  simp [blockText, opsText_length, endText]; omega

/-- A block's text as far as its first k operations. -/
def blockTo (l : List OpD) (k : Nat) : ByteArray := str ([byt l.length] ++ opsText (l.take k))

theorem blockTo_step {l : List OpD} {k : Nat} (h : k < l.length) : blockTo l (k + 1) = blockTo l k ++ ⟨#[byt (okind l k), byt (oa l k), byt (ob l k), byt (oc l k)]⟩ := by
  show _ = str _ ++ str [_, _, _, _]
  rw [str_append]
  simp [blockTo, opsText, take_getD l oz k h, okind, oa, ob, oc, opText]

theorem blockTo_end {l : List OpD} {k : Nat} (e : EndD) (h : l.length ≤ k) : blockTo l k ++ ⟨#[byt e.kind, byt e.r, byt e.x, byt e.y]⟩ = str (blockText ⟨l, e⟩) := by
  show str _ ++ str [_, _, _, _] = _
  rw [str_append]
  simp [blockText, endText, List.take_of_length_le h]

theorem blockTo_size (l : List OpD) (k : Nat) (h : k ≤ l.length) : (blockTo l k).size = 1 + 4 * k := by
  simp [blockTo, str, ByteArray.size, opsText_length, List.length_take, Nat.min_eq_left h]
  omega

/-- A program's text as far as its first k blocks. -/
def progTo (p : ProgD) (k : Nat) : ByteArray := str (headText p ++ (p.blocks.take k).flatMap blockText)

theorem progTo_step {p : ProgD} {k : Nat} (h : k < p.blocks.length) : progTo p (k + 1) = progTo p k ++ str (blockText ⟨bops p.blocks k, ⟨bek p.blocks k, ber p.blocks k, bex p.blocks k, bey p.blocks k⟩⟩) := by
  unfold progTo
  rw [str_append, take_getD p.blocks bz k h, List.flatMap_append, List.append_assoc]
  simp [bops, bek, ber, bex, bey, bfin]

theorem progTo_end {p : ProgD} {k : Nat} (h : p.blocks.length ≤ k) : progTo p k = str (progText p) := by
  simp [progTo, progText, List.take_of_length_le h]

theorem progGood_len {p : ProgD} (hg : progGood p = true) : 1 ≤ p.blocks.length ∧ p.blocks.length ≤ 6 := by
  simp [progGood] at hg; omega

theorem progGood_block {p : ProgD} (hg : progGood p = true) (x : BlockD) (hx : x ∈ p.blocks) : blockGood p.regs p.slots p.blocks.length x = true := by
  simp [progGood, blocksGood] at hg; exact hg.2 x hx

theorem progGood_ops {p : ProgD} (hg : progGood p = true) {k : Nat} (hk : k < p.blocks.length) : (bops p.blocks k).length ≤ 12 := by
  have := progGood_block hg (p.blocks.getD k bz) (getD_mem' hk)
  simp [blockGood] at this
  exact this.1.1

theorem bflat_le {l : List BlockD} (h : ∀ x ∈ l, x.ops.length ≤ 12) : (l.flatMap blockText).length ≤ 53 * l.length := by
  induction l with
  | nil => simp
  | cons x r ih =>
    have h1 := h x (by simp)
    have h2 := ih (fun y hy => h y (by simp [hy]))
    simp only [List.flatMap_cons, List.length_append, blockText_length, List.length_cons]
    omega

theorem progTo_size {p : ProgD} (hg : progGood p = true) (k : Nat) : (progTo p k).size ≤ 330 := by
  have h1 := progGood_len hg
  have h2 := bflat_le (l := p.blocks.take k) (fun x hx => by
    have := progGood_block hg x (List.mem_of_mem_take hx)
    simp [blockGood] at this
    exact this.1.1)
  have h3 : (p.blocks.take k).length ≤ 6 := Nat.le_trans (List.length_take_le' _ _) h1.2
  have e : (progTo p k).size = 7 + ((p.blocks.take k).flatMap blockText).length := by
    simp [progTo, str, ByteArray.size, headText]; omega
  omega

end Go.Proofs.YtblhmeidbjigaabGreatDoor

/- Terms as plain data: how they are made (P8, P9), pure. -/
set_option linter.unusedSimpArgs false
set_option linter.unusedVariables false
noncomputable section
namespace Go.Proofs.YtblhmeidbjigaabGreatDoor
open Go.RowKit Classical

/-- A term: a number (100), a letter with its number (101, 102), the cells (103); or an operation of its parts (3 to 12; 13: three parts). -/
inductive TD where
  | leaf (k n : Int)
  | two (k : Int) (a b : TD)
  | three (k : Int) (a b c : TD)

def TD.kind : TD → Int
  | .leaf k _ => k
  | .two k _ _ => k
  | .three k _ _ _ => k

def TD.size : TD → Nat
  | .leaf _ _ => 1
  | .two _ a b => 1 + a.size + b.size
  | .three _ a b c => 1 + a.size + b.size + c.size

def tnum (n : Int) : TD := .leaf 100 n

/-- The number that a term is. -/
def TD.isNum : TD → Option Int
  | .leaf k n => if k = 100 then some n else none
  | _ => none

/-- A sum of something and a number. -/
def TD.isPlus : TD → Option (TD × Int)
  | .two k a b => if k = 3 then b.isNum.map (a, ·) else none
  | _ => none

/-- What is made of '+', u and the number k. -/
def addN : TD → Int → TD
  | .leaf q n, k => if q = 100 then tnum (wrap64 (n + k)) else if k = 0 then .leaf q n else .two 3 (.leaf q n) (tnum k)
  | .two q a b, k =>
    if k = 0 then .two q a b
    else match q, b.isNum with
      | 3, some m => addN a (wrap64 (m + k))
      | _, _ => .two 3 (.two q a b) (tnum k)
  | .three q a b c, k => if k = 0 then .three q a b c else .two 3 (.three q a b c) (tnum k)

/-- P9 (3), the rows with a number v. -/
def besideT (kind : Int) (u : TD) (n : Int) : Option TD :=
  if kind = 4 then some (addN u (wrap64 (0 - n)))
  else if kind = 3 then (if n = 0 then some u else u.isPlus.map fun p => addN p.1 (wrap64 (p.2 + n)))
  else if kind = 5 then (if n = 0 then some (tnum 0) else if n = 1 then some u else none)
  else if kind = 6 then (if n = 0 then some (tnum 0) else if n = -1 then some u else none)
  else if kind = 7 then (if n = 0 then some u else if n = -1 then some (tnum (-1)) else none)
  else if kind = 8 then (if n = 0 then some u else none)
  else if kind = 11 then (if n = 1 then some u else none)
  else none

/-- What a word is plus a number. -/
def thingT (u : TD) : Option TD × Int :=
  match u.isNum with
  | some n => (none, n)
  | none => match u.isPlus with
    | some (a, n) => (some a, n)
    | none => (some u, 0)

def apartT (u v : TD) : Bool := decide ((thingT u).1 = (thingT v).1 ∧ (thingT u).2 ≠ (thingT v).2)

def turnsT (kind : Int) : Bool := decide (kind = 3 ∨ kind = 5 ∨ kind = 6 ∨ kind = 7 ∨ kind = 8 ∨ kind = 10)

/-- P9 (3). -/
def rowT (kind : Int) (u v : TD) : TD :=
  match v.isNum.bind (besideT kind u) with
  | some t => t
  | none =>
    if u = v ∧ (kind = 4 ∨ kind = 8 ∨ kind = 9) then tnum 0
    else if u = v ∧ (kind = 6 ∨ kind = 7) then u
    else if u = v ∧ kind = 10 then tnum 1
    else if kind = 10 ∧ apartT u v = true then tnum 0
    else .two kind u v

/-- P9: read of cells. -/
def readT : TD → TD → TD
  | .three 13 c a v, u => if a = u then v else if apartT a u = true then readT c u else .two 12 (.three 13 c a v) u
  | m, u => .two 12 m u

/-- P9, written (2). -/
def leftT : TD → TD → TD
  | .three 13 c a v, u => if a = u then c else if apartT a u = true then .three 13 (leftT c u) a v else .three 13 c a v
  | m, _ => m

/-- P9, written (3). -/
def laidT : TD → TD → TD → TD
  | .three 13 c a w, u, v =>
    match u.isNum, a.isNum with
    | some n, some k => if k > n then .three 13 (laidT c u v) a w else .three 13 (.three 13 c a w) u v
    | _, _ => .three 13 (.three 13 c a w) u v
  | m, u, v => .three 13 m u v

def writtenT (m u v : TD) : TD := if readT m u = v then m else laidT (leftT m u) u v

end Go.Proofs.YtblhmeidbjigaabGreatDoor
