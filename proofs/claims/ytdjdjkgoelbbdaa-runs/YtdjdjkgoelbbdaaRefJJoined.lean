/- Reading a hint, in the document's answer. -/
import Derived.Test.YtdjdjkgoelbbdaaMWordToRefI
import Derived.Test.YtdjdjkgoelbbdaaOwnToCodK
set_option linter.unusedSimpArgs false
set_option linter.unusedVariables false
namespace Go.Proofs.Ytdjdjkgoelbbdaa
open Go.RowKit

/-- How many pairs are read from k on, m being asked for, of a text of n bytes. -/
def jst (n : Int) (k : Int) (m : Nat) : Nat := min m ((n - k + 1) / 2).toNat

/-- Where the i-th block begins. -/
def rAt (s : ByteArray) : Nat → Int
  | 0 => 3
  | i + 1 => rAt s i + 2 + 2 * jst s.size (rAt s i + 2) (byteOr 0 s (rAt s i + 1)).toNat

/-- The first blocks that are read. -/
def rPings (s : ByteArray) : Nat → List PingD
  | 0 => []
  | i + 1 => rPings s i ++ [⟨byteOr 0 s (rAt s i), pairsAt 0 s (rAt s i + 2) (jst s.size (rAt s i + 2) (byteOr 0 s (rAt s i + 1)).toNat)⟩]

theorem byteOr0_bd (s : ByteArray) (i : Int) : 0 ≤ byteOr 0 s i ∧ byteOr 0 s i ≤ 255 := by
  unfold byteOr
  split
  · have := (s[i.toNat]!).toNat_lt; omega
  · omega

theorem jst_le (n k : Int) (m : Nat) : jst n k m ≤ m := by unfold jst; omega

theorem jst_eq {n k : Int} {m j : Nat} (h1 : j ≤ m) (h2 : j = 0 ∨ k + 2 * ((j : Int) - 1) < n) (h3 : ¬ ((j : Int) < m ∧ k + 2 * (j : Int) < n)) : j = jst n k m := by
  unfold jst
  by_cases hm : (j : Int) < m
  · have : ¬ k + 2 * (j : Int) < n := fun h => h3 ⟨hm, h⟩
    rcases h2 with h2 | h2 <;> omega
  · rcases h2 with h2 | h2 <;> omega

theorem rAt_bd (s : ByteArray) (i : Nat) : 3 ≤ rAt s i ∧ rAt s i ≤ 3 + 512 * i := by
  induction i with
  | zero => simp [rAt]
  | succ k ih =>
    have h1 := byteOr0_bd s (rAt s k + 1)
    have h2 := jst_le s.size (rAt s k + 2) (byteOr 0 s (rAt s k + 1)).toNat
    simp only [rAt]
    omega

/-- What the reading stops at. -/
structure RStop (s : ByteArray) (i : Nat) : Prop where
  done : ∀ j, j < i → (j : Int) < byteOr 0 s 2 ∧ rAt s j < s.size
  stop : ¬ ((i : Int) < byteOr 0 s 2 ∧ rAt s i < s.size)

theorem toList_ne {a b : ByteArray} (h : a ≠ b) : (a.toList == b.toList) = false := by
  rw [beq_eq_false_iff_ne]
  intro e
  rw [ByteArray.toList_eq, ByteArray.toList_eq] at e
  exact h (ByteArray.ext (Array.toList_inj.1 e))

/-- What the outer append leaves. -/
theorem ref_step {w wo wr w2 : World} {ao : Option Addr} {cp sc : Nat} {so : Option Addr} {hv : List (PingD × Value)} {src : Int} {ps : List PairD} {v' : Value} {O1 O2 : Obj}
    (hown : OwnHint wo (w.heap.size + 2) (.slice ao hv.length cp) hv) (hbin : Below wo.heap.size wo wr) (hrow : wr.ownsRow (wo.heap.size + 1) 84 2 (.slice so ps.length sc) ps.length (pairCells ps))
    (hbel : Below (w.heap.size + 1) (w.alloc O1) wo) (hx0 : wo.cell? ⟨w.heap.size + 1, 0, none⟩ = some (.slice ao hv.length cp)) (hxf : wo.frozen? ⟨w.heap.size + 1, 0, none⟩ = false) (hz : w.heap.size + 2 ≤ wo.heap.size)
    (hown' : w2.ownsRow (w.heap.size + 2) 82 2 v' (hv.length + 1) (pingCells hv ++ [.int .i64 src, .slice so ps.length sc])) (hgrow : (wr.alloc O2).grownBy w2 (Value.slice ao hv.length cp).ownBlock) :
    OwnHint w2 (w.heap.size + 2) v' (hv ++ [(⟨src, ps⟩, .slice so ps.length sc)]) ∧ w2.cell? ⟨w.heap.size + 1, 0, none⟩ = some (.slice ao hv.length cp) ∧ w2.frozen? ⟨w.heap.size + 1, 0, none⟩ = false ∧
      Below (w.heap.size + 1) (w.alloc O1) w2 ∧ w.heap.size + 2 ≤ w2.heap.size := by
  have hzr := hbin.size
  have own1 := hown.below hbin (Nat.le_refl _)
  have hb2 := (((Below.refl (w.heap.size + 2) wr).alloc (by omega) O2).grown hgrow (by simp; omega) (fun g hg => (own1.row.lt g hg).1))
  have hz2 := hb2.size
  refine ⟨?_, ?_, ?_, ?_, by omega⟩
  · refine (own1.alloc _).snoc (x := ⟨src, ps⟩) ((owns_base hrow (by omega)).alloc _) ?_ hgrow hown'
    intro y hy g hg e
    have e1 := ((hown.each y hy).lt g hg).2
    have e2 := (hrow.lt g e).1
    omega
  · exact (hb2.cell (p := ⟨w.heap.size + 1, 0, none⟩) (by simp)).trans ((hbin.cell (p := ⟨w.heap.size + 1, 0, none⟩) (by simp; omega)).trans hx0)
  · exact (hb2.frozen (p := ⟨w.heap.size + 1, 0, none⟩) (by simp)).trans ((hbin.frozen (p := ⟨w.heap.size + 1, 0, none⟩) (by simp; omega)).trans hxf)
  · exact (hbel.trans (hbin.mono (by omega))).trans (hb2.mono (by omega))

set_option maxRecDepth 100000 in
set_option maxHeartbeats 4000000 in
theorem rDecodeHint_cps (s : ByteArray) (w : World) (hs : s.size ≤ maxLen) (Post : Ending → World → Prop)
    (hyes : ∀ v hv w' i, RStop s i → OwnHint w' w.heap.size v hv → hdat hv = rPings s i → goodHint (hdat hv) = true → str (hintText (hdat hv)) = s → Below w.heap.size w w' → Post (.returned (.tuple #[.agg #[v], .bool true])) w')
    (hno : ∀ w' i, RStop s i → (goodHint (rPings s i) = true → str (hintText (rPings s i)) ≠ s) → Below w.heap.size w w' → Post (.returned (.tuple #[.agg #[.slice none 0 0], .bool false])) w') :
    Calls Try.prog 48 #[.string s] w Post := by
  obtain ⟨i0, ii, iz0, iz1, iz2⟩ := info_parts Try.infoPing
  obtain ⟨j0, ji, jz0, jz1, jz2⟩ := info_parts Try.infoPair
  have hcb := byteOr0_bd s 2
  have hsz := hs
  unfold maxLen at hsz
  obtain ⟨n, hn⟩ := Int.eq_ofNat_of_zero_le hcb.1
  have HN : Hid (byteOr 0 s 2 = n) := hn
  go_enter Try.func48, Try.ntmps48
  go_wp2_with (go_at_call 73; refine (at_any _ _ _ hs).mono ?_; rintro e w' ⟨rfl, rfl⟩)
  have hn255 : n ≤ 255 := by omega
  clear hcb hn
  go_loopw [6, 7] (fun p i wr => ∃ (k : Nat) (v : Value) (hv : List (PingD × Value)), k ≤ n ∧ i = .int .i64 k ∧ p = .int .i64 (rAt s k) ∧ wr.cell? ⟨w.heap.size + 1, 0, none⟩ = some v ∧
      wr.frozen? ⟨w.heap.size + 1, 0, none⟩ = false ∧ OwnHint wr (w.heap.size + 2) v hv ∧ Hid (hdat hv = rPings s k) ∧ Hid (hv.length = k) ∧ Hid (∀ j, j < k → (j : Int) < byteOr 0 s 2 ∧ rAt s j < s.size) ∧ Below (w.heap.size + 1) (w.alloc (.cells #[.slice none 0 0] 31)) wr ∧ w.heap.size + 2 ≤ wr.heap.size)
    (fun _ i _ => n - (intOf i).toNat)
  case atStart =>
    refine ⟨0, .slice none 0 0, [], Nat.zero_le _, rfl, rfl, by simp, by simp, ownHint_nil _ _, rfl, rfl, fun j hj => by omega, ?_, by simp⟩
    exact (Below.refl _ _).alloc (by simp) _
  case round =>
    obtain ⟨k, v, hv, hk, rfl, rfl, hx0, hxf, hown, hdt, hvl, hdn, hbel, hz⟩ := hrel
    obtain ⟨ao, cp, rfl⟩ := owns_slice hown.row
    have hzl : w.heap.size + 1 < wr.heap.size := by omega
    have hzm : w.heap.size < wr.heap.size := by omega
    have hab := rAt_bd s k
    by_cases hlt : (k : Int) < n ∧ rAt s k < s.size
    case neg =>
      have hst : Hid (RStop s k) := ⟨hdn.out, by rw [HN.out]; exact hlt⟩
      have hltn : (k : Int) < n → ¬ (rAt s k < s.size) := fun h1 h2 => hlt ⟨h1, h2⟩
      clear hlt hdn
      have r0 : wr.cell? ⟨w.heap.size, 0, none⟩ = some (.slice none 0 0) := (hbel.cell (by simp)).trans (by simp)
      have rf0 : wr.frozen? ⟨w.heap.size, 0, none⟩ = false := (hbel.frozen (by simp)).trans (by simp)
      have hrd := hown.rd
      rw [hdt.out] at hrd
      by_cases hq : (k : Int) < n
      · have hq2 := hltn hq
        clear hltn
        go_wp2_with fail
        refine (rGoodHint_any _ _ _ hrd).mono ?_
        rintro e w1 ⟨rfl, hb1⟩
        have x0 := (hb1.cell (p := ⟨w.heap.size, 0, none⟩) hzm).trans r0
        have xf := (hb1.frozen (p := ⟨w.heap.size, 0, none⟩) hzm).trans rf0
        have y0 := (hb1.cell (p := ⟨w.heap.size + 1, 0, none⟩) hzl).trans hx0
        have hz1 := hb1.size
        have hzl1 : w.heap.size + 1 < w1.heap.size := by omega
        have hzm1 : w.heap.size < w1.heap.size := by omega
        have hb2 := (Below.under hbel).trans (hb1.mono (by omega))
        have own1 := hown.below hb1 (Nat.le_refl _)
        have hrd1 := hrd.keep hb1
        clear r0 rf0 hx0 hxf hbel hown hb1 hrd
        cases hg : goodHint (rPings s k)
        · have hno' := fun w' => hno w' k hst.out (by simp [hg])
          clear hno hyes
          go_wp2
          refine bodyPost_ret (v := .tuple #[.agg #[.slice none 0 0], .bool false]) (by simp [results, Try.results48, go_sem, x0]) rfl (hno' _ ?_)
          exact hb2.setCell (by simp) _
        go_wp2_with fail
        refine (rHintText_any _ _ _ hrd1 hg).mono ?_
        rintro e w2 ⟨rfl, hb3⟩
        have u0 := (hb3.cell (p := ⟨w.heap.size, 0, none⟩) hzm1).trans x0
        have uf := (hb3.frozen (p := ⟨w.heap.size, 0, none⟩) hzm1).trans xf
        have t0 := (hb3.cell (p := ⟨w.heap.size + 1, 0, none⟩) hzl1).trans y0
        have hb4 := hb2.trans (hb3.mono (by omega))
        have own2 := own1.below hb3 (Nat.le_refl _)
        clear x0 xf y0 hb2 own1 hrd1 hb3
        by_cases ht : str (hintText (rPings s k)) = s
        · have hfin := hyes _ _ _ k hst.out (own2.set (a := ⟨w.heap.size, 0, none⟩) (by simp) (.slice ao hv.length cp) |>.base (base' := w.heap.size) (by omega)) hdt.out (by rw [hdt.out]; exact hg) (by rw [hdt.out]; exact ht) (hb4.setCell (by simp) _)
          rw [ht]
          clear ht hg hno hyes own2 hb4
          go_wp2
          exact bodyPost_ret (v := .tuple #[.agg #[.slice ao hv.length cp], .bool true]) (by simp [results, Try.results48, go_sem, u0]) rfl hfin
        · have hno' := fun w' => hno w' k hst.out (fun _ => ht)
          have hbs := toList_ne ht
          generalize str (hintText (rPings s k)) = tt at *
          clear hno hyes ht hg
          go_wp2
          refine bodyPost_ret (v := .tuple #[.agg #[.slice none 0 0], .bool false]) (by simp [results, Try.results48, go_sem, u0]) rfl (hno' _ ?_)
          exact hb4.setCell (by simp) _
      · clear hltn
        go_wp2_with fail
        refine (rGoodHint_any _ _ _ hrd).mono ?_
        rintro e w1 ⟨rfl, hb1⟩
        have x0 := (hb1.cell (p := ⟨w.heap.size, 0, none⟩) hzm).trans r0
        have xf := (hb1.frozen (p := ⟨w.heap.size, 0, none⟩) hzm).trans rf0
        have y0 := (hb1.cell (p := ⟨w.heap.size + 1, 0, none⟩) hzl).trans hx0
        have hz1 := hb1.size
        have hzl1 : w.heap.size + 1 < w1.heap.size := by omega
        have hzm1 : w.heap.size < w1.heap.size := by omega
        have hb2 := (Below.under hbel).trans (hb1.mono (by omega))
        have own1 := hown.below hb1 (Nat.le_refl _)
        have hrd1 := hrd.keep hb1
        clear r0 rf0 hx0 hxf hbel hown hb1 hrd
        cases hg : goodHint (rPings s k)
        · have hno' := fun w' => hno w' k hst.out (by simp [hg])
          clear hno hyes
          go_wp2
          refine bodyPost_ret (v := .tuple #[.agg #[.slice none 0 0], .bool false]) (by simp [results, Try.results48, go_sem, x0]) rfl (hno' _ ?_)
          exact hb2.setCell (by simp) _
        go_wp2_with fail
        refine (rHintText_any _ _ _ hrd1 hg).mono ?_
        rintro e w2 ⟨rfl, hb3⟩
        have u0 := (hb3.cell (p := ⟨w.heap.size, 0, none⟩) hzm1).trans x0
        have uf := (hb3.frozen (p := ⟨w.heap.size, 0, none⟩) hzm1).trans xf
        have t0 := (hb3.cell (p := ⟨w.heap.size + 1, 0, none⟩) hzl1).trans y0
        have hb4 := hb2.trans (hb3.mono (by omega))
        have own2 := own1.below hb3 (Nat.le_refl _)
        clear x0 xf y0 hb2 own1 hrd1 hb3
        by_cases ht : str (hintText (rPings s k)) = s
        · have hfin := hyes _ _ _ k hst.out (own2.set (a := ⟨w.heap.size, 0, none⟩) (by simp) (.slice ao hv.length cp) |>.base (base' := w.heap.size) (by omega)) hdt.out (by rw [hdt.out]; exact hg) (by rw [hdt.out]; exact ht) (hb4.setCell (by simp) _)
          rw [ht]
          clear ht hg hno hyes own2 hb4
          go_wp2
          exact bodyPost_ret (v := .tuple #[.agg #[.slice ao hv.length cp], .bool true]) (by simp [results, Try.results48, go_sem, u0]) rfl hfin
        · have hno' := fun w' => hno w' k hst.out (fun _ => ht)
          have hbs := toList_ne ht
          generalize str (hintText (rPings s k)) = tt at *
          clear hno hyes ht hg
          go_wp2
          refine bodyPost_ret (v := .tuple #[.agg #[.slice none 0 0], .bool false]) (by simp [results, Try.results48, go_sem, u0]) rfl (hno' _ ?_)
          exact hb4.setCell (by simp) _
    obtain ⟨hlt1, hlt2⟩ := hlt
    obtain ⟨wo, hwo⟩ : ∃ wo, wo = wr := ⟨_, rfl⟩
    subst hwo
    have HX : Hid (rPings s (k + 1) = rPings s k ++ [⟨byteOr 0 s (rAt s k), pairsAt 0 s (rAt s k + 2) (jst s.size (rAt s k + 2) (byteOr 0 s (rAt s k + 1)).toNat)⟩]) := rfl
    have HA : Hid (rAt s (k + 1) = rAt s k + 2 + 2 * jst s.size (rAt s k + 2) (byteOr 0 s (rAt s k + 1)).toNat) := rfl
    have hmb := byteOr0_bd s (rAt s k + 1)
    obtain ⟨m, hm⟩ := Int.eq_ofNat_of_zero_le hmb.1
    go_wp2_with (go_at_call 73; refine (at_any _ _ _ hs).mono ?_; rintro e w' ⟨rfl, rfl⟩)
    rw [hm, Int.toNat_natCast] at HX HA
    have hm255 : m ≤ 255 := by omega
    clear hmb hm
    generalize byteOr 0 s (rAt s k) = src at *
    obtain ⟨k0, hk0⟩ : ∃ k0, k0 = rAt s k + 2 := ⟨_, rfl⟩
    rw [← hk0] at HX HA
    have hk0b : 5 ≤ k0 ∧ k0 ≤ 1000000 := by omega
    have HK0 : Hid (k0 = rAt s k + 2) := hk0
    clear hk0
    have hlt3 := hlt2
    go_loopw [6, 10] (fun p i w2 => ∃ (j : Nat) (sv : Value), j ≤ m ∧ i = .int .i64 j ∧ p = .int .i64 (k0 + 2 * j) ∧ Hid (j = 0 ∨ k0 + 2 * ((j : Int) - 1) < s.size) ∧ w2.cell? ⟨wo.heap.size, 0, none⟩ = some (.int .i64 src) ∧ w2.cell? ⟨wo.heap.size, 1, none⟩ = some sv ∧
        w2.frozen? ⟨wo.heap.size, 1, none⟩ = false ∧ w2.ownsRow (wo.heap.size + 1) 84 2 sv j (pairCells (pairsAt 0 s k0 j)) ∧ Below wo.heap.size wo w2 ∧ wo.heap.size + 1 ≤ w2.heap.size)
      (fun _ i _ => m - (intOf i).toNat)
    case atStart =>
      refine ⟨0, .slice none 0 0, Nat.zero_le _, rfl, by rw [HK0.out]; simp, .inl rfl, by simp, by simp, by simp, World.ownsRow_nil _ _ _ _, ?_, by simp⟩
      exact (Below.refl _ _).alloc (by simp) _
    case round =>
      obtain ⟨j, sv, hj, rfl, rfl, hjs, y0, y1, yf, hrow, hbin, hzi⟩ := hrel
      obtain ⟨so, sc, rfl⟩ := owns_slice hrow
      have hzw : wo.heap.size < wr.heap.size := by omega
      by_cases hjl : (j : Int) < m ∧ k0 + 2 * (j : Int) < s.size
      case neg =>
        have hje := jst_eq hj hjs.out hjl
        rw [← hje] at HX HA
        have hjn : (j : Int) < m → ¬ (k0 + 2 * (j : Int) < s.size) := fun h1 h2 => hjl ⟨h1, h2⟩
        clear hjl hje hjs
        have hdn' : Hid (∀ i, i < k + 1 → (i : Int) < byteOr 0 s 2 ∧ rAt s i < s.size) := by
          intro i hi
          by_cases e : i = k
          · subst e; rw [HN.out]; exact ⟨hlt1, hlt2⟩
          · exact hdn.out i (by omega)
        have hpl := pairsAt_length 0 s k0 j
        generalize pairsAt 0 s k0 j = ps at *
        subst hpl
        have own1 := hown.below hbin (Nat.le_refl _)
        have x0 := (hbin.cell (p := ⟨w.heap.size + 1, 0, none⟩) hzl).trans hx0
        have xf := (hbin.frozen (p := ⟨w.heap.size + 1, 0, none⟩) hzl).trans hxf
        have hzl1 : w.heap.size + 1 < wr.heap.size := by omega
        have hne : ∀ g, wr.heap.size ≤ g → some g ≠ (Value.slice ao hv.length cp).ownBlock := fun g hg e => by have := (own1.row.lt _ e.symm).2; omega
        by_cases hq : (ps.length : Int) < m
        · have hq2 := hjn hq
          clear hjn
          go_wp2_with (at_builtin; refine wpList_append_own _ rfl _ _ 29 rfl (w.heap.size + 2) 82 i0 (.agg #[.int .i64 0, .slice none 0 0]) 2 32 Try.underlying29 ii iz0 iz1 iz2 rfl (by decide) _ _ _ rfl (own1.row.alloc _) ⟨wr.heap.size, 0, none⟩ 1 1 [.int .i64 src, .slice so ps.length sc] rfl rfl (two_new wr _ _ _) ?d2 ?d3 ?d4 ?d5 ?_)
          case d2 => first | exact ⟨rfl, rfl⟩ | (intro u hu; simp at hu; rcases hu with rfl | rfl <;> rfl)
          case d3 => have := hvl.out; unfold maxLen; omega
          case d4 => have := hvl.out; omega
          case d5 => first | omega | (simp; omega)
          intro v' w2 hown' hgrow _
          obtain ⟨own2, y0', yf', hb3, hz3⟩ := ref_step hown hbin hrow hbel hx0 hxf hz hown' hgrow
          obtain ⟨ao', cp', hv'⟩ := owns_slice own2.row
          rw [List.length_append] at hv'
          simp only [List.length_cons, List.length_nil, Nat.zero_add] at hv'
          subst hv'
          have hzl2 : w.heap.size + 1 < w2.heap.size := by omega
          clear hgrow hown hown' own1 hx0 hxf x0 xf hbel hne hbin hrow y0 y1 yf
          go_wp2
          go_roundw
          case rel =>
            refine ⟨k + 1, _, _, by omega, by go_num, by rw [HA.out, HK0.out], cell_set y0', by simp [yf'], own2.set (by simp) _, ?_, ?_, hdn', hb3.setCell (by simp) _, by simp; omega⟩
            · show hdat _ = _
              rw [HX.out, ← hdt.out]; simp [hdat]
            · show List.length _ = _
              have := hvl.out
              simp; exact this
          case measure => simp [intOf]; omega
        · clear hjn
          go_wp2_with (at_builtin; refine wpList_append_own _ rfl _ _ 29 rfl (w.heap.size + 2) 82 i0 (.agg #[.int .i64 0, .slice none 0 0]) 2 32 Try.underlying29 ii iz0 iz1 iz2 rfl (by decide) _ _ _ rfl (own1.row.alloc _) ⟨wr.heap.size, 0, none⟩ 1 1 [.int .i64 src, .slice so ps.length sc] rfl rfl (two_new wr _ _ _) ?e2 ?e3 ?e4 ?e5 ?_)
          case e2 => first | exact ⟨rfl, rfl⟩ | (intro u hu; simp at hu; rcases hu with rfl | rfl <;> rfl)
          case e3 => have := hvl.out; unfold maxLen; omega
          case e4 => have := hvl.out; omega
          case e5 => first | omega | (simp; omega)
          intro v' w2 hown' hgrow _
          obtain ⟨own2, y0', yf', hb3, hz3⟩ := ref_step hown hbin hrow hbel hx0 hxf hz hown' hgrow
          obtain ⟨ao', cp', hv'⟩ := owns_slice own2.row
          rw [List.length_append] at hv'
          simp only [List.length_cons, List.length_nil, Nat.zero_add] at hv'
          subst hv'
          have hzl2 : w.heap.size + 1 < w2.heap.size := by omega
          clear hgrow hown hown' own1 hx0 hxf x0 xf hbel hne hbin hrow y0 y1 yf
          go_wp2
          go_roundw
          case rel =>
            refine ⟨k + 1, _, _, by omega, by go_num, by rw [HA.out, HK0.out], cell_set y0', by simp [yf'], own2.set (by simp) _, ?_, ?_, hdn', hb3.setCell (by simp) _, by simp; omega⟩
            · show hdat _ = _
              rw [HX.out, ← hdt.out]; simp [hdat]
            · show List.length _ = _
              have := hvl.out
              simp; exact this
          case measure => simp [intOf]; omega
      obtain ⟨hj1, hj2⟩ := hjl
      have HS : Hid (pairsAt 0 s k0 (j + 1) = pairsAt 0 s k0 j ++ [⟨byteOr 0 s (k0 + 2 * j), byteOr 0 s (k0 + 2 * j + 1)⟩]) := rfl
      go_wp2_with (first | (go_at_call 73; refine (at_any _ _ _ hs).mono ?_; rintro e w' ⟨rfl, rfl⟩) | (at_builtin; refine wpList_append_own _ rfl _ _ 80 rfl (wo.heap.size + 1) 84 j0 (.agg #[.int .i64 0, .int .i64 0]) 2 16 Try.underlying80 ji jz0 jz1 jz2 rfl (by decide) _ _ _ rfl ((hrow.alloc _).alloc _) ⟨wr.heap.size + 1, 0, none⟩ 1 1 [.int .i64 (byteOr 0 s (k0 + 2 * j)), .int .i64 (byteOr 0 s (k0 + 2 * j + 1))] rfl rfl ?c1 ?c2 ?c3 ?c4 ?c5 ?_))
      case c1 => simpa using two_new (wr.alloc _) _ _ _
      case c2 => intro u hu; simp at hu; rcases hu with rfl | rfl <;> rfl
      case c3 => unfold maxLen; omega
      case c4 => omega
      case c5 => simp; omega
      intro v' w1 hrow' hgrow _
      rw [← pairCells_snoc, ← HS.out] at hrow'
      have hb2 := ((((Below.refl (wo.heap.size + 1) wr).alloc hzi _).alloc (by simp; omega) _).grown hgrow (by simp; omega) (fun g hg => (hrow.lt g hg).1))
      have z0 := (hb2.cell (p := ⟨wo.heap.size, 0, none⟩) (by simp)).trans y0
      have z1 := (hb2.cell (p := ⟨wo.heap.size, 1, none⟩) (by simp)).trans y1
      have zf := (hb2.frozen (p := ⟨wo.heap.size, 1, none⟩) (by simp)).trans yf
      have hz2 := hb2.size
      have hb3 := hbin.trans (hb2.mono (by omega))
      obtain ⟨ao', cp', rfl⟩ := owns_slice hrow'
      clear hgrow hrow y0 y1 yf hb2 hbin
      go_wp2
      go_roundw
      case rel =>
        refine ⟨j + 1, _, by omega, by go_num, by go_num, .inr (by simp; omega), ?_, ?_, ?_, ownsRow_setCell_below hrow' (by simp) _, hb3.setCell (by simp) _, by simp; omega⟩
        · exact cell_unset (by simp) z0
        · exact cell_set z1
        · simp [zf]
      case measure => simp [intOf]; omega

end Go.Proofs.Ytdjdjkgoelbbdaa
