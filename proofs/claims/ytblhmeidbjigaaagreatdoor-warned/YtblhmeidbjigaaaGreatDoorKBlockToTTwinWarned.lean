/- A block out of raw numbers. -/
import Derived.Test.YtblhmeidbjigaaaGreatDoorRows
import Derived.WalkKit
import Derived.WalkSpells
import Derived.WalkLawsBesides
import Derived.Laws.BytesArg
import Derived.Deep.QuietTactic
import Derived.BigQuiet
import Derived.Deep.RegionHeld3
import Derived.Lib.ItoaNum
import Derived.Lib.ItoaLen
import Derived.OpenShut
import Derived.Maps.AppendAt
import Derived.Shelf.Strconv.Itoa3
import Derived.Shelf.Lay
import Derived.Ground.NamesProg
import Derived.Lib.SmallJoins
import Derived.StillTailTactics
import Derived.Test.YtblhmeidbjigaaaGreatDoorMAnsToKOpWarned

set_option linter.unusedSimpArgs false
set_option linter.unusedVariables false
namespace Go.Proofs.YtblhmeidbjigaaaGreatDoor
open Go.RowKit

theorem owns_keep {S : Nat → Prop} {w w' : World} {base : Nat} {e : TypeId} {sz : Nat} {v : Value} {n : Nat} {xs : List Value} (h : w.ownsRow base e sz v n xs) (hk : Keep S w w') (hS : ∀ g, S g → g < base) : w'.ownsRow base e sz v n xs :=
  owns_same h fun g hg => hk.block g (h.lt g hg).2 (fun hs => by have := hS g hs; have := (h.lt g hg).1; omega)

theorem Rolls.below {w w' w0 : World} {R : Nat} {ao : Option Addr} {n cap k k0 : Nat} (h : Rolls w R ao n cap k) (h0 : Rolls w0 R ao n cap k0) {B : Nat} (hb : Below B w w') (hB : w0.heap.size ≤ B) : Rolls w' R ao n cap k := by
  have hR := h0.row.lt
  refine ⟨h.row.below hb (by omega), h.le, ?_, h.off⟩
  obtain ⟨ao', cap', e, hn, hc⟩ := h.rd
  obtain ⟨ao2, cap2, e2, _, hc2⟩ := h0.rd
  simp only [Value.slice.injEq, true_and] at e e2
  obtain ⟨rfl, rfl⟩ := e
  obtain ⟨rfl, rfl⟩ := e2
  refine ⟨ao, cap, rfl, hn, fun i hi => ?_⟩
  obtain ⟨b, off, x, e1, h1, h2, h3⟩ := hc i hi
  obtain ⟨b2, off2, x2, e2, _, _, h4⟩ := hc2 i hi
  rw [e1] at e2
  simp only [Option.some.injEq, Addr.mk.injEq, and_true] at e2
  obtain ⟨rfl, rfl⟩ := e2
  have := World.block_lt_of_cell? _ _ h4
  exact ⟨b, off, x, e1, h1, h2, (hb.cell (by simp at this ⊢; omega)).trans h3⟩

set_option maxRecDepth 100000 in
set_option maxHeartbeats 4000000 in
theorem block_cps (R : Nat) (ao : Option Addr) (n cap k : Nat) (most regs slots nb : Int) (w : World) (h : Rolls w R ao n cap k) (hre : 1 ≤ regs ∧ regs ≤ 8) (hsl : 0 ≤ slots ∧ slots ≤ 8) (hmo : 1 ≤ most ∧ most ≤ 15) (hms : most ≤ 13 ∨ 1 ≤ slots) (hnb : 1 ≤ nb ∧ nb ≤ 6) (Post : Ending → World → Prop)
    (hp : ∀ sv l a b c d k' w', blockGood regs slots nb ⟨l, ⟨a, b, c, d⟩⟩ = true → w'.ownsRow w.heap.size 77 4 sv l.length (opCells l) → Rolls w' R ao n cap k' → Keep (fun g => g = R) w w' → Post (.returned (.agg #[sv, .int .i64 a, .int .i64 b, .int .i64 c, .int .i64 d])) w') :
    Calls Tryz.prog 62 #[.pointer (some ⟨R, 0, none⟩), .int .i64 12, .int .i64 most, .int .i64 regs, .int .i64 slots, .int .i64 nb] w Post := by
  obtain ⟨i0, ii, iz0, iz1, iz2⟩ := info_parts Tryz.infoOp
  have hRw := h.row.lt
  have hA0 : Row ((w.alloc (.cells #[.slice none 0 0, .int .i64 0, .int .i64 0, .int .i64 0, .int .i64 0] 40)).alloc (.cells #[.slice none 0 0, .int .i64 0, .int .i64 0, .int .i64 0, .int .i64 0] 40)) w.heap.size 40 zBlk5 := by
    have q : Row (w.alloc (.cells #[.slice none 0 0, .int .i64 0, .int .i64 0, .int .i64 0, .int .i64 0] 40)) w.heap.size 40 zBlk5 := heap_alloc_new w _
    exact q.alloc _
  have hB0 : Row ((w.alloc (.cells #[.slice none 0 0, .int .i64 0, .int .i64 0, .int .i64 0, .int .i64 0] 40)).alloc (.cells #[.slice none 0 0, .int .i64 0, .int .i64 0, .int .i64 0, .int .i64 0] 40)) (w.heap.size + 1) 40 [.slice none 0 0, .int .i64 0, .int .i64 0, .int .i64 0, .int .i64 0] := heap_alloc2_new w _ _
  go_enter Tryz.func62, Tryz.ntmps62
  go_wp2_with fail
  refine next_cps R ao n cap k 13 _ (h.keep (((Below.refl _ _).alloc (Nat.le_refl _) _).alloc (by simp) _)) (by omega) _ ?_
  intro c k1 w1 hc0 hc3 hr1 hk1 hz1
  have hA := hA0.kept hk1 (by omega)
  have hB := hB0.kept hk1 (by omega)
  have hk01 : Keep (fun g => g = R) w w1 := (((Keep.refl _ _).alloc _).alloc _).trans hk1
  simp only [World.size_alloc] at hz1
  have hz1' : w.heap.size + 2 ≤ w1.heap.size := by omega
  clear hA0 hB0 hz1 hk1
  go_wp2
  go_loopw [15] (fun i wr => ∃ (j : Nat) (sv : Value) (l : List OpD) (kk : Nat), j ≤ c.toNat ∧ i = .int .i64 j ∧ Hid (l.length = j) ∧ Hid (opsGood regs slots l = true) ∧ Row wr w.heap.size 40 zBlk5 ∧ Row wr (w.heap.size + 1) 40 [sv, .int .i64 0, .int .i64 0, .int .i64 0, .int .i64 0] ∧
      wr.ownsRow (w.heap.size + 2) 77 4 sv j (opCells l) ∧ Rolls wr R ao n cap kk ∧ Keep (fun g => g = R) w wr ∧ w.heap.size + 2 ≤ wr.heap.size)
    (fun i _ => c.toNat - (intOf i).toNat)
  case atStart => exact ⟨0, .slice none 0 0, [], k1, Nat.zero_le _, rfl, rfl, rfl, hA, hB, World.ownsRow_nil _ _ _ _, hr1, hk01, hz1'⟩
  case round =>
    clear hA hB hr1 hk01 hz1' w1
    obtain ⟨j, sv, l, kk, hj, rfl, hll, hlg, hA, hB, hown, hro, hke, hzz⟩ := hrel
    obtain ⟨lo, lc, rfl⟩ := owns_slice hown
    by_cases hlt : (j : Int) < c
    · go_wp2_with fail
      refine op_cps R ao n cap kk most regs slots _ hro hre hsl hmo hms _ ?_
      intro a b c' d k2 w2 hg hr2 hk2
      have hA2 := hA.kept hk2 (by omega)
      have hB2 := hB.kept hk2 (by omega)
      have own2 := owns_keep hown hk2 (fun g hg => by omega)
      have hke2 := hke.trans hk2
      have hz2 := hk2.size
      have hzl : w.heap.size + 1 < w2.heap.size := by omega
      have hzq : w.heap.size + 2 ≤ w2.heap.size := by omega
      have b0 := hB2.cell (i := 0) rfl
      have HX : Hid (opsGood regs slots (l ++ [⟨a, b, c', d⟩]) = true) := by
        show opsGood _ _ _ = true
        have := hlg.out
        simp only [opsGood, List.all_append, List.all_cons, List.all_nil, Bool.and_true, Bool.and_eq_true] at this ⊢
        exact ⟨this, hg⟩
      clear hown hro hke hzz hA hB hk2 hg hlg
      go_wp2_with (at_builtin; refine wpList_append_own _ rfl _ _ 38 rfl (w.heap.size + 2) 77 i0 (.agg #[.int .i64 0, .int .i64 0, .int .i64 0, .int .i64 0]) 4 32 Tryz.underlying38 ii iz0 iz1 iz2 rfl (by decide) _ _ _ rfl ((own2.alloc _).alloc _) ⟨w2.heap.size + 1, 0, none⟩ 1 1 [.int .i64 a, .int .i64 b, .int .i64 c', .int .i64 d] rfl rfl ?c1 four_one ?c3 ?c4 ?c5 ?_)
      case c1 => simpa using four_new (w2.alloc _) _ _ _ _ _
      case c3 => unfold maxLen; omega
      case c4 => omega
      case c5 => first | omega | (simp; omega)
      intro v' w3 hown' hgrow _
      rw [← opCells_snoc] at hown'
      have hb2 := ((((Below.refl (w.heap.size + 2) w2).alloc hzq _).alloc (by simp; omega) _).grown hgrow (by simp; omega) (fun g hg => (own2.lt g hg).1))
      have hA3 := hA2.below hb2 (by omega)
      have hB3 := hB2.below hb2 (by omega)
      have hr3 := hr2.below h hb2 (by omega)
      have hke3 := hke2.below hb2 (by omega)
      have hz3 := hb2.size
      have y0 := hB3.cell (i := 0) rfl
      have yf := hB3.frozen 0
      obtain ⟨lo', lc', rfl⟩ := owns_slice hown'
      have hB4 := hB3.set 0 (.slice lo' (j + 1) lc')
      have hA4 := hA3.unset (a := ⟨w.heap.size + 1, 0, none⟩) (by show w.heap.size ≠ w.heap.size + 1; omega) (.slice lo' (j + 1) lc')
      have hr4 := hr3.set h (g := w.heap.size + 1) (i := 0) (by omega) (.slice lo' (j + 1) lc')
      have hke4 := hke3.setCell (p := ⟨w.heap.size + 1, 0, none⟩) (.inr (by show w.heap.size ≤ w.heap.size + 1; omega)) (.slice lo' (j + 1) lc')
      have own4 := ownsRow_setCell_below hown' (a := ⟨w.heap.size + 1, 0, none⟩) (by show w.heap.size + 1 < w.heap.size + 2; omega) (.slice lo' (j + 1) lc')
      clear hgrow hown' hb2 hA2 hB2 own2 hr2 hke2 b0 hA3 hB3 hr3 hke3
      go_wp2
      go_roundw
      case rel => exact ⟨j + 1, _, l ++ [⟨a, b, c', d⟩], k2, by omega, by go_num, by show List.length _ = _; have := hll.out; simp; exact this, HX, hA4, hB4, own4, hr4, hke4, by simp; omega⟩
      case measure => simp [intOf]; omega
    · obtain rfl : j = c.toNat := by omega
      go_wp2_with fail
      refine end_cps R ao n cap kk regs nb _ hro hre hnb _ ?_
      intro a b c' d k2 w2 hg hr2 hk2
      have hA2 := hA.kept hk2 (by omega)
      have hB2 := hB.kept hk2 (by omega)
      have own2 := owns_keep hown hk2 (fun g hg => by omega)
      have hke2 := hke.trans hk2
      have b0 := hB2.cell (i := 0) rfl
      have b1 := hB2.cell (i := 1) rfl
      have b2 := hB2.cell (i := 2) rfl
      have b3 := hB2.cell (i := 3) rfl
      have b4 := hB2.cell (i := 4) rfl
      have g1 := hB2.frozen 1
      have g2 := hB2.frozen 2
      have g3 := hB2.frozen 3
      have g4 := hB2.frozen 4
      have a0 := hA2.cell (i := 0) rfl
      have a1 := hA2.cell (i := 1) rfl
      have a2 := hA2.cell (i := 2) rfl
      have a3 := hA2.cell (i := 3) rfl
      have a4 := hA2.cell (i := 4) rfl
      have f0 := hA2.frozen 0
      have f1 := hA2.frozen 1
      have f2 := hA2.frozen 2
      have f3 := hA2.frozen 3
      have f4 := hA2.frozen 4
      have hgood : blockGood regs slots nb ⟨l, ⟨a, b, c', d⟩⟩ = true := by
        have e1 := hll.out
        simp only [blockGood, Bool.and_eq_true, decide_eq_true_eq]
        exact ⟨⟨by show l.length ≤ 12; omega, hlg.out⟩, hg⟩
      have hfin := hp (.slice lo c.toNat lc) l a b c' d k2 (set4 ((set4 w2 (w.heap.size + 1) 1 a b c' d).setCell ⟨w.heap.size, 0, none⟩ (.slice lo c.toNat lc)) w.heap.size 1 a b c' d) hgood
        (by
          rw [hll.out]
          refine owns_base (base := w.heap.size + 2) ?_ (by omega)
          exact (ownsRow_setCell_below · (by simp) _) ((ownsRow_setCell_below · (by simp) _) ((ownsRow_setCell_below · (by simp) _) ((ownsRow_setCell_below · (by simp) _) ((ownsRow_setCell_below · (by simp) _) ((ownsRow_setCell_below · (by simp) _) ((ownsRow_setCell_below · (by simp) _) ((ownsRow_setCell_below · (by simp) _) ((ownsRow_setCell_below · (by simp) _) own2)))))))))
        (((((((((hr2.set h (by omega) _).set h (by omega) _).set h (by omega) _).set h (by omega) _).set h (by omega) _).set h (by omega) _).set h (by omega) _).set h (by omega) _).set h (by omega) _)
        (((hke2.set4 (.inr (by omega)) _ _ _ _).setCell (.inr (by simp)) _).set4 (.inr (by omega)) _ _ _ _)
      have HF : Hid (Post (.returned (.agg #[.slice lo c.toNat lc, .int .i64 a, .int .i64 b, .int .i64 c', .int .i64 d])) (set4 ((set4 w2 (w.heap.size + 1) 1 a b c' d).setCell ⟨w.heap.size, 0, none⟩ (.slice lo c.toNat lc)) w.heap.size 1 a b c' d)) := hfin
      clear hfin hp hgood hA hB hown hro hke hA2 hB2 own2 hke2 hk2 hr2 h
      go_wp2
      exact bodyPost_ret (v := .agg #[.slice lo c.toNat lc, .int .i64 a, .int .i64 b, .int .i64 c', .int .i64 d]) (by simp [results, Tryz.results62, go_sem, a0, a1, a2, a3, a4]) rfl HF.out

end Go.Proofs.YtblhmeidbjigaaaGreatDoor

/- Texts of terms that are read: where a text stands, the word of a numeral, what there was at the block's begin; what word, made and cells answer. -/
set_option linter.unusedSimpArgs false
set_option linter.unusedVariables false
namespace Go.Proofs.YtblhmeidbjigaaaGreatDoor
open Go.RowKit

theorem digW_dec (u : Nat) : digW (Lib.decDigits u) 0 = wrap64 (u : Int) := by
  induction u using Nat.strongRecOn with
  | _ u ih =>
    by_cases h : u < 10
    · rw [Lib.decDigits_one h]
      show wrap64 (10 * 0 + (((UInt8.ofNat (48 + u)).toNat : Int) - 48)) = _
      rw [digit_byte h]
      congr 1
      omega
    · rw [Lib.decDigits, dif_neg h, digW_snoc, ih (u / 10) (by omega), digit_byte (Nat.mod_lt _ (by decide))]
      unfold wrap64
      omega

theorem drop_next {L : List UInt8} {n : Nat} {c : UInt8} {x : List UInt8} (h : L.drop n = c :: x) : n < L.length ∧ nextB L n = (c.toNat : Int) ∧ L.drop (n + 1) = x := by
  have hn : n < L.length := by
    by_cases e : n < L.length
    · exact e
    · rw [List.drop_eq_nil_of_le (by omega)] at h; cases h
  rw [List.drop_eq_getElem_cons hn] at h
  obtain ⟨h1, h2⟩ := List.cons.inj h
  refine ⟨hn, ?_, h2⟩
  unfold nextB
  rw [← h1]
  simp [List.getD, hn]

theorem drop_past {L : List UInt8} {n : Nat} {s x : List UInt8} (h : L.drop n = s ++ x) : L.drop (n + s.length) = x := by
  rw [← List.drop_drop, h, List.drop_left]

theorem drop_len {L : List UInt8} {n : Nat} {s x : List UInt8} (h : L.drop n = s ++ x) (hn : n ≤ L.length) : n + s.length ≤ L.length := by
  have := congrArg List.length h
  simp at this
  omega

theorem drop_byte {L : List UInt8} {n j : Nat} : L.getD (n + j) 0 = (L.drop n).getD j 0 := by
  simp [List.getD, List.getElem?_drop]

theorem digits_at {L : List UInt8} {n : Nat} {ds x : List UInt8} (h : L.drop n = ds ++ x) (hx : Stops x) (hd : ∀ d ∈ ds, 48 ≤ d.toNat ∧ d.toNat ≤ 57) (hne : ds ≠ []) : DigitsAt L n ds := by
  have hn : n ≤ L.length := by
    by_cases e : n ≤ L.length
    · exact e
    · rw [List.drop_eq_nil_of_le (by omega)] at h
      cases ds with
      | nil => exact absurd rfl hne
      | cons a b => cases h
  refine ⟨drop_len h hn, fun j hj => ?_, hd, fun hlt => ?_, hne⟩
  · rw [drop_byte, h]
    simp [List.getD, List.getElem?_append, hj]
  · have e : L.getD (n + ds.length) 0 = x.getD 0 0 := by
      have := drop_byte (L := L) (n := n + ds.length) (j := 0)
      rw [Nat.add_zero, drop_past h] at this
      exact this
    rw [e]
    cases x with
    | nil =>
      have := congrArg List.length h
      simp at this
      omega
    | cons c l =>
      have := hx c l rfl
      simp only [numByte, decide_eq_false_iff_not] at this
      intro q
      exact this (.inr q)

theorem stops_cons {c : UInt8} {x : List UInt8} (h : numByte c = false) : Stops (c :: x) := by
  intro d l e
  cases e
  exact h

/-- A list of words that lies apart from the block Rb. -/
def RdAway (w : World) (Rb : Nat) (v : Value) (l : List Int) : Prop :=
  ∃ ao cap, v = .slice ao l.length cap ∧ l.length ≤ 1000 ∧ ∀ i, i < l.length → ∃ b off, ao = some ⟨b, off, none⟩ ∧ b ≠ Rb ∧ w.cell? ⟨b, off + i, none⟩ = some (.int .i64 (l.getD i 0))

theorem RdAway.kept {w w' : World} {Rb : Nat} {v : Value} {l : List Int} (h : RdAway w Rb v l) (hk : Keep (fun g => g = Rb) w w') : RdAway w' Rb v l := by
  obtain ⟨ao, cap, rfl, hl, hc⟩ := h
  exact ⟨ao, cap, rfl, hl, fun i hi => let ⟨b, off, e, h0, h1⟩ := hc i hi; ⟨b, off, e, h0, hk.cell h0 h1⟩⟩

theorem RdAway.words {w : World} {Rb : Nat} {v : Value} {l : List Int} (h : RdAway w Rb v l) : RdWords w v l := by
  obtain ⟨ao, cap, rfl, hl, hc⟩ := h
  exact ⟨ao, cap, rfl, by omega, fun i hi => let ⟨b, off, e, _, h1⟩ := hc i hi; ⟨b, off, e, h1⟩⟩

theorem owns_away {w : World} {B Rb : Nat} {v : Value} {l : List Int} (h : w.ownsRow B 3 1 v l.length (ints l)) (hb : Rb < B) (hl : l.length ≤ 1000) : RdAway w Rb v l := by
  obtain ⟨ao, cap, rfl⟩ := owns_slice h
  refine ⟨ao, cap, rfl, hl, fun i hi => ?_⟩
  have hil : i < (ints l).length := by rw [ints_length]; exact hi
  obtain ⟨b, h1, h2, h3, h4⟩ := owns_cell h rfl hil
  refine ⟨b, 0, h1, by omega, ?_⟩
  rw [Nat.zero_add, h4]
  simp [ints, List.getD, hi]

/-- What there was at the block's begin, as the reading has it. -/
structure RdEnv (r : EnvD) (rg sl dt : Nat) (w : World) (Rb : Nat) (rv sv mv : Value) : Prop where
  reg : ∃ l, RdAway w Rb rv l ∧ l.length = rg ∧ ∀ i, i < rg → l.getD i 0 = r.reg i
  slot : ∃ l, RdAway w Rb sv l ∧ l.length = sl ∧ ∀ i, i < sl → l.getD i 0 = r.unk ((rg : Int) + i)
  mem : ∃ l, RdAway w Rb mv l ∧ l.length = dt ∧ ∀ i, i < dt → l.getD i 0 = r.mem i

theorem RdEnv.kept {r : EnvD} {rg sl dt : Nat} {w w' : World} {Rb : Nat} {rv sv mv : Value} (h : RdEnv r rg sl dt w Rb rv sv mv) (hk : Keep (fun g => g = Rb) w w') : RdEnv r rg sl dt w' Rb rv sv mv :=
  ⟨let ⟨l, a, b⟩ := h.reg; ⟨l, a.kept hk, b⟩, let ⟨l, a, b⟩ := h.slot; ⟨l, a.kept hk, b⟩, let ⟨l, a, b⟩ := h.mem; ⟨l, a.kept hk, b⟩⟩

/-- The cells that a term stands for. -/
noncomputable def cellL (r : EnvD) (dt : Nat) (t : TD) : List Int := (List.range dt).map fun (i : Nat) => evM r t (i : Int)

theorem cellL_length (r : EnvD) (dt : Nat) (t : TD) : (cellL r dt t).length = dt := by simp [cellL]
theorem cellL_get (r : EnvD) (dt : Nat) (t : TD) {i : Nat} (hi : i < dt) : (cellL r dt t).getD i 0 = evM r t i := by simp [cellL, List.getD, hi]

theorem cellL_set (r : EnvD) (dt : Nat) (k : Int) (c a v : TD) {i : Nat} (hi : i < dt) (ha : evW r a = i) : (cellL r dt c).set i (evW r v) = cellL r dt (.three k c a v) := by
  apply List.ext_getElem
  · simp [cellL]
  · intro j h1 h2
    have hj : j < dt := by simpa [cellL] using h1
    rw [List.getElem_set]
    simp only [cellL, List.getElem_map, List.getElem_range]
    have e : evM r (.three k c a v) (j : Int) = if (j : Int) = evW r a then evW r v else evM r c j := rfl
    rw [e, ha]
    by_cases q : i = j
    · rw [if_pos q, if_pos (by omega)]
    · rw [if_neg q, if_neg (by omega)]

/-- What word answers at the text of t. -/
def RWordC (r : EnvD) (rg sl dt : Nat) (t : TD) : Prop :=
  ∀ (Rb : Nat) (L : List UInt8) (n : Nat) (rest : List UInt8) (rv sv mv : Value) (w : World) (Post : Ending → World → Prop), Row w Rb 57 (rdgC L n false rv sv mv) → RdEnv r rg sl dt w Rb rv sv mv → L.length ≤ 1000000000 → L.drop n = showT t ++ rest → Stops rest →
    (∀ w', Row w' Rb 57 (rdgC L ((n + (showT t).length : Nat) : Int) false rv sv mv) → Keep (fun g => g = Rb) w w' → Post (.returned (.int .i64 (evW r t))) w') →
    Calls Tryz.prog 20 #[.pointer (some ⟨Rb, 0, none⟩)] w Post

/-- What cells answers at the text of t. -/
def RCellsC (r : EnvD) (rg sl dt : Nat) (t : TD) : Prop :=
  ∀ (Rb : Nat) (L : List UInt8) (n : Nat) (rest : List UInt8) (rv sv mv : Value) (w : World) (Post : Ending → World → Prop), Row w Rb 57 (rdgC L n false rv sv mv) → RdEnv r rg sl dt w Rb rv sv mv → L.length ≤ 1000000000 → L.drop n = showT t ++ rest → Stops rest →
    (∀ v' w', w'.ownsRow w.heap.size 3 1 v' (cellL r dt t).length (ints (cellL r dt t)) → Row w' Rb 57 (rdgC L ((n + (showT t).length : Nat) : Int) false rv sv mv) → Keep (fun g => g = Rb) w w' → Post (.returned v') w') →
    Calls Tryz.prog 21 #[.pointer (some ⟨Rb, 0, none⟩)] w Post

/-- What made answers behind the bracket of two k a b. -/
def RMadeC (r : EnvD) (rg sl dt : Nat) (k : Int) (a b : TD) : Prop :=
  ∀ (Rb : Nat) (L : List UInt8) (n : Nat) (rest : List UInt8) (rv sv mv : Value) (w : World) (Post : Ending → World → Prop), Row w Rb 57 (rdgC L n false rv sv mv) → RdEnv r rg sl dt w Rb rv sv mv → L.length ≤ 1000000000 → L.drop n = signT k :: 32 :: (showT a ++ 32 :: (showT b ++ 41 :: rest)) →
    (∀ w', Row w' Rb 57 (rdgC L ((n + ((showT a).length + (showT b).length + 4) : Nat) : Int) false rv sv mv) → Keep (fun g => g = Rb) w w' → Post (.returned (.int .i64 (evW r (.two k a b)))) w') →
    Calls Tryz.prog 52 #[.pointer (some ⟨Rb, 0, none⟩)] w Post

end Go.Proofs.YtblhmeidbjigaaaGreatDoor

/- Texts of terms that are read: word. -/
set_option linter.unusedSimpArgs false
set_option linter.unusedVariables false
namespace Go.Proofs.YtblhmeidbjigaaaGreatDoor
open Go.RowKit Go.Deep


set_option maxRecDepth 100000 in
set_option maxHeartbeats 1000000 in
/-- A numeral without a sign. -/
theorem word_num (ds : List UInt8) (c : Nat) (Rb : Nat) (L : List UInt8) (n : Nat) (rest : List UInt8) (rv sv mv : Value) (w : World) (Post : Ending → World → Prop) (h : Row w Rb 57 (rdgC L n false rv sv mv)) (hL : L.length ≤ 1000000000) (hd : DigitsAt L n ds) (hc : nextB L n = (c : Int)) (hc1 : 48 ≤ c ∧ c ≤ 57)
    (hp : ∀ w', Row w' Rb 57 (rdgC L ((n + ds.length : Nat) : Int) false rv sv mv) → Keep (fun g => g = Rb) w w' → Post (.returned (.int .i64 (digW ds 0))) w') :
    Calls Tryz.prog 20 #[.pointer (some ⟨Rb, 0, none⟩)] w Post := by
  have hc2 : ¬ ((c : Int) = 45) := by omega
  have hc3 : (48 : Int) ≤ (c : Int) := by omega
  have hc4 : (c : Int) ≤ 57 := by omega
  have q1 := kByteAt_any Rb L n false rv sv mv w h hL
  have rN : ∀ m, Row (w.drewN m) Rb 57 (rdgC L n false rv sv mv) := fun m => h.keep (below_drewN (Below.refl _ _) m)
  have kN : ∀ m, Keep (fun g => g = Rb) w (w.drewN m) := fun m => (Keep.refl (fun g => g = Rb) w).below (below_drewN (Below.refl w.heap.size w) m) (Nat.le_refl _)
  rw [hc] at q1
  have c2 := h.cell (i := 2) rfl
  have HP := Lib.hid hp
  have HR := Lib.hid rN
  have HK := Lib.hid kN
  clear h hp rN kN hc
  go_enter Tryz.func20, Tryz.ntmps20
  go_wp2_with fail
  refine q1.mono ?_
  rintro e w1 ⟨rfl, m, rfl⟩
  have r1 := HR.out m
  have k1 := HK.out m
  clear q1 c2 HR HK
  have q2 := fun P' => kDigits_cps Rb L n false rv sv mv ds (w.drewN m) r1 hL hd P'
  go_wp2_with fail
  refine q2 _ ?_
  intro w2 r2 k2
  have HF := Lib.hid (HP.out w2 r2 (k1.trans k2))
  clear HP q2 r2 k2 r1 k1
  go_wp2
  first | exact HF.out | (go_ret; exact HF.out)

set_option maxRecDepth 100000 in
set_option maxHeartbeats 1000000 in
/-- A numeral with a sign. -/
theorem word_neg (ds : List UInt8) (Rb : Nat) (L : List UInt8) (n : Nat) (rest : List UInt8) (rv sv mv : Value) (w : World) (Post : Ending → World → Prop) (h : Row w Rb 57 (rdgC L n false rv sv mv)) (hL : L.length ≤ 1000000000) (hn : n < L.length) (hd : DigitsAt L (n + 1) ds) (hc : nextB L n = 45) (x : Int) (hx : x = wrap64 (0 - digW ds 0))
    (hp : ∀ w', Row w' Rb 57 (rdgC L ((n + 1 + ds.length : Nat) : Int) false rv sv mv) → Keep (fun g => g = Rb) w w' → Post (.returned (.int .i64 x)) w') :
    Calls Tryz.prog 20 #[.pointer (some ⟨Rb, 0, none⟩)] w Post := by
  have HX := Lib.hid hx
  clear hx
  have q1 := kByteAt_any Rb L n false rv sv mv w h hL
  have rN : ∀ m, Row (w.drewN m) Rb 57 (rdgC L n false rv sv mv) := fun m => h.keep (below_drewN (Below.refl _ _) m)
  have kN : ∀ m, Keep (fun g => g = Rb) w (w.drewN m) := fun m => (Keep.refl (fun g => g = Rb) w).below (below_drewN (Below.refl w.heap.size w) m) (Nat.le_refl _)
  rw [hc] at q1
  have c2 := h.cell (i := 2) rfl
  have HP := Lib.hid hp
  have HR := Lib.hid rN
  have HK := Lib.hid kN
  clear h hp rN kN hc
  go_enter Tryz.func20, Tryz.ntmps20
  go_wp2_with fail
  refine q1.mono ?_
  rintro e w1 ⟨rfl, m, rfl⟩
  have r1 := HR.out m
  have k1 := HK.out m
  clear q1 c2 HR HK
  have d1 := r1.cell (i := 1) rfl
  have g1 := r1.frozen 1
  have r2 := r1.set 1 (.int .i64 ((n : Int) + 1))
  have k2 := k1.setCell (p := ⟨Rb, 1, none⟩) (.inl rfl) (.int .i64 ((n : Int) + 1))
  have hw1 : IntKind.i64.wrap ((n : Int) + 1) = (n : Int) + 1 := by rw [IntKind.wrap_i64]; omega
  have EN : Hid (((n : Int) + 1) = ((n + 1 : Nat) : Int)) := by show _ = _; omega
  have q2 := fun P' => kDigits_cps Rb L (n + 1) false rv sv mv ds ((w.drewN m).setCell ⟨Rb, 1, none⟩ (.int .i64 ((n : Int) + 1))) (by rw [← EN.out]; exact r2) hL hd P'
  have K2 := Lib.hid k2
  clear r2 k2 r1 k1
  go_wp2_with fail
  refine q2 _ ?_
  intro w2 r3 k3
  have HF := Lib.hid (HP.out w2 r3 (K2.out.trans k3))
  obtain ⟨V, hV⟩ : ∃ V, V = digW ds 0 := ⟨_, rfl⟩
  rw [← hV] at HX
  rw [← hV]
  clear HP q2 r3 k3 d1 g1 hV K2
  go_wp2
  have HF2 := HF.out
  rw [HX.out] at HF2
  first | exact HF2 | (go_ret; exact HF2) | (simp at HF2 ⊢; exact HF2)

set_option maxRecDepth 100000 in
set_option maxHeartbeats 1000000 in
/-- A register. -/
theorem word_reg (ds : List UInt8) (i : Nat) (l : List Int) (Rb : Nat) (L : List UInt8) (n : Nat) (rest : List UInt8) (rv sv mv : Value) (w : World) (Post : Ending → World → Prop) (h : Row w Rb 57 (rdgC L n false rv sv mv)) (hL : L.length ≤ 1000000000) (hn : n < L.length) (hd : DigitsAt L (n + 1) ds) (hc : nextB L n = 114) (hi : digW ds 0 = (i : Int)) (hl : RdAway w Rb rv l) (hil : i < l.length)
    (hp : ∀ w', Row w' Rb 57 (rdgC L ((n + 1 + ds.length : Nat) : Int) false rv sv mv) → Keep (fun g => g = Rb) w w' → Post (.returned (.int .i64 (l.getD i 0))) w') :
    Calls Tryz.prog 20 #[.pointer (some ⟨Rb, 0, none⟩)] w Post := by
  have HLW := Lib.hid hl
  obtain ⟨ro, rc, rfl, hl9, _⟩ := id hl
  clear hl
  have q1 := kByteAt_any Rb L n false (.slice ro l.length rc) sv mv w h hL
  have rN : ∀ m, Row (w.drewN m) Rb 57 (rdgC L n false (.slice ro l.length rc) sv mv) := fun m => h.keep (below_drewN (Below.refl _ _) m)
  have kN : ∀ m, Keep (fun g => g = Rb) w (w.drewN m) := fun m => (Keep.refl (fun g => g = Rb) w).below (below_drewN (Below.refl w.heap.size w) m) (Nat.le_refl _)
  rw [hc] at q1
  have c2 := h.cell (i := 2) rfl
  have HP := Lib.hid hp
  have HR := Lib.hid rN
  have HK := Lib.hid kN
  clear h hp rN kN hc
  go_enter Tryz.func20, Tryz.ntmps20
  go_wp2_with fail
  refine q1.mono ?_
  rintro e w1 ⟨rfl, m, rfl⟩
  have r1 := HR.out m
  have k1 := HK.out m
  clear q1 c2 HR HK
  have d1 := r1.cell (i := 1) rfl
  have g1 := r1.frozen 1
  have r2 := r1.set 1 (.int .i64 ((n : Int) + 1))
  have k2 := k1.setCell (p := ⟨Rb, 1, none⟩) (.inl rfl) (.int .i64 ((n : Int) + 1))
  have hw1 : IntKind.i64.wrap ((n : Int) + 1) = (n : Int) + 1 := by rw [IntKind.wrap_i64]; omega
  have EN : Hid (((n : Int) + 1) = ((n + 1 : Nat) : Int)) := by show _ = _; omega
  have q2 := fun P' => kDigits_cps Rb L (n + 1) false (.slice ro l.length rc) sv mv ds ((w.drewN m).setCell ⟨Rb, 1, none⟩ (.int .i64 ((n : Int) + 1))) (by rw [← EN.out]; exact r2) hL hd P'
  rw [hi] at q2
  have K2 := Lib.hid k2
  clear r2 k2 r1 k1
  go_wp2_with fail
  refine q2 _ ?_
  intro w2 r3 k3
  have k4 := K2.out.trans k3
  have HF := Lib.hid (HP.out w2 r3 k4)
  obtain ⟨ro', rc', e0, _, hcell⟩ := HLW.out.kept k4
  simp only [Value.slice.injEq, true_and] at e0
  obtain ⟨rfl, rfl⟩ := e0
  obtain ⟨b, off, rfl, _, hci⟩ := hcell i hil
  have c3 := r3.cell (i := 3) rfl
  have hii : (0 : Int) ≤ (i : Int) := by omega
  obtain ⟨ll, hll⟩ : ∃ ll, ll = l.length := ⟨_, rfl⟩
  rw [← hll] at c3 hl9 hil
  have hij : (i : Int) < (ll : Int) := by omega
  generalize l.getD i 0 = x at *
  clear HP q2 r3 k3 d1 g1 hcell K2 k4 HLW hll hi hd
  go_wp2
  first | exact HF.out | (go_ret; exact HF.out)

set_option maxRecDepth 100000 in
set_option maxHeartbeats 1000000 in
/-- A slot. -/
theorem word_slot (ds : List UInt8) (i k : Nat) (l lr : List Int) (Rb : Nat) (L : List UInt8) (n : Nat) (rest : List UInt8) (rv sv mv : Value) (w : World) (Post : Ending → World → Prop) (h : Row w Rb 57 (rdgC L n false rv sv mv)) (hL : L.length ≤ 1000000000) (hn : n < L.length) (hd : DigitsAt L (n + 1) ds) (hc : nextB L n = 120) (hi : digW ds 0 = (k : Int)) (hr : RdAway w Rb rv lr) (hk : k = lr.length + i) (hl : RdAway w Rb sv l) (hil : i < l.length)
    (hp : ∀ w', Row w' Rb 57 (rdgC L ((n + 1 + ds.length : Nat) : Int) false rv sv mv) → Keep (fun g => g = Rb) w w' → Post (.returned (.int .i64 (l.getD i 0))) w') :
    Calls Tryz.prog 20 #[.pointer (some ⟨Rb, 0, none⟩)] w Post := by
  have HLW := Lib.hid hl
  obtain ⟨ro, rc, rfl, hl9, _⟩ := id hl
  obtain ⟨ao, ac, rfl, hr9, _⟩ := id hr
  clear hl hr
  obtain ⟨rl, hrl⟩ : ∃ rl, rl = lr.length := ⟨_, rfl⟩
  rw [← hrl] at h hp hk hr9
  clear hrl
  have q1 := kByteAt_any Rb L n false (.slice ao rl ac) (.slice ro l.length rc) mv w h hL
  have rN : ∀ m, Row (w.drewN m) Rb 57 (rdgC L n false (.slice ao rl ac) (.slice ro l.length rc) mv) := fun m => h.keep (below_drewN (Below.refl _ _) m)
  have kN : ∀ m, Keep (fun g => g = Rb) w (w.drewN m) := fun m => (Keep.refl (fun g => g = Rb) w).below (below_drewN (Below.refl w.heap.size w) m) (Nat.le_refl _)
  rw [hc] at q1
  have c2 := h.cell (i := 2) rfl
  have HP := Lib.hid hp
  have HR := Lib.hid rN
  have HK := Lib.hid kN
  clear h hp rN kN hc
  go_enter Tryz.func20, Tryz.ntmps20
  go_wp2_with fail
  refine q1.mono ?_
  rintro e w1 ⟨rfl, m, rfl⟩
  have r1 := HR.out m
  have k1 := HK.out m
  clear q1 c2 HR HK
  have d1 := r1.cell (i := 1) rfl
  have g1 := r1.frozen 1
  have r2 := r1.set 1 (.int .i64 ((n : Int) + 1))
  have k2 := k1.setCell (p := ⟨Rb, 1, none⟩) (.inl rfl) (.int .i64 ((n : Int) + 1))
  have hw1 : IntKind.i64.wrap ((n : Int) + 1) = (n : Int) + 1 := by rw [IntKind.wrap_i64]; omega
  have EN : Hid (((n : Int) + 1) = ((n + 1 : Nat) : Int)) := by show _ = _; omega
  have HQ : Hid (∀ V, Row V Rb 57 (rdgC L ((n + 1 : Nat) : Int) false (.slice ao rl ac) (.slice ro l.length rc) mv) → ∀ P', (∀ w', Row w' Rb 57 (rdgC L ((n + 1 + ds.length : Nat) : Int) false (.slice ao rl ac) (.slice ro l.length rc) mv) → Keep (fun g => g = Rb) V w' → P' (.returned (.int .i64 (k : Int))) w') → Calls Tryz.prog 51 #[.pointer (some ⟨Rb, 0, none⟩)] V P') := by
    intro V hV P' hP'
    refine kDigits_cps Rb L (n + 1) false _ _ mv ds V hV hL hd P' ?_
    rw [hi]
    exact hP'
  have R2 : Row ((w.drewN m).setCell ⟨Rb, 1, none⟩ (.int .i64 ((n : Int) + 1))).drew Rb 57 (rdgC L ((n + 1 : Nat) : Int) false (.slice ao rl ac) (.slice ro l.length rc) mv) := by
    rw [← EN.out]; exact r2.keep (Below.refl _ _).drew
  have K2 : Keep (fun g => g = Rb) w ((w.drewN m).setCell ⟨Rb, 1, none⟩ (.int .i64 ((n : Int) + 1))).drew := k2.below (Below.refl _ _).drew k2.size
  have c30 := R2.cell (i := 3) rfl
  have q3 := HQ.out _ R2
  have H2 := Lib.hid K2
  clear r2 k2 r1 k1 HQ K2 hd hi R2
  go_wp2
  go_region_held3 (fun V => V.cell? ⟨Rb, 3, none⟩ = some (.slice ao rl ac)) (first | with_reducible exact c30 | with_reducible exact c31) (first | (go_at_call 51; refine q3 _ ?_; intro w2 r3 k3; have c31 := r3.cell (i := 3) rfl))
  have k4 := H2.out.trans k3
  have HF := Lib.hid (HP.out w2 r3 k4)
  obtain ⟨ro', rc', e0, _, hcell⟩ := HLW.out.kept k4
  simp only [Value.slice.injEq, true_and] at e0
  obtain ⟨rfl, rfl⟩ := e0
  obtain ⟨b, off, rfl, _, hci⟩ := hcell i hil
  have c4 := r3.cell (i := 4) rfl
  have hii : (0 : Int) ≤ (i : Int) := by omega
  obtain ⟨ll, hll⟩ : ∃ ll, ll = l.length := ⟨_, rfl⟩
  rw [← hll] at c4 hl9 hil
  have hij : (i : Int) < (ll : Int) := by omega
  have hki : (k : Int) - (rl : Int) = (i : Int) := by omega
  generalize l.getD i 0 = x at *
  clear HP q3 r3 k3 d1 g1 hcell H2 k4 HLW hll c30 c31
  go_wp2
  first | exact HF.out | (go_ret; exact HF.out)

set_option maxRecDepth 100000 in
set_option maxHeartbeats 1000000 in
/-- A bracket. -/
theorem word_two {r : EnvD} {rg sl dt : Nat} {k : Int} {a b : TD} (hm : RMadeC r rg sl dt k a b) : RWordC r rg sl dt (.two k a b) := by
  intro Rb L n rest rv sv mv w Post h henv hL htx hst hp
  have e0 : L.drop n = 40 :: signT k :: 32 :: (showT a ++ 32 :: (showT b ++ 41 :: rest)) := by rw [htx]; simp [showT]
  obtain ⟨hn, hc, hdr⟩ := drop_next e0
  have hc : nextB L n = 40 := hc
  have el : (showT (.two k a b)).length = 1 + ((showT a).length + (showT b).length + 4) := by simp [showT]; omega
  rw [el, ← Nat.add_assoc] at hp
  have henvK := fun V (hk : Keep (fun g => g = Rb) w V) => henv.kept hk
  have HM := Lib.hid hm
  clear hm el htx e0 hst henv
  have q1 := kByteAt_any Rb L n false rv sv mv w h hL
  have rN : ∀ m, Row (w.drewN m) Rb 57 (rdgC L n false rv sv mv) := fun m => h.keep (below_drewN (Below.refl _ _) m)
  have kN : ∀ m, Keep (fun g => g = Rb) w (w.drewN m) := fun m => (Keep.refl (fun g => g = Rb) w).below (below_drewN (Below.refl w.heap.size w) m) (Nat.le_refl _)
  rw [hc] at q1
  have c2 := h.cell (i := 2) rfl
  have HP := Lib.hid hp
  have HR := Lib.hid rN
  have HK := Lib.hid kN
  clear h hp rN kN hc
  go_enter Tryz.func20, Tryz.ntmps20
  go_wp2_with fail
  refine q1.mono ?_
  rintro e w1 ⟨rfl, m, rfl⟩
  have r1 := HR.out m
  have k1 := HK.out m
  clear q1 c2 HR HK
  have d1 := r1.cell (i := 1) rfl
  have g1 := r1.frozen 1
  have r2 := r1.set 1 (.int .i64 ((n : Int) + 1))
  have k2 := k1.setCell (p := ⟨Rb, 1, none⟩) (.inl rfl) (.int .i64 ((n : Int) + 1))
  have hw1 : IntKind.i64.wrap ((n : Int) + 1) = (n : Int) + 1 := by rw [IntKind.wrap_i64]; omega
  have EN : Hid (((n : Int) + 1) = ((n + 1 : Nat) : Int)) := by show _ = _; omega
  have q2 := HM.out Rb L (n + 1) rest rv sv mv ((w.drewN m).setCell ⟨Rb, 1, none⟩ (.int .i64 ((n : Int) + 1)))
  have q3 := fun P' => q2 P' (by rw [← EN.out]; exact r2) (henvK _ k2) hL hdr
  have K2 := Lib.hid k2
  clear q2 r2 k2 r1 k1 henvK hdr HM
  go_wp2_with fail
  refine q3 _ ?_
  intro w2 r3 k3
  have HF := Lib.hid (HP.out w2 r3 (K2.out.trans k3))
  clear HP q3 r3 k3 d1 g1 K2
  go_wp2
  first | exact HF.out | (go_ret; exact HF.out)

end Go.Proofs.YtblhmeidbjigaaaGreatDoor

/- Texts of terms that are read: made, cells; all. -/
set_option linter.unusedSimpArgs false
set_option linter.unusedVariables false
namespace Go.Proofs.YtblhmeidbjigaaaGreatDoor
open Go.RowKit Go.Deep


set_option maxRecDepth 100000 in
set_option maxHeartbeats 1000000 in
/-- A sign and two words. -/
theorem made_word {r : EnvD} {rg sl dt : Nat} {k : Int} {a b : TD} (ha : RWordC r rg sl dt a) (hb : RWordC r rg sl dt b) (hk : 3 ≤ k ∧ k ≤ 11) (hd : k = 11 → evW r b ≠ 0) : RMadeC r rg sl dt k a b := by
  intro Rb L n rest rv sv mv w Post h henv hL htx hp
  obtain ⟨hn, hc, t1⟩ := drop_next htx
  obtain ⟨S, hS⟩ : ∃ S : Int, S = ((signT k).toNat : Int) := ⟨_, rfl⟩
  rw [← hS] at hc
  have hs64 : ¬ (S = 64) := by
    rw [hS]
    obtain rfl | rfl | rfl | rfl | rfl | rfl | rfl | rfl | rfl : k = 3 ∨ k = 4 ∨ k = 5 ∨ k = 6 ∨ k = 7 ∨ k = 8 ∨ k = 9 ∨ k = 10 ∨ k = 11 := by omega
    all_goals simp [signT]
  have HC : Hid (∀ w', Calls Tryz.prog 83 #[.int .u8 S, .int .i64 (evW r a), .int .i64 (evW r b)] w' fun e w2 => e = .returned (.tuple #[.int .i64 (calcW k (evW r a) (evW r b)), .bool true]) ∧ w' = w2) := fun w' => by
    rw [hS]; exact kCalc_any k (evW r a) (evW r b) w' hk hd
  have HE : Hid (evW r (.two k a b) = calcW k (evW r a) (evW r b)) := by
    show (if k = 12 then _ else calcW k (evW r a) (evW r b)) = _
    rw [if_neg (by omega)]
  have s1 : Stops (32 :: (showT b ++ 41 :: rest)) := stops_cons (by decide)
  have s2 : Stops (41 :: rest) := stops_cons (by decide)
  have HA := Lib.hid ha
  have HB := Lib.hid hb
  have q1 := kByteAt_any Rb L n false rv sv mv w h hL
  have rN : ∀ m, Row (w.drewN m) Rb 57 (rdgC L n false rv sv mv) := fun m => h.keep (below_drewN (Below.refl _ _) m)
  have kN : ∀ m, Keep (fun g => g = Rb) w (w.drewN m) := fun m => (Keep.refl (fun g => g = Rb) w).below (below_drewN (Below.refl w.heap.size w) m) (Nat.le_refl _)
  rw [hc] at q1
  have HP := Lib.hid hp
  have HR := Lib.hid rN
  have HK := Lib.hid kN
  have HENV := Lib.hid henv
  clear h hp rN kN hc ha hb hk hd hS htx henv
  go_enter Tryz.func52, Tryz.ntmps52
  go_wp2_with fail
  refine q1.mono ?_
  rintro e w1 ⟨rfl, m, rfl⟩
  have r1 := HR.out m
  have k1 := HK.out m
  clear q1 HR HK
  have d1 := r1.cell (i := 1) rfl
  have g1 := r1.frozen 1
  have r2 := r1.set 1 (.int .i64 ((n : Int) + 1))
  have k2 := k1.setCell (p := ⟨Rb, 1, none⟩) (.inl rfl) (.int .i64 ((n : Int) + 1))
  have hw1 : IntKind.i64.wrap ((n : Int) + 1) = (n : Int) + 1 := by rw [IntKind.wrap_i64]; omega
  have R2 : Row ((w.drewN m).setCell ⟨Rb, 1, none⟩ (.int .i64 ((n : Int) + 1))) Rb 57 (rdgC L ((n + 1 : Nat) : Int) false rv sv mv) := r2
  have K2 := Lib.hid k2
  clear r2 k2 r1 k1
  obtain ⟨q2n, q2c, q2d⟩ := drop_next t1
  have q2 := fun P' => kTake_cps Rb L (n + 1) false rv sv mv 32 ((w.drewN m).setCell ⟨Rb, 1, none⟩ (.int .i64 ((n : Int) + 1))) R2 hL q2n q2c P'
  clear q2c q2n
  go_wp2_with fail
  refine q2 _ ?_
  intro w2 q2r q2k
  have q2K := Lib.hid (K2.out.trans q2k)
  clear q2 q2k
  have q2R : Row w2 Rb 57 (rdgC L ((n + 1 + 1 : Nat) : Int) false rv sv mv) := q2r
  have q3 := fun P' => HA.out Rb L (n + 1 + 1) _ rv sv mv w2 P' q2R (HENV.out.kept q2K.out) hL q2d s1
  clear q2r R2 d1 g1 t1
  go_wp2_with fail
  refine q3 _ ?_
  intro w3 r3 k3
  have K3 := Lib.hid (q2K.out.trans k3)
  have t3 := drop_past q2d
  clear q3 k3 q2K q2d q2R K2
  obtain ⟨p3, hp3⟩ : ∃ p3, p3 = n + 1 + 1 + (showT a).length := ⟨_, rfl⟩
  rw [← hp3] at r3 t3
  have HP3 := Lib.hid hp3
  clear hp3
  obtain ⟨q4n, q4c, q4d⟩ := drop_next t3
  have q4 := fun P' => kTake_cps Rb L p3 false rv sv mv 32 w3 r3 hL q4n q4c P'
  clear q4c q4n
  go_wp2_with fail
  refine q4 _ ?_
  intro w4 q4r q4k
  have q4K := Lib.hid (K3.out.trans q4k)
  clear q4 q4k
  have q4R : Row w4 Rb 57 (rdgC L ((p3 + 1 : Nat) : Int) false rv sv mv) := q4r
  have q5 := fun P' => HB.out Rb L (p3 + 1) _ rv sv mv w4 P' q4R (HENV.out.kept q4K.out) hL q4d s2
  clear q4r r3 t3
  go_wp2_with fail
  refine q5 _ ?_
  intro w5 r5 k5
  have K5 := Lib.hid (q4K.out.trans k5)
  have t5 := drop_past q4d
  clear q5 k5 q4K q4d q4R K3
  obtain ⟨p5, hp5⟩ : ∃ p5, p5 = p3 + 1 + (showT b).length := ⟨_, rfl⟩
  rw [← hp5] at r5 t5
  have HP5 := Lib.hid hp5
  clear hp5
  obtain ⟨q6n, q6c, q6d⟩ := drop_next t5
  have q6 := fun P' => kTake_cps Rb L p5 false rv sv mv 41 w5 r5 hL q6n q6c P'
  clear q6c q6n
  go_wp2_with fail
  refine q6 _ ?_
  intro w6 q6r q6k
  have q6K := Lib.hid (K5.out.trans q6k)
  clear q6 q6k
  have q6R : Row w6 Rb 57 (rdgC L ((n + ((showT a).length + (showT b).length + 4) : Nat) : Int) false rv sv mv) := by
    have e : n + ((showT a).length + (showT b).length + 4) = p5 + 1 := by rw [HP5.out, HP3.out]; omega
    rw [e]; exact q6r
  have HF := Lib.hid (HP.out w6 q6R q6K.out)
  rw [HE.out] at HF
  have q7 := HC.out w6
  clear q6r q6R q6K q6d r5 t5 HP K5 HC HE HA HB HENV s1 s2 HP3 HP5
  generalize calcW k (evW r a) (evW r b) = V at *
  generalize evW r a = X at *
  generalize evW r b = Y at *
  go_wp2_with fail
  refine q7.mono ?_
  rintro e w7 ⟨rfl, rfl⟩
  go_wp2
  first | exact HF.out | (go_ret; exact HF.out)

set_option maxRecDepth 100000 in
set_option maxHeartbeats 1000000 in
/-- A cell out of all cells. -/
theorem made_cell {r : EnvD} {rg sl dt : Nat} {a b : TD} (ha : RCellsC r rg sl dt a) (hb : RWordC r rg sl dt b) (hi : 0 ≤ evW r b ∧ evW r b < dt) (hdt : dt ≤ 1000) : RMadeC r rg sl dt 12 a b := by
  intro Rb L n rest rv sv mv w Post h henv hL htx hp
  obtain ⟨hn, hc, t1⟩ := drop_next htx
  have hc : nextB L n = 64 := by rw [hc]; simp [signT]
  obtain ⟨i, hie⟩ : ∃ i : Nat, evW r b = (i : Int) := ⟨(evW r b).toNat, by omega⟩
  have HIE := Lib.hid hie
  have HE : Hid (evW r (.two 12 a b) = evM r a (i : Int)) := by
    show (if (12 : Int) = 12 then evM r a (evW r b) else calcW 12 (evW r a) (evW r b)) = _
    rw [if_pos rfl, hie]
  have hid' : i < dt := by omega
  have hlt := h.lt
  have s1 : Stops (32 :: (showT b ++ 41 :: rest)) := stops_cons (by decide)
  have s2 : Stops (41 :: rest) := stops_cons (by decide)
  have HA := Lib.hid ha
  have HB := Lib.hid hb
  have q1 := kByteAt_any Rb L n false rv sv mv w h hL
  have rN : ∀ m, Row (w.drewN m) Rb 57 (rdgC L n false rv sv mv) := fun m => h.keep (below_drewN (Below.refl _ _) m)
  have kN : ∀ m, Keep (fun g => g = Rb) w (w.drewN m) := fun m => (Keep.refl (fun g => g = Rb) w).below (below_drewN (Below.refl w.heap.size w) m) (Nat.le_refl _)
  rw [hc] at q1
  have HP := Lib.hid hp
  have HR := Lib.hid rN
  have HK := Lib.hid kN
  have HENV := Lib.hid henv
  clear h hp rN kN hc ha hb htx henv hie hi
  go_enter Tryz.func52, Tryz.ntmps52
  go_wp2_with fail
  refine q1.mono ?_
  rintro e w1 ⟨rfl, m, rfl⟩
  have r1 := HR.out m
  have k1 := HK.out m
  clear q1 HR HK
  have d1 := r1.cell (i := 1) rfl
  have g1 := r1.frozen 1
  have r2 := r1.set 1 (.int .i64 ((n : Int) + 1))
  have k2 := k1.setCell (p := ⟨Rb, 1, none⟩) (.inl rfl) (.int .i64 ((n : Int) + 1))
  have hw1 : IntKind.i64.wrap ((n : Int) + 1) = (n : Int) + 1 := by rw [IntKind.wrap_i64]; omega
  have R2 : Row ((w.drewN m).setCell ⟨Rb, 1, none⟩ (.int .i64 ((n : Int) + 1))) Rb 57 (rdgC L ((n + 1 : Nat) : Int) false rv sv mv) := r2
  have K2 := Lib.hid k2
  clear r2 k2 r1 k1
  obtain ⟨q2n, q2c, q2d⟩ := drop_next t1
  have q2 := fun P' => kTake_cps Rb L (n + 1) false rv sv mv 32 ((w.drewN m).setCell ⟨Rb, 1, none⟩ (.int .i64 ((n : Int) + 1))) R2 hL q2n q2c P'
  clear q2c q2n
  go_wp2_with fail
  refine q2 _ ?_
  intro w2 q2r q2k
  have q2K := Lib.hid (K2.out.trans q2k)
  clear q2 q2k
  have q2R : Row w2 Rb 57 (rdgC L ((n + 1 + 1 : Nat) : Int) false rv sv mv) := q2r
  have q3 := fun P' => HA.out Rb L (n + 1 + 1) _ rv sv mv w2 P' q2R (HENV.out.kept q2K.out) hL q2d s1
  have hRb : Rb < w2.heap.size := q2R.lt
  clear q2r R2 d1 g1 t1
  go_wp2_with fail
  refine q3 _ ?_
  intro v3 w3 ow3 r3 k3
  have K3 := Lib.hid (q2K.out.trans k3)
  have aw3 := Lib.hid (owns_away ow3 hRb (by rw [cellL_length]; exact hdt))
  have t3 := drop_past q2d
  obtain ⟨lo, lc, hv3⟩ := owns_slice ow3
  rw [cellL_length] at hv3
  subst hv3
  clear q3 k3 q2K q2d q2R K2 ow3
  obtain ⟨p3, hp3⟩ : ∃ p3, p3 = n + 1 + 1 + (showT a).length := ⟨_, rfl⟩
  rw [← hp3] at r3 t3
  have HP3 := Lib.hid hp3
  clear hp3
  obtain ⟨q4n, q4c, q4d⟩ := drop_next t3
  have q4 := fun P' => kTake_cps Rb L p3 false rv sv mv 32 w3 r3 hL q4n q4c P'
  clear q4c q4n
  go_wp2_with fail
  refine q4 _ ?_
  intro w4 q4r q4k
  have q4K := Lib.hid (K3.out.trans q4k)
  have aw4 := Lib.hid (aw3.out.kept q4k)
  clear q4 q4k aw3
  have q4R : Row w4 Rb 57 (rdgC L ((p3 + 1 : Nat) : Int) false rv sv mv) := q4r
  have q5 := fun P' => HB.out Rb L (p3 + 1) _ rv sv mv w4 P' q4R (HENV.out.kept q4K.out) hL q4d s2
  rw [HIE.out] at q5
  clear q4r r3 t3
  go_wp2_with fail
  refine q5 _ ?_
  intro w5 r5 k5
  have K5 := Lib.hid (q4K.out.trans k5)
  have aw5 := Lib.hid (aw4.out.kept k5)
  have t5 := drop_past q4d
  clear q5 k5 q4K q4d q4R K3 aw4
  obtain ⟨p5, hp5⟩ : ∃ p5, p5 = p3 + 1 + (showT b).length := ⟨_, rfl⟩
  rw [← hp5] at r5 t5
  have HP5 := Lib.hid hp5
  clear hp5
  obtain ⟨q6n, q6c, q6d⟩ := drop_next t5
  have q6 := fun P' => kTake_cps Rb L p5 false rv sv mv 41 w5 r5 hL q6n q6c P'
  clear q6c q6n
  go_wp2_with fail
  refine q6 _ ?_
  intro w6 q6r q6k
  have q6K := Lib.hid (K5.out.trans q6k)
  obtain ⟨ro', rc', e0, _, hcell⟩ := aw5.out.kept q6k
  have q6R : Row w6 Rb 57 (rdgC L ((n + ((showT a).length + (showT b).length + 4) : Nat) : Int) false rv sv mv) := by
    have e : n + ((showT a).length + (showT b).length + 4) = p5 + 1 := by rw [HP5.out, HP3.out]; omega
    rw [e]; exact q6r
  have HF := Lib.hid (HP.out w6 q6R q6K.out)
  rw [HE.out] at HF
  rw [cellL_length] at e0 hcell
  simp only [Value.slice.injEq, true_and] at e0
  obtain ⟨rfl, rfl⟩ := e0
  obtain ⟨bb, off, rfl, _, hci⟩ := hcell i hid'
  rw [cellL_get r dt a hid'] at hci
  have hii : (0 : Int) ≤ (i : Int) := by omega
  have hij : (i : Int) < (dt : Int) := by omega
  clear q6 q6k q6r q6R q6K q6d r5 t5 HP K5 HE HA HB HENV s1 s2 HP3 HP5 aw5 hcell HIE
  generalize evM r a (i : Int) = V at *
  go_wp2
  first | exact HF.out | (go_ret; exact HF.out)

set_option maxRecDepth 100000 in
set_option maxHeartbeats 1000000 in
/-- The cells as they were. -/
theorem cells_leaf {r : EnvD} {rg sl dt : Nat} (n0 : Int) (hdt : dt ≤ 1000) : RCellsC r rg sl dt (.leaf 103 n0) := by
  intro Rb L n rest rv sv mv w Post h henv hL htx hst hp
  have e0 : L.drop n = 109 :: rest := by rw [htx]; simp [showT]
  obtain ⟨hn, hc, t1⟩ := drop_next e0
  have hc : nextB L n = 109 := hc
  obtain ⟨l, hla, hll, hlm⟩ := henv.mem
  have HCL : Hid (padTo l dt = cellL r dt (.leaf 103 n0)) := by
    show _ = _
    unfold padTo cellL
    refine List.map_congr_left ?_
    intro i hi
    exact hlm i (List.mem_range.1 hi)
  have el : n + (showT (.leaf 103 n0)).length = n + 1 := by simp [showT]
  rw [el] at hp
  have HLA := Lib.hid hla
  obtain ⟨mo, mc, hmv, _, _⟩ := id hla
  rw [hll] at hmv
  subst hmv
  have hlt := h.lt
  have q1 := kByteAt_any Rb L n false rv sv (.slice mo dt mc) w h hL
  have rN : ∀ m, Row (w.drewN m) Rb 57 (rdgC L n false rv sv (.slice mo dt mc)) := fun m => h.keep (below_drewN (Below.refl _ _) m)
  have kN : ∀ m, Keep (fun g => g = Rb) w (w.drewN m) := fun m => (Keep.refl (fun g => g = Rb) w).below (below_drewN (Below.refl w.heap.size w) m) (Nat.le_refl _)
  rw [hc] at q1
  have HP := Lib.hid hp
  have HR := Lib.hid rN
  have HK := Lib.hid kN
  clear h hp rN kN hc htx e0 el hst henv hlm hla hll
  go_enter Tryz.func21, Tryz.ntmps21
  go_wp2_with fail
  refine q1.mono ?_
  rintro e w1 ⟨rfl, m, rfl⟩
  have r1 := HR.out m
  have k1 := HK.out m
  have d2 := r1.cell (i := 2) rfl
  have d1 := r1.cell (i := 1) rfl
  have g1 := r1.frozen 1
  have r2 := r1.set 1 (.int .i64 ((n : Int) + 1))
  have k2 := k1.setCell (p := ⟨Rb, 1, none⟩) (.inl rfl) (.int .i64 ((n : Int) + 1))
  have hw1 : IntKind.i64.wrap ((n : Int) + 1) = (n : Int) + 1 := by rw [IntKind.wrap_i64]; omega
  obtain ⟨W, hW⟩ : ∃ W, W = ((w.drewN m).setCell ⟨Rb, 1, none⟩ (.int .i64 ((n : Int) + 1))).drew := ⟨_, rfl⟩
  have R2 : Row W Rb 57 (rdgC L ((n + 1 : Nat) : Int) false rv sv (.slice mo dt mc)) := by rw [hW]; exact r2.keep (Below.refl _ _).drew
  have K2 : Keep (fun g => g = Rb) w W := by rw [hW]; exact k2.below (Below.refl _ _).drew k2.size
  have c5 := R2.cell (i := 5) rfl
  have hsz : W.heap.size = w.heap.size := by rw [hW]; simp [World.drewN]
  have q3 := fun P' => kList_cps (.slice mo dt mc) l dt W (HLA.out.kept K2).words (by omega) P'
  have HW := Lib.hid hW
  rw [hW] at c5 q3
  have HR2 := Lib.hid R2
  have HK2 := Lib.hid K2
  clear q1 HR HK r1 k1 r2 k2 R2 K2 HLA
  have HSZ := Lib.hid hsz
  clear hsz hW
  go_wp2
  refine wp_tail 9 (by kernel_rfl) (by kernel_rfl) ?_
  simp only [List.take_succ_cons, List.take_zero, List.drop_succ_cons, List.drop_zero]
  repeat still_step
  refine wpStill_nil ?_
  go_wp2_with fail
  refine q3 _ ?_
  intro v3 w3 ow3 b3
  rw [← HW.out] at ow3 b3
  rw [HCL.out, HSZ.out] at ow3
  have HF := Lib.hid (HP.out v3 w3 ow3 (HR2.out.keep b3) (HK2.out.below b3 HK2.out.size))
  clear q3 ow3 b3 HP HR2 HK2 HW
  go_wp2
  first | exact HF.out | (go_ret; exact HF.out)

set_option maxRecDepth 100000 in
set_option maxHeartbeats 2000000 in
/-- The cells, one of them written. -/
theorem cells_three {r : EnvD} {rg sl dt : Nat} (k : Int) {c a v : TD} (hC : RCellsC r rg sl dt c) (ha : RWordC r rg sl dt a) (hv : RWordC r rg sl dt v) (hi : 0 ≤ evW r a ∧ evW r a < dt) (hdt : dt ≤ 1000) (hsk : signT k = 33) : RCellsC r rg sl dt (.three k c a v) := by
  intro Rb L n rest rv sv mv w Post h henv hL htx hst hp
  have e0 : L.drop n = 40 :: 33 :: 32 :: (showT c ++ 32 :: (showT a ++ 32 :: (showT v ++ 41 :: rest))) := by rw [htx, showT, hsk]; simp
  obtain ⟨hn, hc, t1⟩ := drop_next e0
  have hc : nextB L n = 40 := hc
  obtain ⟨i, hie⟩ : ∃ i : Nat, evW r a = (i : Int) := ⟨(evW r a).toNat, by omega⟩
  have HIE := Lib.hid hie
  have hid' : i < dt := by omega
  have HSET : Hid ((cellL r dt c).set i (evW r v) = cellL r dt (.three k c a v)) := cellL_set r dt k c a v hid' hie
  have el : (showT (.three k c a v)).length = (showT c).length + (showT a).length + (showT v).length + 6 := by simp [showT]; omega
  have hlt := h.lt
  have s1 : Stops (32 :: (showT a ++ 32 :: (showT v ++ 41 :: rest))) := stops_cons (by decide)
  have s2 : Stops (32 :: (showT v ++ 41 :: rest)) := stops_cons (by decide)
  have s3 : Stops (41 :: rest) := stops_cons (by decide)
  have HCC := Lib.hid hC
  have HA := Lib.hid ha
  have HV := Lib.hid hv
  rw [el] at hp
  have q1 := kByteAt_any Rb L n false rv sv mv w h hL
  have rN : ∀ m, Row (w.drewN m) Rb 57 (rdgC L n false rv sv mv) := fun m => h.keep (below_drewN (Below.refl _ _) m)
  have kN : ∀ m, Keep (fun g => g = Rb) w (w.drewN m) := fun m => (Keep.refl (fun g => g = Rb) w).below (below_drewN (Below.refl w.heap.size w) m) (Nat.le_refl _)
  rw [hc] at q1
  have HP := Lib.hid hp
  have HR := Lib.hid rN
  have HK := Lib.hid kN
  have HENV := Lib.hid henv
  clear h hp rN kN hc ha hv hC htx henv hie hi el e0 hst hsk
  go_enter Tryz.func21, Tryz.ntmps21
  go_wp2_with fail
  refine q1.mono ?_
  rintro e w1 ⟨rfl, m, rfl⟩
  have r1 := HR.out m
  have k1 := HK.out m
  have d2 := r1.cell (i := 2) rfl
  clear q1 HR HK
  have d1 := r1.cell (i := 1) rfl
  have g1 := r1.frozen 1
  have r2 := r1.set 1 (.int .i64 ((n : Int) + 1))
  have k2 := k1.setCell (p := ⟨Rb, 1, none⟩) (.inl rfl) (.int .i64 ((n : Int) + 1))
  have hw1 : IntKind.i64.wrap ((n : Int) + 1) = (n : Int) + 1 := by rw [IntKind.wrap_i64]; omega
  have R2 : Row ((w.drewN m).setCell ⟨Rb, 1, none⟩ (.int .i64 ((n : Int) + 1))) Rb 57 (rdgC L ((n + 1 : Nat) : Int) false rv sv mv) := r2
  have K2 := Lib.hid k2
  clear r2 k2 r1 k1
  have hws : w.heap.size ≤ ((w.drewN m).setCell ⟨Rb, 1, none⟩ (.int .i64 ((n : Int) + 1))).heap.size := K2.out.size
  obtain ⟨q2n, q2c, q2d⟩ := drop_next t1
  have q2 := fun P' => kTake_cps Rb L (n + 1) false rv sv mv 33 ((w.drewN m).setCell ⟨Rb, 1, none⟩ (.int .i64 ((n : Int) + 1))) R2 hL q2n q2c P'
  clear q2c q2n
  go_wp2_with fail
  refine q2 _ ?_
  intro w2 q2r q2k
  have q2K := Lib.hid (K2.out.trans q2k)
  clear q2 q2k
  have q2R : Row w2 Rb 57 (rdgC L ((n + 2 : Nat) : Int) false rv sv mv) := q2r
  clear q2r R2 d1 g1 t1 d2
  obtain ⟨q0n, q0c, q0d⟩ := drop_next q2d
  have q0 := fun P' => kTake_cps Rb L (n + 2) false rv sv mv 32 w2 q2R hL q0n q0c P'
  clear q0c q0n
  go_wp2_with fail
  refine q0 _ ?_
  intro w20 q0r q0k
  have q0K := Lib.hid (q2K.out.trans q0k)
  clear q0 q0k
  have q0R : Row w20 Rb 57 (rdgC L ((n + 3 : Nat) : Int) false rv sv mv) := q0r
  have q3 := fun P' => HCC.out Rb L (n + 3) _ rv sv mv w20 P' q0R (HENV.out.kept q0K.out) hL q0d s1
  have hRb : Rb < w20.heap.size := q0R.lt
  have hw20 : w.heap.size ≤ w20.heap.size := q0K.out.size
  clear q0r q2R q2d q2K K2
  go_wp2_with fail
  refine q3 _ ?_
  intro v3 w3 ow3 r3 k3
  have K3 := Lib.hid (q0K.out.trans k3)
  have OW3 := Lib.hid ow3
  have t3 := drop_past q0d
  obtain ⟨lo, lc, hv3⟩ := owns_slice ow3
  rw [cellL_length] at hv3
  subst hv3
  clear q3 k3 q0K q0d q0R ow3
  obtain ⟨p3, hp3⟩ : ∃ p3, p3 = n + 3 + (showT c).length := ⟨_, rfl⟩
  rw [← hp3] at r3 t3
  have HP3 := Lib.hid hp3
  clear hp3
  have kS : ∀ g, (fun g => g = Rb) g → g < w20.heap.size := fun g hg => by rw [hg]; exact hRb
  have KS := Lib.hid kS
  clear kS
  obtain ⟨q4n, q4c, q4d⟩ := drop_next t3
  have q4 := fun P' => kTake_cps Rb L p3 false rv sv mv 32 w3 r3 hL q4n q4c P'
  clear q4c q4n
  go_wp2_with fail
  refine q4 _ ?_
  intro w4 q4r q4k
  have q4K := Lib.hid (K3.out.trans q4k)
  have OW4 := Lib.hid (owns_keep OW3.out q4k KS.out)
  clear q4 q4k OW3
  have q4R : Row w4 Rb 57 (rdgC L ((p3 + 1 : Nat) : Int) false rv sv mv) := q4r
  have q5 := fun P' => HA.out Rb L (p3 + 1) _ rv sv mv w4 P' q4R (HENV.out.kept q4K.out) hL q4d s2
  rw [HIE.out] at q5
  clear q4r r3 t3
  go_wp2_with fail
  refine q5 _ ?_
  intro w5 r5 k5
  have K5 := Lib.hid (q4K.out.trans k5)
  have OW5 := Lib.hid (owns_keep OW4.out k5 KS.out)
  have t5 := drop_past q4d
  clear q5 k5 q4K q4d q4R K3 OW4
  obtain ⟨p5, hp5⟩ : ∃ p5, p5 = p3 + 1 + (showT a).length := ⟨_, rfl⟩
  rw [← hp5] at r5 t5
  have HP5 := Lib.hid hp5
  clear hp5
  obtain ⟨q6n, q6c, q6d⟩ := drop_next t5
  have q6 := fun P' => kTake_cps Rb L p5 false rv sv mv 32 w5 r5 hL q6n q6c P'
  clear q6c q6n
  go_wp2_with fail
  refine q6 _ ?_
  intro w6 q6r q6k
  have q6K := Lib.hid (K5.out.trans q6k)
  have OW6 := Lib.hid (owns_keep OW5.out q6k KS.out)
  clear q6 q6k OW5
  have q6R : Row w6 Rb 57 (rdgC L ((p5 + 1 : Nat) : Int) false rv sv mv) := q6r
  have q7 := fun P' => HV.out Rb L (p5 + 1) _ rv sv mv w6 P' q6R (HENV.out.kept q6K.out) hL q6d s3
  clear q6r r5 t5
  go_wp2_with fail
  refine q7 _ ?_
  intro w7 r7 k7
  have K7 := Lib.hid (q6K.out.trans k7)
  have OW7 := Lib.hid (owns_keep OW6.out k7 KS.out)
  have t7 := drop_past q6d
  clear q7 k7 q6K q6d q6R K5 OW6
  obtain ⟨p7, hp7⟩ : ∃ p7, p7 = p5 + 1 + (showT v).length := ⟨_, rfl⟩
  rw [← hp7] at r7 t7
  have HP7 := Lib.hid hp7
  clear hp7
  obtain ⟨q8n, q8c, q8d⟩ := drop_next t7
  have q8 := fun P' => kTake_cps Rb L p7 false rv sv mv 41 w7 r7 hL q8n q8c P'
  clear q8c q8n
  obtain ⟨V, hV⟩ : ∃ V, V = evW r v := ⟨_, rfl⟩
  rw [← hV] at HSET
  rw [← hV]
  clear hV
  go_wp2_with fail
  refine q8 _ ?_
  intro w8 q8r q8k
  have q8K := Lib.hid (K7.out.trans q8k)
  have ow8 := owns_keep OW7.out q8k KS.out
  have hil : i < (ints (cellL r dt c)).length := by rw [ints_length, cellL_length]; exact hid'
  obtain ⟨bb, hlo, hbb, hob, hci⟩ := owns_cell ow8 (by rw [cellL_length]) hil
  subst hlo
  have hfz := owns_frozen ow8 hob i
  have ows := owns_set ow8 hob hil (.int .i64 V)
  have e8 : (ints (cellL r dt c)).set i (.int .i64 V) = ints (cellL r dt (.three k c a v)) := by rw [← HSET.out]; simp [ints, List.map_set]
  have l8 : (cellL r dt c).length = (cellL r dt (.three k c a v)).length := by rw [cellL_length, cellL_length]
  rw [e8, l8] at ows
  have q8R : Row w8 Rb 57 (rdgC L ((n + ((showT c).length + (showT a).length + (showT v).length + 6) : Nat) : Int) false rv sv mv) := by
    have e : n + ((showT c).length + (showT a).length + (showT v).length + 6) = p7 + 1 := by rw [HP7.out, HP5.out, HP3.out]; omega
    rw [e]; exact q8r
  have HF := Lib.hid (HP.out _ (w8.setCell ⟨bb, i, none⟩ (.int .i64 V)) (owns_base ows hw20) (q8R.unset (a := ⟨bb, i, none⟩) (by show Rb ≠ bb; omega) _) (q8K.out.setCell (p := ⟨bb, i, none⟩) (.inr (by show w.heap.size ≤ bb; omega)) _))
  have hii : (0 : Int) ≤ (i : Int) := by omega
  have hij : (i : Int) < (dt : Int) := by omega
  clear q8 q8k q8r q8R q8K q8d r7 t7 HP K7 HA HV HCC HENV s1 s2 s3 HP3 HP5 HP7 OW7 HIE HSET ows e8 l8
  generalize (ints (cellL r dt c))[i] = xo at *
  clear hil
  go_wp2
  first | exact HF.out | (go_ret; exact HF.out)

theorem neg_wrap (u : Nat) (h : W64 (-(u : Int))) : -(u : Int) = wrap64 (0 - wrap64 (u : Int)) := by
  obtain ⟨n1, n2⟩ := h
  by_cases hu : u = 9223372036854775808
  · have e0 : (u : Int) = 9223372036854775808 := by omega
    have e1 : wrap64 (9223372036854775808 : Int) = -9223372036854775808 := by simp [wrap64]
    have e2 : (0 : Int) - -9223372036854775808 = 9223372036854775808 := by simp
    rw [e0, e1, e2, e1]
  · have e1 : wrap64 (u : Int) = u := IntWalk.wrap64_in _ ⟨by omega, by omega⟩
    rw [e1, IntWalk.wrap64_in _ ⟨by omega, by omega⟩]
    omega

theorem leaf_num (r : EnvD) (rg sl dt : Nat) (u : Nat) (hn : W64 (u : Int)) : RWordC r rg sl dt (.leaf 100 (u : Int)) := by
  intro Rb L p rest rv sv mv w Post h henv hL htx hst hp
  have e1 : showT (.leaf 100 (u : Int)) = Lib.decDigits u := by rw [← Lib.itoa_nonneg]; simp [showT]
  have e2 : evW r (.leaf 100 (u : Int)) = (u : Int) := by simp [evW, evT]
  rw [e1] at htx hp
  rw [e2] at hp
  have hd := digits_at htx hst (decDigits_bytes u) (decDigits_ne u)
  obtain ⟨c, ds, hcd⟩ : ∃ c ds, Lib.decDigits u = c :: ds := by
    cases e : Lib.decDigits u with
    | nil => exact absurd e (decDigits_ne u)
    | cons c ds => exact ⟨c, ds, rfl⟩
  have hb := decDigits_bytes u c (by rw [hcd]; exact List.mem_cons_self)
  have hx := htx
  rw [hcd] at hx
  obtain ⟨_, hc, _⟩ := drop_next hx
  refine word_num (Lib.decDigits u) c.toNat Rb L p rest rv sv mv w Post h hL hd hc hb ?_
  rw [digW_dec, IntWalk.wrap64_in _ hn]
  exact hp

theorem leaf_neg (r : EnvD) (rg sl dt : Nat) (u : Nat) (hu : 1 ≤ u) (hn : W64 (-(u : Int))) : RWordC r rg sl dt (.leaf 100 (-(u : Int))) := by
  intro Rb L p rest rv sv mv w Post h henv hL htx hst hp
  have e1 : showT (.leaf 100 (-(u : Int))) = 45 :: Lib.decDigits u := by rw [← Lib.itoa_neg u hu]; simp [showT]
  have e2 : evW r (.leaf 100 (-(u : Int))) = -(u : Int) := by simp [evW, evT]
  rw [e1] at htx hp
  rw [e2] at hp
  obtain ⟨hlt, hc, hdr⟩ := drop_next htx
  have hd := digits_at hdr hst (decDigits_bytes u) (decDigits_ne u)
  have e : p + (45 :: Lib.decDigits u).length = p + 1 + (Lib.decDigits u).length := by simp; omega
  rw [e] at hp
  exact word_neg (Lib.decDigits u) Rb L p rest rv sv mv w Post h hL hlt hd hc (-(u : Int)) (by rw [digW_dec]; exact neg_wrap u hn) hp

theorem leaf_reg (r : EnvD) (rg sl dt : Nat) (u : Nat) (hn : W64 (u : Int)) (hu : u < rg) : RWordC r rg sl dt (.leaf 101 (u : Int)) := by
  intro Rb L p rest rv sv mv w Post h henv hL htx hst hp
  have e1 : showT (.leaf 101 (u : Int)) = 114 :: Lib.decDigits u := by rw [← Lib.itoa_nonneg]; simp [showT]
  have e2 : evW r (.leaf 101 (u : Int)) = r.reg u := by simp [evW, evT]
  rw [e1] at htx hp
  rw [e2] at hp
  obtain ⟨hlt, hc, hdr⟩ := drop_next htx
  have hd := digits_at hdr hst (decDigits_bytes u) (decDigits_ne u)
  obtain ⟨l, hla, hll, hlr⟩ := henv.reg
  refine word_reg (Lib.decDigits u) u l Rb L p rest rv sv mv w Post h hL hlt hd hc (by rw [digW_dec, IntWalk.wrap64_in _ hn]) hla (by rw [hll]; exact hu) ?_
  rw [hlr u hu]
  have e : p + (114 :: Lib.decDigits u).length = p + 1 + (Lib.decDigits u).length := by simp; omega
  rw [e] at hp
  exact hp

theorem leaf_slot (r : EnvD) (rg sl dt : Nat) (i : Nat) (hn : W64 ((rg + i : Nat) : Int)) (hi : i < sl) : RWordC r rg sl dt (.leaf 102 ((rg + i : Nat) : Int)) := by
  intro Rb L p rest rv sv mv w Post h henv hL htx hst hp
  have e1 : showT (.leaf 102 ((rg + i : Nat) : Int)) = 120 :: Lib.decDigits (rg + i) := by rw [← Lib.itoa_nonneg]; simp [showT]
  have e2 : evW r (.leaf 102 ((rg + i : Nat) : Int)) = r.unk ((rg : Int) + i) := by simp [evW, evT]
  rw [e1] at htx hp
  rw [e2] at hp
  obtain ⟨hlt, hc, hdr⟩ := drop_next htx
  have hd := digits_at hdr hst (decDigits_bytes (rg + i)) (decDigits_ne (rg + i))
  obtain ⟨lr, hlr, hlrl, _⟩ := henv.reg
  obtain ⟨l, hla, hll, hlr'⟩ := henv.slot
  refine word_slot (Lib.decDigits (rg + i)) i (rg + i) l lr Rb L p rest rv sv mv w Post h hL hlt hd hc (by rw [digW_dec, IntWalk.wrap64_in _ hn]) hlr (by rw [hlrl]) hla (by rw [hll]; exact hi) ?_
  rw [hlr' i hi]
  have e : p + (120 :: Lib.decDigits (rg + i)).length = p + 1 + (Lib.decDigits (rg + i)).length := by simp; omega
  rw [e] at hp
  exact hp

/-- Every term that can be worked out is read as what it stands for. -/
theorem reads_all (r : EnvD) (rg sl dt : Nat) (hrg : rg ≤ 1000) (hsl : sl ≤ 1000) (hdt : dt ≤ 1000) : ∀ t : TD, t.fine → safeT r rg sl dt t → (wordT t → RWordC r rg sl dt t) ∧ (cellsT t → RCellsC r rg sl dt t) := by
  intro t
  induction t with
  | leaf k n =>
    intro hf hs
    obtain ⟨hk, hn⟩ := hf
    refine ⟨fun hw => ?_, fun hc => ?_⟩
    · have hk' : k = 100 ∨ k = 101 ∨ k = 102 := by
        rcases hk with rfl | rfl | rfl | ⟨rfl, _⟩
        · exact .inl rfl
        · exact .inr (.inl rfl)
        · exact .inr (.inr rfl)
        · exact absurd rfl hw
      rcases hk' with rfl | rfl | rfl
      · by_cases h0 : 0 ≤ n
        · obtain ⟨u, rfl⟩ := Int.eq_ofNat_of_zero_le h0
          exact leaf_num r rg sl dt u hn
        · obtain ⟨u, hu⟩ : ∃ u : Nat, n = -(u : Int) := ⟨(-n).toNat, by omega⟩
          subst hu
          exact leaf_neg r rg sl dt u (by omega) hn
      · obtain ⟨hr0, hr1⟩ := hs.1 rfl
        obtain ⟨u, rfl⟩ := Int.eq_ofNat_of_zero_le hr0
        exact leaf_reg r rg sl dt u hn (by omega)
      · obtain ⟨hr0, hr1⟩ := hs.2 rfl
        obtain ⟨i, hi⟩ : ∃ i : Nat, n = ((rg + i : Nat) : Int) := ⟨(n - rg).toNat, by omega⟩
        subst hi
        exact leaf_slot r rg sl dt i hn (by omega)
    · have hk : k = 103 := hc
      subst hk
      exact cells_leaf n hdt
  | two k a b iha ihb =>
    intro hf hs
    obtain ⟨hk1, hk2, f1, f2⟩ := hf
    obtain ⟨sa, sb, wb, hab, hd⟩ := hs
    refine ⟨fun _ => word_two ?_, fun h => h.elim⟩
    by_cases h12 : k = 12
    · subst h12
      rw [if_pos rfl] at hab
      exact made_cell ((iha f1 sa).2 hab.1) ((ihb f2 sb).1 wb) hab.2 hdt
    · rw [if_neg h12] at hab
      exact made_word ((iha f1 sa).1 hab) ((ihb f2 sb).1 wb) ⟨hk1, by omega⟩ hd
  | three k c a v ihc iha ihv =>
    intro hf hs
    obtain ⟨sc, sa, sv, wc, wa, wv, h0, h1⟩ := hs
    refine ⟨fun h => h.elim, fun _ => cells_three k ((ihc hf.2.1 sc).2 wc) ((iha hf.2.2.1 sa).1 wa) ((ihv hf.2.2.2 sv).1 wv) ⟨h0, h1⟩ hdt ?_⟩
    rw [hf.1]
    simp [signT]

end Go.Proofs.YtblhmeidbjigaaaGreatDoor

/- Two blocks that start alike and whose terms are the same end alike: pure. -/
set_option linter.unusedSimpArgs false
set_option linter.unusedVariables false
noncomputable section
namespace Go.Proofs.YtblhmeidbjigaaaGreatDoor
open Go.RowKit Classical

theorem rg_wide {l : List Int} (h : ∀ x ∈ l, W64 x) (i : Int) : W64 (rg l i) := by
  unfold rg
  by_cases hi : i.toNat < l.length
  · exact h _ (getD_mem' hi)
  · simp [List.getD, hi]; exact w64_small (by omega)

end Go.Proofs.YtblhmeidbjigaaaGreatDoor
