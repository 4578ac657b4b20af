/- Reading a program, in the document's answer. -/
import Derived.Test.YtblhmeidbjigaaaRows
import Derived.WalkKit
import Derived.WalkSpells
import Derived.WalkLawsBesides
import Derived.Laws.BytesArg
import Derived.Deep.QuietTactic
import Derived.BigQuiet
import Derived.Deep.RegionHeld3
import Derived.Maps.AppendAt
import Derived.StillTailTactics
import Derived.Test.YtblhmeidbjigaaaPCodIToPCodLRuns

set_option linter.unusedSimpArgs false
set_option linter.unusedVariables false
namespace Go.Proofs.Ytblhmeidbjigaaa
open Go.RowKit

/-- How many operations are read from k on, m being asked for, of a text of n bytes. -/
def jst4 (n : Int) (k : Int) (m : Nat) : Nat := min m ((n - k + 3) / 4).toNat

def prAt (s : ByteArray) : Nat → Int
  | 0 => 7
  | i + 1 => prAt s i + 1 + 4 * jst4 s.size (prAt s i + 1) (byteOr 0 s (prAt s i)).toNat + 4

def rBlocks (s : ByteArray) : Nat → List BlockD
  | 0 => []
  | i + 1 => rBlocks s i ++ [blkAt 0 s (prAt s i) (jst4 s.size (prAt s i + 1) (byteOr 0 s (prAt s i)).toNat)]

theorem jst4_le (n k : Int) (m : Nat) : jst4 n k m ≤ m := by unfold jst4; omega

theorem jst4_eq {n k : Int} {m j : Nat} (h1 : j ≤ m) (h2 : j = 0 ∨ k + 4 * ((j : Int) - 1) < n) (h3 : ¬ ((j : Int) < m ∧ k + 4 * (j : Int) < n)) : j = jst4 n k m := by
  unfold jst4
  by_cases hm : (j : Int) < m
  · have : ¬ k + 4 * (j : Int) < n := fun h => h3 ⟨hm, h⟩
    rcases h2 with h2 | h2 <;> omega
  · rcases h2 with h2 | h2 <;> omega

theorem prAt_bd (s : ByteArray) (i : Nat) : 7 ≤ prAt s i ∧ prAt s i ≤ 7 + 1025 * i := by
  induction i with
  | zero => simp [prAt]
  | succ k ih =>
    have h1 := byteOr0_bd s (prAt s k)
    have h2 := jst4_le s.size (prAt s k + 1) (byteOr 0 s (prAt s k)).toNat
    simp only [prAt]
    omega

structure PRStop (s : ByteArray) (i : Nat) : Prop where
  done : ∀ j, j < i → (j : Int) < byteOr 0 s 6 ∧ prAt s j < s.size
  stop : ¬ ((i : Int) < byteOr 0 s 6 ∧ prAt s i < s.size)

def progR (s : ByteArray) (i : Nat) : ProgD := ⟨byteOr 0 s 2, byteOr 0 s 3, byteOr 0 s 4, byteOr 0 s 5, rBlocks s i⟩

/-- What the outer append leaves. -/
theorem pref_step {w wo wr w2 : World} {ao : Option Addr} {cp sc : Nat} {so : Option Addr} {bv : List (BlockD × Value)} {e1 e2 e3 e4 : Int} {ps : List OpD} {v' : Value} {O1 O2 : Obj}
    (hown : OwnBlocks wo (w.heap.size + 2) (.slice ao bv.length cp) bv) (hbin : Below wo.heap.size wo wr) (hrow : wr.ownsRow (wo.heap.size + 1) 101 4 (.slice so ps.length sc) ps.length (opCells ps))
    (hbel : Below (w.heap.size + 1) (w.alloc O1) wo) (hz : w.heap.size + 2 ≤ wo.heap.size)
    (hown' : w2.ownsRow (w.heap.size + 2) 90 5 v' (bv.length + 1) (blkCells bv ++ [.slice so ps.length sc, .int .i64 e1, .int .i64 e2, .int .i64 e3, .int .i64 e4])) (hgrow : (wr.alloc O2).grownBy w2 (Value.slice ao bv.length cp).ownBlock) :
    OwnBlocks w2 (w.heap.size + 2) v' (bv ++ [(⟨ps, ⟨e1, e2, e3, e4⟩⟩, .slice so ps.length sc)]) ∧ Below (w.heap.size + 2) wo w2 ∧
      Below (w.heap.size + 1) (w.alloc O1) w2 ∧ w.heap.size + 2 ≤ w2.heap.size := by
  have hzr := hbin.size
  have own1 := hown.below hbin (Nat.le_refl _)
  have hb2 := (((Below.refl (w.heap.size + 2) wr).alloc (by omega) O2).grown hgrow (by simp; omega) (fun g hg => (own1.row.lt g hg).1))
  have hz2 := hb2.size
  refine ⟨?_, (hbin.mono (by omega)).trans hb2, (hbel.trans (hbin.mono (by omega))).trans (hb2.mono (by omega)), by omega⟩
  refine (own1.alloc _).snoc ((owns_base hrow (by omega)).alloc _) ?_ hgrow hown'
  intro y hy g hg e
  have q1 := ((hown.each y hy).lt g hg).2
  have q2 := (hrow.lt g e).1
  omega

set_option maxRecDepth 100000 in
set_option maxHeartbeats 8000000 in
theorem rDecode_cps (s : ByteArray) (w : World) (hs : s.size ≤ maxLen) (Post : Ending → World → Prop)
    (hyes : ∀ v bv w' i, PRStop s i → OwnBlocks w' w.heap.size v bv → bdat bv = rBlocks s i → progGood (progR s i) = true → str (progText (progR s i)) = s → Below w.heap.size w w' → Post (.returned (.tuple #[.agg #[.int .i64 (byteOr 0 s 2), .int .i64 (byteOr 0 s 3), .int .i64 (byteOr 0 s 4), .int .i64 (byteOr 0 s 5), v], .bool true])) w')
    (hno : ∀ w' i, PRStop s i → (progGood (progR s i) = true → str (progText (progR s i)) ≠ s) → Below w.heap.size w w' → Post (.returned (.tuple #[.agg #[.int .i64 0, .int .i64 0, .int .i64 0, .int .i64 0, .slice none 0 0], .bool false])) w') :
    Calls Try.prog 32 #[.string s] w Post := by
  obtain ⟨i0, ii, iz0, iz1, iz2⟩ := info_parts Try.infoBlk
  obtain ⟨j0, ji, jz0, jz1, jz2⟩ := info_parts Try.infoOp
  have hcb := byteOr0_bd s 6
  have hsz := hs
  unfold maxLen at hsz
  obtain ⟨n, hn⟩ := Int.eq_ofNat_of_zero_le hcb.1
  have HN : Hid (byteOr 0 s 6 = n) := hn
  have HPR : Hid (∀ i, progR s i = ⟨byteOr 0 s 2, byteOr 0 s 3, byteOr 0 s 4, byteOr 0 s 5, rBlocks s i⟩) := fun i => rfl
  generalize ha2 : byteOr 0 s 2 = a2 at *
  generalize ha3 : byteOr 0 s 3 = a3 at *
  generalize ha4 : byteOr 0 s 4 = a4 at *
  generalize ha5 : byteOr 0 s 5 = a5 at *
  have HY : Hid (∀ v bv w' i, PRStop s i → OwnBlocks w' w.heap.size v bv → bdat bv = rBlocks s i → progGood (progR s i) = true → str (progText (progR s i)) = s → Below w.heap.size w w' → Post (.returned (.tuple #[.agg #[.int .i64 a2, .int .i64 a3, .int .i64 a4, .int .i64 a5, v], .bool true])) w') := hyes
  have HNO : Hid (∀ w' i, PRStop s i → (progGood (progR s i) = true → str (progText (progR s i)) ≠ s) → Below w.heap.size w w' → Post (.returned (.tuple #[.agg #[.int .i64 0, .int .i64 0, .int .i64 0, .int .i64 0, .slice none 0 0], .bool false])) w') := hno
  clear hyes hno
  go_enter Try.func32, Try.ntmps32
  go_wp2_with (go_at_call 63; refine (at_any _ _ _ hs).mono ?_; rintro e w' ⟨rfl, rfl⟩)
  have hn255 : n ≤ 255 := by omega
  clear hcb hn ha2 ha3 ha4 ha5
  go_loopw [6, 7] (fun p i wr => ∃ (k : Nat) (v : Value) (bv : List (BlockD × Value)), k ≤ n ∧ i = .int .i64 k ∧ p = .int .i64 (prAt s k) ∧ wr.cell? ⟨w.heap.size + 1, 0, none⟩ = some (.int .i64 a2) ∧ wr.cell? ⟨w.heap.size + 1, 1, none⟩ = some (.int .i64 a3) ∧ wr.cell? ⟨w.heap.size + 1, 2, none⟩ = some (.int .i64 a4) ∧ wr.cell? ⟨w.heap.size + 1, 3, none⟩ = some (.int .i64 a5) ∧ wr.cell? ⟨w.heap.size + 1, 4, none⟩ = some v ∧
      wr.frozen? ⟨w.heap.size + 1, 4, none⟩ = false ∧ OwnBlocks wr (w.heap.size + 2) v bv ∧ Hid (bdat bv = rBlocks s k) ∧ Hid (bv.length = k) ∧ Hid (∀ j, j < k → (j : Int) < byteOr 0 s 6 ∧ prAt s j < s.size) ∧ Below (w.heap.size + 1) (w.alloc (.cells #[.int .i64 0, .int .i64 0, .int .i64 0, .int .i64 0, .slice none 0 0] 24)) wr ∧ w.heap.size + 2 ≤ wr.heap.size)
    (fun _ i _ => n - (intOf i).toNat)
  case atStart =>
    refine ⟨0, .slice none 0 0, [], Nat.zero_le _, rfl, rfl, by simp, by simp, by simp, by simp, by simp, by simp, ownBlocks_nil _ _, rfl, rfl, fun j hj => by omega, ?_, by simp⟩
    exact (Below.refl _ _).alloc (by simp) _
  case round =>
    obtain ⟨k, v, bv, hk, rfl, rfl, hx0, hx1, hx2, hx3, hx4, hxf, hown, hdt, hvl, hdn, hbel, hz⟩ := hrel
    obtain ⟨ao, cp, rfl⟩ := owns_slice hown.row
    have hzl : w.heap.size + 1 < wr.heap.size := by omega
    have hzm : w.heap.size < wr.heap.size := by omega
    have hab := prAt_bd s k
    by_cases hlt : (k : Int) < n ∧ prAt s k < s.size
    case neg =>
      have hst : Hid (PRStop s k) := ⟨hdn.out, by rw [HN.out]; exact hlt⟩
      have hltn : (k : Int) < n → ¬ (prAt s k < s.size) := fun h1 h2 => hlt ⟨h1, h2⟩
      clear hlt hdn
      have r0 : wr.cell? ⟨w.heap.size, 0, none⟩ = some (.int .i64 0) := (hbel.cell (by simp)).trans (by simp)
      have r1 : wr.cell? ⟨w.heap.size, 1, none⟩ = some (.int .i64 0) := (hbel.cell (by simp)).trans (by simp)
      have r2 : wr.cell? ⟨w.heap.size, 2, none⟩ = some (.int .i64 0) := (hbel.cell (by simp)).trans (by simp)
      have r3 : wr.cell? ⟨w.heap.size, 3, none⟩ = some (.int .i64 0) := (hbel.cell (by simp)).trans (by simp)
      have r4 : wr.cell? ⟨w.heap.size, 4, none⟩ = some (.slice none 0 0) := (hbel.cell (by simp)).trans (by simp)
      have rf : Hid (∀ o, wr.frozen? ⟨w.heap.size, o, none⟩ = false) := fun o => (hbel.frozen (by simp)).trans (by simp)
      have hrd := hown.rd
      rw [hdt.out] at hrd
      have hb00 := Below.under hbel
      have hpk := HPR.out k
      have HPK : Hid (progR s k = ⟨a2, a3, a4, a5, rBlocks s k⟩) := hpk
      clear hpk HPR
      have hwg := rGood_any a2 a3 a4 a5 _ _ wr hrd
      have HGK : Hid (progGood ⟨a2, a3, a4, a5, rBlocks s k⟩ = progGood (progR s k)) := by show _ = _; rw [HPK.out]
      have HTX : Hid (progGood (progR s k) = true → ∀ (w1 : World), RdBlocks w1 (.slice ao bv.length cp) (rBlocks s k) → Calls Try.prog 31 #[.agg #[.int .i64 a2, .int .i64 a3, .int .i64 a4, .int .i64 a5, .slice ao bv.length cp]] w1 fun e w' => e = .returned (.string (str (progText (progR s k)))) ∧ Below w1.heap.size w1 w') := by
        intro hg w1 h1
        have := rText_any (progR s k) (.slice ao bv.length cp) w1 (by rw [HPK.out]; exact h1) hg
        rw [HPK.out] at this ⊢
        exact this
      by_cases hq : (k : Int) < n
      · have hq2 := hltn hq
        clear hltn
        go_wp2_with fail
        refine hwg.mono ?_
        clear hwg
        rintro e w1 ⟨rfl, hb1⟩
        rw [HGK.out]
        have x0 := cell_keep hb1 r0
        have x1 := cell_keep hb1 r1
        have x2 := cell_keep hb1 r2
        have x3 := cell_keep hb1 r3
        have x4 := cell_keep hb1 r4
        have xf : Hid (∀ o, w1.frozen? ⟨w.heap.size, o, none⟩ = false) := fun o => (hb1.frozen (p := ⟨w.heap.size, o, none⟩) hzm).trans (rf.out o)
        have f0 := xf.out 0
        have f1 := xf.out 1
        have f2 := xf.out 2
        have f3 := xf.out 3
        have f4 := xf.out 4
        have y0 := cell_keep hb1 hx0
        have y1 := cell_keep hb1 hx1
        have y2 := cell_keep hb1 hx2
        have y3 := cell_keep hb1 hx3
        have y4 := cell_keep hb1 hx4
        have hz1 := hb1.size
        have hzl1 : w.heap.size + 1 < w1.heap.size := by omega
        have hzm1 : w.heap.size < w1.heap.size := by omega
        have hb2 := hb00.trans (hb1.mono (by omega))
        have own1 := hown.below hb1 (Nat.le_refl _)
        have hrd1 := hrd.keep hb1
        clear r0 r1 r2 r3 r4 rf hx0 hx1 hx2 hx3 hx4 hxf hbel hown hb1 hrd hb00
        cases hg : progGood (progR s k)
        · have hno' := fun w' => HNO.out w' k hst.out (by simp [hg])
          clear HNO HY HTX
          go_wp2
          refine bodyPost_ret (v := .tuple #[.agg #[.int .i64 0, .int .i64 0, .int .i64 0, .int .i64 0, .slice none 0 0], .bool false]) (by simp [results, Try.results32, go_sem, x0, x1, x2, x3, x4]) rfl (hno' _ ?_)
          repeat (refine Below.setCell ?_ (by simp) _)
          exact hb2
        have htx := HTX.out hg w1 hrd1
        clear HTX
        go_wp2_with fail
        refine htx.mono ?_
        clear htx
        rintro e w2 ⟨rfl, hb3⟩
        have u0 := cell_keep hb3 x0
        have u1 := cell_keep hb3 x1
        have u2 := cell_keep hb3 x2
        have u3 := cell_keep hb3 x3
        have u4 := cell_keep hb3 x4
        have g0 := (hb3.frozen (p := ⟨w.heap.size, 0, none⟩) hzm1).trans f0
        have g1 := (hb3.frozen (p := ⟨w.heap.size, 1, none⟩) hzm1).trans f1
        have g2 := (hb3.frozen (p := ⟨w.heap.size, 2, none⟩) hzm1).trans f2
        have g3 := (hb3.frozen (p := ⟨w.heap.size, 3, none⟩) hzm1).trans f3
        have g4 := (hb3.frozen (p := ⟨w.heap.size, 4, none⟩) hzm1).trans f4
        have t0 := cell_keep hb3 y0
        have t1 := cell_keep hb3 y1
        have t2 := cell_keep hb3 y2
        have t3 := cell_keep hb3 y3
        have t4 := cell_keep hb3 y4
        have hb4 := hb2.trans (hb3.mono (by omega))
        have own2 := own1.below hb3 (Nat.le_refl _)
        clear x0 x1 x2 x3 x4 xf f0 f1 f2 f3 f4 y0 y1 y2 y3 y4 hb2 own1 hrd1 hb3
        by_cases ht : str (progText (progR s k)) = s
        · have HY' : Hid (∀ w', OwnBlocks w' w.heap.size (.slice ao bv.length cp) bv → Below w.heap.size w w' → Post (.returned (.tuple #[.agg #[.int .i64 a2, .int .i64 a3, .int .i64 a4, .int .i64 a5, .slice ao bv.length cp], .bool true])) w') := fun w' h1 h2 => HY.out _ bv w' k hst.out h1 hdt.out hg ht h2
          rw [ht]
          clear ht hg HNO HY
          go_wp2
          refine bodyPost_ret (v := .tuple #[.agg #[.int .i64 a2, .int .i64 a3, .int .i64 a4, .int .i64 a5, .slice ao bv.length cp], .bool true]) (by simp [results, Try.results32, go_sem, u0, u1, u2, u3, u4]) rfl (HY'.out _ ?_ ?_)
          · refine OwnBlocks.base (base := w.heap.size + 2) ?_ (by omega)
            repeat (refine OwnBlocks.set ?_ (by simp) _)
            exact own2
          · repeat (refine Below.setCell ?_ (by simp) _)
            exact hb4
        · have hno' := fun w' => HNO.out w' k hst.out (fun _ => ht)
          have hbs := toList_ne ht
          generalize str (progText (progR s k)) = tt at *
          clear HNO HY ht hg
          go_wp2
          refine bodyPost_ret (v := .tuple #[.agg #[.int .i64 0, .int .i64 0, .int .i64 0, .int .i64 0, .slice none 0 0], .bool false]) (by simp [results, Try.results32, go_sem, u0, u1, u2, u3, u4]) rfl (hno' _ ?_)
          repeat (refine Below.setCell ?_ (by simp) _)
          exact hb4
      · clear hltn
        go_wp2_with fail
        refine hwg.mono ?_
        clear hwg
        rintro e w1 ⟨rfl, hb1⟩
        rw [HGK.out]
        have x0 := cell_keep hb1 r0
        have x1 := cell_keep hb1 r1
        have x2 := cell_keep hb1 r2
        have x3 := cell_keep hb1 r3
        have x4 := cell_keep hb1 r4
        have xf : Hid (∀ o, w1.frozen? ⟨w.heap.size, o, none⟩ = false) := fun o => (hb1.frozen (p := ⟨w.heap.size, o, none⟩) hzm).trans (rf.out o)
        have f0 := xf.out 0
        have f1 := xf.out 1
        have f2 := xf.out 2
        have f3 := xf.out 3
        have f4 := xf.out 4
        have y0 := cell_keep hb1 hx0
        have y1 := cell_keep hb1 hx1
        have y2 := cell_keep hb1 hx2
        have y3 := cell_keep hb1 hx3
        have y4 := cell_keep hb1 hx4
        have hz1 := hb1.size
        have hzl1 : w.heap.size + 1 < w1.heap.size := by omega
        have hzm1 : w.heap.size < w1.heap.size := by omega
        have hb2 := hb00.trans (hb1.mono (by omega))
        have own1 := hown.below hb1 (Nat.le_refl _)
        have hrd1 := hrd.keep hb1
        clear r0 r1 r2 r3 r4 rf hx0 hx1 hx2 hx3 hx4 hxf hbel hown hb1 hrd hb00
        cases hg : progGood (progR s k)
        · have hno' := fun w' => HNO.out w' k hst.out (by simp [hg])
          clear HNO HY HTX
          go_wp2
          refine bodyPost_ret (v := .tuple #[.agg #[.int .i64 0, .int .i64 0, .int .i64 0, .int .i64 0, .slice none 0 0], .bool false]) (by simp [results, Try.results32, go_sem, x0, x1, x2, x3, x4]) rfl (hno' _ ?_)
          repeat (refine Below.setCell ?_ (by simp) _)
          exact hb2
        have htx := HTX.out hg w1 hrd1
        clear HTX
        go_wp2_with fail
        refine htx.mono ?_
        clear htx
        rintro e w2 ⟨rfl, hb3⟩
        have u0 := cell_keep hb3 x0
        have u1 := cell_keep hb3 x1
        have u2 := cell_keep hb3 x2
        have u3 := cell_keep hb3 x3
        have u4 := cell_keep hb3 x4
        have g0 := (hb3.frozen (p := ⟨w.heap.size, 0, none⟩) hzm1).trans f0
        have g1 := (hb3.frozen (p := ⟨w.heap.size, 1, none⟩) hzm1).trans f1
        have g2 := (hb3.frozen (p := ⟨w.heap.size, 2, none⟩) hzm1).trans f2
        have g3 := (hb3.frozen (p := ⟨w.heap.size, 3, none⟩) hzm1).trans f3
        have g4 := (hb3.frozen (p := ⟨w.heap.size, 4, none⟩) hzm1).trans f4
        have t0 := cell_keep hb3 y0
        have t1 := cell_keep hb3 y1
        have t2 := cell_keep hb3 y2
        have t3 := cell_keep hb3 y3
        have t4 := cell_keep hb3 y4
        have hb4 := hb2.trans (hb3.mono (by omega))
        have own2 := own1.below hb3 (Nat.le_refl _)
        clear x0 x1 x2 x3 x4 xf f0 f1 f2 f3 f4 y0 y1 y2 y3 y4 hb2 own1 hrd1 hb3
        by_cases ht : str (progText (progR s k)) = s
        · have HY' : Hid (∀ w', OwnBlocks w' w.heap.size (.slice ao bv.length cp) bv → Below w.heap.size w w' → Post (.returned (.tuple #[.agg #[.int .i64 a2, .int .i64 a3, .int .i64 a4, .int .i64 a5, .slice ao bv.length cp], .bool true])) w') := fun w' h1 h2 => HY.out _ bv w' k hst.out h1 hdt.out hg ht h2
          rw [ht]
          clear ht hg HNO HY
          go_wp2
          refine bodyPost_ret (v := .tuple #[.agg #[.int .i64 a2, .int .i64 a3, .int .i64 a4, .int .i64 a5, .slice ao bv.length cp], .bool true]) (by simp [results, Try.results32, go_sem, u0, u1, u2, u3, u4]) rfl (HY'.out _ ?_ ?_)
          · refine OwnBlocks.base (base := w.heap.size + 2) ?_ (by omega)
            repeat (refine OwnBlocks.set ?_ (by simp) _)
            exact own2
          · repeat (refine Below.setCell ?_ (by simp) _)
            exact hb4
        · have hno' := fun w' => HNO.out w' k hst.out (fun _ => ht)
          have hbs := toList_ne ht
          generalize str (progText (progR s k)) = tt at *
          clear HNO HY ht hg
          go_wp2
          refine bodyPost_ret (v := .tuple #[.agg #[.int .i64 0, .int .i64 0, .int .i64 0, .int .i64 0, .slice none 0 0], .bool false]) (by simp [results, Try.results32, go_sem, u0, u1, u2, u3, u4]) rfl (hno' _ ?_)
          repeat (refine Below.setCell ?_ (by simp) _)
          exact hb4
    obtain ⟨hlt1, hlt2⟩ := hlt
    obtain ⟨wo, hwo⟩ : ∃ wo, wo = wr := ⟨_, rfl⟩
    subst hwo
    have HX : Hid (rBlocks s (k + 1) = rBlocks s k ++ [⟨opsAt 0 s (prAt s k + 1) (jst4 s.size (prAt s k + 1) (byteOr 0 s (prAt s k)).toNat), ⟨byteOr 0 s (prAt s k + 1 + 4 * (jst4 s.size (prAt s k + 1) (byteOr 0 s (prAt s k)).toNat : Nat)), byteOr 0 s (prAt s k + 1 + 4 * (jst4 s.size (prAt s k + 1) (byteOr 0 s (prAt s k)).toNat : Nat) + 1), byteOr 0 s (prAt s k + 1 + 4 * (jst4 s.size (prAt s k + 1) (byteOr 0 s (prAt s k)).toNat : Nat) + 2), byteOr 0 s (prAt s k + 1 + 4 * (jst4 s.size (prAt s k + 1) (byteOr 0 s (prAt s k)).toNat : Nat) + 3)⟩⟩]) := rfl
    have HA : Hid (prAt s (k + 1) = prAt s k + 1 + 4 * (jst4 s.size (prAt s k + 1) (byteOr 0 s (prAt s k)).toNat : Nat) + 4) := rfl
    have hmb := byteOr0_bd s (prAt s k)
    obtain ⟨m, hm⟩ := Int.eq_ofNat_of_zero_le hmb.1
    go_wp2_with (go_at_call 63; refine (at_any _ _ _ hs).mono ?_; rintro e w' ⟨rfl, rfl⟩)
    rw [hm, Int.toNat_natCast] at HX HA
    have hm255 : m ≤ 255 := by omega
    clear hmb hm
    obtain ⟨k0, hk0⟩ : ∃ k0, k0 = prAt s k + 1 := ⟨_, rfl⟩
    rw [← hk0] at HX HA
    have hk0b : 8 ≤ k0 ∧ k0 ≤ 1000000 := by omega
    have HK0 : Hid (k0 = prAt s k + 1) := hk0
    clear hk0
    go_loopw [6, 10] (fun p i w2 => ∃ (j : Nat) (sv : Value), j ≤ m ∧ i = .int .i64 j ∧ p = .int .i64 (k0 + 4 * j) ∧ Hid (j = 0 ∨ k0 + 4 * ((j : Int) - 1) < s.size) ∧ w2.cell? ⟨wo.heap.size, 0, none⟩ = some sv ∧ w2.cell? ⟨wo.heap.size, 1, none⟩ = some (.int .i64 0) ∧ w2.cell? ⟨wo.heap.size, 2, none⟩ = some (.int .i64 0) ∧ w2.cell? ⟨wo.heap.size, 3, none⟩ = some (.int .i64 0) ∧ w2.cell? ⟨wo.heap.size, 4, none⟩ = some (.int .i64 0) ∧
        Hid (∀ o, w2.frozen? ⟨wo.heap.size, o, none⟩ = false) ∧ w2.ownsRow (wo.heap.size + 1) 101 4 sv j (opCells (opsAt 0 s k0 j)) ∧ Below wo.heap.size wo w2 ∧ wo.heap.size + 1 ≤ w2.heap.size)
      (fun _ i _ => m - (intOf i).toNat)
    case atStart =>
      refine ⟨0, .slice none 0 0, Nat.zero_le _, rfl, by rw [HK0.out]; simp, .inl rfl, by simp, by simp, by simp, by simp, by simp, fun o => by simp, World.ownsRow_nil _ _ _ _, ?_, by simp⟩
      exact (Below.refl _ _).alloc (by simp) _
    case round =>
      obtain ⟨j, sv, hj, rfl, rfl, hjs, y0, y1, y2, y3, y4, yf, hrow, hbin, hzi⟩ := hrel
      obtain ⟨so, sc, rfl⟩ := owns_slice hrow
      have hzw : wo.heap.size < wr.heap.size := by omega
      have yf0 := yf.out 0
      have yf1 := yf.out 1
      have yf2 := yf.out 2
      have yf3 := yf.out 3
      have yf4 := yf.out 4
      by_cases hjl : (j : Int) < m ∧ k0 + 4 * (j : Int) < s.size
      case neg =>
        have hje := jst4_eq hj hjs.out hjl
        rw [← hje] at HX HA
        have hjn : (j : Int) < m → ¬ (k0 + 4 * (j : Int) < s.size) := fun h1 h2 => hjl ⟨h1, h2⟩
        clear hjl hje hjs
        have hdn' : Hid (∀ i, i < k + 1 → (i : Int) < byteOr 0 s 6 ∧ prAt s i < s.size) := by
          intro i hi
          by_cases e : i = k
          · subst e; rw [HN.out]; exact ⟨hlt1, hlt2⟩
          · exact hdn.out i (by omega)
        have hpl := opsAt_length 0 s k0 j
        generalize opsAt 0 s k0 j = ps at *
        subst hpl
        have hown1 : ∀ W, Below wo.heap.size wo W → OwnBlocks W (w.heap.size + 2) (.slice ao bv.length cp) bv := fun W hW => hown.below hW (Nat.le_refl _)
        have x4 := (hbin.cell (p := ⟨w.heap.size + 1, 4, none⟩) hzl).trans hx4
        have xf := (hbin.frozen (p := ⟨w.heap.size + 1, 4, none⟩) hzl).trans hxf
        have hzl1 : w.heap.size + 1 < wr.heap.size := by omega
        have hzx : w.heap.size + 1 < wo.heap.size := hzl
        have hbW : ∀ u1 u2 u3 u4, Below wo.heap.size wo ((((wr.setCell ⟨wo.heap.size, 1, none⟩ u1).setCell ⟨wo.heap.size, 2, none⟩ u2).setCell ⟨wo.heap.size, 3, none⟩ u3).setCell ⟨wo.heap.size, 4, none⟩ u4) := fun u1 u2 u3 u4 =>
          (((hbin.setCell (Nat.le_refl _) u1).setCell (Nat.le_refl _) u2).setCell (Nat.le_refl _) u3).setCell (Nat.le_refl _) u4
        have hrowW : ∀ u1 u2 u3 u4, ((((wr.setCell ⟨wo.heap.size, 1, none⟩ u1).setCell ⟨wo.heap.size, 2, none⟩ u2).setCell ⟨wo.heap.size, 3, none⟩ u3).setCell ⟨wo.heap.size, 4, none⟩ u4).ownsRow (wo.heap.size + 1) 101 4 (.slice so ps.length sc) ps.length (opCells ps) := fun u1 u2 u3 u4 =>
          ownsRow_setCell_below (ownsRow_setCell_below (ownsRow_setCell_below (ownsRow_setCell_below hrow (by simp) u1) (by simp) u2) (by simp) u3) (by simp) u4
        by_cases hq : (ps.length : Int) < m
        · have hq2 := hjn hq
          clear hjn
          go_wp2_with (first | (go_at_call 63; refine (at_any _ _ _ hs).mono ?_; rintro e w' ⟨rfl, rfl⟩) | (at_builtin; refine wpList_append_own _ rfl _ _ 22 rfl (w.heap.size + 2) 90 i0 (.agg #[.slice none 0 0, .int .i64 0, .int .i64 0, .int .i64 0, .int .i64 0]) 5 56 Try.underlying22 ii iz0 iz1 iz2 rfl (by decide) _ _ _ rfl ((hown1 _ (hbW _ _ _ _)).row.alloc _) ⟨wr.heap.size, 0, none⟩ 1 1 [.slice so ps.length sc, .int .i64 (byteOr 0 s (k0 + 4 * ps.length)), .int .i64 (byteOr 0 s (k0 + 4 * ps.length + 1)), .int .i64 (byteOr 0 s (k0 + 4 * ps.length + 2)), .int .i64 (byteOr 0 s (k0 + 4 * ps.length + 3))] rfl rfl ?d1 five_one ?d3 ?d4 ?d5 ?_))
          case d1 => simpa using five_new ((((wr.setCell ⟨wo.heap.size, 1, none⟩ _).setCell ⟨wo.heap.size, 2, none⟩ _).setCell ⟨wo.heap.size, 3, none⟩ _).setCell ⟨wo.heap.size, 4, none⟩ _) _ _ _ _ _ _
          case d3 => have := hvl.out; unfold maxLen; omega
          case d4 => have := hvl.out; omega
          case d5 => first | omega | (simp; omega)
          intro v' w2 hown' hgrow _
          obtain ⟨own2, hbo2, hb3, hz3⟩ := pref_step hown (hbW _ _ _ _) (hrowW _ _ _ _) hbel hz hown' hgrow
          have v0 := (hbo2.cell (p := ⟨w.heap.size + 1, 0, none⟩) (by simp)).trans hx0
          have v1 := (hbo2.cell (p := ⟨w.heap.size + 1, 1, none⟩) (by simp)).trans hx1
          have v2 := (hbo2.cell (p := ⟨w.heap.size + 1, 2, none⟩) (by simp)).trans hx2
          have v3 := (hbo2.cell (p := ⟨w.heap.size + 1, 3, none⟩) (by simp)).trans hx3
          have v4 := (hbo2.cell (p := ⟨w.heap.size + 1, 4, none⟩) (by simp)).trans hx4
          have vf := (hbo2.frozen (p := ⟨w.heap.size + 1, 4, none⟩) (by simp)).trans hxf
          obtain ⟨ao', cp', hv'⟩ := owns_slice own2.row
          rw [List.length_append] at hv'
          simp only [List.length_cons, List.length_nil, Nat.zero_add] at hv'
          subst hv'
          have hzl2 : w.heap.size + 1 < w2.heap.size := by omega
          clear hgrow hown hown' hown1 hx0 hx1 hx2 hx3 hx4 hxf x4 xf hbel hbin hrow y0 y1 y2 y3 y4 yf yf0 yf1 yf2 yf3 yf4 hbW hrowW hbo2
          go_wp2
          go_roundw
          case rel =>
            refine ⟨k + 1, _, _, by omega, by go_num, by rw [HA.out], cell_unset (by simp) v0, cell_unset (by simp) v1, cell_unset (by simp) v2, cell_unset (by simp) v3, cell_set v4, by simp [vf], own2.set (by simp) _, ?_, ?_, hdn', hb3.setCell (by simp) _, by simp; omega⟩
            · show bdat _ = _
              rw [HX.out, ← hdt.out]; simp [bdat]
            · show List.length _ = _
              have := hvl.out
              simp; exact this
          case measure => simp [intOf]; omega
        · clear hjn
          go_wp2_with (first | (go_at_call 63; refine (at_any _ _ _ hs).mono ?_; rintro e w' ⟨rfl, rfl⟩) | (at_builtin; refine wpList_append_own _ rfl _ _ 22 rfl (w.heap.size + 2) 90 i0 (.agg #[.slice none 0 0, .int .i64 0, .int .i64 0, .int .i64 0, .int .i64 0]) 5 56 Try.underlying22 ii iz0 iz1 iz2 rfl (by decide) _ _ _ rfl ((hown1 _ (hbW _ _ _ _)).row.alloc _) ⟨wr.heap.size, 0, none⟩ 1 1 [.slice so ps.length sc, .int .i64 (byteOr 0 s (k0 + 4 * ps.length)), .int .i64 (byteOr 0 s (k0 + 4 * ps.length + 1)), .int .i64 (byteOr 0 s (k0 + 4 * ps.length + 2)), .int .i64 (byteOr 0 s (k0 + 4 * ps.length + 3))] rfl rfl ?e1 five_one ?e3 ?e4 ?e5 ?_))
          case e1 => simpa using five_new ((((wr.setCell ⟨wo.heap.size, 1, none⟩ _).setCell ⟨wo.heap.size, 2, none⟩ _).setCell ⟨wo.heap.size, 3, none⟩ _).setCell ⟨wo.heap.size, 4, none⟩ _) _ _ _ _ _ _
          case e3 => have := hvl.out; unfold maxLen; omega
          case e4 => have := hvl.out; omega
          case e5 => first | omega | (simp; omega)
          intro v' w2 hown' hgrow _
          obtain ⟨own2, hbo2, hb3, hz3⟩ := pref_step hown (hbW _ _ _ _) (hrowW _ _ _ _) hbel hz hown' hgrow
          have v0 := (hbo2.cell (p := ⟨w.heap.size + 1, 0, none⟩) (by simp)).trans hx0
          have v1 := (hbo2.cell (p := ⟨w.heap.size + 1, 1, none⟩) (by simp)).trans hx1
          have v2 := (hbo2.cell (p := ⟨w.heap.size + 1, 2, none⟩) (by simp)).trans hx2
          have v3 := (hbo2.cell (p := ⟨w.heap.size + 1, 3, none⟩) (by simp)).trans hx3
          have v4 := (hbo2.cell (p := ⟨w.heap.size + 1, 4, none⟩) (by simp)).trans hx4
          have vf := (hbo2.frozen (p := ⟨w.heap.size + 1, 4, none⟩) (by simp)).trans hxf
          obtain ⟨ao', cp', hv'⟩ := owns_slice own2.row
          rw [List.length_append] at hv'
          simp only [List.length_cons, List.length_nil, Nat.zero_add] at hv'
          subst hv'
          have hzl2 : w.heap.size + 1 < w2.heap.size := by omega
          clear hgrow hown hown' hown1 hx0 hx1 hx2 hx3 hx4 hxf x4 xf hbel hbin hrow y0 y1 y2 y3 y4 yf yf0 yf1 yf2 yf3 yf4 hbW hrowW hbo2
          go_wp2
          go_roundw
          case rel =>
            refine ⟨k + 1, _, _, by omega, by go_num, by rw [HA.out], cell_unset (by simp) v0, cell_unset (by simp) v1, cell_unset (by simp) v2, cell_unset (by simp) v3, cell_set v4, by simp [vf], own2.set (by simp) _, ?_, ?_, hdn', hb3.setCell (by simp) _, by simp; omega⟩
            · show bdat _ = _
              rw [HX.out, ← hdt.out]; simp [bdat]
            · show List.length _ = _
              have := hvl.out
              simp; exact this
          case measure => simp [intOf]; omega
      obtain ⟨hj1, hj2⟩ := hjl
      have HS : Hid (opsAt 0 s k0 (j + 1) = opsAt 0 s k0 j ++ [⟨byteOr 0 s (k0 + 4 * j), byteOr 0 s (k0 + 4 * j + 1), byteOr 0 s (k0 + 4 * j + 2), byteOr 0 s (k0 + 4 * j + 3)⟩]) := rfl
      go_wp2_with (first | (go_at_call 63; refine (at_any _ _ _ hs).mono ?_; rintro e w' ⟨rfl, rfl⟩) | (at_builtin; refine wpList_append_own _ rfl _ _ 86 rfl (wo.heap.size + 1) 101 j0 (.agg #[.int .i64 0, .int .i64 0, .int .i64 0, .int .i64 0]) 4 32 Try.underlying86 ji jz0 jz1 jz2 rfl (by decide) _ _ _ rfl ((hrow.alloc _).alloc _) ⟨wr.heap.size + 1, 0, none⟩ 1 1 [.int .i64 (byteOr 0 s (k0 + 4 * j)), .int .i64 (byteOr 0 s (k0 + 4 * j + 1)), .int .i64 (byteOr 0 s (k0 + 4 * j + 2)), .int .i64 (byteOr 0 s (k0 + 4 * j + 3))] rfl rfl ?c1 four_one ?c3 ?c4 ?c5 ?_))
      case c1 => simpa using four_new (wr.alloc _) _ _ _ _ _
      case c3 => unfold maxLen; omega
      case c4 => omega
      case c5 => first | omega | (simp; omega)
      intro v' w1 hrow' hgrow _
      rw [← opCells_snoc, ← HS.out] at hrow'
      have hb2 := ((((Below.refl (wo.heap.size + 1) wr).alloc hzi _).alloc (by simp; omega) _).grown hgrow (by simp; omega) (fun g hg => (hrow.lt g hg).1))
      have z0 := (hb2.cell (p := ⟨wo.heap.size, 0, none⟩) (by simp)).trans y0
      have z1 := (hb2.cell (p := ⟨wo.heap.size, 1, none⟩) (by simp)).trans y1
      have z2 := (hb2.cell (p := ⟨wo.heap.size, 2, none⟩) (by simp)).trans y2
      have z3 := (hb2.cell (p := ⟨wo.heap.size, 3, none⟩) (by simp)).trans y3
      have z4 := (hb2.cell (p := ⟨wo.heap.size, 4, none⟩) (by simp)).trans y4
      have zf : Hid (∀ o, w1.frozen? ⟨wo.heap.size, o, none⟩ = false) := fun o => (hb2.frozen (p := ⟨wo.heap.size, o, none⟩) (by simp)).trans (yf.out o)
      have zf0 := zf.out 0
      have hz2 := hb2.size
      have hb3 := hbin.trans (hb2.mono (by omega))
      obtain ⟨ao', cp', rfl⟩ := owns_slice hrow'
      clear hgrow hrow y0 y1 y2 y3 y4 yf yf0 yf1 yf2 yf3 yf4 hb2 hbin
      go_wp2
      go_roundw
      case rel =>
        exact ⟨j + 1, _, by omega, by go_num, by go_num, .inr (by simp; omega), cell_set z0, cell_unset (by simp) z1, cell_unset (by simp) z2, cell_unset (by simp) z3, cell_unset (by simp) z4, fun o => by simp [zf.out o], ownsRow_setCell_below hrow' (by simp) _, hb3.setCell (by simp) _, by simp; omega⟩
      case measure => simp [intOf]; omega

end Go.Proofs.Ytblhmeidbjigaaa

/- Texts of programs: what is read is what was written. -/
set_option linter.unusedSimpArgs false
set_option linter.unusedVariables false
namespace Go.Proofs.Ytblhmeidbjigaaa
open Go.RowKit

def oct4 (a b c d : Int) : Prop := (0 ≤ a ∧ a < 256) ∧ (0 ≤ b ∧ b < 256) ∧ (0 ≤ c ∧ c < 256) ∧ (0 ≤ d ∧ d < 256)

theorem opGood_oct {regs slots : Int} {o : OpD} (h : opGood regs slots o = true) (hr : regs ≤ 8) (hs : slots ≤ 8) : oct4 o.kind o.a o.b o.c := by
  unfold oct4
  simp only [opGood, below] at h
  repeat' split at h
  all_goals first | (simp at h; done) | (simp at h; omega)

theorem endGood_oct {regs n : Int} {e : EndD} (h : endGood regs n e = true) (hr : regs ≤ 8) (hn : n ≤ 6) : oct4 e.kind e.r e.x e.y := by
  unfold oct4
  simp only [endGood, below] at h
  repeat' split at h
  all_goals first | (simp at h; done) | (simp at h; omega)

theorem opsText_get (l : List OpD) (i : Nat) (hi : i < l.length) : (opsText l)[i * 4]? = some (byt (okind l i)) ∧ (opsText l)[i * 4 + 1]? = some (byt (oa l i)) ∧ (opsText l)[i * 4 + 2]? = some (byt (ob l i)) ∧ (opsText l)[i * 4 + 3]? = some (byt (oc l i)) := by
  induction l generalizing i with
  | nil => simp at hi
  | cons p r ih =>
    cases i with
    | zero => exact ⟨rfl, rfl, rfl, rfl⟩
    | succ i =>
      have h := ih i (by simpa using hi)
      have e1 : (i + 1) * 4 = i * 4 + 1 + 1 + 1 + 1 := by omega
      rw [e1]
      exact h

def opsOk (l : List OpD) : Prop := ∀ i, i < l.length → oct4 (okind l i) (oa l i) (ob l i) (oc l i)

theorem byte_mid {d : Int} {l a b c : List UInt8} {o i : Nat} {x : Int} {q : Int} (hl : l = a ++ b ++ c) (ho : a.length = o) (h : b[i]? = some (byt x)) (h0 : 0 ≤ x) (h1 : x < 256) (hq : q = ((o + i : Nat) : Int)) : byteOr d (str l) q = x := by
  rw [hq, byteOr_str (get_mid hl ho h), byt_toNat h0 h1]

theorem opsAt_text {d : Int} {l a c : List UInt8} {ps : List OpD} {o : Nat} (hl : l = a ++ opsText ps ++ c) (ho : a.length = o) (hok : opsOk ps) (k : Nat) (hk : k ≤ ps.length) : opsAt d (str l) o k = ps.take k := by
  induction k with
  | zero => rfl
  | succ k ih =>
    have hk' : k < ps.length := by omega
    obtain ⟨g1, g2, g3, g4⟩ := opsText_get ps k hk'
    obtain ⟨o1, o2, o3, o4⟩ := hok k hk'
    have e1 : byteOr d (str l) ((o : Int) + 4 * k) = okind ps k := byte_mid hl ho g1 o1.1 o1.2 (by omega)
    have e2 : byteOr d (str l) ((o : Int) + 4 * k + 1) = oa ps k := byte_mid hl ho g2 o2.1 o2.2 (by omega)
    have e3 : byteOr d (str l) ((o : Int) + 4 * k + 2) = ob ps k := byte_mid hl ho g3 o3.1 o3.2 (by omega)
    have e4 : byteOr d (str l) ((o : Int) + 4 * k + 3) = oc ps k := byte_mid hl ho g4 o4.1 o4.2 (by omega)
    rw [opsAt, ih (by omega), e1, e2, e3, e4, take_getD ps oz k hk']
    rfl

theorem progText_split (p : ProgD) {k : Nat} (hk : k < p.blocks.length) :
    progText p = (headText p ++ (p.blocks.take k).flatMap blockText) ++ blockText (p.blocks.getD k bz) ++ (p.blocks.drop (k + 1)).flatMap blockText := by
  unfold progText
  have e : p.blocks = p.blocks.take k ++ (p.blocks.getD k bz :: p.blocks.drop (k + 1)) := by rw [← drop_getD p.blocks bz k hk, List.take_append_drop]
  conv => lhs; arg 2; rw [e]
  simp [List.flatMap_append, List.flatMap_cons]

/-- Where the k-th block begins in the text of p. -/
def poff (p : ProgD) (k : Nat) : Nat := 7 + ((p.blocks.take k).flatMap blockText).length

theorem poff_succ {p : ProgD} {k : Nat} (hk : k < p.blocks.length) : poff p (k + 1) = poff p k + 1 + 4 * (bops p.blocks k).length + 4 := by
  unfold poff
  rw [take_getD p.blocks bz k hk, List.flatMap_append]
  simp [blockText_length, bops]
  omega

theorem headText_length (p : ProgD) : (headText p).length = 7 := rfl

theorem poff_len (p : ProgD) : (progText p).length = poff p p.blocks.length := by
  simp [poff, progText, headText_length]

theorem poff_mono {p : ProgD} {k : Nat} (hk : k < p.blocks.length) : poff p (k + 1) ≤ (progText p).length := by
  have := progText_split p hk
  rw [this]
  rw [poff_succ hk]
  simp [blockText_length, poff, bops, headText_length]
  omega

theorem progGood_nums {p : ProgD} (hg : progGood p = true) : (1 ≤ p.regs ∧ p.regs ≤ 8) ∧ (0 ≤ p.args ∧ p.args ≤ p.regs) ∧ (0 ≤ p.data ∧ p.data ≤ 8) ∧ (0 ≤ p.slots ∧ p.slots ≤ 8) := by
  simp [progGood] at hg; omega

theorem progGood_oct {p : ProgD} (hg : progGood p = true) {k : Nat} (hk : k < p.blocks.length) : opsOk (bops p.blocks k) ∧ oct4 (bek p.blocks k) (ber p.blocks k) (bex p.blocks k) (bey p.blocks k) := by
  have hb := progGood_block hg (p.blocks.getD k bz) (getD_mem' hk)
  have hn := progGood_nums hg
  have hl := progGood_len hg
  simp only [blockGood, Bool.and_eq_true] at hb
  refine ⟨?_, endGood_oct hb.2 (by omega) (by omega)⟩
  intro i hi
  have := hb.1.2
  simp only [opsGood, List.all_eq_true] at this
  exact opGood_oct (this _ (getD_mem' (d := oz) hi)) (by omega) (by omega)

/-- What is read at the k-th block of a good program's text. -/
theorem read_pblock {d : Int} {p : ProgD} (hg : progGood p = true) {k : Nat} (hk : k < p.blocks.length) :
    byteOr d (str (progText p)) (poff p k) = (bops p.blocks k).length ∧ blkAt d (str (progText p)) (poff p k) (bops p.blocks k).length = p.blocks.getD k bz := by
  have hs := progText_split p hk
  obtain ⟨ho1, ho2⟩ := progGood_oct hg hk
  have hlen := progGood_ops hg hk
  have ho : (headText p ++ (p.blocks.take k).flatMap blockText).length = poff p k := by simp [poff, headText_length]
  have e0 : byteOr d (str (progText p)) (poff p k) = (bops p.blocks k).length := byte_mid hs ho (i := 0) rfl (by omega) (by omega) (by omega)
  have hs1 : progText p = (headText p ++ (p.blocks.take k).flatMap blockText ++ [byt (bops p.blocks k).length]) ++ opsText (bops p.blocks k) ++ (endText (bfin p.blocks k) ++ (p.blocks.drop (k + 1)).flatMap blockText) := by
    rw [hs]; simp [blockText, bops, bfin]
  have hs2 : progText p = (headText p ++ (p.blocks.take k).flatMap blockText ++ [byt (bops p.blocks k).length] ++ opsText (bops p.blocks k)) ++ endText (bfin p.blocks k) ++ (p.blocks.drop (k + 1)).flatMap blockText := by
    rw [hs]; simp [blockText, bops, bfin]
  have l1 : (headText p ++ (p.blocks.take k).flatMap blockText ++ [byt (bops p.blocks k).length]).length = poff p k + 1 := by rw [List.length_append, ho]; rfl
  have l2 : (headText p ++ (p.blocks.take k).flatMap blockText ++ [byt (bops p.blocks k).length] ++ opsText (bops p.blocks k)).length = poff p k + 1 + 4 * (bops p.blocks k).length := by rw [List.length_append, l1, opsText_length]
  have e1 := opsAt_text (d := d) hs1 l1 ho1 _ (Nat.le_refl _)
  rw [List.take_length] at e1
  obtain ⟨q1, q2, q3, q4⟩ := ho2
  have f1 : byteOr d (str (progText p)) ((poff p k : Int) + 1 + 4 * (bops p.blocks k).length) = bek p.blocks k := byte_mid hs2 l2 (i := 0) rfl q1.1 q1.2 (by omega)
  have f2 : byteOr d (str (progText p)) ((poff p k : Int) + 1 + 4 * (bops p.blocks k).length + 1) = ber p.blocks k := byte_mid hs2 l2 (i := 1) rfl q2.1 q2.2 (by omega)
  have f3 : byteOr d (str (progText p)) ((poff p k : Int) + 1 + 4 * (bops p.blocks k).length + 2) = bex p.blocks k := byte_mid hs2 l2 (i := 2) rfl q3.1 q3.2 (by omega)
  have f4 : byteOr d (str (progText p)) ((poff p k : Int) + 1 + 4 * (bops p.blocks k).length + 3) = bey p.blocks k := byte_mid hs2 l2 (i := 3) rfl q4.1 q4.2 (by omega)
  refine ⟨e0, ?_⟩
  unfold blkAt finAt
  rw [f1, f2, f3, f4, show (poff p k : Int) + 1 = ((poff p k + 1 : Nat) : Int) by omega, e1]
  rfl

theorem read_phead {d : Int} {p : ProgD} (hg : progGood p = true) : byteOr d (str (progText p)) 0 = 84 ∧ byteOr d (str (progText p)) 1 = 87 ∧ byteOr d (str (progText p)) 2 = p.args ∧ byteOr d (str (progText p)) 3 = p.regs ∧ byteOr d (str (progText p)) 4 = p.data ∧ byteOr d (str (progText p)) 5 = p.slots ∧ byteOr d (str (progText p)) 6 = p.blocks.length := by
  have hl := progGood_len hg
  have hn := progGood_nums hg
  have hs : progText p = [] ++ headText p ++ p.blocks.flatMap blockText := rfl
  refine ⟨byteOr_str (i := 0) (b := 84) rfl, byteOr_str (i := 1) (b := 87) rfl, ?_, ?_, ?_, ?_, ?_⟩
  · exact byte_mid hs (o := 0) rfl (i := 2) rfl (by omega) (by omega) (by omega)
  · exact byte_mid hs (o := 0) rfl (i := 3) rfl (by omega) (by omega) (by omega)
  · exact byte_mid hs (o := 0) rfl (i := 4) rfl (by omega) (by omega) (by omega)
  · exact byte_mid hs (o := 0) rfl (i := 5) rfl (by omega) (by omega) (by omega)
  · exact byte_mid hs (o := 0) rfl (i := 6) rfl (by omega) (by omega) (by omega)

theorem pcod_reads {p : ProgD} (hg : progGood p = true) (k : Nat) (hk : k ≤ p.blocks.length) : patOf (str (progText p)) k = poff p k ∧ blocksOf (str (progText p)) k = p.blocks.take k := by
  induction k with
  | zero => exact ⟨rfl, rfl⟩
  | succ k ih =>
    obtain ⟨e1, e2⟩ := ih (by omega)
    obtain ⟨r1, r2⟩ := read_pblock (d := -1) hg (show k < p.blocks.length by omega)
    constructor
    · rw [patOf, e1, r1, poff_succ (by omega), Int.toNat_natCast]; omega
    · rw [blocksOf, e2, e1, r1, Int.toNat_natCast, r2, take_getD p.blocks bz k (by omega)]

theorem pref_reads {p : ProgD} (hg : progGood p = true) (k : Nat) (hk : k ≤ p.blocks.length) : prAt (str (progText p)) k = poff p k ∧ rBlocks (str (progText p)) k = p.blocks.take k := by
  induction k with
  | zero => exact ⟨rfl, rfl⟩
  | succ k ih =>
    obtain ⟨e1, e2⟩ := ih (by omega)
    obtain ⟨r1, r2⟩ := read_pblock (d := 0) hg (show k < p.blocks.length by omega)
    have hm := poff_mono (show k < p.blocks.length by omega)
    have hsu := poff_succ (show k < p.blocks.length by omega)
    have hj : jst4 (str (progText p)).size ((poff p k : Int) + 1) (bops p.blocks k).length = (bops p.blocks k).length := by
      unfold jst4
      rw [str_size]
      omega
    constructor
    · rw [prAt, e1, r1, Int.toNat_natCast, hj, hsu]; omega
    · rw [rBlocks, e2, e1, r1, Int.toNat_natCast, hj, r2, take_getD p.blocks bz k (by omega)]

theorem progD_eta (p : ProgD) : (⟨p.args, p.regs, p.data, p.slots, p.blocks⟩ : ProgD) = p := rfl

theorem pref_stops {p : ProgD} (hg : progGood p = true) {i : Nat} (hi : PRStop (str (progText p)) i) : progR (str (progText p)) i = p := by
  obtain ⟨_, _, h2, h3, h4, h5, h6⟩ := read_phead (d := 0) hg
  have : i = p.blocks.length := by
    rcases Nat.lt_trichotomy i p.blocks.length with hlt | heq | hgt
    · exfalso
      apply hi.stop
      rw [h6, (pref_reads hg i (by omega)).1, str_size]
      have := poff_mono hlt
      have := poff_succ hlt
      omega
    · exact heq
    · have := (hi.done p.blocks.length hgt).1
      rw [h6] at this
      omega
  subst this
  unfold progR
  rw [(pref_reads hg _ (Nat.le_refl _)).2, List.take_length, h2, h3, h4, h5]

/-! ### Back: what was read, written again -/

theorem seg_one {s : ByteArray} {i : Nat} (h : i < s.size) : seg s i 1 = [byt (byteOr (-1) s i)] := by
  have hl : s.data.toList.length = s.size := Array.length_toList
  rw [byteOr_in h, byt_of]
  unfold seg
  rw [List.drop_eq_getElem_cons (by omega)]
  rfl

theorem seg_four {s : ByteArray} {i : Nat} (h : i + 3 < s.size) : seg s i 4 = [byt (byteOr (-1) s i), byt (byteOr (-1) s ((i : Int) + 1)), byt (byteOr (-1) s ((i : Int) + 2)), byt (byteOr (-1) s ((i : Int) + 3))] := by
  rw [show (4 : Nat) = 2 + 2 from rfl, seg_add, seg_two (by omega), seg_two (by omega)]
  rw [show ((i + 2 : Nat) : Int) = (i : Int) + 2 by omega, show (i : Int) + 2 + 1 = (i : Int) + 3 by omega]
  rfl

theorem ops_seg {s : ByteArray} {o : Nat} (k : Nat) (h : o + 4 * k ≤ s.size) : opsText (opsAt (-1) s o k) = seg s o (4 * k) := by
  induction k with
  | zero => simp [opsAt, opsText, seg]
  | succ k ih =>
    rw [show 4 * (k + 1) = 4 * k + 4 by omega, seg_add, ← ih (by omega), seg_four (by omega)]
    simp only [opsAt, opsText, List.flatMap_append, List.flatMap_cons, List.flatMap_nil, List.append_nil]
    rw [show ((o + 4 * k : Nat) : Int) = (o : Int) + 4 * k by omega]
    rfl

theorem block_seg {s : ByteArray} {a m : Nat} (hm : byteOr (-1) s a = m) (h : a + 1 + 4 * m + 4 ≤ s.size) : blockText (blkAt (-1) s a m) = seg s a (1 + 4 * m + 4) := by
  rw [seg_add, seg_add, seg_one (by omega), hm, ← ops_seg m (by omega), seg_four (by omega)]
  simp only [blockText, blkAt, opsAt_length, endText, finAt]
  rw [show ((a + (1 + 4 * m) : Nat) : Int) = (a : Int) + 1 + 4 * m by omega, show ((a + 1 : Nat) : Int) = (a : Int) + 1 by omega]

theorem blocksOf_length (s : ByteArray) (k : Nat) : (blocksOf s k).length = k := by
  induction k with
  | zero => rfl
  | succ k ih => simp [blocksOf, ih]

theorem blocks_seg {s : ByteArray} (k : Nat) (h : patOf s k ≤ s.size) : (blocksOf s k).flatMap blockText = seg s 7 (patOf s k - 7).toNat := by
  induction k with
  | zero => simp [blocksOf, patOf, seg]
  | succ k ih =>
    have hb := patOf_bd s k
    obtain ⟨a, ha⟩ := Int.eq_ofNat_of_zero_le (show 0 ≤ patOf s k by omega)
    have hstep : patOf s (k + 1) = patOf s k + (1 + 4 * (byteOr (-1) s (patOf s k)).toNat + 4) := rfl
    generalize hm' : (byteOr (-1) s (patOf s k)).toNat = m at hstep
    have hcnt : byteOr (-1) s a = m := by
      rw [ha, byteOr_in (by omega)] at hm'
      rw [byteOr_in (by omega)]
      omega
    have e3 : (patOf s (k + 1) - 7).toNat = (patOf s k - 7).toNat + (1 + 4 * m + 4) := by omega
    rw [blocksOf, List.flatMap_append, ih (by omega), e3, seg_add]
    have ea : 7 + (patOf s k - 7).toNat = a := by omega
    rw [ea, hm', ha]
    congr 1
    simp only [List.flatMap_cons, List.flatMap_nil, List.append_nil]
    exact block_seg hcnt (by omega)

theorem pcod_text {s : ByteArray} (h : readsProg s = true) : str (progText (progOf s)) = s := by
  simp only [readsProg, Bool.and_eq_true, decide_eq_true_eq] at h
  obtain ⟨⟨⟨h0, h1⟩, h2⟩, h3⟩ := h
  have hb := patOf_bd s (byteOr (-1) s 6).toNat
  have hl : s.data.toList.length = s.size := Array.length_toList
  have hc : ((byteOr (-1) s 6).toNat : Int) = byteOr (-1) s 6 := by
    have e : byteOr (-1) s ((6 : Nat) : Int) = _ := byteOr_in (d := -1) (show 6 < s.size by omega)
    have e' : byteOr (-1) s 6 = _ := e
    rw [e']
    omega
  have hs := blocks_seg (s := s) (byteOr (-1) s 6).toNat (by omega)
  have f0 : seg s 0 s.size = s.data.toList := by unfold seg; rw [List.drop_zero, ← hl, List.take_length]
  have f1 : s.size = 2 + 4 + 1 + (patOf s (byteOr (-1) s 6).toNat - 7).toNat := by omega
  have e2 := seg_two (s := s) (i := 0) (by omega)
  have e4 := seg_four (s := s) (i := 2) (by omega)
  have e1 := seg_one (s := s) (i := 6) (by omega)
  have z0 : byteOr (-1) s ((0 : Nat) : Int) = 84 := h0
  have z1 : byteOr (-1) s (((0 : Nat) : Int) + 1) = 87 := h1
  rw [z0, z1] at e2
  rw [f1, seg_add, seg_add, seg_add] at f0
  have e2' : seg s 0 2 = [84, 87] := e2
  have e4' : seg s (0 + 2) 4 = [byt (byteOr (-1) s 2), byt (byteOr (-1) s 3), byt (byteOr (-1) s 4), byt (byteOr (-1) s 5)] := e4
  have e1' : seg s (0 + (2 + 4)) 1 = [byt (byteOr (-1) s 6)] := e1
  have hs' : seg s (0 + (2 + 4 + 1)) (patOf s (byteOr (-1) s 6).toNat - 7).toNat = (blocksOf s (byteOr (-1) s 6).toNat).flatMap blockText := hs.symm
  rw [e2', e4', e1', hs'] at f0
  have f2 : progText (progOf s) = s.data.toList := by
    rw [← f0]
    simp only [progText, headText, progOf, blocksOf_length, hc]
    rfl
  rw [f2, ← str_of]

/-! ### The two contracts, in the document's words -/

theorem cDecode_any (s : ByteArray) (w : World) (hs : s.size ≤ maxLen) :
    Calls Try.prog 48 #[.string s] w fun e w' => ((∃ p v bv, e = .returned (.tuple #[progV p v, .int .i64 0]) ∧ OwnBlocks w' w.heap.size v bv ∧ bdat bv = p.blocks ∧ progGood p = true ∧ str (progText p) = s) ∨
      ((∀ p, progGood p = true → str (progText p) ≠ s) ∧ e = .returned (.tuple #[.agg #[.int .i64 0, .int .i64 0, .int .i64 0, .int .i64 0, .slice none 0 0], .int .i64 1]))) ∧ Below w.heap.size w w' := by
  refine cDecode_cps s w hs _ ?_ ?_
  · intro v bv w' hr ho hd hb
    refine ⟨.inl ⟨progOf s, v, bv, rfl, ho, hd, ?_, pcod_text hr⟩, hb⟩
    simp only [readsProg, Bool.and_eq_true] at hr; exact hr.2
  · intro w' hr hb
    refine ⟨.inr ⟨?_, rfl⟩, hb⟩
    intro p hg he
    subst he
    obtain ⟨r0, r1, r2, r3, r4, r5, r6⟩ := read_phead (d := -1) hg
    have := pcod_reads hg p.blocks.length (Nat.le_refl _)
    simp only [readsProg, progOf, r0, r1, r2, r3, r4, r5, r6, Int.toNat_natCast, this.1, this.2, List.take_length, progD_eta, hg, str_size, poff_len] at hr
    simp at hr

theorem rDecode_any (s : ByteArray) (w : World) (hs : s.size ≤ maxLen) :
    Calls Try.prog 32 #[.string s] w fun e w' => ((∃ p v bv, e = .returned (.tuple #[progV p v, .bool true]) ∧ OwnBlocks w' w.heap.size v bv ∧ bdat bv = p.blocks ∧ progGood p = true ∧ str (progText p) = s) ∨
      ((∀ p, progGood p = true → str (progText p) ≠ s) ∧ e = .returned (.tuple #[.agg #[.int .i64 0, .int .i64 0, .int .i64 0, .int .i64 0, .slice none 0 0], .bool false]))) ∧ Below w.heap.size w w' := by
  refine rDecode_cps s w hs _ ?_ ?_
  · intro v bv w' i _ ho hd hg ht hb
    exact ⟨.inl ⟨progR s i, v, bv, rfl, ho, hd, hg, ht⟩, hb⟩
  · intro w' i hst hr hb
    refine ⟨.inr ⟨?_, rfl⟩, hb⟩
    intro p hg he
    subst he
    have := pref_stops hg hst
    rw [this] at hr
    exact hr hg rfl

/-- A text is the text of one program at most. -/
theorem prog_one {p q : ProgD} (hp : progGood p = true) (hq : progGood q = true) (e : str (progText p) = str (progText q)) : p = q := by
  obtain ⟨_, _, a2, a3, a4, a5, a6⟩ := read_phead (d := -1) hp
  obtain ⟨_, _, b2, b3, b4, b5, b6⟩ := read_phead (d := -1) hq
  have c := (pcod_reads hp p.blocks.length (Nat.le_refl _)).2
  have d := (pcod_reads hq q.blocks.length (Nat.le_refl _)).2
  rw [e] at a2 a3 a4 a5 a6 c
  have hl : p.blocks.length = q.blocks.length := by omega
  rw [hl, d, List.take_length, ← hl, List.take_length] at c
  rw [← progD_eta p, ← progD_eta q, ← c, ← a2, ← a3, ← a4, ← a5, b2, b3, b4, b5]

end Go.Proofs.Ytblhmeidbjigaaa

/- Appending to and storing into a program of one's own. -/
set_option linter.unusedSimpArgs false
set_option linter.unusedVariables false
namespace Go.Proofs.Ytblhmeidbjigaaa
open Go.RowKit

/-- Lists of bv that lie in lv's block are the beginning of what lv holds. -/
def PreO (bv : List (BlockD × Value)) (lv : Value) (ys : List Value) : Prop := ∀ x ∈ bv, ∀ g, x.2.ownBlock = some g → lv.ownBlock = some g → ∃ t, ys = opCells x.1.ops ++ t

theorem OwnBlocks.app {w w' : World} {base : Nat} {v lv : Value} {bv : List (BlockD × Value)} {m : Nat} {ys : List Value} (h : OwnBlocks w base v bv) (hl : w.ownsRow base 101 4 lv m ys) (hp : PreO bv lv ys)
    (hg : w.grownBy w' lv.ownBlock) (hl' : w'.ownsRow base 101 4 lv m ys) : OwnBlocks w' base v bv := by
  refine ⟨?_, ?_, h.apart⟩
  · refine h.row.kept hg ?_
    cases hb : v.ownBlock with
    | none => exact .inl rfl
    | some g => exact .inr (fun e => owns_apart h.row hl (by decide) g hb e.symm)
  · intro x hx
    cases hb : x.2.ownBlock with
    | none => exact (h.each x hx).kept hg (.inl hb)
    | some g =>
      by_cases e : lv.ownBlock = some g
      · obtain ⟨t, ht⟩ := hp x hx g hb e
        exact owns_pre (by decide) (h.each x hx) hl hb e hl' ht
      · exact (h.each x hx).kept hg (.inr (by rw [hb]; exact fun e' => e e'.symm))

theorem PreO.step {w : World} {base : Nat} {v lv lv' : Value} {bv : List (BlockD × Value)} {ys news : List Value} (h : OwnBlocks w base v bv) (hp : PreO bv lv ys) (hf : ∀ g, lv'.ownBlock = some g → lv.ownBlock = some g ∨ w.heap.size ≤ g) : PreO bv lv' (ys ++ news) := by
  intro x hx g hg hg'
  rcases hf g hg' with e | e
  · obtain ⟨t, ht⟩ := hp x hx g hg e
    exact ⟨t ++ news, by rw [ht, List.append_assoc]⟩
  · have := ((h.each x hx).lt g hg).2
    omega

theorem PreO.start {w : World} {base : Nat} {v : Value} {bv : List (BlockD × Value)} (h : OwnBlocks w base v bv) {i : Nat} (hi : i < bv.length) : PreO bv bv[i].2 (opCells bv[i].1.ops) := by
  intro x hx g hg hg'
  obtain ⟨j, hj, rfl⟩ := List.getElem_of_mem hx
  by_cases e : j = i
  · subst e; exact ⟨[], by simp⟩
  · exfalso
    rcases Nat.lt_or_gt_of_ne e with hlt | hgt
    · exact List.pairwise_iff_getElem.1 h.apart j i hj hi hlt g hg hg'
    · exact List.pairwise_iff_getElem.1 h.apart i j hi hj hgt g hg' hg

/-- Four cells of a block are set. -/
def set4 (w : World) (g o : Nat) (a b c d : Int) : World := (((w.setCell ⟨g, o, none⟩ (.int .i64 a)).setCell ⟨g, o + 1, none⟩ (.int .i64 b)).setCell ⟨g, o + 2, none⟩ (.int .i64 c)).setCell ⟨g, o + 3, none⟩ (.int .i64 d)

theorem Keep.set4 {S : Nat → Prop} {w a : World} (h : Keep S w a) {g o : Nat} (hp : S g ∨ w.heap.size ≤ g) (x y z u : Int) : Keep S w (set4 a g o x y z u) :=
  (((h.setCell (p := ⟨g, o, none⟩) hp _).setCell (p := ⟨g, o + 1, none⟩) hp _).setCell (p := ⟨g, o + 2, none⟩) hp _).setCell (p := ⟨g, o + 3, none⟩) hp _

end Go.Proofs.Ytblhmeidbjigaaa

/- The law on programs: reading. -/
set_option linter.unusedSimpArgs false
set_option linter.unusedVariables false
namespace Go.Proofs.Ytblhmeidbjigaaa
open Go.RowKit

theorem Row.kept {S : Nat → Prop} {w w' : World} {g : Nat} {e : TypeId} {xs : List Value} (h : Row w g e xs) (hk : Keep S w w') (hn : ¬ S g) : Row w' g e xs := h.same (hk.block g h.lt hn)

end Go.Proofs.Ytblhmeidbjigaaa

/- An end out of raw numbers. -/
set_option linter.unusedSimpArgs false
set_option linter.unusedVariables false
namespace Go.Proofs.Ytblhmeidbjigaaa
open Go.RowKit

theorem Keep.trans {S : Nat → Prop} {w a b : World} (h : Keep S w a) (h2 : Keep S a b) : Keep S w b :=
  h.step h2.os h2.tape h2.output h2.size fun k hk hn => h2.block k (Nat.lt_of_lt_of_le hk h.size) hn

end Go.Proofs.Ytblhmeidbjigaaa

/- The machine lets words out. -/
set_option linter.unusedSimpArgs false
set_option linter.unusedVariables false
namespace Go.Proofs.Ytblhmeidbjigaaa
open Go.RowKit

theorem Row.grown {w w' : World} {M : Nat} {t : TypeId} {xs : List Value} {row : Option Nat} (h : Row w M t xs) (hg : w.grownBy w' row) (hne : row ≠ some M) : Row w' M t xs := h.same (hg.block M h.lt (fun e => hne e.symm))

theorem Keep.mono {S S' : Nat → Prop} {w w' : World} (h : Keep S w w') (hs : ∀ g, S g → S' g) : Keep S' w w' := ⟨h.os, h.tape, h.output, h.size, fun k hk hn => h.block k hk (fun e => hn (hs k e))⟩

/-- The machine at block M. -/
def Mach (K : Nat → Prop) (w : World) (M : Nat) (s : RunD) : Prop :=
  ∃ rv cv sv lv, Row w M 123 [rv, cv, sv, lv, .int .i64 s.trap] ∧ Bunch K w rv cv sv lv s ∧ ¬ K M

theorem Mach.keep {K : Nat → Prop} {w w' : World} {M : Nat} {s : RunD} (h : Mach K w M s) (hb : Below w.heap.size w w') : Mach K w' M s := by
  obtain ⟨rv, cv, sv, lv, h1, h2, h3⟩ := h
  exact ⟨rv, cv, sv, lv, h1.keep hb, h2.keep hb, h3⟩

/-- Other blocks are kept: some of those, and new ones. -/
theorem Mach.kept {K K' : Nat → Prop} {w w' : World} {M : Nat} {s : RunD} (h : Mach K w M s) (hk : ∀ g, K' g → K g ∨ w.heap.size ≤ g) (hl : ∀ g, K' g → g < w'.heap.size) (hb : Below w.heap.size w w') : Mach K' w' M s := by
  obtain ⟨rv, cv, sv, lv, h1, h2, h3⟩ := h
  refine ⟨rv, cv, sv, lv, h1.keep hb, h2.kept hk hl hb, fun e => ?_⟩
  rcases hk M e with q | q
  · exact h3 q
  · have := h1.lt; omega

theorem Mach.lt {K : Nat → Prop} {w : World} {M : Nat} {s : RunD} (h : Mach K w M s) : ∀ g, K g → g < w.heap.size := by
  obtain ⟨rv, cv, sv, lv, h1, h2, h3⟩ := h
  exact h2.lt

theorem one_new (w : World) (x : Value) (t : TypeId) : ∀ j u, [x][j]? = some u → (w.alloc (.cells #[x] t)).cell? ((⟨w.heap.size, 0, none⟩ : Addr).add j) = some u := by
  intro j u hj
  match j, hj with
  | 0, hj => simp at hj; subst hj; simp [Addr.add]

set_option maxRecDepth 100000 in
set_option maxHeartbeats 2000000 in
theorem letOut_cps (K : Nat → Prop) (M : Nat) (s : RunD) (x : Int) (w : World) (h : Mach K w M s) (hl : s.leak.length ≤ 100000) (Post : Ending → World → Prop)
    (hp : ∀ w', Mach K w' M (s.out x) → Keep (fun g => ¬ K g) w w' → Post (.returned (.tuple #[])) w') :
    Calls Try.prog 101 #[.pointer (some ⟨M, 0, none⟩), .int .i64 x] w Post := by
  obtain ⟨rv, cv, sv, lv, hrow, hb, hK⟩ := h
  obtain ⟨i0, ii, iz0, iz1, iz2⟩ := info_parts Try.infoInt
  obtain ⟨lo, lc, rfl⟩ := owns_slice hb.leak
  have x3 := hrow.cell (i := 3) rfl
  have hne := row_owns_apart hrow hb.leak (by decide)
  have hal := (Below.refl w.heap.size w).alloc (Nat.le_refl _) (.cells #[.int .i64 x] 3)
  have hb0 := hb.keep hal
  have hr0 := hrow.keep hal
  have hk0 : Keep (fun g => ¬ K g) w (w.alloc (.cells #[.int .i64 x] 3)) := (Keep.refl _ _).alloc _
  go_enter Try.func101, Try.ntmps101
  go_wp2_with (at_builtin; refine wpList_append_own_at _ rfl _ _ 36 rfl 0 3 i0 (.int .i64 0) 1 8 Try.underlying36 ii iz0 iz1 iz2 rfl (by decide) _ _ _ rfl hb0.leak ⟨w.heap.size, 0, none⟩ 1 1 [.int .i64 x] rfl rfl ?c1 ?c2 ?c3 ?c4 (by omega) ?_)
  case c1 => exact one_new w _ _
  case c2 => intro u hu; simp at hu; subst hu; rfl
  case c3 => unfold maxLen; omega
  case c4 => omega
  intro v' w1 hown hgrow _ hat
  have hb1 := hb0.app hown hgrow (by simpa using hat)
  have hr1 := hr0.grown hgrow hne
  have hk1 := hk0.grown hgrow (fun g e => .inl (hb.kl g e))
  have y3 := hr1.cell (i := 3) rfl
  have yf := hr1.frozen 3
  have hb2 := hb1.far hr1 (by decide) 3 v'
  have hr2 := hr1.set 3 v'
  have hk2 := hk1.setCell (p := ⟨M, 3, none⟩) (.inl hK) v'
  have HF : Hid (Post (.returned (.tuple #[])) (w1.setCell ⟨M, 3, none⟩ v')) := hp _ ⟨rv, cv, sv, v', hr2, hb2, hK⟩ hk2
  obtain ⟨lo', lc', rfl⟩ := owns_slice hown
  clear hp hb hb0 hr0 hb1 hr1 hk1 hb2 hr2 hk2 hgrow hown hat hal hk0 hrow
  go_wp2
  go_end0
  exact HF.out

set_option maxRecDepth 100000 in
set_option maxHeartbeats 2000000 in
theorem reaches_cps (K : Nat → Prop) (M : Nat) (s : RunD) (n : Int) (w : World) (h : Mach K w M s) (hl : s.leak.length ≤ 100000) (Post : Ending → World → Prop)
    (hyes : 0 ≤ n ∧ n < s.cells.length → ∀ w', Mach K w' M (s.out n) → Keep (fun g => ¬ K g) w w' → Post (.returned (.bool true)) w')
    (hno : ¬ (0 ≤ n ∧ n < s.cells.length) → ∀ w', Mach K w' M ((s.out n).die 2) → Keep (fun g => ¬ K g) w w' → Post (.returned (.bool false)) w') :
    Calls Try.prog 107 #[.pointer (some ⟨M, 0, none⟩), .int .i64 n] w Post := by
  go_enter Try.func107, Try.ntmps107
  go_wp2_with fail
  refine letOut_cps K M s n w h hl _ ?_
  intro w1 hm hk
  clear h hl
  obtain ⟨rv, cv, sv, lv, hrow, hb, hK⟩ := id hm
  obtain ⟨co, cc, rfl⟩ := owns_slice hb.cells
  have x1 := hrow.cell (i := 1) rfl
  have hlc : (s.out n).cells.length = s.cells.length := rfl
  rw [hlc] at x1 hrow hb
  by_cases h0 : n < 0
  · have x4 := hrow.cell (i := 4) rfl
    have xf := hrow.frozen 4
    have hk2 := hk.setCell (p := ⟨M, 4, none⟩) (.inl hK) (.int .i64 2)
    have HF : Hid (Post (.returned (.bool false)) (w1.setCell ⟨M, 4, none⟩ (.int .i64 2))) := hno (by omega) _ ⟨rv, _, sv, lv, hrow.set 4 (.int .i64 2), (hb.far hrow (by decide) 4 _).trapped 2, hK⟩ hk2
    clear hyes hno hk hk2 hb hrow hm
    go_wp2
    exact HF.out
  by_cases h1 : n < s.cells.length
  · have HF : Hid (Post (.returned (.bool true)) w1) := hyes ⟨by omega, h1⟩ _ hm hk
    clear hyes hno hk hb hrow hm
    go_wp2
    exact HF.out
  · have x4 := hrow.cell (i := 4) rfl
    have xf := hrow.frozen 4
    have hk2 := hk.setCell (p := ⟨M, 4, none⟩) (.inl hK) (.int .i64 2)
    have HF : Hid (Post (.returned (.bool false)) (w1.setCell ⟨M, 4, none⟩ (.int .i64 2))) := hno (by omega) _ ⟨rv, _, sv, lv, hrow.set 4 (.int .i64 2), (hb.far hrow (by decide) 4 _).trapped 2, hK⟩ hk2
    clear hyes hno hk hk2 hb hrow hm
    go_wp2
    exact HF.out

end Go.Proofs.Ytblhmeidbjigaaa
