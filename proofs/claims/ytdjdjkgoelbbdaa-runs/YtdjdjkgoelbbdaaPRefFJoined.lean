/- Reading a program, in the document's answer. -/
import Derived.Test.YtdjdjkgoelbbdaaPRefCToPRefD
import Derived.Test.YtdjdjkgoelbbdaaPRefEJoined
import Derived.Test.YtdjdjkgoelbbdaaPCodLJoined
set_option linter.unusedSimpArgs false
set_option linter.unusedVariables false
namespace Go.Proofs.Ytdjdjkgoelbbdaa
open Go.RowKit

/-- How many operations are read from k on, m being asked for, of a text of n bytes. -/
def jst4 (n : Int) (k : Int) (m : Nat) : Nat := min m ((n - k + 3) / 4).toNat

def prAt (s : ByteArray) : Nat → Int
  | 0 => 7
  | i + 1 => prAt s i + 1 + 4 * jst4 s.size (prAt s i + 1) (byteOr 0 s (prAt s i)).toNat + 4

def rBlocks (s : ByteArray) : Nat → List BlockD
  | 0 => []
  | i + 1 => rBlocks s i ++ [blkAt 0 s (prAt s i) (jst4 s.size (prAt s i + 1) (byteOr 0 s (prAt s i)).toNat)]

theorem jst4_le (n k : Int) (m : Nat) : jst4 n k m ≤ m := by unfold jst4; omega

theorem jst4_eq {n k : Int} {m j : Nat} (h1 : j ≤ m) (h2 : j = 0 ∨ k + 4 * ((j : Int) - 1) < n) (h3 : ¬ ((j : Int) < m ∧ k + 4 * (j : Int) < n)) : j = jst4 n k m := by
  unfold jst4
  by_cases hm : (j : Int) < m
  · have : ¬ k + 4 * (j : Int) < n := fun h => h3 ⟨hm, h⟩
    rcases h2 with h2 | h2 <;> omega
  · rcases h2 with h2 | h2 <;> omega

theorem prAt_bd (s : ByteArray) (i : Nat) : 7 ≤ prAt s i ∧ prAt s i ≤ 7 + 1025 * i := by
  induction i with
  | zero => simp [prAt]
  | succ k ih =>
    have h1 := byteOr0_bd s (prAt s k)
    have h2 := jst4_le s.size (prAt s k + 1) (byteOr 0 s (prAt s k)).toNat
    simp only [prAt]
    omega

structure PRStop (s : ByteArray) (i : Nat) : Prop where
  done : ∀ j, j < i → (j : Int) < byteOr 0 s 6 ∧ prAt s j < s.size
  stop : ¬ ((i : Int) < byteOr 0 s 6 ∧ prAt s i < s.size)

def progR (s : ByteArray) (i : Nat) : ProgD := ⟨byteOr 0 s 2, byteOr 0 s 3, byteOr 0 s 4, byteOr 0 s 5, rBlocks s i⟩

/-- What the outer append leaves. -/
theorem pref_step {w wo wr w2 : World} {ao : Option Addr} {cp sc : Nat} {so : Option Addr} {bv : List (BlockD × Value)} {e1 e2 e3 e4 : Int} {ps : List OpD} {v' : Value} {O1 O2 : Obj}
    (hown : OwnBlocks wo (w.heap.size + 2) (.slice ao bv.length cp) bv) (hbin : Below wo.heap.size wo wr) (hrow : wr.ownsRow (wo.heap.size + 1) 78 4 (.slice so ps.length sc) ps.length (opCells ps))
    (hbel : Below (w.heap.size + 1) (w.alloc O1) wo) (hz : w.heap.size + 2 ≤ wo.heap.size)
    (hown' : w2.ownsRow (w.heap.size + 2) 76 5 v' (bv.length + 1) (blkCells bv ++ [.slice so ps.length sc, .int .i64 e1, .int .i64 e2, .int .i64 e3, .int .i64 e4])) (hgrow : (wr.alloc O2).grownBy w2 (Value.slice ao bv.length cp).ownBlock) :
    OwnBlocks w2 (w.heap.size + 2) v' (bv ++ [(⟨ps, ⟨e1, e2, e3, e4⟩⟩, .slice so ps.length sc)]) ∧ Below (w.heap.size + 2) wo w2 ∧
      Below (w.heap.size + 1) (w.alloc O1) w2 ∧ w.heap.size + 2 ≤ w2.heap.size := by
  have hzr := hbin.size
  have own1 := hown.below hbin (Nat.le_refl _)
  have hb2 := (((Below.refl (w.heap.size + 2) wr).alloc (by omega) O2).grown hgrow (by simp; omega) (fun g hg => (own1.row.lt g hg).1))
  have hz2 := hb2.size
  refine ⟨?_, (hbin.mono (by omega)).trans hb2, (hbel.trans (hbin.mono (by omega))).trans (hb2.mono (by omega)), by omega⟩
  refine (own1.alloc _).snoc ((owns_base hrow (by omega)).alloc _) ?_ hgrow hown'
  intro y hy g hg e
  have q1 := ((hown.each y hy).lt g hg).2
  have q2 := (hrow.lt g e).1
  omega

set_option maxRecDepth 100000 in
set_option maxHeartbeats 8000000 in
theorem rDecode_cps (s : ByteArray) (w : World) (hs : s.size ≤ maxLen) (Post : Ending → World → Prop)
    (hyes : ∀ v bv w' i, PRStop s i → OwnBlocks w' w.heap.size v bv → bdat bv = rBlocks s i → progGood (progR s i) = true → str (progText (progR s i)) = s → Below w.heap.size w w' → Post (.returned (.tuple #[.agg #[.int .i64 (byteOr 0 s 2), .int .i64 (byteOr 0 s 3), .int .i64 (byteOr 0 s 4), .int .i64 (byteOr 0 s 5), v], .bool true])) w')
    (hno : ∀ w' i, PRStop s i → (progGood (progR s i) = true → str (progText (progR s i)) ≠ s) → Below w.heap.size w w' → Post (.returned (.tuple #[.agg #[.int .i64 0, .int .i64 0, .int .i64 0, .int .i64 0, .slice none 0 0], .bool false])) w') :
    Calls Try.prog 40 #[.string s] w Post := by
  obtain ⟨i0, ii, iz0, iz1, iz2⟩ := info_parts Try.infoBlk
  obtain ⟨j0, ji, jz0, jz1, jz2⟩ := info_parts Try.infoOp
  have hcb := byteOr0_bd s 6
  have hsz := hs
  unfold maxLen at hsz
  obtain ⟨n, hn⟩ := Int.eq_ofNat_of_zero_le hcb.1
  have HN : Hid (byteOr 0 s 6 = n) := hn
  have HPR : Hid (∀ i, progR s i = ⟨byteOr 0 s 2, byteOr 0 s 3, byteOr 0 s 4, byteOr 0 s 5, rBlocks s i⟩) := fun i => rfl
  generalize ha2 : byteOr 0 s 2 = a2 at *
  generalize ha3 : byteOr 0 s 3 = a3 at *
  generalize ha4 : byteOr 0 s 4 = a4 at *
  generalize ha5 : byteOr 0 s 5 = a5 at *
  have HY : Hid (∀ v bv w' i, PRStop s i → OwnBlocks w' w.heap.size v bv → bdat bv = rBlocks s i → progGood (progR s i) = true → str (progText (progR s i)) = s → Below w.heap.size w w' → Post (.returned (.tuple #[.agg #[.int .i64 a2, .int .i64 a3, .int .i64 a4, .int .i64 a5, v], .bool true])) w') := hyes
  have HNO : Hid (∀ w' i, PRStop s i → (progGood (progR s i) = true → str (progText (progR s i)) ≠ s) → Below w.heap.size w w' → Post (.returned (.tuple #[.agg #[.int .i64 0, .int .i64 0, .int .i64 0, .int .i64 0, .slice none 0 0], .bool false])) w') := hno
  clear hyes hno
  go_enter Try.func40, Try.ntmps40
  go_wp2_with (go_at_call 73; refine (at_any _ _ _ hs).mono ?_; rintro e w' ⟨rfl, rfl⟩)
  have hn255 : n ≤ 255 := by omega
  clear hcb hn ha2 ha3 ha4 ha5
  go_loopw [6, 7] (fun p i wr => ∃ (k : Nat) (v : Value) (bv : List (BlockD × Value)), k ≤ n ∧ i = .int .i64 k ∧ p = .int .i64 (prAt s k) ∧ wr.cell? ⟨w.heap.size + 1, 0, none⟩ = some (.int .i64 a2) ∧ wr.cell? ⟨w.heap.size + 1, 1, none⟩ = some (.int .i64 a3) ∧ wr.cell? ⟨w.heap.size + 1, 2, none⟩ = some (.int .i64 a4) ∧ wr.cell? ⟨w.heap.size + 1, 3, none⟩ = some (.int .i64 a5) ∧ wr.cell? ⟨w.heap.size + 1, 4, none⟩ = some v ∧
      wr.frozen? ⟨w.heap.size + 1, 4, none⟩ = false ∧ OwnBlocks wr (w.heap.size + 2) v bv ∧ Hid (bdat bv = rBlocks s k) ∧ Hid (bv.length = k) ∧ Hid (∀ j, j < k → (j : Int) < byteOr 0 s 6 ∧ prAt s j < s.size) ∧ Below (w.heap.size + 1) (w.alloc (.cells #[.int .i64 0, .int .i64 0, .int .i64 0, .int .i64 0, .slice none 0 0] 24)) wr ∧ w.heap.size + 2 ≤ wr.heap.size)
    (fun _ i _ => n - (intOf i).toNat)
  case atStart =>
    refine ⟨0, .slice none 0 0, [], Nat.zero_le _, rfl, rfl, by simp, by simp, by simp, by simp, by simp, by simp, ownBlocks_nil _ _, rfl, rfl, fun j hj => by omega, ?_, by simp⟩
    exact (Below.refl _ _).alloc (by simp) _
  case round =>
    obtain ⟨k, v, bv, hk, rfl, rfl, hx0, hx1, hx2, hx3, hx4, hxf, hown, hdt, hvl, hdn, hbel, hz⟩ := hrel
    obtain ⟨ao, cp, rfl⟩ := owns_slice hown.row
    have hzl : w.heap.size + 1 < wr.heap.size := by omega
    have hzm : w.heap.size < wr.heap.size := by omega
    have hab := prAt_bd s k
    by_cases hlt : (k : Int) < n ∧ prAt s k < s.size
    case neg =>
      have hst : Hid (PRStop s k) := ⟨hdn.out, by rw [HN.out]; exact hlt⟩
      have hltn : (k : Int) < n → ¬ (prAt s k < s.size) := fun h1 h2 => hlt ⟨h1, h2⟩
      clear hlt hdn
      have r0 : wr.cell? ⟨w.heap.size, 0, none⟩ = some (.int .i64 0) := (hbel.cell (by simp)).trans (by simp)
      have r1 : wr.cell? ⟨w.heap.size, 1, none⟩ = some (.int .i64 0) := (hbel.cell (by simp)).trans (by simp)
      have r2 : wr.cell? ⟨w.heap.size, 2, none⟩ = some (.int .i64 0) := (hbel.cell (by simp)).trans (by simp)
      have r3 : wr.cell? ⟨w.heap.size, 3, none⟩ = some (.int .i64 0) := (hbel.cell (by simp)).trans (by simp)
      have r4 : wr.cell? ⟨w.heap.size, 4, none⟩ = some (.slice none 0 0) := (hbel.cell (by simp)).trans (by simp)
      have rf : Hid (∀ o, wr.frozen? ⟨w.heap.size, o, none⟩ = false) := fun o => (hbel.frozen (by simp)).trans (by simp)
      have hrd := hown.rd
      rw [hdt.out] at hrd
      have hb00 := Below.under hbel
      have hpk := HPR.out k
      have HPK : Hid (progR s k = ⟨a2, a3, a4, a5, rBlocks s k⟩) := hpk
      clear hpk HPR
      have hwg := rGood_any a2 a3 a4 a5 _ _ wr hrd
      have HGK : Hid (progGood ⟨a2, a3, a4, a5, rBlocks s k⟩ = progGood (progR s k)) := by show _ = _; rw [HPK.out]
      have HTX : Hid (progGood (progR s k) = true → ∀ (w1 : World), RdBlocks w1 (.slice ao bv.length cp) (rBlocks s k) → Calls Try.prog 39 #[.agg #[.int .i64 a2, .int .i64 a3, .int .i64 a4, .int .i64 a5, .slice ao bv.length cp]] w1 fun e w' => e = .returned (.string (str (progText (progR s k)))) ∧ Below w1.heap.size w1 w') := by
        intro hg w1 h1
        have := rText_any (progR s k) (.slice ao bv.length cp) w1 (by rw [HPK.out]; exact h1) hg
        rw [HPK.out] at this ⊢
        exact this
      by_cases hq : (k : Int) < n
      · have hq2 := hltn hq
        clear hltn
        go_wp2_with fail
        refine hwg.mono ?_
        clear hwg
        rintro e w1 ⟨rfl, hb1⟩
        rw [HGK.out]
        have x0 := cell_keep hb1 r0
        have x1 := cell_keep hb1 r1
        have x2 := cell_keep hb1 r2
        have x3 := cell_keep hb1 r3
        have x4 := cell_keep hb1 r4
        have xf : Hid (∀ o, w1.frozen? ⟨w.heap.size, o, none⟩ = false) := fun o => (hb1.frozen (p := ⟨w.heap.size, o, none⟩) hzm).trans (rf.out o)
        have f0 := xf.out 0
        have f1 := xf.out 1
        have f2 := xf.out 2
        have f3 := xf.out 3
        have f4 := xf.out 4
        have y0 := cell_keep hb1 hx0
        have y1 := cell_keep hb1 hx1
        have y2 := cell_keep hb1 hx2
        have y3 := cell_keep hb1 hx3
        have y4 := cell_keep hb1 hx4
        have hz1 := hb1.size
        have hzl1 : w.heap.size + 1 < w1.heap.size := by omega
        have hzm1 : w.heap.size < w1.heap.size := by omega
        have hb2 := hb00.trans (hb1.mono (by omega))
        have own1 := hown.below hb1 (Nat.le_refl _)
        have hrd1 := hrd.keep hb1
        clear r0 r1 r2 r3 r4 rf hx0 hx1 hx2 hx3 hx4 hxf hbel hown hb1 hrd hb00
        cases hg : progGood (progR s k)
        · have hno' := fun w' => HNO.out w' k hst.out (by simp [hg])
          clear HNO HY HTX
          go_wp2
          refine bodyPost_ret (v := .tuple #[.agg #[.int .i64 0, .int .i64 0, .int .i64 0, .int .i64 0, .slice none 0 0], .bool false]) (by simp [results, Try.results40, go_sem, x0, x1, x2, x3, x4]) rfl (hno' _ ?_)
          repeat (refine Below.setCell ?_ (by simp) _)
          exact hb2
        have htx := HTX.out hg w1 hrd1
        clear HTX
        go_wp2_with fail
        refine htx.mono ?_
        clear htx
        rintro e w2 ⟨rfl, hb3⟩
        have u0 := cell_keep hb3 x0
        have u1 := cell_keep hb3 x1
        have u2 := cell_keep hb3 x2
        have u3 := cell_keep hb3 x3
        have u4 := cell_keep hb3 x4
        have g0 := (hb3.frozen (p := ⟨w.heap.size, 0, none⟩) hzm1).trans f0
        have g1 := (hb3.frozen (p := ⟨w.heap.size, 1, none⟩) hzm1).trans f1
        have g2 := (hb3.frozen (p := ⟨w.heap.size, 2, none⟩) hzm1).trans f2
        have g3 := (hb3.frozen (p := ⟨w.heap.size, 3, none⟩) hzm1).trans f3
        have g4 := (hb3.frozen (p := ⟨w.heap.size, 4, none⟩) hzm1).trans f4
        have t0 := cell_keep hb3 y0
        have t1 := cell_keep hb3 y1
        have t2 := cell_keep hb3 y2
        have t3 := cell_keep hb3 y3
        have t4 := cell_keep hb3 y4
        have hb4 := hb2.trans (hb3.mono (by omega))
        have own2 := own1.below hb3 (Nat.le_refl _)
        clear x0 x1 x2 x3 x4 xf f0 f1 f2 f3 f4 y0 y1 y2 y3 y4 hb2 own1 hrd1 hb3
        by_cases ht : str (progText (progR s k)) = s
        · have HY' : Hid (∀ w', OwnBlocks w' w.heap.size (.slice ao bv.length cp) bv → Below w.heap.size w w' → Post (.returned (.tuple #[.agg #[.int .i64 a2, .int .i64 a3, .int .i64 a4, .int .i64 a5, .slice ao bv.length cp], .bool true])) w') := fun w' h1 h2 => HY.out _ bv w' k hst.out h1 hdt.out hg ht h2
          rw [ht]
          clear ht hg HNO HY
          go_wp2
          refine bodyPost_ret (v := .tuple #[.agg #[.int .i64 a2, .int .i64 a3, .int .i64 a4, .int .i64 a5, .slice ao bv.length cp], .bool true]) (by simp [results, Try.results40, go_sem, u0, u1, u2, u3, u4]) rfl (HY'.out _ ?_ ?_)
          · refine OwnBlocks.base (base := w.heap.size + 2) ?_ (by omega)
            repeat (refine OwnBlocks.set ?_ (by simp) _)
            exact own2
          · repeat (refine Below.setCell ?_ (by simp) _)
            exact hb4
        · have hno' := fun w' => HNO.out w' k hst.out (fun _ => ht)
          have hbs := toList_ne ht
          generalize str (progText (progR s k)) = tt at *
          clear HNO HY ht hg
          go_wp2
          refine bodyPost_ret (v := .tuple #[.agg #[.int .i64 0, .int .i64 0, .int .i64 0, .int .i64 0, .slice none 0 0], .bool false]) (by simp [results, Try.results40, go_sem, u0, u1, u2, u3, u4]) rfl (hno' _ ?_)
          repeat (refine Below.setCell ?_ (by simp) _)
          exact hb4
      · clear hltn
        go_wp2_with fail
        refine hwg.mono ?_
        clear hwg
        rintro e w1 ⟨rfl, hb1⟩
        rw [HGK.out]
        have x0 := cell_keep hb1 r0
        have x1 := cell_keep hb1 r1
        have x2 := cell_keep hb1 r2
        have x3 := cell_keep hb1 r3
        have x4 := cell_keep hb1 r4
        have xf : Hid (∀ o, w1.frozen? ⟨w.heap.size, o, none⟩ = false) := fun o => (hb1.frozen (p := ⟨w.heap.size, o, none⟩) hzm).trans (rf.out o)
        have f0 := xf.out 0
        have f1 := xf.out 1
        have f2 := xf.out 2
        have f3 := xf.out 3
        have f4 := xf.out 4
        have y0 := cell_keep hb1 hx0
        have y1 := cell_keep hb1 hx1
        have y2 := cell_keep hb1 hx2
        have y3 := cell_keep hb1 hx3
        have y4 := cell_keep hb1 hx4
        have hz1 := hb1.size
        have hzl1 : w.heap.size + 1 < w1.heap.size := by omega
        have hzm1 : w.heap.size < w1.heap.size := by omega
        have hb2 := hb00.trans (hb1.mono (by omega))
        have own1 := hown.below hb1 (Nat.le_refl _)
        have hrd1 := hrd.keep hb1
        clear r0 r1 r2 r3 r4 rf hx0 hx1 hx2 hx3 hx4 hxf hbel hown hb1 hrd hb00
        cases hg : progGood (progR s k)
        · have hno' := fun w' => HNO.out w' k hst.out (by simp [hg])
          clear HNO HY HTX
          go_wp2
          refine bodyPost_ret (v := .tuple #[.agg #[.int .i64 0, .int .i64 0, .int .i64 0, .int .i64 0, .slice none 0 0], .bool false]) (by simp [results, Try.results40, go_sem, x0, x1, x2, x3, x4]) rfl (hno' _ ?_)
          repeat (refine Below.setCell ?_ (by simp) _)
          exact hb2
        have htx := HTX.out hg w1 hrd1
        clear HTX
        go_wp2_with fail
        refine htx.mono ?_
        clear htx
        rintro e w2 ⟨rfl, hb3⟩
        have u0 := cell_keep hb3 x0
        have u1 := cell_keep hb3 x1
        have u2 := cell_keep hb3 x2
        have u3 := cell_keep hb3 x3
        have u4 := cell_keep hb3 x4
        have g0 := (hb3.frozen (p := ⟨w.heap.size, 0, none⟩) hzm1).trans f0
        have g1 := (hb3.frozen (p := ⟨w.heap.size, 1, none⟩) hzm1).trans f1
        have g2 := (hb3.frozen (p := ⟨w.heap.size, 2, none⟩) hzm1).trans f2
        have g3 := (hb3.frozen (p := ⟨w.heap.size, 3, none⟩) hzm1).trans f3
        have g4 := (hb3.frozen (p := ⟨w.heap.size, 4, none⟩) hzm1).trans f4
        have t0 := cell_keep hb3 y0
        have t1 := cell_keep hb3 y1
        have t2 := cell_keep hb3 y2
        have t3 := cell_keep hb3 y3
        have t4 := cell_keep hb3 y4
        have hb4 := hb2.trans (hb3.mono (by omega))
        have own2 := own1.below hb3 (Nat.le_refl _)
        clear x0 x1 x2 x3 x4 xf f0 f1 f2 f3 f4 y0 y1 y2 y3 y4 hb2 own1 hrd1 hb3
        by_cases ht : str (progText (progR s k)) = s
        · have HY' : Hid (∀ w', OwnBlocks w' w.heap.size (.slice ao bv.length cp) bv → Below w.heap.size w w' → Post (.returned (.tuple #[.agg #[.int .i64 a2, .int .i64 a3, .int .i64 a4, .int .i64 a5, .slice ao bv.length cp], .bool true])) w') := fun w' h1 h2 => HY.out _ bv w' k hst.out h1 hdt.out hg ht h2
          rw [ht]
          clear ht hg HNO HY
          go_wp2
          refine bodyPost_ret (v := .tuple #[.agg #[.int .i64 a2, .int .i64 a3, .int .i64 a4, .int .i64 a5, .slice ao bv.length cp], .bool true]) (by simp [results, Try.results40, go_sem, u0, u1, u2, u3, u4]) rfl (HY'.out _ ?_ ?_)
          · refine OwnBlocks.base (base := w.heap.size + 2) ?_ (by omega)
            repeat (refine OwnBlocks.set ?_ (by simp) _)
            exact own2
          · repeat (refine Below.setCell ?_ (by simp) _)
            exact hb4
        · have hno' := fun w' => HNO.out w' k hst.out (fun _ => ht)
          have hbs := toList_ne ht
          generalize str (progText (progR s k)) = tt at *
          clear HNO HY ht hg
          go_wp2
          refine bodyPost_ret (v := .tuple #[.agg #[.int .i64 0, .int .i64 0, .int .i64 0, .int .i64 0, .slice none 0 0], .bool false]) (by simp [results, Try.results40, go_sem, u0, u1, u2, u3, u4]) rfl (hno' _ ?_)
          repeat (refine Below.setCell ?_ (by simp) _)
          exact hb4
    obtain ⟨hlt1, hlt2⟩ := hlt
    obtain ⟨wo, hwo⟩ : ∃ wo, wo = wr := ⟨_, rfl⟩
    subst hwo
    have HX : Hid (rBlocks s (k + 1) = rBlocks s k ++ [⟨opsAt 0 s (prAt s k + 1) (jst4 s.size (prAt s k + 1) (byteOr 0 s (prAt s k)).toNat), ⟨byteOr 0 s (prAt s k + 1 + 4 * (jst4 s.size (prAt s k + 1) (byteOr 0 s (prAt s k)).toNat : Nat)), byteOr 0 s (prAt s k + 1 + 4 * (jst4 s.size (prAt s k + 1) (byteOr 0 s (prAt s k)).toNat : Nat) + 1), byteOr 0 s (prAt s k + 1 + 4 * (jst4 s.size (prAt s k + 1) (byteOr 0 s (prAt s k)).toNat : Nat) + 2), byteOr 0 s (prAt s k + 1 + 4 * (jst4 s.size (prAt s k + 1) (byteOr 0 s (prAt s k)).toNat : Nat) + 3)⟩⟩]) := rfl
    have HA : Hid (prAt s (k + 1) = prAt s k + 1 + 4 * (jst4 s.size (prAt s k + 1) (byteOr 0 s (prAt s k)).toNat : Nat) + 4) := rfl
    have hmb := byteOr0_bd s (prAt s k)
    obtain ⟨m, hm⟩ := Int.eq_ofNat_of_zero_le hmb.1
    go_wp2_with (go_at_call 73; refine (at_any _ _ _ hs).mono ?_; rintro e w' ⟨rfl, rfl⟩)
    rw [hm, Int.toNat_natCast] at HX HA
    have hm255 : m ≤ 255 := by omega
    clear hmb hm
    obtain ⟨k0, hk0⟩ : ∃ k0, k0 = prAt s k + 1 := ⟨_, rfl⟩
    rw [← hk0] at HX HA
    have hk0b : 8 ≤ k0 ∧ k0 ≤ 1000000 := by omega
    have HK0 : Hid (k0 = prAt s k + 1) := hk0
    clear hk0
    go_loopw [6, 10] (fun p i w2 => ∃ (j : Nat) (sv : Value), j ≤ m ∧ i = .int .i64 j ∧ p = .int .i64 (k0 + 4 * j) ∧ Hid (j = 0 ∨ k0 + 4 * ((j : Int) - 1) < s.size) ∧ w2.cell? ⟨wo.heap.size, 0, none⟩ = some sv ∧ w2.cell? ⟨wo.heap.size, 1, none⟩ = some (.int .i64 0) ∧ w2.cell? ⟨wo.heap.size, 2, none⟩ = some (.int .i64 0) ∧ w2.cell? ⟨wo.heap.size, 3, none⟩ = some (.int .i64 0) ∧ w2.cell? ⟨wo.heap.size, 4, none⟩ = some (.int .i64 0) ∧
        Hid (∀ o, w2.frozen? ⟨wo.heap.size, o, none⟩ = false) ∧ w2.ownsRow (wo.heap.size + 1) 78 4 sv j (opCells (opsAt 0 s k0 j)) ∧ Below wo.heap.size wo w2 ∧ wo.heap.size + 1 ≤ w2.heap.size)
      (fun _ i _ => m - (intOf i).toNat)
    case atStart =>
      refine ⟨0, .slice none 0 0, Nat.zero_le _, rfl, by rw [HK0.out]; simp, .inl rfl, by simp, by simp, by simp, by simp, by simp, fun o => by simp, World.ownsRow_nil _ _ _ _, ?_, by simp⟩
      exact (Below.refl _ _).alloc (by simp) _
    case round =>
      obtain ⟨j, sv, hj, rfl, rfl, hjs, y0, y1, y2, y3, y4, yf, hrow, hbin, hzi⟩ := hrel
      obtain ⟨so, sc, rfl⟩ := owns_slice hrow
      have hzw : wo.heap.size < wr.heap.size := by omega
      have yf0 := yf.out 0
      have yf1 := yf.out 1
      have yf2 := yf.out 2
      have yf3 := yf.out 3
      have yf4 := yf.out 4
      by_cases hjl : (j : Int) < m ∧ k0 + 4 * (j : Int) < s.size
      case neg =>
        have hje := jst4_eq hj hjs.out hjl
        rw [← hje] at HX HA
        have hjn : (j : Int) < m → ¬ (k0 + 4 * (j : Int) < s.size) := fun h1 h2 => hjl ⟨h1, h2⟩
        clear hjl hje hjs
        have hdn' : Hid (∀ i, i < k + 1 → (i : Int) < byteOr 0 s 6 ∧ prAt s i < s.size) := by
          intro i hi
          by_cases e : i = k
          · subst e; rw [HN.out]; exact ⟨hlt1, hlt2⟩
          · exact hdn.out i (by omega)
        have hpl := opsAt_length 0 s k0 j
        generalize opsAt 0 s k0 j = ps at *
        subst hpl
        have hown1 : ∀ W, Below wo.heap.size wo W → OwnBlocks W (w.heap.size + 2) (.slice ao bv.length cp) bv := fun W hW => hown.below hW (Nat.le_refl _)
        have x4 := (hbin.cell (p := ⟨w.heap.size + 1, 4, none⟩) hzl).trans hx4
        have xf := (hbin.frozen (p := ⟨w.heap.size + 1, 4, none⟩) hzl).trans hxf
        have hzl1 : w.heap.size + 1 < wr.heap.size := by omega
        have hzx : w.heap.size + 1 < wo.heap.size := hzl
        have hbW : ∀ u1 u2 u3 u4, Below wo.heap.size wo ((((wr.setCell ⟨wo.heap.size, 1, none⟩ u1).setCell ⟨wo.heap.size, 2, none⟩ u2).setCell ⟨wo.heap.size, 3, none⟩ u3).setCell ⟨wo.heap.size, 4, none⟩ u4) := fun u1 u2 u3 u4 =>
          (((hbin.setCell (Nat.le_refl _) u1).setCell (Nat.le_refl _) u2).setCell (Nat.le_refl _) u3).setCell (Nat.le_refl _) u4
        have hrowW : ∀ u1 u2 u3 u4, ((((wr.setCell ⟨wo.heap.size, 1, none⟩ u1).setCell ⟨wo.heap.size, 2, none⟩ u2).setCell ⟨wo.heap.size, 3, none⟩ u3).setCell ⟨wo.heap.size, 4, none⟩ u4).ownsRow (wo.heap.size + 1) 78 4 (.slice so ps.length sc) ps.length (opCells ps) := fun u1 u2 u3 u4 =>
          ownsRow_setCell_below (ownsRow_setCell_below (ownsRow_setCell_below (ownsRow_setCell_below hrow (by simp) u1) (by simp) u2) (by simp) u3) (by simp) u4
        by_cases hq : (ps.length : Int) < m
        · have hq2 := hjn hq
          clear hjn
          go_wp2_with (first | (go_at_call 73; refine (at_any _ _ _ hs).mono ?_; rintro e w' ⟨rfl, rfl⟩) | (at_builtin; refine wpList_append_own _ rfl _ _ 22 rfl (w.heap.size + 2) 76 i0 (.agg #[.slice none 0 0, .int .i64 0, .int .i64 0, .int .i64 0, .int .i64 0]) 5 56 Try.underlying22 ii iz0 iz1 iz2 rfl (by decide) _ _ _ rfl ((hown1 _ (hbW _ _ _ _)).row.alloc _) ⟨wr.heap.size, 0, none⟩ 1 1 [.slice so ps.length sc, .int .i64 (byteOr 0 s (k0 + 4 * ps.length)), .int .i64 (byteOr 0 s (k0 + 4 * ps.length + 1)), .int .i64 (byteOr 0 s (k0 + 4 * ps.length + 2)), .int .i64 (byteOr 0 s (k0 + 4 * ps.length + 3))] rfl rfl ?d1 five_one ?d3 ?d4 ?d5 ?_))
          case d1 => simpa using five_new ((((wr.setCell ⟨wo.heap.size, 1, none⟩ _).setCell ⟨wo.heap.size, 2, none⟩ _).setCell ⟨wo.heap.size, 3, none⟩ _).setCell ⟨wo.heap.size, 4, none⟩ _) _ _ _ _ _ _
          case d3 => have := hvl.out; unfold maxLen; omega
          case d4 => have := hvl.out; omega
          case d5 => first | omega | (simp; omega)
          intro v' w2 hown' hgrow _
          obtain ⟨own2, hbo2, hb3, hz3⟩ := pref_step hown (hbW _ _ _ _) (hrowW _ _ _ _) hbel hz hown' hgrow
          have v0 := (hbo2.cell (p := ⟨w.heap.size + 1, 0, none⟩) (by simp)).trans hx0
          have v1 := (hbo2.cell (p := ⟨w.heap.size + 1, 1, none⟩) (by simp)).trans hx1
          have v2 := (hbo2.cell (p := ⟨w.heap.size + 1, 2, none⟩) (by simp)).trans hx2
          have v3 := (hbo2.cell (p := ⟨w.heap.size + 1, 3, none⟩) (by simp)).trans hx3
          have v4 := (hbo2.cell (p := ⟨w.heap.size + 1, 4, none⟩) (by simp)).trans hx4
          have vf := (hbo2.frozen (p := ⟨w.heap.size + 1, 4, none⟩) (by simp)).trans hxf
          obtain ⟨ao', cp', hv'⟩ := owns_slice own2.row
          rw [List.length_append] at hv'
          simp only [List.length_cons, List.length_nil, Nat.zero_add] at hv'
          subst hv'
          have hzl2 : w.heap.size + 1 < w2.heap.size := by omega
          clear hgrow hown hown' hown1 hx0 hx1 hx2 hx3 hx4 hxf x4 xf hbel hbin hrow y0 y1 y2 y3 y4 yf yf0 yf1 yf2 yf3 yf4 hbW hrowW hbo2
          go_wp2
          go_roundw
          case rel =>
            refine ⟨k + 1, _, _, by omega, by go_num, by rw [HA.out], cell_unset (by simp) v0, cell_unset (by simp) v1, cell_unset (by simp) v2, cell_unset (by simp) v3, cell_set v4, by simp [vf], own2.set (by simp) _, ?_, ?_, hdn', hb3.setCell (by simp) _, by simp; omega⟩
            · show bdat _ = _
              rw [HX.out, ← hdt.out]; simp [bdat]
            · show List.length _ = _
              have := hvl.out
              simp; exact this
          case measure => simp [intOf]; omega
        · clear hjn
          go_wp2_with (first | (go_at_call 73; refine (at_any _ _ _ hs).mono ?_; rintro e w' ⟨rfl, rfl⟩) | (at_builtin; refine wpList_append_own _ rfl _ _ 22 rfl (w.heap.size + 2) 76 i0 (.agg #[.slice none 0 0, .int .i64 0, .int .i64 0, .int .i64 0, .int .i64 0]) 5 56 Try.underlying22 ii iz0 iz1 iz2 rfl (by decide) _ _ _ rfl ((hown1 _ (hbW _ _ _ _)).row.alloc _) ⟨wr.heap.size, 0, none⟩ 1 1 [.slice so ps.length sc, .int .i64 (byteOr 0 s (k0 + 4 * ps.length)), .int .i64 (byteOr 0 s (k0 + 4 * ps.length + 1)), .int .i64 (byteOr 0 s (k0 + 4 * ps.length + 2)), .int .i64 (byteOr 0 s (k0 + 4 * ps.length + 3))] rfl rfl ?e1 five_one ?e3 ?e4 ?e5 ?_))
          case e1 => simpa using five_new ((((wr.setCell ⟨wo.heap.size, 1, none⟩ _).setCell ⟨wo.heap.size, 2, none⟩ _).setCell ⟨wo.heap.size, 3, none⟩ _).setCell ⟨wo.heap.size, 4, none⟩ _) _ _ _ _ _ _
          case e3 => have := hvl.out; unfold maxLen; omega
          case e4 => have := hvl.out; omega
          case e5 => first | omega | (simp; omega)
          intro v' w2 hown' hgrow _
          obtain ⟨own2, hbo2, hb3, hz3⟩ := pref_step hown (hbW _ _ _ _) (hrowW _ _ _ _) hbel hz hown' hgrow
          have v0 := (hbo2.cell (p := ⟨w.heap.size + 1, 0, none⟩) (by simp)).trans hx0
          have v1 := (hbo2.cell (p := ⟨w.heap.size + 1, 1, none⟩) (by simp)).trans hx1
          have v2 := (hbo2.cell (p := ⟨w.heap.size + 1, 2, none⟩) (by simp)).trans hx2
          have v3 := (hbo2.cell (p := ⟨w.heap.size + 1, 3, none⟩) (by simp)).trans hx3
          have v4 := (hbo2.cell (p := ⟨w.heap.size + 1, 4, none⟩) (by simp)).trans hx4
          have vf := (hbo2.frozen (p := ⟨w.heap.size + 1, 4, none⟩) (by simp)).trans hxf
          obtain ⟨ao', cp', hv'⟩ := owns_slice own2.row
          rw [List.length_append] at hv'
          simp only [List.length_cons, List.length_nil, Nat.zero_add] at hv'
          subst hv'
          have hzl2 : w.heap.size + 1 < w2.heap.size := by omega
          clear hgrow hown hown' hown1 hx0 hx1 hx2 hx3 hx4 hxf x4 xf hbel hbin hrow y0 y1 y2 y3 y4 yf yf0 yf1 yf2 yf3 yf4 hbW hrowW hbo2
          go_wp2
          go_roundw
          case rel =>
            refine ⟨k + 1, _, _, by omega, by go_num, by rw [HA.out], cell_unset (by simp) v0, cell_unset (by simp) v1, cell_unset (by simp) v2, cell_unset (by simp) v3, cell_set v4, by simp [vf], own2.set (by simp) _, ?_, ?_, hdn', hb3.setCell (by simp) _, by simp; omega⟩
            · show bdat _ = _
              rw [HX.out, ← hdt.out]; simp [bdat]
            · show List.length _ = _
              have := hvl.out
              simp; exact this
          case measure => simp [intOf]; omega
      obtain ⟨hj1, hj2⟩ := hjl
      have HS : Hid (opsAt 0 s k0 (j + 1) = opsAt 0 s k0 j ++ [⟨byteOr 0 s (k0 + 4 * j), byteOr 0 s (k0 + 4 * j + 1), byteOr 0 s (k0 + 4 * j + 2), byteOr 0 s (k0 + 4 * j + 3)⟩]) := rfl
      go_wp2_with (first | (go_at_call 73; refine (at_any _ _ _ hs).mono ?_; rintro e w' ⟨rfl, rfl⟩) | (at_builtin; refine wpList_append_own _ rfl _ _ 72 rfl (wo.heap.size + 1) 78 j0 (.agg #[.int .i64 0, .int .i64 0, .int .i64 0, .int .i64 0]) 4 32 Try.underlying72 ji jz0 jz1 jz2 rfl (by decide) _ _ _ rfl ((hrow.alloc _).alloc _) ⟨wr.heap.size + 1, 0, none⟩ 1 1 [.int .i64 (byteOr 0 s (k0 + 4 * j)), .int .i64 (byteOr 0 s (k0 + 4 * j + 1)), .int .i64 (byteOr 0 s (k0 + 4 * j + 2)), .int .i64 (byteOr 0 s (k0 + 4 * j + 3))] rfl rfl ?c1 four_one ?c3 ?c4 ?c5 ?_))
      case c1 => simpa using four_new (wr.alloc _) _ _ _ _ _
      case c3 => unfold maxLen; omega
      case c4 => omega
      case c5 => first | omega | (simp; omega)
      intro v' w1 hrow' hgrow _
      rw [← opCells_snoc, ← HS.out] at hrow'
      have hb2 := ((((Below.refl (wo.heap.size + 1) wr).alloc hzi _).alloc (by simp; omega) _).grown hgrow (by simp; omega) (fun g hg => (hrow.lt g hg).1))
      have z0 := (hb2.cell (p := ⟨wo.heap.size, 0, none⟩) (by simp)).trans y0
      have z1 := (hb2.cell (p := ⟨wo.heap.size, 1, none⟩) (by simp)).trans y1
      have z2 := (hb2.cell (p := ⟨wo.heap.size, 2, none⟩) (by simp)).trans y2
      have z3 := (hb2.cell (p := ⟨wo.heap.size, 3, none⟩) (by simp)).trans y3
      have z4 := (hb2.cell (p := ⟨wo.heap.size, 4, none⟩) (by simp)).trans y4
      have zf : Hid (∀ o, w1.frozen? ⟨wo.heap.size, o, none⟩ = false) := fun o => (hb2.frozen (p := ⟨wo.heap.size, o, none⟩) (by simp)).trans (yf.out o)
      have zf0 := zf.out 0
      have hz2 := hb2.size
      have hb3 := hbin.trans (hb2.mono (by omega))
      obtain ⟨ao', cp', rfl⟩ := owns_slice hrow'
      clear hgrow hrow y0 y1 y2 y3 y4 yf yf0 yf1 yf2 yf3 yf4 hb2 hbin
      go_wp2
      go_roundw
      case rel =>
        exact ⟨j + 1, _, by omega, by go_num, by go_num, .inr (by simp; omega), cell_set z0, cell_unset (by simp) z1, cell_unset (by simp) z2, cell_unset (by simp) z3, cell_unset (by simp) z4, fun o => by simp [zf.out o], ownsRow_setCell_below hrow' (by simp) _, hb3.setCell (by simp) _, by simp; omega⟩
      case measure => simp [intOf]; omega

end Go.Proofs.Ytdjdjkgoelbbdaa
