/- DecodeProgram in the codec. -/
import Derived.Test.YtdjdjkgoelbbdaaPCodKJoined
set_option linter.unusedSimpArgs false
set_option linter.unusedVariables false
namespace Go.Proofs.Ytdjdjkgoelbbdaa
open Go.RowKit

set_option maxHeartbeats 400000 in
theorem blockSize_any (so : Option Addr) (n sc : Nat) (k r x y : Int) (w : World) (hn : n ≤ 1000) :
    Calls Try.prog 81 #[.agg #[.slice so n sc, .int .i64 k, .int .i64 r, .int .i64 x, .int .i64 y]] w fun e w' => e = .returned (.int .i64 (1 + 4 * n + 4)) ∧ Below w.heap.size w w' := by
  go_enter Try.func81, Try.ntmps81
  go_wp2
  go_ret
  exact ⟨by simp, (Below.refl _ _).alloc (Nat.le_refl _) _⟩

/-- Where the k-th block begins. -/
def patOf (s : ByteArray) : Nat → Int
  | 0 => 7
  | k + 1 => patOf s k + (1 + 4 * (byteOr (-1) s (patOf s k)).toNat + 4)

def blkAt (d : Int) (s : ByteArray) (p : Int) (n : Nat) : BlockD := ⟨opsAt d s (p + 1) n, finAt d s (p + 1 + 4 * n)⟩

/-- The first k blocks that are read. -/
def blocksOf (s : ByteArray) : Nat → List BlockD
  | 0 => []
  | k + 1 => blocksOf s k ++ [blkAt (-1) s (patOf s k) (byteOr (-1) s (patOf s k)).toNat]

theorem patOf_bd (s : ByteArray) (k : Nat) : 7 ≤ patOf s k ∧ patOf s k ≤ 7 + 1025 * k := by
  induction k with
  | zero => simp [patOf]
  | succ k ih =>
    have := byteOr_bd (-1) s (patOf s k) (by omega)
    simp only [patOf]
    omega

/-- The program that is read. -/
def progOf (s : ByteArray) : ProgD := ⟨byteOr (-1) s 2, byteOr (-1) s 3, byteOr (-1) s 4, byteOr (-1) s 5, blocksOf s (byteOr (-1) s 6).toNat⟩

def readsProg (s : ByteArray) : Bool :=
  decide (byteOr (-1) s 0 = 84) && decide (byteOr (-1) s 1 = 87) && decide (patOf s (byteOr (-1) s 6).toNat = s.size) && progGood (progOf s)

set_option maxRecDepth 100000 in
set_option maxHeartbeats 4000000 in
theorem cDecode_cps (s : ByteArray) (w : World) (hs : s.size ≤ maxLen) (Post : Ending → World → Prop)
    (hyes : ∀ v bv w', readsProg s = true → OwnBlocks w' w.heap.size v bv → bdat bv = (progOf s).blocks → Below w.heap.size w w' → Post (.returned (.tuple #[.agg #[.int .i64 (byteOr (-1) s 2), .int .i64 (byteOr (-1) s 3), .int .i64 (byteOr (-1) s 4), .int .i64 (byteOr (-1) s 5), v], .int .i64 0])) w')
    (hno : ∀ w', readsProg s = false → Below w.heap.size w w' → Post (.returned (.tuple #[.agg #[.int .i64 0, .int .i64 0, .int .i64 0, .int .i64 0, .slice none 0 0], .int .i64 1])) w') :
    Calls Try.prog 56 #[.string s] w Post := by
  obtain ⟨i0, ii, iz0, iz1, iz2⟩ := info_parts Try.infoBlk
  have hcb := byteOr_bd (-1) s 6 (by omega)
  have hsz := hs
  unfold maxLen at hsz
  by_cases h0 : byteOr (-1) s 0 = 84
  case neg =>
    have hRf : readsProg s = false := by simp [readsProg, h0]
    have hno' := fun w' => hno w' hRf
    clear hno hyes hRf
    have hb : (byteOr (-1) s 0 != 84) = true := by simp [h0]
    go_enter Try.func56, Try.ntmps56
    go_wp2_with (go_at_call 79; refine (byteAt_any _ _ _ hs).mono ?_; rintro e w' ⟨rfl, rfl⟩)
    exact bodyPost_ret (v := .tuple #[.agg #[.int .i64 0, .int .i64 0, .int .i64 0, .int .i64 0, .slice none 0 0], .int .i64 1]) (by simp [results, Try.results56, go_sem]) rfl (hno' _ ((Below.refl _ _).alloc (Nat.le_refl _) _))
  by_cases h1 : byteOr (-1) s 1 = 87
  case neg =>
    have hRf : readsProg s = false := by simp [readsProg, h1]
    have hno' := fun w' => hno w' hRf
    clear hno hyes hRf
    have hb : (byteOr (-1) s 1 != 87) = true := by simp [h1]
    go_enter Try.func56, Try.ntmps56
    go_wp2_with (go_at_call 79; refine (byteAt_any _ _ _ hs).mono ?_; rintro e w' ⟨rfl, rfl⟩)
    exact bodyPost_ret (v := .tuple #[.agg #[.int .i64 0, .int .i64 0, .int .i64 0, .int .i64 0, .slice none 0 0], .int .i64 1]) (by simp [results, Try.results56, go_sem]) rfl (hno' _ ((Below.refl _ _).alloc (Nat.le_refl _) _))
  have HR : Hid (readsProg s = (decide (patOf s (byteOr (-1) s 6).toNat = s.size) && progGood (progOf s))) := by show _ = _; simp [readsProg, h0, h1]
  have HPO : Hid (progOf s = ⟨byteOr (-1) s 2, byteOr (-1) s 3, byteOr (-1) s 4, byteOr (-1) s 5, blocksOf s (byteOr (-1) s 6).toNat⟩) := rfl
  generalize hcn : byteOr (-1) s 6 = c at *
  generalize ha2 : byteOr (-1) s 2 = a2 at *
  generalize ha3 : byteOr (-1) s 3 = a3 at *
  generalize ha4 : byteOr (-1) s 4 = a4 at *
  generalize ha5 : byteOr (-1) s 5 = a5 at *
  have HY : Hid (∀ v bv w', readsProg s = true → OwnBlocks w' w.heap.size v bv → bdat bv = (progOf s).blocks → Below w.heap.size w w' → Post (.returned (.tuple #[.agg #[.int .i64 a2, .int .i64 a3, .int .i64 a4, .int .i64 a5, v], .int .i64 0])) w') := hyes
  have HN : Hid (∀ w', readsProg s = false → Below w.heap.size w w' → Post (.returned (.tuple #[.agg #[.int .i64 0, .int .i64 0, .int .i64 0, .int .i64 0, .slice none 0 0], .int .i64 1])) w') := hno
  clear hyes hno
  go_enter Try.func56, Try.ntmps56
  go_wp2_with (go_at_call 79; refine (byteAt_any _ _ _ hs).mono ?_; rintro e w' ⟨rfl, rfl⟩)
  clear hcn h0 h1 ha2 ha3 ha4 ha5
  go_loopw [6, 7] (fun p i wr => ∃ (k : Nat) (v : Value) (bv : List (BlockD × Value)), k ≤ c.toNat ∧ i = .int .i64 k ∧ p = .int .i64 (patOf s k) ∧ wr.cell? ⟨w.heap.size + 1, 0, none⟩ = some (.int .i64 a2) ∧ wr.cell? ⟨w.heap.size + 1, 1, none⟩ = some (.int .i64 a3) ∧ wr.cell? ⟨w.heap.size + 1, 2, none⟩ = some (.int .i64 a4) ∧ wr.cell? ⟨w.heap.size + 1, 3, none⟩ = some (.int .i64 a5) ∧
      wr.cell? ⟨w.heap.size + 1, 4, none⟩ = some v ∧ wr.frozen? ⟨w.heap.size + 1, 4, none⟩ = false ∧ OwnBlocks wr (w.heap.size + 2) v bv ∧ Hid (bdat bv = blocksOf s k) ∧ Hid (bv.length = k) ∧ Below (w.heap.size + 1) (w.alloc (.cells #[.int .i64 0, .int .i64 0, .int .i64 0, .int .i64 0, .slice none 0 0] 24)) wr ∧ w.heap.size + 2 ≤ wr.heap.size)
    (fun _ i _ => c.toNat - (intOf i).toNat)
  case atStart =>
    refine ⟨0, .slice none 0 0, [], Nat.zero_le _, rfl, rfl, by simp, by simp, by simp, by simp, by simp, by simp, ownBlocks_nil _ _, rfl, rfl, ?_, by simp⟩
    exact (Below.refl _ _).alloc (by simp) _
  case round =>
    obtain ⟨k, v, bv, hk, rfl, rfl, hx0, hx1, hx2, hx3, hx4, hxf, hown, hdt, hvl, hbel, hz⟩ := hrel
    obtain ⟨ao, cp, rfl⟩ := owns_slice hown.row
    have hzl : w.heap.size + 1 < wr.heap.size := by omega
    have hzm : w.heap.size < wr.heap.size := by omega
    have hab := patOf_bd s k
    by_cases hlt : (k : Int) < c
    · go_wp2_with fail
      refine blockAt_cps s _ _ hs (by omega) (by omega) _ ?_
      intro sv w1 hsv hb1
      have HX : Hid (blocksOf s (k + 1) = blocksOf s k ++ [⟨opsAt (-1) s (patOf s k + 1) (byteOr (-1) s (patOf s k)).toNat, ⟨byteOr (-1) s (patOf s k + 1 + 4 * (byteOr (-1) s (patOf s k)).toNat), byteOr (-1) s (patOf s k + 1 + 4 * (byteOr (-1) s (patOf s k)).toNat + 1), byteOr (-1) s (patOf s k + 1 + 4 * (byteOr (-1) s (patOf s k)).toNat + 2), byteOr (-1) s (patOf s k + 1 + 4 * (byteOr (-1) s (patOf s k)).toNat + 3)⟩⟩]) := rfl
      have HA : Hid (patOf s (k + 1) = patOf s k + (1 + 4 * (byteOr (-1) s (patOf s k)).toNat + 4)) := rfl
      have hmb := byteOr_bd (-1) s (patOf s k) (by omega)
      have hpl := opsAt_length (-1) s (patOf s k + 1) (byteOr (-1) s (patOf s k)).toNat
      have hm : (byteOr (-1) s (patOf s k)).toNat ≤ 255 := by omega
      clear hmb
      generalize (byteOr (-1) s (patOf s k)).toNat = m at *
      generalize byteOr (-1) s (patOf s k + 1 + 4 * m) = e1 at *
      generalize byteOr (-1) s (patOf s k + 1 + 4 * m + 1) = e2 at *
      generalize byteOr (-1) s (patOf s k + 1 + 4 * m + 2) = e3 at *
      generalize byteOr (-1) s (patOf s k + 1 + 4 * m + 3) = e4 at *
      generalize opsAt (-1) s (patOf s k + 1) m = ps at *
      subst hpl
      obtain ⟨so, sc, rfl⟩ := owns_slice hsv
      have own1 := hown.below hb1 (Nat.le_refl _)
      have x0 := (hb1.cell (p := ⟨w.heap.size + 1, 0, none⟩) hzl).trans hx0
      have x1 := (hb1.cell (p := ⟨w.heap.size + 1, 1, none⟩) hzl).trans hx1
      have x2 := (hb1.cell (p := ⟨w.heap.size + 1, 2, none⟩) hzl).trans hx2
      have x3 := (hb1.cell (p := ⟨w.heap.size + 1, 3, none⟩) hzl).trans hx3
      have x4 := (hb1.cell (p := ⟨w.heap.size + 1, 4, none⟩) hzl).trans hx4
      have xf := (hb1.frozen (p := ⟨w.heap.size + 1, 4, none⟩) hzl).trans hxf
      have hz1 := hb1.size
      have hzl1 : w.heap.size + 1 < w1.heap.size := by omega
      go_wp2_with (at_builtin; refine wpList_append_own _ rfl _ _ 22 rfl (w.heap.size + 2) 76 i0 (.agg #[.slice none 0 0, .int .i64 0, .int .i64 0, .int .i64 0, .int .i64 0]) 5 56 Try.underlying22 ii iz0 iz1 iz2 rfl (by decide) _ _ _ rfl ((own1.row.alloc _).alloc _) ⟨w1.heap.size + 1, 0, none⟩ 1 1 [.slice so ps.length sc, .int .i64 e1, .int .i64 e2, .int .i64 e3, .int .i64 e4] rfl rfl ?c1 five_one ?c3 ?c4 ?c5 ?_)
      case c1 => simpa using five_new (w1.alloc _) _ _ _ _ _ _
      case c3 => have := hvl.out; unfold maxLen; omega
      case c4 => have := hvl.out; omega
      case c5 => first | omega | (simp; omega)
      intro v' w2 hown' hgrow _
      have hne : ∀ g, w1.heap.size ≤ g → some g ≠ (Value.slice ao bv.length cp).ownBlock := fun g hg e => by have := (own1.row.lt _ e.symm).2; omega
      have own2 : OwnBlocks w2 (w.heap.size + 2) v' (bv ++ [(⟨ps, ⟨e1, e2, e3, e4⟩⟩, .slice so ps.length sc)]) := by
        refine ((own1.alloc _).alloc _).snoc ((owns_base hsv (by omega)).alloc _ |>.alloc _) ?_ hgrow hown'
        intro y hy g hg e
        have q1 := ((hown.each y hy).lt g hg).2
        have q2 := (hsv.lt g e).1
        omega
      have hb2 := ((((Below.refl (w.heap.size + 2) w1).alloc (by omega) _).alloc (by simp; omega) _).grown hgrow (by simp; omega) (fun g hg => (own1.row.lt g hg).1))
      have y0 := (hb2.cell (p := ⟨w.heap.size + 1, 0, none⟩) (by simp)).trans x0
      have y1 := (hb2.cell (p := ⟨w.heap.size + 1, 1, none⟩) (by simp)).trans x1
      have y2 := (hb2.cell (p := ⟨w.heap.size + 1, 2, none⟩) (by simp)).trans x2
      have y3 := (hb2.cell (p := ⟨w.heap.size + 1, 3, none⟩) (by simp)).trans x3
      have y4 := (hb2.cell (p := ⟨w.heap.size + 1, 4, none⟩) (by simp)).trans x4
      have yf := (hb2.frozen (p := ⟨w.heap.size + 1, 4, none⟩) (by simp)).trans xf
      have z0 : w2.cell? ⟨w1.heap.size, 0, none⟩ = some (.slice so ps.length sc) := hgrow.cell (by simp) (hne _ (Nat.le_refl _))
      have z1 : w2.cell? ⟨w1.heap.size, 1, none⟩ = some (.int .i64 e1) := hgrow.cell (by simp) (hne _ (Nat.le_refl _))
      have z2 : w2.cell? ⟨w1.heap.size, 2, none⟩ = some (.int .i64 e2) := hgrow.cell (by simp) (hne _ (Nat.le_refl _))
      have z3 : w2.cell? ⟨w1.heap.size, 3, none⟩ = some (.int .i64 e3) := hgrow.cell (by simp) (hne _ (Nat.le_refl _))
      have z4 : w2.cell? ⟨w1.heap.size, 4, none⟩ = some (.int .i64 e4) := hgrow.cell (by simp) (hne _ (Nat.le_refl _))
      have hz2 := hb2.size
      have hzl2 : w.heap.size + 1 < w2.heap.size := by omega
      have hzn : w1.heap.size ≠ w.heap.size + 1 := by omega
      have hb3 := (hbel.trans (hb1.mono (by omega))).trans (hb2.mono (by omega))
      obtain ⟨ao', cp', hv'⟩ := owns_slice own2.row
      rw [List.length_append] at hv'
      simp only [List.length_cons, List.length_nil, Nat.zero_add] at hv'
      subst hv'
      have z0' : ∀ u, (w2.setCell ⟨w.heap.size + 1, 4, none⟩ u).cell? ⟨w1.heap.size, 0, none⟩ = some (.slice so ps.length sc) := fun u => cell_unset (by simp) z0
      have z1' : ∀ u, (w2.setCell ⟨w.heap.size + 1, 4, none⟩ u).cell? ⟨w1.heap.size, 1, none⟩ = some (.int .i64 e1) := fun u => cell_unset (by simp) z1
      have z2' : ∀ u, (w2.setCell ⟨w.heap.size + 1, 4, none⟩ u).cell? ⟨w1.heap.size, 2, none⟩ = some (.int .i64 e2) := fun u => cell_unset (by simp) z2
      have z3' : ∀ u, (w2.setCell ⟨w.heap.size + 1, 4, none⟩ u).cell? ⟨w1.heap.size, 3, none⟩ = some (.int .i64 e3) := fun u => cell_unset (by simp) z3
      have z4' : ∀ u, (w2.setCell ⟨w.heap.size + 1, 4, none⟩ u).cell? ⟨w1.heap.size, 4, none⟩ = some (.int .i64 e4) := fun u => cell_unset (by simp) z4
      clear hgrow hown hown' own1 hsv hx0 hx1 hx2 hx3 hx4 hxf x0 x1 x2 x3 x4 xf hb2 hbel hne
      go_wp2_with fail
      refine (blockSize_any _ _ _ _ _ _ _ _ (by omega)).mono ?_
      rintro e w3 ⟨rfl, hb4⟩
      have own3 := (own2.set (a := ⟨w.heap.size + 1, 4, none⟩) (by simp) _).below hb4 (Nat.le_refl _)
      have hs3 := hb4.size
      have hlt3 : w.heap.size + 1 < (w2.setCell ⟨w.heap.size + 1, 4, none⟩ (.slice ao' (bv.length + 1) cp')).heap.size := by simp; omega
      have v0 := (hb4.cell (p := ⟨w.heap.size + 1, 0, none⟩) hlt3).trans (cell_unset (by simp) y0)
      have v1 := (hb4.cell (p := ⟨w.heap.size + 1, 1, none⟩) hlt3).trans (cell_unset (by simp) y1)
      have v2 := (hb4.cell (p := ⟨w.heap.size + 1, 2, none⟩) hlt3).trans (cell_unset (by simp) y2)
      have v3 := (hb4.cell (p := ⟨w.heap.size + 1, 3, none⟩) hlt3).trans (cell_unset (by simp) y3)
      have v4 := (hb4.cell (p := ⟨w.heap.size + 1, 4, none⟩) hlt3).trans (cell_set y4)
      have vf := (hb4.frozen (p := ⟨w.heap.size + 1, 4, none⟩) hlt3).trans (by simpa using yf)
      have hb5 := (hb3.setCell (p := ⟨w.heap.size + 1, 4, none⟩) (by simp) _).trans (hb4.mono (by simp; omega))
      simp at hs3
      clear hb4 own2 hb3 y0 y1 y2 y3 y4 yf z0 z1 z2 z3 z4 z0' z1' z2' z3' z4' hlt3
      go_wp2
      go_roundw
      case rel =>
        refine ⟨k + 1, _, _, by omega, by go_num, by rw [HA.out], v0, v1, v2, v3, v4, vf, own3, ?_, ?_, hb5, by omega⟩
        · show bdat _ = _
          rw [HX.out, ← hdt.out]; simp [bdat]
        · show List.length _ = _
          have := hvl.out
          simp; exact this
      case measure => simp [intOf]; omega
    · obtain rfl : k = c.toNat := by omega
      have r0 : wr.cell? ⟨w.heap.size, 0, none⟩ = some (.int .i64 0) := (hbel.cell (by simp)).trans (by simp)
      have r1 : wr.cell? ⟨w.heap.size, 1, none⟩ = some (.int .i64 0) := (hbel.cell (by simp)).trans (by simp)
      have r2 : wr.cell? ⟨w.heap.size, 2, none⟩ = some (.int .i64 0) := (hbel.cell (by simp)).trans (by simp)
      have r3 : wr.cell? ⟨w.heap.size, 3, none⟩ = some (.int .i64 0) := (hbel.cell (by simp)).trans (by simp)
      have r4 : wr.cell? ⟨w.heap.size, 4, none⟩ = some (.slice none 0 0) := (hbel.cell (by simp)).trans (by simp)
      have rf : ∀ o, wr.frozen? ⟨w.heap.size, o, none⟩ = false := fun o => (hbel.frozen (by simp)).trans (by simp)
      have hb0 := Below.under hbel
      have hrd := hown.rd
      rw [hdt.out] at hrd
      have hwm := wmProg_any a2 a3 a4 a5 _ _ wr hrd
      have hpe : Hid (progGood (progOf s) = progGood ⟨a2, a3, a4, a5, blocksOf s c.toNat⟩) := by show _ = _; rw [HPO.out]
      by_cases he : patOf s c.toNat = s.size
      case neg =>
        have hRf : readsProg s = false := by rw [HR.out]; simp [he]
        have hno' := fun w' => HN.out w' hRf
        clear HN HY hRf HR hpe HPO hwm
        have hb : (patOf s c.toNat != (s.size : Int)) = true := by simp [he]
        have f0 := rf 0
        have f1 := rf 1
        have f2 := rf 2
        have f3 := rf 3
        have f4 := rf 4
        clear rf
        go_wp2
        refine bodyPost_ret (v := .tuple #[.agg #[.int .i64 0, .int .i64 0, .int .i64 0, .int .i64 0, .slice none 0 0], .int .i64 1]) (by simp [results, Try.results56, go_sem, r0, r1, r2, r3, r4]) rfl (hno' _ ?_)
        repeat (refine Below.setCell ?_ (by simp) _)
        exact hb0
      have hb : (patOf s c.toNat != (s.size : Int)) = false := by simp [he]
      go_wp2_with fail
      refine hwm.mono ?_
      clear hwm
      rintro e w1 ⟨rfl, hb1⟩
      have x0 := cell_keep hb1 r0
      have x1 := cell_keep hb1 r1
      have x2 := cell_keep hb1 r2
      have x3 := cell_keep hb1 r3
      have x4 := cell_keep hb1 r4
      have xf : ∀ o, w1.frozen? ⟨w.heap.size, o, none⟩ = false := fun o => (hb1.frozen (p := ⟨w.heap.size, o, none⟩) hzm).trans (rf o)
      have f0 := xf 0
      have f1 := xf 1
      have f2 := xf 2
      have f3 := xf 3
      have f4 := xf 4
      have y0 := cell_keep hb1 hx0
      have y1 := cell_keep hb1 hx1
      have y2 := cell_keep hb1 hx2
      have y3 := cell_keep hb1 hx3
      have y4 := cell_keep hb1 hx4
      have hb2 := hb0.trans (hb1.mono (by omega))
      have own1 := hown.below hb1 (Nat.le_refl _)
      clear rf xf r0 r1 r2 r3 r4 hx0 hx1 hx2 hx3 hx4 hxf hrd hown hb1
      cases hg : progGood ⟨a2, a3, a4, a5, blocksOf s c.toNat⟩
      · have hRf : readsProg s = false := by rw [HR.out, hpe.out, hg]; simp
        have hno' := fun w' => HN.out w' hRf
        clear HN HY hRf HR hpe HPO
        go_wp2
        refine bodyPost_ret (v := .tuple #[.agg #[.int .i64 0, .int .i64 0, .int .i64 0, .int .i64 0, .slice none 0 0], .int .i64 1]) (by simp [results, Try.results56, go_sem, x0, x1, x2, x3, x4]) rfl (hno' _ ?_)
        repeat (refine Below.setCell ?_ (by simp) _)
        exact hb2
      · have hRf : readsProg s = true := by rw [HR.out, hpe.out, hg]; simp [he]
        have HY' : Hid (∀ w', OwnBlocks w' w.heap.size (.slice ao bv.length cp) bv → Below w.heap.size w w' → Post (.returned (.tuple #[.agg #[.int .i64 a2, .int .i64 a3, .int .i64 a4, .int .i64 a5, .slice ao bv.length cp], .int .i64 0])) w') :=
          fun w' h1 h2 => HY.out _ bv w' hRf h1 (by rw [HPO.out]; exact hdt.out) h2
        clear HN HY hRf HR hpe HPO
        go_wp2
        refine bodyPost_ret (v := .tuple #[.agg #[.int .i64 a2, .int .i64 a3, .int .i64 a4, .int .i64 a5, .slice ao bv.length cp], .int .i64 0]) (by simp [results, Try.results56, go_sem, x0, x1, x2, x3, x4]) rfl (HY'.out _ ?_ ?_)
        · refine OwnBlocks.base (base := w.heap.size + 2) ?_ (by omega)
          repeat (refine OwnBlocks.set ?_ (by simp) _)
          exact own1
        · repeat (refine Below.setCell ?_ (by simp) _)
          exact hb2

end Go.Proofs.Ytdjdjkgoelbbdaa
