/- DecodeProgram in the codec. -/
import Derived.Test.YtblhmeidbjigaaaRows
import Derived.WalkKit
import Derived.WalkSpells
import Derived.WalkLawsBesides
import Derived.Laws.BytesArg
import Derived.Deep.QuietTactic
import Derived.BigQuiet
import Derived.Deep.RegionHeld3
import Derived.Test.YtblhmeidbjigaaaPCodEToPCodKFurther

set_option linter.unusedSimpArgs false
set_option linter.unusedVariables false
namespace Go.Proofs.Ytblhmeidbjigaaa
open Go.RowKit

set_option maxHeartbeats 400000 in
theorem blockSize_any (so : Option Addr) (n sc : Nat) (k r x y : Int) (w : World) (hn : n ≤ 1000) :
    Calls Try.prog 71 #[.agg #[.slice so n sc, .int .i64 k, .int .i64 r, .int .i64 x, .int .i64 y]] w fun e w' => e = .returned (.int .i64 (1 + 4 * n + 4)) ∧ Below w.heap.size w w' := by
  go_enter Try.func71, Try.ntmps71
  go_wp2
  go_ret
  exact ⟨by simp, (Below.refl _ _).alloc (Nat.le_refl _) _⟩

/-- Where the k-th block begins. -/
def patOf (s : ByteArray) : Nat → Int
  | 0 => 7
  | k + 1 => patOf s k + (1 + 4 * (byteOr (-1) s (patOf s k)).toNat + 4)

def blkAt (d : Int) (s : ByteArray) (p : Int) (n : Nat) : BlockD := ⟨opsAt d s (p + 1) n, finAt d s (p + 1 + 4 * n)⟩

/-- The first k blocks that are read. -/
def blocksOf (s : ByteArray) : Nat → List BlockD
  | 0 => []
  | k + 1 => blocksOf s k ++ [blkAt (-1) s (patOf s k) (byteOr (-1) s (patOf s k)).toNat]

theorem patOf_bd (s : ByteArray) (k : Nat) : 7 ≤ patOf s k ∧ patOf s k ≤ 7 + 1025 * k := by
  induction k with
  | zero => simp [patOf]
  | succ k ih =>
    have := byteOr_bd (-1) s (patOf s k) (by omega)
    simp only [patOf]
    omega

/-- The program that is read. -/
def progOf (s : ByteArray) : ProgD := ⟨byteOr (-1) s 2, byteOr (-1) s 3, byteOr (-1) s 4, byteOr (-1) s 5, blocksOf s (byteOr (-1) s 6).toNat⟩

def readsProg (s : ByteArray) : Bool :=
  decide (byteOr (-1) s 0 = 84) && decide (byteOr (-1) s 1 = 87) && decide (patOf s (byteOr (-1) s 6).toNat = s.size) && progGood (progOf s)

set_option maxRecDepth 100000 in
set_option maxHeartbeats 4000000 in
theorem cDecode_cps (s : ByteArray) (w : World) (hs : s.size ≤ maxLen) (Post : Ending → World → Prop)
    (hyes : ∀ v bv w', readsProg s = true → OwnBlocks w' w.heap.size v bv → bdat bv = (progOf s).blocks → Below w.heap.size w w' → Post (.returned (.tuple #[.agg #[.int .i64 (byteOr (-1) s 2), .int .i64 (byteOr (-1) s 3), .int .i64 (byteOr (-1) s 4), .int .i64 (byteOr (-1) s 5), v], .int .i64 0])) w')
    (hno : ∀ w', readsProg s = false → Below w.heap.size w w' → Post (.returned (.tuple #[.agg #[.int .i64 0, .int .i64 0, .int .i64 0, .int .i64 0, .slice none 0 0], .int .i64 1])) w') :
    Calls Try.prog 48 #[.string s] w Post := by
  obtain ⟨i0, ii, iz0, iz1, iz2⟩ := info_parts Try.infoBlk
  have hcb := byteOr_bd (-1) s 6 (by omega)
  have hsz := hs
  unfold maxLen at hsz
  by_cases h0 : byteOr (-1) s 0 = 84
  case neg =>
    have hRf : readsProg s = false := by simp [readsProg, h0]
    have hno' := fun w' => hno w' hRf
    clear hno hyes hRf
    have hb : (byteOr (-1) s 0 != 84) = true := by simp [h0]
    go_enter Try.func48, Try.ntmps48
    go_wp2_with (go_at_call 69; refine (byteAt_any _ _ _ hs).mono ?_; rintro e w' ⟨rfl, rfl⟩)
    exact bodyPost_ret (v := .tuple #[.agg #[.int .i64 0, .int .i64 0, .int .i64 0, .int .i64 0, .slice none 0 0], .int .i64 1]) (by simp [results, Try.results48, go_sem]) rfl (hno' _ ((Below.refl _ _).alloc (Nat.le_refl _) _))
  by_cases h1 : byteOr (-1) s 1 = 87
  case neg =>
    have hRf : readsProg s = false := by simp [readsProg, h1]
    have hno' := fun w' => hno w' hRf
    clear hno hyes hRf
    have hb : (byteOr (-1) s 1 != 87) = true := by simp [h1]
    go_enter Try.func48, Try.ntmps48
    go_wp2_with (go_at_call 69; refine (byteAt_any _ _ _ hs).mono ?_; rintro e w' ⟨rfl, rfl⟩)
    exact bodyPost_ret (v := .tuple #[.agg #[.int .i64 0, .int .i64 0, .int .i64 0, .int .i64 0, .slice none 0 0], .int .i64 1]) (by simp [results, Try.results48, go_sem]) rfl (hno' _ ((Below.refl _ _).alloc (Nat.le_refl _) _))
  have HR : Hid (readsProg s = (decide (patOf s (byteOr (-1) s 6).toNat = s.size) && progGood (progOf s))) := by show _ = _; simp [readsProg, h0, h1]
  have HPO : Hid (progOf s = ⟨byteOr (-1) s 2, byteOr (-1) s 3, byteOr (-1) s 4, byteOr (-1) s 5, blocksOf s (byteOr (-1) s 6).toNat⟩) := rfl
  generalize hcn : byteOr (-1) s 6 = c at *
  generalize ha2 : byteOr (-1) s 2 = a2 at *
  generalize ha3 : byteOr (-1) s 3 = a3 at *
  generalize ha4 : byteOr (-1) s 4 = a4 at *
  generalize ha5 : byteOr (-1) s 5 = a5 at *
  have HY : Hid (∀ v bv w', readsProg s = true → OwnBlocks w' w.heap.size v bv → bdat bv = (progOf s).blocks → Below w.heap.size w w' → Post (.returned (.tuple #[.agg #[.int .i64 a2, .int .i64 a3, .int .i64 a4, .int .i64 a5, v], .int .i64 0])) w') := hyes
  have HN : Hid (∀ w', readsProg s = false → Below w.heap.size w w' → Post (.returned (.tuple #[.agg #[.int .i64 0, .int .i64 0, .int .i64 0, .int .i64 0, .slice none 0 0], .int .i64 1])) w') := hno
  clear hyes hno
  go_enter Try.func48, Try.ntmps48
  go_wp2_with (go_at_call 69; refine (byteAt_any _ _ _ hs).mono ?_; rintro e w' ⟨rfl, rfl⟩)
  clear hcn h0 h1 ha2 ha3 ha4 ha5
  go_loopw [6, 7] (fun p i wr => ∃ (k : Nat) (v : Value) (bv : List (BlockD × Value)), k ≤ c.toNat ∧ i = .int .i64 k ∧ p = .int .i64 (patOf s k) ∧ wr.cell? ⟨w.heap.size + 1, 0, none⟩ = some (.int .i64 a2) ∧ wr.cell? ⟨w.heap.size + 1, 1, none⟩ = some (.int .i64 a3) ∧ wr.cell? ⟨w.heap.size + 1, 2, none⟩ = some (.int .i64 a4) ∧ wr.cell? ⟨w.heap.size + 1, 3, none⟩ = some (.int .i64 a5) ∧
      wr.cell? ⟨w.heap.size + 1, 4, none⟩ = some v ∧ wr.frozen? ⟨w.heap.size + 1, 4, none⟩ = false ∧ OwnBlocks wr (w.heap.size + 2) v bv ∧ Hid (bdat bv = blocksOf s k) ∧ Hid (bv.length = k) ∧ Below (w.heap.size + 1) (w.alloc (.cells #[.int .i64 0, .int .i64 0, .int .i64 0, .int .i64 0, .slice none 0 0] 24)) wr ∧ w.heap.size + 2 ≤ wr.heap.size)
    (fun _ i _ => c.toNat - (intOf i).toNat)
  case atStart =>
    refine ⟨0, .slice none 0 0, [], Nat.zero_le _, rfl, rfl, by simp, by simp, by simp, by simp, by simp, by simp, ownBlocks_nil _ _, rfl, rfl, ?_, by simp⟩
    exact (Below.refl _ _).alloc (by simp) _
  case round =>
    obtain ⟨k, v, bv, hk, rfl, rfl, hx0, hx1, hx2, hx3, hx4, hxf, hown, hdt, hvl, hbel, hz⟩ := hrel
    obtain ⟨ao, cp, rfl⟩ := owns_slice hown.row
    have hzl : w.heap.size + 1 < wr.heap.size := by omega
    have hzm : w.heap.size < wr.heap.size := by omega
    have hab := patOf_bd s k
    by_cases hlt : (k : Int) < c
    · go_wp2_with fail
      refine blockAt_cps s _ _ hs (by omega) (by omega) _ ?_
      intro sv w1 hsv hb1
      have HX : Hid (blocksOf s (k + 1) = blocksOf s k ++ [⟨opsAt (-1) s (patOf s k + 1) (byteOr (-1) s (patOf s k)).toNat, ⟨byteOr (-1) s (patOf s k + 1 + 4 * (byteOr (-1) s (patOf s k)).toNat), byteOr (-1) s (patOf s k + 1 + 4 * (byteOr (-1) s (patOf s k)).toNat + 1), byteOr (-1) s (patOf s k + 1 + 4 * (byteOr (-1) s (patOf s k)).toNat + 2), byteOr (-1) s (patOf s k + 1 + 4 * (byteOr (-1) s (patOf s k)).toNat + 3)⟩⟩]) := rfl
      have HA : Hid (patOf s (k + 1) = patOf s k + (1 + 4 * (byteOr (-1) s (patOf s k)).toNat + 4)) := rfl
      have hmb := byteOr_bd (-1) s (patOf s k) (by omega)
      have hpl := opsAt_length (-1) s (patOf s k + 1) (byteOr (-1) s (patOf s k)).toNat
      have hm : (byteOr (-1) s (patOf s k)).toNat ≤ 255 := by omega
      clear hmb
      generalize (byteOr (-1) s (patOf s k)).toNat = m at *
      generalize byteOr (-1) s (patOf s k + 1 + 4 * m) = e1 at *
      generalize byteOr (-1) s (patOf s k + 1 + 4 * m + 1) = e2 at *
      generalize byteOr (-1) s (patOf s k + 1 + 4 * m + 2) = e3 at *
      generalize byteOr (-1) s (patOf s k + 1 + 4 * m + 3) = e4 at *
      generalize opsAt (-1) s (patOf s k + 1) m = ps at *
      subst hpl
      obtain ⟨so, sc, rfl⟩ := owns_slice hsv
      have own1 := hown.below hb1 (Nat.le_refl _)
      have x0 := (hb1.cell (p := ⟨w.heap.size + 1, 0, none⟩) hzl).trans hx0
      have x1 := (hb1.cell (p := ⟨w.heap.size + 1, 1, none⟩) hzl).trans hx1
      have x2 := (hb1.cell (p := ⟨w.heap.size + 1, 2, none⟩) hzl).trans hx2
      have x3 := (hb1.cell (p := ⟨w.heap.size + 1, 3, none⟩) hzl).trans hx3
      have x4 := (hb1.cell (p := ⟨w.heap.size + 1, 4, none⟩) hzl).trans hx4
      have xf := (hb1.frozen (p := ⟨w.heap.size + 1, 4, none⟩) hzl).trans hxf
      have hz1 := hb1.size
      have hzl1 : w.heap.size + 1 < w1.heap.size := by omega
      go_wp2_with (at_builtin; refine wpList_append_own _ rfl _ _ 22 rfl (w.heap.size + 2) 90 i0 (.agg #[.slice none 0 0, .int .i64 0, .int .i64 0, .int .i64 0, .int .i64 0]) 5 56 Try.underlying22 ii iz0 iz1 iz2 rfl (by decide) _ _ _ rfl ((own1.row.alloc _).alloc _) ⟨w1.heap.size + 1, 0, none⟩ 1 1 [.slice so ps.length sc, .int .i64 e1, .int .i64 e2, .int .i64 e3, .int .i64 e4] rfl rfl ?c1 five_one ?c3 ?c4 ?c5 ?_)
      case c1 => simpa using five_new (w1.alloc _) _ _ _ _ _ _
      case c3 => have := hvl.out; unfold maxLen; omega
      case c4 => have := hvl.out; omega
      case c5 => first | omega | (simp; omega)
      intro v' w2 hown' hgrow _
      have hne : ∀ g, w1.heap.size ≤ g → some g ≠ (Value.slice ao bv.length cp).ownBlock := fun g hg e => by have := (own1.row.lt _ e.symm).2; omega
      have own2 : OwnBlocks w2 (w.heap.size + 2) v' (bv ++ [(⟨ps, ⟨e1, e2, e3, e4⟩⟩, .slice so ps.length sc)]) := by
        refine ((own1.alloc _).alloc _).snoc ((owns_base hsv (by omega)).alloc _ |>.alloc _) ?_ hgrow hown'
        intro y hy g hg e
        have q1 := ((hown.each y hy).lt g hg).2
        have q2 := (hsv.lt g e).1
        omega
      have hb2 := ((((Below.refl (w.heap.size + 2) w1).alloc (by omega) _).alloc (by simp; omega) _).grown hgrow (by simp; omega) (fun g hg => (own1.row.lt g hg).1))
      have y0 := (hb2.cell (p := ⟨w.heap.size + 1, 0, none⟩) (by simp)).trans x0
      have y1 := (hb2.cell (p := ⟨w.heap.size + 1, 1, none⟩) (by simp)).trans x1
      have y2 := (hb2.cell (p := ⟨w.heap.size + 1, 2, none⟩) (by simp)).trans x2
      have y3 := (hb2.cell (p := ⟨w.heap.size + 1, 3, none⟩) (by simp)).trans x3
      have y4 := (hb2.cell (p := ⟨w.heap.size + 1, 4, none⟩) (by simp)).trans x4
      have yf := (hb2.frozen (p := ⟨w.heap.size + 1, 4, none⟩) (by simp)).trans xf
      have z0 : w2.cell? ⟨w1.heap.size, 0, none⟩ = some (.slice so ps.length sc) := hgrow.cell (by simp) (hne _ (Nat.le_refl _))
      have z1 : w2.cell? ⟨w1.heap.size, 1, none⟩ = some (.int .i64 e1) := hgrow.cell (by simp) (hne _ (Nat.le_refl _))
      have z2 : w2.cell? ⟨w1.heap.size, 2, none⟩ = some (.int .i64 e2) := hgrow.cell (by simp) (hne _ (Nat.le_refl _))
      have z3 : w2.cell? ⟨w1.heap.size, 3, none⟩ = some (.int .i64 e3) := hgrow.cell (by simp) (hne _ (Nat.le_refl _))
      have z4 : w2.cell? ⟨w1.heap.size, 4, none⟩ = some (.int .i64 e4) := hgrow.cell (by simp) (hne _ (Nat.le_refl _))
      have hz2 := hb2.size
      have hzl2 : w.heap.size + 1 < w2.heap.size := by omega
      have hzn : w1.heap.size ≠ w.heap.size + 1 := by omega
      have hb3 := (hbel.trans (hb1.mono (by omega))).trans (hb2.mono (by omega))
      obtain ⟨ao', cp', hv'⟩ := owns_slice own2.row
      rw [List.length_append] at hv'
      simp only [List.length_cons, List.length_nil, Nat.zero_add] at hv'
      subst hv'
      have z0' : ∀ u, (w2.setCell ⟨w.heap.size + 1, 4, none⟩ u).cell? ⟨w1.heap.size, 0, none⟩ = some (.slice so ps.length sc) := fun u => cell_unset (by simp) z0
      have z1' : ∀ u, (w2.setCell ⟨w.heap.size + 1, 4, none⟩ u).cell? ⟨w1.heap.size, 1, none⟩ = some (.int .i64 e1) := fun u => cell_unset (by simp) z1
      have z2' : ∀ u, (w2.setCell ⟨w.heap.size + 1, 4, none⟩ u).cell? ⟨w1.heap.size, 2, none⟩ = some (.int .i64 e2) := fun u => cell_unset (by simp) z2
      have z3' : ∀ u, (w2.setCell ⟨w.heap.size + 1, 4, none⟩ u).cell? ⟨w1.heap.size, 3, none⟩ = some (.int .i64 e3) := fun u => cell_unset (by simp) z3
      have z4' : ∀ u, (w2.setCell ⟨w.heap.size + 1, 4, none⟩ u).cell? ⟨w1.heap.size, 4, none⟩ = some (.int .i64 e4) := fun u => cell_unset (by simp) z4
      clear hgrow hown hown' own1 hsv hx0 hx1 hx2 hx3 hx4 hxf x0 x1 x2 x3 x4 xf hb2 hbel hne
      go_wp2_with fail
      refine (blockSize_any _ _ _ _ _ _ _ _ (by omega)).mono ?_
      rintro e w3 ⟨rfl, hb4⟩
      have own3 := (own2.set (a := ⟨w.heap.size + 1, 4, none⟩) (by simp) _).below hb4 (Nat.le_refl _)
      have hs3 := hb4.size
      have hlt3 : w.heap.size + 1 < (w2.setCell ⟨w.heap.size + 1, 4, none⟩ (.slice ao' (bv.length + 1) cp')).heap.size := by simp; omega
      have v0 := (hb4.cell (p := ⟨w.heap.size + 1, 0, none⟩) hlt3).trans (cell_unset (by simp) y0)
      have v1 := (hb4.cell (p := ⟨w.heap.size + 1, 1, none⟩) hlt3).trans (cell_unset (by simp) y1)
      have v2 := (hb4.cell (p := ⟨w.heap.size + 1, 2, none⟩) hlt3).trans (cell_unset (by simp) y2)
      have v3 := (hb4.cell (p := ⟨w.heap.size + 1, 3, none⟩) hlt3).trans (cell_unset (by simp) y3)
      have v4 := (hb4.cell (p := ⟨w.heap.size + 1, 4, none⟩) hlt3).trans (cell_set y4)
      have vf := (hb4.frozen (p := ⟨w.heap.size + 1, 4, none⟩) hlt3).trans (by simpa using yf)
      have hb5 := (hb3.setCell (p := ⟨w.heap.size + 1, 4, none⟩) (by simp) _).trans (hb4.mono (by simp; omega))
      simp at hs3
      clear hb4 own2 hb3 y0 y1 y2 y3 y4 yf z0 z1 z2 z3 z4 z0' z1' z2' z3' z4' hlt3
      go_wp2
      go_roundw
      case rel =>
        refine ⟨k + 1, _, _, by omega, by go_num, by rw [HA.out], v0, v1, v2, v3, v4, vf, own3, ?_, ?_, hb5, by omega⟩
        · show bdat _ = _
          rw [HX.out, ← hdt.out]; simp [bdat]
        · show List.length _ = _
          have := hvl.out
          simp; exact this
      case measure => simp [intOf]; omega
    · obtain rfl : k = c.toNat := by omega
      have r0 : wr.cell? ⟨w.heap.size, 0, none⟩ = some (.int .i64 0) := (hbel.cell (by simp)).trans (by simp)
      have r1 : wr.cell? ⟨w.heap.size, 1, none⟩ = some (.int .i64 0) := (hbel.cell (by simp)).trans (by simp)
      have r2 : wr.cell? ⟨w.heap.size, 2, none⟩ = some (.int .i64 0) := (hbel.cell (by simp)).trans (by simp)
      have r3 : wr.cell? ⟨w.heap.size, 3, none⟩ = some (.int .i64 0) := (hbel.cell (by simp)).trans (by simp)
      have r4 : wr.cell? ⟨w.heap.size, 4, none⟩ = some (.slice none 0 0) := (hbel.cell (by simp)).trans (by simp)
      have rf : ∀ o, wr.frozen? ⟨w.heap.size, o, none⟩ = false := fun o => (hbel.frozen (by simp)).trans (by simp)
      have hb0 := Below.under hbel
      have hrd := hown.rd
      rw [hdt.out] at hrd
      have hwm := wmProg_any a2 a3 a4 a5 _ _ wr hrd
      have hpe : Hid (progGood (progOf s) = progGood ⟨a2, a3, a4, a5, blocksOf s c.toNat⟩) := by show _ = _; rw [HPO.out]
      by_cases he : patOf s c.toNat = s.size
      case neg =>
        have hRf : readsProg s = false := by rw [HR.out]; simp [he]
        have hno' := fun w' => HN.out w' hRf
        clear HN HY hRf HR hpe HPO hwm
        have hb : (patOf s c.toNat != (s.size : Int)) = true := by simp [he]
        have f0 := rf 0
        have f1 := rf 1
        have f2 := rf 2
        have f3 := rf 3
        have f4 := rf 4
        clear rf
        go_wp2
        refine bodyPost_ret (v := .tuple #[.agg #[.int .i64 0, .int .i64 0, .int .i64 0, .int .i64 0, .slice none 0 0], .int .i64 1]) (by simp [results, Try.results48, go_sem, r0, r1, r2, r3, r4]) rfl (hno' _ ?_)
        repeat (refine Below.setCell ?_ (by simp) _)
        exact hb0
      have hb : (patOf s c.toNat != (s.size : Int)) = false := by simp [he]
      go_wp2_with fail
      refine hwm.mono ?_
      clear hwm
      rintro e w1 ⟨rfl, hb1⟩
      have x0 := cell_keep hb1 r0
      have x1 := cell_keep hb1 r1
      have x2 := cell_keep hb1 r2
      have x3 := cell_keep hb1 r3
      have x4 := cell_keep hb1 r4
      have xf : ∀ o, w1.frozen? ⟨w.heap.size, o, none⟩ = false := fun o => (hb1.frozen (p := ⟨w.heap.size, o, none⟩) hzm).trans (rf o)
      have f0 := xf 0
      have f1 := xf 1
      have f2 := xf 2
      have f3 := xf 3
      have f4 := xf 4
      have y0 := cell_keep hb1 hx0
      have y1 := cell_keep hb1 hx1
      have y2 := cell_keep hb1 hx2
      have y3 := cell_keep hb1 hx3
      have y4 := cell_keep hb1 hx4
      have hb2 := hb0.trans (hb1.mono (by omega))
      have own1 := hown.below hb1 (Nat.le_refl _)
      clear rf xf r0 r1 r2 r3 r4 hx0 hx1 hx2 hx3 hx4 hxf hrd hown hb1
      cases hg : progGood ⟨a2, a3, a4, a5, blocksOf s c.toNat⟩
      · have hRf : readsProg s = false := by rw [HR.out, hpe.out, hg]; simp
        have hno' := fun w' => HN.out w' hRf
        clear HN HY hRf HR hpe HPO
        go_wp2
        refine bodyPost_ret (v := .tuple #[.agg #[.int .i64 0, .int .i64 0, .int .i64 0, .int .i64 0, .slice none 0 0], .int .i64 1]) (by simp [results, Try.results48, go_sem, x0, x1, x2, x3, x4]) rfl (hno' _ ?_)
        repeat (refine Below.setCell ?_ (by simp) _)
        exact hb2
      · have hRf : readsProg s = true := by rw [HR.out, hpe.out, hg]; simp [he]
        have HY' : Hid (∀ w', OwnBlocks w' w.heap.size (.slice ao bv.length cp) bv → Below w.heap.size w w' → Post (.returned (.tuple #[.agg #[.int .i64 a2, .int .i64 a3, .int .i64 a4, .int .i64 a5, .slice ao bv.length cp], .int .i64 0])) w') :=
          fun w' h1 h2 => HY.out _ bv w' hRf h1 (by rw [HPO.out]; exact hdt.out) h2
        clear HN HY hRf HR hpe HPO
        go_wp2
        refine bodyPost_ret (v := .tuple #[.agg #[.int .i64 a2, .int .i64 a3, .int .i64 a4, .int .i64 a5, .slice ao bv.length cp], .int .i64 0]) (by simp [results, Try.results48, go_sem, x0, x1, x2, x3, x4]) rfl (HY'.out _ ?_ ?_)
        · refine OwnBlocks.base (base := w.heap.size + 2) ?_ (by omega)
          repeat (refine OwnBlocks.set ?_ (by simp) _)
          exact own1
        · repeat (refine Below.setCell ?_ (by simp) _)
          exact hb2

end Go.Proofs.Ytblhmeidbjigaaa

/- Texts of programs: what is read is what was written. -/
set_option linter.unusedSimpArgs false
set_option linter.unusedVariables false
namespace Go.Proofs.Ytblhmeidbjigaaa
open Go.RowKit

def oct4 (a b c d : Int) : Prop := (0 ≤ a ∧ a < 256) ∧ (0 ≤ b ∧ b < 256) ∧ (0 ≤ c ∧ c < 256) ∧ (0 ≤ d ∧ d < 256)

theorem opGood_oct {regs slots : Int} {o : OpD} (h : opGood regs slots o = true) (hr : regs ≤ 8) (hs : slots ≤ 8) : oct4 o.kind o.a o.b o.c := by
  unfold oct4
  simp only [opGood, below] at h
  repeat' split at h
  all_goals first | (simp at h; done) | (simp at h; omega)

theorem endGood_oct {regs n : Int} {e : EndD} (h : endGood regs n e = true) (hr : regs ≤ 8) (hn : n ≤ 6) : oct4 e.kind e.r e.x e.y := by
  unfold oct4
  simp only [endGood, below] at h
  repeat' split at h
  all_goals first | (simp at h; done) | (simp at h; omega)

theorem opsText_get (l : List OpD) (i : Nat) (hi : i < l.length) : (opsText l)[i * 4]? = some (byt (okind l i)) ∧ (opsText l)[i * 4 + 1]? = some (byt (oa l i)) ∧ (opsText l)[i * 4 + 2]? = some (byt (ob l i)) ∧ (opsText l)[i * 4 + 3]? = some (byt (oc l i)) := by
  induction l generalizing i with
  | nil => simp at hi
  | cons p r ih =>
    cases i with
    | zero => exact ⟨rfl, rfl, rfl, rfl⟩
    | succ i =>
      have h := ih i (by simpa using hi)
      have e1 : (i + 1) * 4 = i * 4 + 1 + 1 + 1 + 1 := by omega
      rw [e1]
      exact h

def opsOk (l : List OpD) : Prop := ∀ i, i < l.length → oct4 (okind l i) (oa l i) (ob l i) (oc l i)

theorem byte_mid {d : Int} {l a b c : List UInt8} {o i : Nat} {x : Int} {q : Int} (hl : l = a ++ b ++ c) (ho : a.length = o) (h : b[i]? = some (byt x)) (h0 : 0 ≤ x) (h1 : x < 256) (hq : q = ((o + i : Nat) : Int)) : byteOr d (str l) q = x := by
  rw [hq, byteOr_str (get_mid hl ho h), byt_toNat h0 h1]

theorem opsAt_text {d : Int} {l a c : List UInt8} {ps : List OpD} {o : Nat} (hl : l = a ++ opsText ps ++ c) (ho : a.length = o) (hok : opsOk ps) (k : Nat) (hk : k ≤ ps.length) : opsAt d (str l) o k = ps.take k := by
  induction k with
  | zero => rfl
  | succ k ih =>
    have hk' : k < ps.length := by omega
    obtain ⟨g1, g2, g3, g4⟩ := opsText_get ps k hk'
    obtain ⟨o1, o2, o3, o4⟩ := hok k hk'
    have e1 : byteOr d (str l) ((o : Int) + 4 * k) = okind ps k := byte_mid hl ho g1 o1.1 o1.2 (by omega)
    have e2 : byteOr d (str l) ((o : Int) + 4 * k + 1) = oa ps k := byte_mid hl ho g2 o2.1 o2.2 (by omega)
    have e3 : byteOr d (str l) ((o : Int) + 4 * k + 2) = ob ps k := byte_mid hl ho g3 o3.1 o3.2 (by omega)
    have e4 : byteOr d (str l) ((o : Int) + 4 * k + 3) = oc ps k := byte_mid hl ho g4 o4.1 o4.2 (by omega)
    rw [opsAt, ih (by omega), e1, e2, e3, e4, take_getD ps oz k hk']
    rfl

theorem progText_split (p : ProgD) {k : Nat} (hk : k < p.blocks.length) :
    progText p = (headText p ++ (p.blocks.take k).flatMap blockText) ++ blockText (p.blocks.getD k bz) ++ (p.blocks.drop (k + 1)).flatMap blockText := by
  unfold progText
  have e : p.blocks = p.blocks.take k ++ (p.blocks.getD k bz :: p.blocks.drop (k + 1)) := by rw [← drop_getD p.blocks bz k hk, List.take_append_drop]
  conv => lhs; arg 2; rw [e]
  simp [List.flatMap_append, List.flatMap_cons]

/-- Where the k-th block begins in the text of p. -/
def poff (p : ProgD) (k : Nat) : Nat := 7 + ((p.blocks.take k).flatMap blockText).length

theorem poff_succ {p : ProgD} {k : Nat} (hk : k < p.blocks.length) : poff p (k + 1) = poff p k + 1 + 4 * (bops p.blocks k).length + 4 := by
  unfold poff
  rw [take_getD p.blocks bz k hk, List.flatMap_append]
  simp [blockText_length, bops]
  omega

theorem headText_length (p : ProgD) : (headText p).length = 7 := rfl

theorem poff_len (p : ProgD) : (progText p).length = poff p p.blocks.length := by
  simp [poff, progText, headText_length]

theorem progGood_nums {p : ProgD} (hg : progGood p = true) : (1 ≤ p.regs ∧ p.regs ≤ 8) ∧ (0 ≤ p.args ∧ p.args ≤ p.regs) ∧ (0 ≤ p.data ∧ p.data ≤ 8) ∧ (0 ≤ p.slots ∧ p.slots ≤ 8) := by
  simp [progGood] at hg; omega

theorem progGood_oct {p : ProgD} (hg : progGood p = true) {k : Nat} (hk : k < p.blocks.length) : opsOk (bops p.blocks k) ∧ oct4 (bek p.blocks k) (ber p.blocks k) (bex p.blocks k) (bey p.blocks k) := by
  have hb := progGood_block hg (p.blocks.getD k bz) (getD_mem' hk)
  have hn := progGood_nums hg
  have hl := progGood_len hg
  simp only [blockGood, Bool.and_eq_true] at hb
  refine ⟨?_, endGood_oct hb.2 (by omega) (by omega)⟩
  intro i hi
  have := hb.1.2
  simp only [opsGood, List.all_eq_true] at this
  exact opGood_oct (this _ (getD_mem' (d := oz) hi)) (by omega) (by omega)

/-- What is read at the k-th block of a good program's text. -/
theorem read_pblock {d : Int} {p : ProgD} (hg : progGood p = true) {k : Nat} (hk : k < p.blocks.length) :
    byteOr d (str (progText p)) (poff p k) = (bops p.blocks k).length ∧ blkAt d (str (progText p)) (poff p k) (bops p.blocks k).length = p.blocks.getD k bz := by
  have hs := progText_split p hk
  obtain ⟨ho1, ho2⟩ := progGood_oct hg hk
  have hlen := progGood_ops hg hk
  have ho : (headText p ++ (p.blocks.take k).flatMap blockText).length = poff p k := by simp [poff, headText_length]
  have e0 : byteOr d (str (progText p)) (poff p k) = (bops p.blocks k).length := byte_mid hs ho (i := 0) rfl (by omega) (by omega) (by omega)
  have hs1 : progText p = (headText p ++ (p.blocks.take k).flatMap blockText ++ [byt (bops p.blocks k).length]) ++ opsText (bops p.blocks k) ++ (endText (bfin p.blocks k) ++ (p.blocks.drop (k + 1)).flatMap blockText) := by
    rw [hs]; simp [blockText, bops, bfin]
  have hs2 : progText p = (headText p ++ (p.blocks.take k).flatMap blockText ++ [byt (bops p.blocks k).length] ++ opsText (bops p.blocks k)) ++ endText (bfin p.blocks k) ++ (p.blocks.drop (k + 1)).flatMap blockText := by
    rw [hs]; simp [blockText, bops, bfin]
  have l1 : (headText p ++ (p.blocks.take k).flatMap blockText ++ [byt (bops p.blocks k).length]).length = poff p k + 1 := by rw [List.length_append, ho]; rfl
  have l2 : (headText p ++ (p.blocks.take k).flatMap blockText ++ [byt (bops p.blocks k).length] ++ opsText (bops p.blocks k)).length = poff p k + 1 + 4 * (bops p.blocks k).length := by rw [List.length_append, l1, opsText_length]
  have e1 := opsAt_text (d := d) hs1 l1 ho1 _ (Nat.le_refl _)
  rw [List.take_length] at e1
  obtain ⟨q1, q2, q3, q4⟩ := ho2
  have f1 : byteOr d (str (progText p)) ((poff p k : Int) + 1 + 4 * (bops p.blocks k).length) = bek p.blocks k := byte_mid hs2 l2 (i := 0) rfl q1.1 q1.2 (by omega)
  have f2 : byteOr d (str (progText p)) ((poff p k : Int) + 1 + 4 * (bops p.blocks k).length + 1) = ber p.blocks k := byte_mid hs2 l2 (i := 1) rfl q2.1 q2.2 (by omega)
  have f3 : byteOr d (str (progText p)) ((poff p k : Int) + 1 + 4 * (bops p.blocks k).length + 2) = bex p.blocks k := byte_mid hs2 l2 (i := 2) rfl q3.1 q3.2 (by omega)
  have f4 : byteOr d (str (progText p)) ((poff p k : Int) + 1 + 4 * (bops p.blocks k).length + 3) = bey p.blocks k := byte_mid hs2 l2 (i := 3) rfl q4.1 q4.2 (by omega)
  refine ⟨e0, ?_⟩
  unfold blkAt finAt
  rw [f1, f2, f3, f4, show (poff p k : Int) + 1 = ((poff p k + 1 : Nat) : Int) by omega, e1]
  rfl

theorem read_phead {d : Int} {p : ProgD} (hg : progGood p = true) : byteOr d (str (progText p)) 0 = 84 ∧ byteOr d (str (progText p)) 1 = 87 ∧ byteOr d (str (progText p)) 2 = p.args ∧ byteOr d (str (progText p)) 3 = p.regs ∧ byteOr d (str (progText p)) 4 = p.data ∧ byteOr d (str (progText p)) 5 = p.slots ∧ byteOr d (str (progText p)) 6 = p.blocks.length := by
  have hl := progGood_len hg
  have hn := progGood_nums hg
  have hs : progText p = [] ++ headText p ++ p.blocks.flatMap blockText := rfl
  refine ⟨byteOr_str (i := 0) (b := 84) rfl, byteOr_str (i := 1) (b := 87) rfl, ?_, ?_, ?_, ?_, ?_⟩
  · exact byte_mid hs (o := 0) rfl (i := 2) rfl (by omega) (by omega) (by omega)
  · exact byte_mid hs (o := 0) rfl (i := 3) rfl (by omega) (by omega) (by omega)
  · exact byte_mid hs (o := 0) rfl (i := 4) rfl (by omega) (by omega) (by omega)
  · exact byte_mid hs (o := 0) rfl (i := 5) rfl (by omega) (by omega) (by omega)
  · exact byte_mid hs (o := 0) rfl (i := 6) rfl (by omega) (by omega) (by omega)

theorem pcod_reads {p : ProgD} (hg : progGood p = true) (k : Nat) (hk : k ≤ p.blocks.length) : patOf (str (progText p)) k = poff p k ∧ blocksOf (str (progText p)) k = p.blocks.take k := by
  induction k with
  | zero => exact ⟨rfl, rfl⟩
  | succ k ih =>
    obtain ⟨e1, e2⟩ := ih (by omega)
    obtain ⟨r1, r2⟩ := read_pblock (d := -1) hg (show k < p.blocks.length by omega)
    constructor
    · rw [patOf, e1, r1, poff_succ (by omega), Int.toNat_natCast]; omega
    · rw [blocksOf, e2, e1, r1, Int.toNat_natCast, r2, take_getD p.blocks bz k (by omega)]

theorem progD_eta (p : ProgD) : (⟨p.args, p.regs, p.data, p.slots, p.blocks⟩ : ProgD) = p := rfl

/-! ### Back: what was read, written again -/

theorem seg_one {s : ByteArray} {i : Nat} (h : i < s.size) : seg s i 1 = [byt (byteOr (-1) s i)] := by
  have hl : s.data.toList.length = s.size := Array.length_toList
  rw [byteOr_in h, byt_of]
  unfold seg
  rw [List.drop_eq_getElem_cons (by omega)]
  rfl

theorem seg_four {s : ByteArray} {i : Nat} (h : i + 3 < s.size) : seg s i 4 = [byt (byteOr (-1) s i), byt (byteOr (-1) s ((i : Int) + 1)), byt (byteOr (-1) s ((i : Int) + 2)), byt (byteOr (-1) s ((i : Int) + 3))] := by
  rw [show (4 : Nat) = 2 + 2 from rfl, seg_add, seg_two (by omega), seg_two (by omega)]
  rw [show ((i + 2 : Nat) : Int) = (i : Int) + 2 by omega, show (i : Int) + 2 + 1 = (i : Int) + 3 by omega]
  rfl

theorem ops_seg {s : ByteArray} {o : Nat} (k : Nat) (h : o + 4 * k ≤ s.size) : opsText (opsAt (-1) s o k) = seg s o (4 * k) := by
  induction k with
  | zero => simp [opsAt, opsText, seg]
  | succ k ih =>
    rw [show 4 * (k + 1) = 4 * k + 4 by omega, seg_add, ← ih (by omega), seg_four (by omega)]
    simp only [opsAt, opsText, List.flatMap_append, List.flatMap_cons, List.flatMap_nil, List.append_nil]
    rw [show ((o + 4 * k : Nat) : Int) = (o : Int) + 4 * k by omega]
    rfl

theorem block_seg {s : ByteArray} {a m : Nat} (hm : byteOr (-1) s a = m) (h : a + 1 + 4 * m + 4 ≤ s.size) : blockText (blkAt (-1) s a m) = seg s a (1 + 4 * m + 4) := by
  rw [seg_add, seg_add, seg_one (by omega), hm, ← ops_seg m (by omega), seg_four (by omega)]
  simp only [blockText, blkAt, opsAt_length, endText, finAt]
  rw [show ((a + (1 + 4 * m) : Nat) : Int) = (a : Int) + 1 + 4 * m by omega, show ((a + 1 : Nat) : Int) = (a : Int) + 1 by omega]

theorem blocksOf_length (s : ByteArray) (k : Nat) : (blocksOf s k).length = k := by
  induction k with
  | zero => rfl
  | succ k ih => simp [blocksOf, ih]

theorem blocks_seg {s : ByteArray} (k : Nat) (h : patOf s k ≤ s.size) : (blocksOf s k).flatMap blockText = seg s 7 (patOf s k - 7).toNat := by
  induction k with
  | zero => simp [blocksOf, patOf, seg]
  | succ k ih =>
    have hb := patOf_bd s k
    obtain ⟨a, ha⟩ := Int.eq_ofNat_of_zero_le (show 0 ≤ patOf s k by omega)
    have hstep : patOf s (k + 1) = patOf s k + (1 + 4 * (byteOr (-1) s (patOf s k)).toNat + 4) := rfl
    generalize hm' : (byteOr (-1) s (patOf s k)).toNat = m at hstep
    have hcnt : byteOr (-1) s a = m := by
      rw [ha, byteOr_in (by omega)] at hm'
      rw [byteOr_in (by omega)]
      omega
    have e3 : (patOf s (k + 1) - 7).toNat = (patOf s k - 7).toNat + (1 + 4 * m + 4) := by omega
    rw [blocksOf, List.flatMap_append, ih (by omega), e3, seg_add]
    have ea : 7 + (patOf s k - 7).toNat = a := by omega
    rw [ea, hm', ha]
    congr 1
    simp only [List.flatMap_cons, List.flatMap_nil, List.append_nil]
    exact block_seg hcnt (by omega)

theorem pcod_text {s : ByteArray} (h : readsProg s = true) : str (progText (progOf s)) = s := by
  simp only [readsProg, Bool.and_eq_true, decide_eq_true_eq] at h
  obtain ⟨⟨⟨h0, h1⟩, h2⟩, h3⟩ := h
  have hb := patOf_bd s (byteOr (-1) s 6).toNat
  have hl : s.data.toList.length = s.size := Array.length_toList
  have hc : ((byteOr (-1) s 6).toNat : Int) = byteOr (-1) s 6 := by
    have e : byteOr (-1) s ((6 : Nat) : Int) = _ := byteOr_in (d := -1) (show 6 < s.size by omega)
    have e' : byteOr (-1) s 6 = _ := e
    rw [e']
    omega
  have hs := blocks_seg (s := s) (byteOr (-1) s 6).toNat (by omega)
  have f0 : seg s 0 s.size = s.data.toList := by unfold seg; rw [List.drop_zero, ← hl, List.take_length]
  have f1 : s.size = 2 + 4 + 1 + (patOf s (byteOr (-1) s 6).toNat - 7).toNat := by omega
  have e2 := seg_two (s := s) (i := 0) (by omega)
  have e4 := seg_four (s := s) (i := 2) (by omega)
  have e1 := seg_one (s := s) (i := 6) (by omega)
  have z0 : byteOr (-1) s ((0 : Nat) : Int) = 84 := h0
  have z1 : byteOr (-1) s (((0 : Nat) : Int) + 1) = 87 := h1
  rw [z0, z1] at e2
  rw [f1, seg_add, seg_add, seg_add] at f0
  have e2' : seg s 0 2 = [84, 87] := e2
  have e4' : seg s (0 + 2) 4 = [byt (byteOr (-1) s 2), byt (byteOr (-1) s 3), byt (byteOr (-1) s 4), byt (byteOr (-1) s 5)] := e4
  have e1' : seg s (0 + (2 + 4)) 1 = [byt (byteOr (-1) s 6)] := e1
  have hs' : seg s (0 + (2 + 4 + 1)) (patOf s (byteOr (-1) s 6).toNat - 7).toNat = (blocksOf s (byteOr (-1) s 6).toNat).flatMap blockText := hs.symm
  rw [e2', e4', e1', hs'] at f0
  have f2 : progText (progOf s) = s.data.toList := by
    rw [← f0]
    simp only [progText, headText, progOf, blocksOf_length, hc]
    rfl
  rw [f2, ← str_of]

/-! ### The two contracts, in the document's words -/

theorem cDecode_any (s : ByteArray) (w : World) (hs : s.size ≤ maxLen) :
    Calls Try.prog 48 #[.string s] w fun e w' => ((∃ p v bv, e = .returned (.tuple #[progV p v, .int .i64 0]) ∧ OwnBlocks w' w.heap.size v bv ∧ bdat bv = p.blocks ∧ progGood p = true ∧ str (progText p) = s) ∨
      ((∀ p, progGood p = true → str (progText p) ≠ s) ∧ e = .returned (.tuple #[.agg #[.int .i64 0, .int .i64 0, .int .i64 0, .int .i64 0, .slice none 0 0], .int .i64 1]))) ∧ Below w.heap.size w w' := by
  refine cDecode_cps s w hs _ ?_ ?_
  · intro v bv w' hr ho hd hb
    refine ⟨.inl ⟨progOf s, v, bv, rfl, ho, hd, ?_, pcod_text hr⟩, hb⟩
    simp only [readsProg, Bool.and_eq_true] at hr; exact hr.2
  · intro w' hr hb
    refine ⟨.inr ⟨?_, rfl⟩, hb⟩
    intro p hg he
    subst he
    obtain ⟨r0, r1, r2, r3, r4, r5, r6⟩ := read_phead (d := -1) hg
    have := pcod_reads hg p.blocks.length (Nat.le_refl _)
    simp only [readsProg, progOf, r0, r1, r2, r3, r4, r5, r6, Int.toNat_natCast, this.1, this.2, List.take_length, progD_eta, hg, str_size, poff_len] at hr
    simp at hr

/-- A text is the text of one program at most. -/
theorem prog_one {p q : ProgD} (hp : progGood p = true) (hq : progGood q = true) (e : str (progText p) = str (progText q)) : p = q := by
  obtain ⟨_, _, a2, a3, a4, a5, a6⟩ := read_phead (d := -1) hp
  obtain ⟨_, _, b2, b3, b4, b5, b6⟩ := read_phead (d := -1) hq
  have c := (pcod_reads hp p.blocks.length (Nat.le_refl _)).2
  have d := (pcod_reads hq q.blocks.length (Nat.le_refl _)).2
  rw [e] at a2 a3 a4 a5 a6 c
  have hl : p.blocks.length = q.blocks.length := by omega
  rw [hl, d, List.take_length, ← hl, List.take_length] at c
  rw [← progD_eta p, ← progD_eta q, ← c, ← a2, ← a3, ← a4, ← a5, b2, b3, b4, b5]

end Go.Proofs.Ytblhmeidbjigaaa

/- Appending to and storing into a program of one's own. -/
set_option linter.unusedSimpArgs false
set_option linter.unusedVariables false
namespace Go.Proofs.Ytblhmeidbjigaaa
open Go.RowKit

/-- Lists of bv that lie in lv's block are the beginning of what lv holds. -/
def PreO (bv : List (BlockD × Value)) (lv : Value) (ys : List Value) : Prop := ∀ x ∈ bv, ∀ g, x.2.ownBlock = some g → lv.ownBlock = some g → ∃ t, ys = opCells x.1.ops ++ t

theorem OwnBlocks.app {w w' : World} {base : Nat} {v lv : Value} {bv : List (BlockD × Value)} {m : Nat} {ys : List Value} (h : OwnBlocks w base v bv) (hl : w.ownsRow base 101 4 lv m ys) (hp : PreO bv lv ys)
    (hg : w.grownBy w' lv.ownBlock) (hl' : w'.ownsRow base 101 4 lv m ys) : OwnBlocks w' base v bv := by
  refine ⟨?_, ?_, h.apart⟩
  · refine h.row.kept hg ?_
    cases hb : v.ownBlock with
    | none => exact .inl rfl
    | some g => exact .inr (fun e => owns_apart h.row hl (by decide) g hb e.symm)
  · intro x hx
    cases hb : x.2.ownBlock with
    | none => exact (h.each x hx).kept hg (.inl hb)
    | some g =>
      by_cases e : lv.ownBlock = some g
      · obtain ⟨t, ht⟩ := hp x hx g hb e
        exact owns_pre (by decide) (h.each x hx) hl hb e hl' ht
      · exact (h.each x hx).kept hg (.inr (by rw [hb]; exact fun e' => e e'.symm))

theorem PreO.step {w : World} {base : Nat} {v lv lv' : Value} {bv : List (BlockD × Value)} {ys news : List Value} (h : OwnBlocks w base v bv) (hp : PreO bv lv ys) (hf : ∀ g, lv'.ownBlock = some g → lv.ownBlock = some g ∨ w.heap.size ≤ g) : PreO bv lv' (ys ++ news) := by
  intro x hx g hg hg'
  rcases hf g hg' with e | e
  · obtain ⟨t, ht⟩ := hp x hx g hg e
    exact ⟨t ++ news, by rw [ht, List.append_assoc]⟩
  · have := ((h.each x hx).lt g hg).2
    omega

theorem PreO.start {w : World} {base : Nat} {v : Value} {bv : List (BlockD × Value)} (h : OwnBlocks w base v bv) {i : Nat} (hi : i < bv.length) : PreO bv bv[i].2 (opCells bv[i].1.ops) := by
  intro x hx g hg hg'
  obtain ⟨j, hj, rfl⟩ := List.getElem_of_mem hx
  by_cases e : j = i
  · subst e; exact ⟨[], by simp⟩
  · exfalso
    rcases Nat.lt_or_gt_of_ne e with hlt | hgt
    · exact List.pairwise_iff_getElem.1 h.apart j i hj hi hlt g hg hg'
    · exact List.pairwise_iff_getElem.1 h.apart i j hi hj hgt g hg' hg

/-- Four cells of a block are set. -/
def set4 (w : World) (g o : Nat) (a b c d : Int) : World := (((w.setCell ⟨g, o, none⟩ (.int .i64 a)).setCell ⟨g, o + 1, none⟩ (.int .i64 b)).setCell ⟨g, o + 2, none⟩ (.int .i64 c)).setCell ⟨g, o + 3, none⟩ (.int .i64 d)

theorem Keep.set4 {S : Nat → Prop} {w a : World} (h : Keep S w a) {g o : Nat} (hp : S g ∨ w.heap.size ≤ g) (x y z u : Int) : Keep S w (set4 a g o x y z u) :=
  (((h.setCell (p := ⟨g, o, none⟩) hp _).setCell (p := ⟨g, o + 1, none⟩) hp _).setCell (p := ⟨g, o + 2, none⟩) hp _).setCell (p := ⟨g, o + 3, none⟩) hp _

end Go.Proofs.Ytblhmeidbjigaaa

/- A program of its own with spare room behind each of its lists. -/
set_option linter.unusedSimpArgs false
set_option linter.unusedVariables false
namespace Go.Proofs.Ytblhmeidbjigaaa
open Go.RowKit

def zBlk5 : List Value := [.slice none 0 0, .int .i64 0, .int .i64 0, .int .i64 0, .int .i64 0]
end Go.Proofs.Ytblhmeidbjigaaa

/- Does a program with spare room read as it did? The calls of the program itself. -/
set_option linter.unusedSimpArgs false
set_option linter.unusedVariables false
namespace Go.Proofs.Ytblhmeidbjigaaa
open Go.RowKit

/-! ### The calls themselves -/

set_option maxRecDepth 100000 in
set_option maxHeartbeats 1000000 in
theorem tEncode_any (p : ProgD) (v : Value) (w : World) (hr : RdBlocks w v p.blocks) :
    Calls Try.prog 17 #[progV p v] w fun e w' => e = .returned (.tuple (if progGood p then #[.string (str (progText p)), .int .i64 0] else #[.string ⟨#[]⟩, .int .i64 1])) ∧ Below w.heap.size w w' := by
  obtain ⟨a0, a1, a2, a3, l⟩ := p
  unfold progV
  simp only at hr ⊢
  obtain ⟨ao, cap, e0, _, _⟩ := id hr
  subst e0
  have hc := cEncode_any a0 a1 a2 a3 _ l (w.alloc (.cells #[.int .i64 a0, .int .i64 a1, .int .i64 a2, .int .i64 a3, .slice ao l.length cap] 24)) (hr.keep ((Below.refl _ _).alloc (Nat.le_refl _) _))
  cases hg : progGood ⟨a0, a1, a2, a3, l⟩
  · simp only [hg] at hc
    go_enter Try.func17, Try.ntmps17
    go_wp2_with fail
    refine hc.mono ?_
    rintro e w1 ⟨rfl, hb1⟩
    clear hc
    go_wp2
    go_ret2
    exact ⟨by simp [hg], ((Below.refl _ _).alloc (Nat.le_refl _) _).trans (hb1.mono (by simp))⟩
  · simp only [hg] at hc
    go_enter Try.func17, Try.ntmps17
    go_wp2_with fail
    refine hc.mono ?_
    rintro e w1 ⟨rfl, hb1⟩
    clear hc
    go_wp2
    go_ret2
    exact ⟨by simp [hg], ((Below.refl _ _).alloc (Nat.le_refl _) _).trans (hb1.mono (by simp))⟩

set_option maxRecDepth 100000 in
set_option maxHeartbeats 1000000 in
theorem tDecode_cps (s : ByteArray) (w : World) (hs : s.size ≤ maxLen) (Post : Ending → World → Prop)
    (hyes : ∀ a0 a1 a2 a3 l v bv w', OwnBlocks w' w.heap.size v bv → bdat bv = l → progGood ⟨a0, a1, a2, a3, l⟩ = true → str (progText ⟨a0, a1, a2, a3, l⟩) = s → Below w.heap.size w w' → Post (.returned (.tuple #[.agg #[.int .i64 a0, .int .i64 a1, .int .i64 a2, .int .i64 a3, v], .int .i64 0])) w')
    (hno : ∀ w', (∀ p, progGood p = true → str (progText p) ≠ s) → Below w.heap.size w w' → Post (.returned (.tuple #[.agg #[.int .i64 0, .int .i64 0, .int .i64 0, .int .i64 0, .slice none 0 0], .int .i64 1])) w') :
    Calls Try.prog 16 #[.string s] w Post := by
  have hc := cDecode_any s (w.alloc (.cells #[.int .i64 0, .int .i64 0, .int .i64 0, .int .i64 0, .slice none 0 0] 24)) hs
  have hW : Row (w.alloc (.cells #[.int .i64 0, .int .i64 0, .int .i64 0, .int .i64 0, .slice none 0 0] 24)) w.heap.size 24 [.int .i64 0, .int .i64 0, .int .i64 0, .int .i64 0, .slice none 0 0] := heap_alloc_new w _
  go_enter Try.func16, Try.ntmps16
  go_wp2_with fail
  refine hc.mono ?_
  clear hc
  rintro e w1 ⟨hor, hb1⟩
  have hz1 := hb1.size
  simp at hz1
  have V := hW.keep hb1
  have x0 := V.cell (i := 0) rfl
  have x1 := V.cell (i := 1) rfl
  have x2 := V.cell (i := 2) rfl
  have x3 := V.cell (i := 3) rfl
  have x4 := V.cell (i := 4) rfl
  have f0 := V.frozen 0
  have f1 := V.frozen 1
  have f2 := V.frozen 2
  have f3 := V.frozen 3
  have f4 := V.frozen 4
  have hb2 : Below w.heap.size w w1 := ((Below.refl _ _).alloc (Nat.le_refl _) _).trans (hb1.mono (by simp))
  rcases hor with ⟨⟨a0, a1, a2, a3, l⟩, v, bv, rfl, ho, hd, hg, ht⟩ | ⟨hn, rfl⟩
  · obtain ⟨ao, cap, rfl⟩ := owns_slice ho.row
    have ho' : OwnBlocks w1 (w.heap.size + 1) (.slice ao bv.length cap) bv := by simpa using ho
    have hfin := hyes a0 a1 a2 a3 l (.slice ao bv.length cap) bv (((((w1.setCell ⟨w.heap.size, 0, none⟩ (.int .i64 a0)).setCell ⟨w.heap.size, 1, none⟩ (.int .i64 a1)).setCell ⟨w.heap.size, 2, none⟩ (.int .i64 a2)).setCell ⟨w.heap.size, 3, none⟩ (.int .i64 a3)).setCell ⟨w.heap.size, 4, none⟩ (.slice ao bv.length cap))
      ((((((ho'.set (by simp) _).set (by simp) _).set (by simp) _).set (by simp) _).set (by simp) _).base (by omega)) hd hg ht
      (((((hb2.setCell (by simp) _).setCell (by simp) _).setCell (by simp) _).setCell (by simp) _).setCell (by simp) _)
    clear hyes hno ho ho' hg ht
    unfold progV
    go_wp2
    exact bodyPost_ret (v := .tuple #[.agg #[.int .i64 a0, .int .i64 a1, .int .i64 a2, .int .i64 a3, .slice ao bv.length cap], .int .i64 0]) (by simp [results, Try.results16, go_sem, x0, x1, x2, x3, x4]) rfl hfin
  · have hfin := hno (((((w1.setCell ⟨w.heap.size, 0, none⟩ (.int .i64 0)).setCell ⟨w.heap.size, 1, none⟩ (.int .i64 0)).setCell ⟨w.heap.size, 2, none⟩ (.int .i64 0)).setCell ⟨w.heap.size, 3, none⟩ (.int .i64 0)).setCell ⟨w.heap.size, 4, none⟩ (.slice none 0 0)) hn
      (((((hb2.setCell (by simp) _).setCell (by simp) _).setCell (by simp) _).setCell (by simp) _).setCell (by simp) _)
    clear hyes hno hn
    go_wp2
    exact bodyPost_ret (v := .tuple #[.agg #[.int .i64 0, .int .i64 0, .int .i64 0, .int .i64 0, .slice none 0 0], .int .i64 1]) (by simp [results, Try.results16, go_sem, x0, x1, x2, x3, x4]) rfl hfin

end Go.Proofs.Ytblhmeidbjigaaa

/- Comparing programs, in twinkeep. -/
set_option linter.unusedSimpArgs false
set_option linter.unusedVariables false
namespace Go.Proofs.Ytblhmeidbjigaaa
open Go.RowKit

set_option maxRecDepth 100000 in
set_option maxHeartbeats 1000000 in
theorem kSameOps_any (v u : Value) (ps : List OpD) (w : World) (hv : RdOps w v ps) (hu : RdOps w u ps) :
    Calls Try.prog 68 #[v, u] w fun e w' => e = .returned (.bool true) ∧ Below w.heap.size w w' := by
  obtain ⟨ao, cap, rfl, hl, hc⟩ := hv
  obtain ⟨bo, cap2, rfl, _, hd⟩ := hu
  go_enter Try.func68, Try.ntmps68
  go_wp2
  go_loopw [5] (fun i wr => ∃ (k : Nat), k ≤ ps.length ∧ i = .int .i64 k ∧ Below w.heap.size w wr)
    (fun i _ => ps.length - (intOf i).toNat)
  case atStart => exact ⟨0, Nat.zero_le _, rfl, Below.refl _ _⟩
  case round =>
    obtain ⟨k, hk, rfl, hbel⟩ := hrel
    by_cases hlt : k < ps.length
    · obtain ⟨b, off, rfl, c1, c2, c3, c4⟩ := hc k hlt
      obtain ⟨b', off', rfl, d1, d2, d3, d4⟩ := hd k hlt
      have e1 := cell_keep hbel c1
      have e2 := cell_keep hbel c2
      have e3 := cell_keep hbel c3
      have e4 := cell_keep hbel c4
      have f1 := cell_keep hbel d1
      have f2 := cell_keep hbel d2
      have f3 := cell_keep hbel d3
      have f4 := cell_keep hbel d4
      go_wp2
      go_quiet (fail)
      go_wp2
      go_roundw
      case rel => exact ⟨k + 1, by omega, by go_num, below_drewN hbel _⟩
      case measure => simp [intOf]; omega
    · go_wp2
      go_ret
      exact ⟨rfl, hbel⟩

set_option maxRecDepth 100000 in
set_option maxHeartbeats 2000000 in
theorem kSameProg_any (a0 a1 a2 a3 : Int) (v u : Value) (l : List BlockD) (w : World) (hv : RdBlocks w v l) (hu : RdBlocks w u l) :
    Calls Try.prog 46 #[.agg #[.int .i64 a0, .int .i64 a1, .int .i64 a2, .int .i64 a3, v], .agg #[.int .i64 a0, .int .i64 a1, .int .i64 a2, .int .i64 a3, u]] w fun e w' => e = .returned (.bool true) ∧ Below w.heap.size w w' := by
  obtain ⟨ao, cap, rfl, hl, hc⟩ := hv
  obtain ⟨bo, cap2, rfl, _, hd⟩ := hu
  go_enter Try.func46, Try.ntmps46
  go_wp2
  go_loopw [5] (fun i wr => ∃ (k : Nat), k ≤ l.length ∧ i = .int .i64 k ∧ Below (w.heap.size + 2) ((w.alloc (.cells #[.int .i64 a0, .int .i64 a1, .int .i64 a2, .int .i64 a3, .slice ao l.length cap] 24)).alloc (.cells #[.int .i64 a0, .int .i64 a1, .int .i64 a2, .int .i64 a3, .slice bo l.length cap2] 24)) wr)
    (fun i _ => l.length - (intOf i).toNat)
  case atStart => exact ⟨0, Nat.zero_le _, rfl, Below.refl _ _⟩
  case round =>
    obtain ⟨k, hk, rfl, hbel⟩ := hrel
    have hb0 : Below w.heap.size w wr := (((Below.refl w.heap.size w).alloc (Nat.le_refl _) _).alloc (by simp) _).trans (hbel.mono (by omega))
    have x0 : wr.cell? ⟨w.heap.size, 4, none⟩ = some (.slice ao l.length cap) := (hbel.cell (by simp)).trans (by simp)
    have x1 : wr.cell? ⟨w.heap.size + 1, 4, none⟩ = some (.slice bo l.length cap2) := (hbel.cell (by simp)).trans (by simp)
    have hzz := hbel.size
    simp at hzz
    by_cases hlt : k < l.length
    · obtain ⟨b, off, sv, rfl, c1, c2, c3, c4, c5, c6⟩ := hc k hlt
      obtain ⟨b', off', tv, rfl, d1, d2, d3, d4, d5, d6⟩ := hd k hlt
      have e1 := cell_keep hb0 c1
      have e2 := cell_keep hb0 c2
      have e3 := cell_keep hb0 c3
      have e4 := cell_keep hb0 c4
      have e5 := cell_keep hb0 c5
      have f1 := cell_keep hb0 d1
      have f2 := cell_keep hb0 d2
      have f3 := cell_keep hb0 d3
      have f4 := cell_keep hb0 d4
      have f5 := cell_keep hb0 d5
      have r1 := c6.keep hb0
      have r2 := d6.keep hb0
      have q0 := fun x : Past wr.heap.size wr => x.cell x0
      have q1 := fun x : Past wr.heap.size wr => x.cell x1
      have q2 := fun x : Past wr.heap.size wr => x.cell e1
      have q3 := fun x : Past wr.heap.size wr => x.cell f1
      have np := Past.any wr.heap.size wr
      go_wp2
      refine wp_region_past wr.heap.size (by kernel_rfl) (by kernel_rfl) ?_
      repeat (go_big_quiet_step (exact Calls.past_of (Nat.le_refl _) (kSameOps_any _ _ _ _ (r1.keep (Past.ok _)) (r2.keep (Past.ok _)))))
      refine wpQuiet_nil ?_
      rintro _ ⟨x, rfl⟩
      have y0 := x.cell x0
      have y1 := x.cell x1
      have g2 := x.cell e2
      have g3 := x.cell e3
      have g4 := x.cell e4
      have g5 := x.cell e5
      have h2 := x.cell f2
      have h3 := x.cell f3
      have h4 := x.cell f4
      have h5 := x.cell f5
      have hb1 := hbel.trans (x.ok.mono (by omega))
      generalize x.wd = w1 at *
      clear q0 q1 q2 q3 np
      go_wp2
      go_quiet (fail)
      go_wp2
      go_roundw
      case rel => exact ⟨k + 1, by omega, by go_num, below_drewN hb1 _⟩
      case measure => simp [intOf]; omega
    · go_wp2
      go_ret
      exact ⟨rfl, hb0⟩

end Go.Proofs.Ytblhmeidbjigaaa

/- text and hintText of twinkeep. -/
set_option linter.unusedSimpArgs false
set_option linter.unusedVariables false
namespace Go.Proofs.Ytblhmeidbjigaaa
open Go.RowKit

theorem progText_small {p : ProgD} (hg : progGood p = true) : (str (progText p)).size ≤ maxLen := by
  have := progTo_size hg p.blocks.length
  rw [progTo_end (Nat.le_refl _)] at this
  unfold maxLen
  omega

set_option maxRecDepth 100000 in
set_option maxHeartbeats 2000000 in
theorem kText_any (a0 a1 a2 a3 : Int) (v : Value) (l : List BlockD) (w : World) (hr : RdBlocks w v l) (hg : progGood ⟨a0, a1, a2, a3, l⟩ = true) :
    Calls Try.prog 13 #[.agg #[.int .i64 a0, .int .i64 a1, .int .i64 a2, .int .i64 a3, v]] w fun e w' => e = .returned (.tuple #[.string (str (progText ⟨a0, a1, a2, a3, l⟩)), .bool true]) ∧ Below w.heap.size w w' := by
  obtain ⟨uo, uc, e0, _, _⟩ := id hr
  subst e0
  have hsz := progText_small hg
  have hone : Hid (∀ b0 b1 b2 b3 l2, progGood ⟨b0, b1, b2, b3, l2⟩ = true → str (progText ⟨b0, b1, b2, b3, l2⟩) = str (progText ⟨a0, a1, a2, a3, l⟩) → b0 = a0 ∧ b1 = a1 ∧ b2 = a2 ∧ b3 = a3 ∧ l2 = l) := by
    intro b0 b1 b2 b3 l2 h1 h2
    have := prog_one h1 hg h2
    simpa using this
  have hself : Hid (¬ ∀ p, progGood p = true → str (progText p) ≠ str (progText ⟨a0, a1, a2, a3, l⟩)) := fun h => h _ hg rfl
  have hbU : Below w.heap.size w (w.alloc (.cells #[.int .i64 a0, .int .i64 a1, .int .i64 a2, .int .i64 a3, .slice uo l.length uc] 24)) := (Below.refl w.heap.size w).alloc (Nat.le_refl _) _
  have WU : Row (w.alloc (.cells #[.int .i64 a0, .int .i64 a1, .int .i64 a2, .int .i64 a3, .slice uo l.length uc] 24)) w.heap.size 24 [.int .i64 a0, .int .i64 a1, .int .i64 a2, .int .i64 a3, .slice uo l.length uc] := heap_alloc_new w _
  have hc := tEncode_any ⟨a0, a1, a2, a3, l⟩ _ _ (hr.keep hbU)
  rw [if_pos hg] at hc
  simp only [progV] at hc
  generalize str (progText ⟨a0, a1, a2, a3, l⟩) = T at *
  clear hg
  go_enter Try.func13, Try.ntmps13
  go_wp2_with fail
  refine hc.mono ?_
  clear hc
  rintro e w1 ⟨rfl, hb1⟩
  have VU := WU.keep hb1
  have hb1' : Below (w.heap.size + 1) (w.alloc (.cells #[.int .i64 a0, .int .i64 a1, .int .i64 a2, .int .i64 a3, .slice uo l.length uc] 24)) w1 := by simpa using hb1
  have hb01 := Below.under hb1'
  have hz1 := hb1'.size
  simp at hz1
  clear hb1 hb1' WU hbU
  go_wp2_with fail
  refine tDecode_cps T _ hsz _ ?_ ?_
  · intro b0 b1 b2 b3 l2 v2 bv w2 own hd hg2 ht hb2
    obtain ⟨rfl, rfl, rfl, rfl, rfl⟩ := hone.out b0 b1 b2 b3 l2 hg2 ht
    obtain ⟨ao, cp, rfl⟩ := owns_slice own.row
    have VU2 := VU.keep hb2
    have hb02 := hb01.trans (hb2.mono (by omega))
    have hz2 := hb2.size
    have hbA : Below w2.heap.size w2 (w2.alloc (.cells #[.int .i64 b0, .int .i64 b1, .int .i64 b2, .int .i64 b3, .slice ao bv.length cp] 24)) := (Below.refl _ _).alloc (Nat.le_refl _) _
    have rd1 := (hr.keep hb02).keep hbA
    have rd2 := own.rd.keep hbA
    rw [hd] at rd2
    have hzl : w.heap.size < w2.heap.size := by omega
    have x0 := VU2.cell (i := 0) rfl
    have x1 := VU2.cell (i := 1) rfl
    have x2 := VU2.cell (i := 2) rfl
    have x3 := VU2.cell (i := 3) rfl
    have x4 := VU2.cell (i := 4) rfl
    clear hone hself hg2 ht own
    go_wp2_with fail
    refine (kSameProg_any b0 b1 b2 b3 _ _ _ _ rd1 rd2).mono ?_
    rintro e w3 ⟨rfl, hb3⟩
    have hb03 : Below w.heap.size w w3 := (hb02.trans (hbA.mono (by omega))).trans (hb3.mono (by simp; omega))
    clear x0 x1 x2 x3 x4
    go_wp2
    go_ret2
    exact ⟨by simp, hb03⟩
  · intro w2 hn _
    exact absurd hn hself.out

end Go.Proofs.Ytblhmeidbjigaaa

/- Raw numbers, read one after the other. -/
set_option linter.unusedSimpArgs false
set_option linter.unusedVariables false
namespace Go.Proofs.Ytblhmeidbjigaaa
open Go.RowKit

set_option maxHeartbeats 400000 in
theorem pick_any (c n : Int) (w : World) (hc : -9223372036854775808 ≤ c ∧ c ≤ 9223372036854775807) (hn : 1 ≤ n ∧ n ≤ 1000) (Post : Ending → World → Prop)
    (hp : ∀ x, 0 ≤ x → x < n → Post (.returned (.int .i64 x)) w) : Calls Try.prog 23 #[.int .i64 c, .int .i64 n] w Post := by
  by_cases h0 : c < 0
  · have hx := hp ((-(c + 1)).tmod n) (Int.tmod_nonneg _ (by omega)) (by rw [Int.tmod_eq_emod_of_nonneg (by omega)]; exact Int.emod_lt_of_pos _ (by omega))
    rw [Int.neg_tmod] at hx
    clear hp
    go_enter Try.func23, Try.ntmps23
    go_wp2
    exact hx
  · have hx := hp (c % n) (Int.emod_nonneg _ (by omega)) (Int.emod_lt_of_pos _ (by omega))
    clear hp
    go_enter Try.func23, Try.ntmps23
    go_wp2
    exact hx

/-- A list of numbers that is read. -/
def RdInts (w : World) (v : Value) (n : Nat) : Prop :=
  ∃ ao cap, v = .slice ao n cap ∧ n ≤ 9223372036854775807 ∧ ∀ i, i < n → ∃ b off x, ao = some ⟨b, off, none⟩ ∧ -9223372036854775808 ≤ x ∧ x ≤ 9223372036854775807 ∧ w.cell? ⟨b, off + i, none⟩ = some (.int .i64 x)

/-- The rolls at block R, over a list of n numbers that lies elsewhere. -/
structure Rolls (w : World) (R : Nat) (ao : Option Addr) (n cap k : Nat) : Prop where
  row : Row w R 84 [.slice ao n cap, .int .i64 k]
  le : k ≤ n
  rd : RdInts w (.slice ao n cap) n
  off : 0 < n → ∀ b o, ao = some ⟨b, o, none⟩ → b ≠ R

theorem Rolls.keep {w w' : World} {R : Nat} {ao : Option Addr} {n cap k : Nat} (h : Rolls w R ao n cap k) (hb : Below w.heap.size w w') : Rolls w' R ao n cap k := by
  refine ⟨h.row.keep hb, h.le, ?_, h.off⟩
  obtain ⟨ao', cap', e, hn, hc⟩ := h.rd
  exact ⟨ao', cap', e, hn, fun i hi => let ⟨b, off, x, e1, h1, h2, h3⟩ := hc i hi; ⟨b, off, x, e1, h1, h2, cell_keep hb h3⟩⟩

theorem rd_away {w : World} {R : Nat} {ao : Option Addr} {n cap i : Nat} (h : RdInts w (.slice ao n cap) n) (hoff : 0 < n → ∀ b o, ao = some ⟨b, o, none⟩ → b ≠ R) (u : Value) : RdInts (w.setCell ⟨R, i, none⟩ u) (.slice ao n cap) n := by
  obtain ⟨ao', cap', e, hn, hc⟩ := h
  simp only [Value.slice.injEq, true_and] at e
  obtain ⟨rfl, rfl⟩ := e
  refine ⟨ao, cap, rfl, hn, fun i hi => ?_⟩
  obtain ⟨b, off, x, e1, h1, h2, h3⟩ := hc i hi
  exact ⟨b, off, x, e1, h1, h2, cell_unset (fun e => hoff (by omega) b off e1 (by simp at e; exact e.1.symm)) h3⟩

set_option maxRecDepth 100000 in
set_option maxHeartbeats 2000000 in
theorem next_cps (R : Nat) (ao : Option Addr) (n cap k : Nat) (m : Int) (w : World) (h : Rolls w R ao n cap k) (hm : 1 ≤ m ∧ m ≤ 1000) (Post : Ending → World → Prop)
    (hp : ∀ x k' w', 0 ≤ x → x < m → Rolls w' R ao n cap k' → Keep (fun g => g = R) w w' → w'.heap.size = w.heap.size → Post (.returned (.int .i64 x)) w') :
    Calls Try.prog 44 #[.pointer (some ⟨R, 0, none⟩), .int .i64 m] w Post := by
  have hle := h.le
  have hrow := h.row
  have x0 := hrow.cell (i := 0) rfl
  have x1 := hrow.cell (i := 1) rfl
  have xf := hrow.frozen 1
  obtain ⟨ao', cap', e, hn, hc⟩ := h.rd
  simp only [Value.slice.injEq, true_and] at e
  obtain ⟨rfl, rfl⟩ := e
  have hd : ∀ d, Rolls (w.drewN d) R ao n cap k := fun d => h.keep (below_drewN (Below.refl _ _) d)
  have hkd : ∀ d, Keep (fun g => g = R) w (w.drewN d) := fun d => (Keep.refl _ _).below (below_drewN (Below.refl w.heap.size w) d) (Nat.le_refl _)
  by_cases hlt : k < n
  · obtain ⟨b, off, x, rfl, hx1, hx2, hx3⟩ := hc k hlt
    have hbR := h.off (by omega) b off rfl
    have hp' : Hid (∀ y d, 0 ≤ y → y < m → Post (.returned (.int .i64 y)) ((w.drewN d).setCell ⟨R, 1, none⟩ (.int .i64 ((k : Int) + 1)))) := by
      intro y d h1 h2
      refine hp y (k + 1) _ h1 h2 ⟨?_, by omega, ?_, (hd d).off⟩ ((hkd d).setCell (.inl rfl) _) (by simp)
      · have := (hd d).row.set 1 (.int .i64 ((k + 1 : Nat) : Int))
        simpa using this
      · exact rd_away (hd d).rd (hd d).off _
    clear hp hd hkd hc
    go_enter Try.func44, Try.ntmps44
    go_wp2
    go_quiet (fail)
    go_wp2
    go_quiet (fail)
    go_wp2_with fail
    refine pick_any _ _ _ ⟨hx1, hx2⟩ hm _ ?_
    intro y h1 h2
    go_wp2
    exact hp'.out y _ h1 h2
  · have hp' : Hid (∀ y d, 0 ≤ y → y < m → Post (.returned (.int .i64 y)) (w.drewN d)) := fun y d h1 h2 => hp y k _ h1 h2 (hd d) (hkd d) (by simp)
    clear hp hd hkd hc
    go_enter Try.func44, Try.ntmps44
    go_wp2
    go_quiet (fail)
    go_wp2_with fail
    refine pick_any _ _ _ (by omega) hm _ ?_
    intro y h1 h2
    go_wp2
    exact hp'.out y _ h1 h2

end Go.Proofs.Ytblhmeidbjigaaa

/- The law on programs: reading. -/
set_option linter.unusedSimpArgs false
set_option linter.unusedVariables false
namespace Go.Proofs.Ytblhmeidbjigaaa
open Go.RowKit

theorem Row.kept {S : Nat → Prop} {w w' : World} {g : Nat} {e : TypeId} {xs : List Value} (h : Row w g e xs) (hk : Keep S w w') (hn : ¬ S g) : Row w' g e xs := h.same (hk.block g h.lt hn)

theorem OwnBlocks.apartFrom {S : Nat → Prop} {w w' : World} {base : Nat} {v : Value} {bv : List (BlockD × Value)} (h : OwnBlocks w base v bv) (hk : Keep S w w') (hS : ∀ g, S g → g < base) : OwnBlocks w' base v bv := by
  have key : ∀ (e : TypeId) (sz : Nat) (u : Value) (n : Nat) (xs : List Value), w.ownsRow base e sz u n xs → w'.ownsRow base e sz u n xs := by
    intro e sz u n xs hu
    refine owns_same hu fun g hg => hk.block g (hu.lt g hg).2 (fun hs => ?_)
    have := hS g hs
    have := (hu.lt g hg).1
    omega
  exact ⟨key _ _ _ _ _ h.row, fun x hx => key _ _ _ _ _ (h.each x hx), h.apart⟩

end Go.Proofs.Ytblhmeidbjigaaa
