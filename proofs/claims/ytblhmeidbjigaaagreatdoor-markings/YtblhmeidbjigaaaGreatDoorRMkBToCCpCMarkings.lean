/- The reference's marks: in, Marked, Marks. -/
import Derived.Test.YtblhmeidbjigaaaGreatDoorRows
import Derived.WalkKit
import Derived.WalkSpells
import Derived.WalkLawsBesides
import Derived.Laws.BytesArg
import Derived.Deep.QuietTactic
import Derived.BigQuiet
import Derived.Deep.RegionHeld3
import Derived.Lib.ItoaNum
import Derived.Lib.ItoaLen
import Derived.OpenShut
import Derived.Maps.AppendAt
import Derived.Shelf.Strconv.Itoa3
import Derived.Shelf.Lay
import Derived.Ground.NamesProg
import Derived.Lib.SmallJoins
import Derived.Lib.Hide
import Derived.StillTailTactics
import Derived.Test.YtblhmeidbjigaaaGreatDoorPRefFToTAnsMarkings

set_option linter.unusedSimpArgs false
set_option linter.unusedVariables false
namespace Go.Proofs.YtblhmeidbjigaaaGreatDoor
open Go.RowKit

/-- Texts as cells. -/
def texts (l : List (List UInt8)) : List Value := l.map fun x => .string (str x)

theorem texts_length (l : List (List UInt8)) : (texts l).length = l.length := by simp [texts]
theorem texts_snoc (l : List (List UInt8)) (s : List UInt8) : texts (l ++ [s]) = texts l ++ [.string (str s)] := by simp [texts]

theorem Tryz.infoStr : (Tryz.prog.info? 9).map (fun i => (i.zero, i.size, i.bytes)) = some (some (.string ⟨#[]⟩), 1, 16) := by kernel_rfl

/-- A list of texts that is read. -/
def RdTexts (w : World) (v : Value) (l : List (List UInt8)) : Prop :=
  ∃ ao cap, v = .slice ao l.length cap ∧ l.length ≤ 9223372036854775807 ∧ ∀ i, i < l.length → ∃ b off, ao = some ⟨b, off, none⟩ ∧ w.cell? ⟨b, off + i, none⟩ = some (.string (str (l.getD i [])))

theorem RdTexts.keep {w w' : World} {v : Value} {l : List (List UInt8)} (h : RdTexts w v l) (hb : Below w.heap.size w w') : RdTexts w' v l := by
  obtain ⟨ao, cap, rfl, hl, hc⟩ := h
  exact ⟨ao, cap, rfl, hl, fun i hi => let ⟨b, off, e, h1⟩ := hc i hi; ⟨b, off, e, cell_keep hb h1⟩⟩

theorem texts_rd {w : World} {B : Nat} {v : Value} {l : List (List UInt8)} (h : w.ownsRow B 9 1 v l.length (texts l)) : RdTexts w v l := by
  obtain ⟨ao, cap, rfl⟩ := owns_slice h
  refine ⟨ao, cap, rfl, owns_le h, fun i hi => ?_⟩
  obtain ⟨b, rfl, _, hb, hc⟩ := owns_cell h rfl (i := i) (by rw [texts_length]; exact hi)
  refine ⟨b, 0, rfl, ?_⟩
  rw [Nat.zero_add, hc]
  simp [texts, List.getD, hi]

theorem str_eq (x y : List UInt8) : ((str x).toList == (str y).toList) = true ↔ x = y := by simp [str]
theorem str_ne {x y : List UInt8} (h : x ≠ y) : ((str x).toList == (str y).toList) = false := by simp [str, h]

set_option maxRecDepth 100000 in
set_option maxHeartbeats 1000000 in
theorem rIn_any (v : Value) (l : List (List UInt8)) (s : List UInt8) (w : World) (hr : RdTexts w v l) :
    Calls Tryz.prog 116 #[v, .string (str s)] w fun e w' => e = .returned (.bool (decide (s ∈ l))) ∧ w = w' := by
  obtain ⟨ao, cap, rfl, hl, hc⟩ := hr
  go_enter Tryz.func116, Tryz.ntmps116
  go_wp2
  go_loopw [5] (fun i wr => wr = w ∧ ∃ (k : Nat), k ≤ l.length ∧ i = .int .i64 k ∧ Hid (∀ j, j < k → l.getD j [] ≠ s))
    (fun i _ => l.length - (intOf i).toNat)
  case atStart => exact ⟨rfl, 0, Nat.zero_le _, rfl, fun j hj => by omega⟩
  case round =>
    obtain ⟨rfl, k, hk, rfl, hno⟩ := hrel
    by_cases hlt : k < l.length
    · obtain ⟨b, off, rfl, h1⟩ := hc k hlt
      have hki : (0 : Int) ≤ (k : Int) := by omega
      have hkj : (k : Int) < (l.length : Int) := by omega
      by_cases he : l.getD k [] = s
      · have h2 := (str_eq (l.getD k []) s).2 he
        have HM : Hid (decide (s ∈ l) = true) := by show _ = _; rw [decide_eq_true_eq, ← he]; exact getD_mem' hlt
        have HE := Lib.hid he
        clear hno he
        generalize l.getD k [] = x at *
        go_wp2
        (try simp only [Exit.inBlock, Exit.then])
        refine bodyPost_ret (v := .bool true) ?_ rfl ?_
        · simp [results, Tryz.results116, go_sem]
        · exact ⟨by rw [HM.out], rfl⟩
      · have h2 := str_ne he
        have hno2 : Hid (∀ j, j < k + 1 → l.getD j [] ≠ s) := fun j hj => by
          by_cases e : j = k
          · subst e; exact he
          · exact hno.out j (by omega)
        clear hno he
        generalize l.getD k [] = x at *
        go_wp2
        go_roundw
        case rel => exact ⟨by first | rfl | trivial, k + 1, by omega, by go_num, hno2⟩
        case measure => simp [intOf]; omega
    · obtain rfl : k = l.length := by omega
      have HM : Hid (decide (s ∈ l) = false) := by
        show _ = _
        rw [decide_eq_false_iff_not]
        intro hm
        obtain ⟨j, hj, e⟩ := List.getElem_of_mem hm
        exact hno.out j hj (by simp [List.getD, hj, e])
      clear hno hc
      go_wp2
      go_ret
      exact ⟨by rw [HM.out]; rfl, rfl⟩

theorem tx_new (w : World) (x : Value) (t : TypeId) : ∀ j u, [x][j]? = some u → (w.alloc (.cells #[x] t)).cell? ((⟨w.heap.size, 0, none⟩ : Addr).add j) = some u := by
  intro j u hj
  match j, hj with
  | 0, hj => simp at hj; subst hj; simp [Addr.add]

theorem tx_one (x : ByteArray) : ∀ u ∈ [Value.string x], u.oneCell' = true := by
  intro u hu; simp at hu; subst hu; rfl

theorem marksT_length (regs slots data : Int) (names : List Int) (ops : List OpD) : ∀ k, (marksT regs slots data names ops k).length ≤ k
  | 0 => by simp [marksT]
  | k + 1 => by
    have := marksT_length regs slots data names ops k
    simp only [marksT]
    split
    · simp; omega
    · omega

theorem marks_more {regs slots data : Int} {names : List Int} {ops : List OpD} {k : Nat} (h : markT regs slots data names ops k ≠ [] ∧ markT regs slots data names ops k ∉ marksT regs slots data names ops k) : marksT regs slots data names ops (k + 1) = marksT regs slots data names ops k ++ [markT regs slots data names ops k] := by
  simp only [marksT]; rw [if_pos h]
theorem marks_same {regs slots data : Int} {names : List Int} {ops : List OpD} {k : Nat} (h : ¬ (markT regs slots data names ops k ≠ [] ∧ markT regs slots data names ops k ∉ marksT regs slots data names ops k)) : marksT regs slots data names ops (k + 1) = marksT regs slots data names ops k := by
  simp only [marksT]; rw [if_neg h]

set_option maxRecDepth 100000 in
set_option maxHeartbeats 4000000 in
theorem rMarked_cps (p : ProgD) (pv nv : Value) (b : Nat) (names : List Int) (hg : progGood p = true) (hb : b < p.blocks.length) (hnm : ∀ x ∈ names, x ≤ 1000) (w : World) (hv : RdView w p pv nv names) (Post : Ending → World → Prop)
    (hp : ∀ v w', w'.ownsRow w.heap.size 9 1 v (marksT p.regs p.slots p.data names (bops p.blocks b) (bops p.blocks b).length).length (texts (marksT p.regs p.slots p.data names (bops p.blocks b) (bops p.blocks b).length)) → Below w.heap.size w w' → Post (.returned v) w') :
    Calls Tryz.prog 76 #[viewV p pv b nv] w Post := by
  obtain ⟨i0, ii, iz0, iz1, iz2⟩ := info_parts Tryz.infoStr
  obtain ⟨h12, hops⟩ := good_block hg hb
  have hb0 : Below w.heap.size w (w.alloc (.cells #[.int .i64 p.args, .int .i64 p.regs, .int .i64 p.data, .int .i64 p.slots, pv, .int .i64 b, nv] 87)) := (Below.refl _ _).alloc (Nat.le_refl _) _
  have r : Row (w.alloc (.cells #[.int .i64 p.args, .int .i64 p.regs, .int .i64 p.data, .int .i64 p.slots, pv, .int .i64 b, nv] 87)) w.heap.size 87 (viewC p pv b nv) := heap_alloc_new w _
  have hz0 : w.heap.size + 1 ≤ (w.alloc (.cells #[.int .i64 p.args, .int .i64 p.regs, .int .i64 p.data, .int .i64 p.slots, pv, .int .i64 b, nv] 87)).heap.size := by simp
  have qm := fun k hk W hW => rMark_any p pv nv b names hg hb hnm k hk W hW
  obtain ⟨ao, cap, rfl, hll, hc⟩ := id hv.blocks
  obtain ⟨bb, off, sv, rfl, c0, _, _, _, _, hrd⟩ := hc b hb
  obtain ⟨so, sc, rfl, hol, hoc⟩ := hrd
  have hbi : (0 : Int) ≤ (b : Int) := by omega
  have hbj : (b : Int) < (p.blocks.length : Int) := by omega
  have HV := Lib.hid hv
  have HR := Lib.hid r
  have HB := Lib.hid hb0
  have HP := Lib.hid hp
  have hml := fun k => marksT_length p.regs p.slots p.data names (bops p.blocks b) k
  unfold viewV at qm ⊢
  clear r hv hc hb0 hp hoc
  go_enter Tryz.func76, Tryz.ntmps76
  go_wp2
  go_loopw [3, 4] (fun l i wr => ∃ (k : Nat), k ≤ (bops p.blocks b).length ∧ i = .int .i64 k ∧ wr.ownsRow (w.heap.size + 1) 9 1 l (marksT p.regs p.slots p.data names (bops p.blocks b) k).length (texts (marksT p.regs p.slots p.data names (bops p.blocks b) k)) ∧ Row wr w.heap.size 87 (viewC p (.slice (some ⟨bb, off, none⟩) p.blocks.length cap) b nv) ∧ Below w.heap.size w wr ∧ w.heap.size + 1 ≤ wr.heap.size)
    (fun _ i _ => (bops p.blocks b).length - (intOf i).toNat)
  case atStart => exact ⟨0, Nat.zero_le _, rfl, World.ownsRow_nil _ _ _ _, HR.out, HB.out, hz0⟩
  case round =>
    clear HR HB hz0
    obtain ⟨k, hk, rfl, hown, r, hbel, hz⟩ := hrel
    obtain ⟨lo, lc, rfl⟩ := owns_slice hown
    have x0 := cell_keep hbel c0
    have v0 := r.cell (i := 0) rfl
    have v1 := r.cell (i := 1) rfl
    have v2 := r.cell (i := 2) rfl
    have v3 := r.cell (i := 3) rfl
    have v4 := r.cell (i := 4) rfl
    have v5 := r.cell (i := 5) rfl
    have v6 := r.cell (i := 6) rfl
    have hmk := hml k
    by_cases hlt : k < (bops p.blocks b).length
    · have q1 := qm k hlt wr (HV.out.keep hbel)
      have hkj : (k : Int) < ((bops p.blocks b).length : Int) := by omega
      obtain ⟨M, hM⟩ : ∃ M, markT p.regs p.slots p.data names (bops p.blocks b) k = M := ⟨_, rfl⟩
      obtain ⟨L, hL⟩ : ∃ L, marksT p.regs p.slots p.data names (bops p.blocks b) k = L := ⟨_, rfl⟩
      have HS1 : Hid (M ≠ [] ∧ M ∉ L → marksT p.regs p.slots p.data names (bops p.blocks b) (k + 1) = L ++ [M]) := fun h => by rw [← hM, ← hL] at h ⊢; exact marks_more h
      have HS2 : Hid (¬ (M ≠ [] ∧ M ∉ L) → marksT p.regs p.slots p.data names (bops p.blocks b) (k + 1) = L) := fun h => by rw [← hM, ← hL] at h; rw [← hL]; exact marks_same h
      rw [hM] at q1
      rw [hL] at hown hmk ⊢
      clear hM hL
      go_wp2_with fail
      refine q1.mono ?_
      rintro e w2 ⟨rfl, b2⟩
      have own2 := owns_below hown b2 (Nat.le_refl _)
      have r2 := r.keep b2
      have bel2 := hbel.trans (b2.mono hbel.size)
      have z2 : w.heap.size + 1 ≤ w2.heap.size := Nat.le_trans hz b2.size
      have q2 := rIn_any _ L M w2 (texts_rd own2)
      clear q1 hown r hbel hz b2 v0 v1 v2 v3 v4 v5 v6 x0
      go_wp2_with fail
      refine q2.mono ?_
      rintro e w3 ⟨rfl, rfl⟩
      by_cases hmn : M = []
      · subst hmn
        have HX := Lib.hid (HS2.out (by simp))
        have h0 : (str []).toList = [] := by simp [str]
        clear q2 HS1 HS2
        generalize decide ([] ∈ L) = z at *
        go_wp2
        go_roundw
        case rel => exact ⟨k + 1, by omega, by go_num, by rw [HX.out]; exact own2, r2, bel2, z2⟩
        case measure => simp [intOf]; omega
      · have hne0 : (str M).toList ≠ [] := by simp [str, hmn]
        have hne1 : ((str M).toList == []) = false := by simp [str, hmn]
        have hne2 : (str M).toList.isEmpty = false := by simp [str, hmn]
        by_cases hin : M ∈ L
        · have hd : decide (M ∈ L) = true := by simp [hin]
          rw [hd]
          have HX := Lib.hid (HS2.out (fun q => q.2 hin))
          clear q2 HS1 HS2 hd hin hmn
          go_wp2
          go_roundw
          case rel => exact ⟨k + 1, by omega, by go_num, by rw [HX.out]; exact own2, r2, bel2, z2⟩
          case measure => simp [intOf]; omega
        · have hd : decide (M ∈ L) = false := by simp [hin]
          rw [hd]
          have HX := Lib.hid (HS1.out ⟨hmn, hin⟩)
          clear q2 HS1 HS2 hd hin hmn
          go_wp2_with (at_builtin; refine wpList_append_own _ rfl _ _ 26 rfl (w.heap.size + 1) 9 i0 (.string ⟨#[]⟩) 1 16 Tryz.underlying26 ii iz0 iz1 iz2 rfl (by decide) _ _ _ rfl (own2.alloc _) ⟨w2.heap.size, 0, none⟩ 1 1 [.string (str M)] rfl rfl ?c1 (tx_one _) ?c3 ?c4 ?c5 ?_)
          case c1 => exact tx_new w2 _ _
          case c3 => unfold maxLen; omega
          case c4 => omega
          case c5 => simp; omega
          intro v' w4 hown' hgrow _
          rw [← texts_snoc] at hown'
          have hb4 := ((Below.refl (w.heap.size + 1) w2).alloc z2 (.cells #[.string (str M)] 9)).grown hgrow (by simp; omega) (fun g hg => (own2.lt g hg).1)
          have r4 := r2.below hb4 (by omega)
          have bel4 := bel2.trans (hb4.mono (by omega))
          have z4 : w.heap.size + 1 ≤ w4.heap.size := Nat.le_trans z2 hb4.size
          obtain ⟨lo', lc', rfl⟩ := owns_slice hown'
          clear hgrow own2 r2 bel2 hb4
          go_wp2
          go_roundw
          case rel => exact ⟨k + 1, by omega, by go_num, by rw [HX.out]; simpa using hown', r4, bel4, z4⟩
          case measure => simp [intOf]; omega
    · obtain rfl : k = (bops p.blocks b).length := by omega
      have HF := Lib.hid (HP.out _ _ (owns_base hown (by omega)) hbel)
      clear HP hown hbel r
      go_wp2
      exact HF.out

set_option maxRecDepth 100000 in
set_option maxHeartbeats 4000000 in
theorem rMarks_cps (s : ByteArray) (block : Int) (w : World) (hs : s.size ≤ maxLen) (htab : TabW w) (Post : Ending → World → Prop)
    (hp : ∀ l er v w', MarksAns s block l er → w'.ownsRow w.heap.size 9 1 v l.length (texts l) → Below w.heap.size w w' → Post (.returned (.tuple #[v, .int .i64 er])) w') :
    Calls Tryz.prog 39 #[.string s, .int .i64 block] w Post := by
  have hc := rDecode_any s w hs
  have HP := Lib.hid hp
  have HN : Hid (∀ er w', MarksAns s block [] er → Below w.heap.size w w' → Post (.returned (.tuple #[.slice none 0 0, .int .i64 er])) w') := fun er w' h1 h2 => hp [] er _ w' h1 (World.ownsRow_nil _ _ _ _) h2
  clear hp
  go_enter Tryz.func39, Tryz.ntmps39
  go_wp2_with fail
  refine hc.mono ?_
  clear hc
  rintro e w1 ⟨hor, hb1⟩
  rcases hor with ⟨p, v, bv, rfl, ho, hd, hg, ht⟩ | ⟨hn, rfl⟩
  · obtain ⟨bo, bc, rfl⟩ := owns_slice ho.row
    have hlen : bv.length = p.blocks.length := by rw [← hd, bdat_length]
    have hrd0 := ho.rd
    rw [hd] at hrd0
    rw [hlen] at hrd0 ⊢
    obtain ⟨hr, hargs, hdata, hsl⟩ := good_shape hg
    have hb2 : Below w.heap.size w (w1.alloc (.cells #[.int .i64 p.args, .int .i64 p.regs, .int .i64 p.data, .int .i64 p.slots, .slice bo p.blocks.length bc] 33)) := hb1.alloc hb1.size _
    have hb12 : Below w1.heap.size w1 (w1.alloc (.cells #[.int .i64 p.args, .int .i64 p.regs, .int .i64 p.data, .int .i64 p.slots, .slice bo p.blocks.length bc] 33)) := (Below.refl _ _).alloc (Nat.le_refl _) _
    have hrd2 := hrd0.keep hb12
    have hll := progGood_len hg
    unfold progV
    by_cases hall : 0 ≤ block ∧ block < p.blocks.length
    · obtain ⟨ha1, ha2⟩ := id hall
      obtain ⟨b, rfl⟩ := Int.eq_ofNat_of_zero_le ha1
      have hbn : b < p.blocks.length := by omega
      have hq1 : ¬ ((b : Int) < 0) := by omega
      have HALL := Lib.hid hall
      clear hall ho hd hrd0 hb1 hb12 hlen
      have qp := fun P => rPlain_cps p bo p.blocks.length bc b (w1.alloc (.cells #[.int .i64 p.args, .int .i64 p.regs, .int .i64 p.data, .int .i64 p.slots, .slice bo p.blocks.length bc] 33)) ⟨by omega, hr.2⟩ hsl P
      unfold progV viewV at qp
      go_wp2_with fail
      refine qp _ ?_
      intro nv w3 hown hb3
      have hb03 : Below w.heap.size w w3 := hb2.trans (hb3.mono hb2.size)
      have hrd3 := hrd2.keep hb3
      have htab3 := htab.keep hb03
      have hnv := vw_rd hown
      clear hown hb2 hrd2 qp hb3
      have hb4 : Below w.heap.size w (w3.alloc (.cells #[.int .i64 p.args, .int .i64 p.regs, .int .i64 p.data, .int .i64 p.slots, .slice bo p.blocks.length bc, .int .i64 b, nv] 87)) := hb03.alloc hb03.size _
      have hb34 : Below w3.heap.size w3 (w3.alloc (.cells #[.int .i64 p.args, .int .i64 p.regs, .int .i64 p.data, .int .i64 p.slots, .slice bo p.blocks.length bc, .int .i64 b, nv] 87)) := (Below.refl _ _).alloc (Nat.le_refl _) _
      have r4 : Row (w3.alloc (.cells #[.int .i64 p.args, .int .i64 p.regs, .int .i64 p.data, .int .i64 p.slots, .slice bo p.blocks.length bc, .int .i64 b, nv] 87)) w3.heap.size 87 (viewC p (.slice bo p.blocks.length bc) b nv) := heap_alloc_new w3 _
      have V4 : RdView (w3.alloc (.cells #[.int .i64 p.args, .int .i64 p.regs, .int .i64 p.data, .int .i64 p.slots, .slice bo p.blocks.length bc, .int .i64 b, nv] 87)) p (.slice bo p.blocks.length bc) nv (plainNames p.regs p.slots) := ⟨hrd3.keep hb34, hnv.keep hb34, htab3.keep hb34⟩
      have hnm := plain_le p.regs p.slots (by omega)
      have qb := rBig_any p (.slice bo p.blocks.length bc) nv b _ hg hbn hnm _ V4
      obtain ⟨no, nc, rfl, _, _⟩ := id hnv
      unfold viewV at qb
      clear hrd3 htab3 hnv hb03 hb34
      go_wp2_with fail
      refine qb.mono ?_
      rintro e w5 ⟨rfl, hb5⟩
      have V5 := V4.keep hb5
      have r5 := r4.keep hb5
      have hb05 : Below w.heap.size w w5 := hb4.trans (hb5.mono hb4.size)
      clear qb V4 r4 hb4 hb5
      cases hbig : bigT p.regs p.slots (plainNames p.regs p.slots) (bops p.blocks b) with
      | true =>
        have HF := Lib.hid (HN.out 5 w5 (.inr ⟨p, hg, ht, .inr ⟨HALL.out, .inl ⟨rfl, rfl, hbig⟩⟩⟩) hb05)
        clear r5 V5 HN HP hbig
        go_wp2
        exact HF.out
      | false =>
        have u0 := r5.cell (i := 0) rfl
        have u1 := r5.cell (i := 1) rfl
        have u2 := r5.cell (i := 2) rfl
        have u3 := r5.cell (i := 3) rfl
        have u4 := r5.cell (i := 4) rfl
        have u5 := r5.cell (i := 5) rfl
        have u6 := r5.cell (i := 6) rfl
        have qf := fun P => rMarked_cps p (.slice bo p.blocks.length bc) (.slice no (plainNames p.regs p.slots).length nc) b _ hg hbn hnm w5 V5 P
        unfold viewV at qf
        go_wp2_with fail
        refine qf _ ?_
        intro v w6 own6 hb6
        have hb06 : Below w.heap.size w w6 := hb05.trans (hb6.mono hb05.size)
        have HF := Lib.hid (HP.out _ 0 v w6 (.inr ⟨p, hg, ht, .inr ⟨HALL.out, .inr ⟨rfl, hbig, rfl⟩⟩⟩) (by have := owns_base own6 hb05.size; simpa using this) hb06)
        clear u0 u1 u2 u3 u4 u5 u6 qf V5 r5 hb05 hb6 own6 hbig HN HP
        go_wp2
        exact HF.out
    · have HF := Lib.hid (HN.out 4 _ (.inr ⟨p, hg, ht, .inl ⟨rfl, rfl, hall⟩⟩) hb2)
      clear ho hd hrd0 hb1 hb12 hlen hrd2 hb2 HN HP
      by_cases ha1 : block < 0
      · go_wp2
        exact HF.out
      · have ha2 : (p.blocks.length : Int) ≤ block := by omega
        go_wp2
        exact HF.out
  · have HF := Lib.hid (HN.out 1 (w1.alloc (.cells #[.int .i64 0, .int .i64 0, .int .i64 0, .int .i64 0, .slice none 0 0] 33)) (.inl ⟨rfl, rfl, hn⟩) (hb1.alloc hb1.size _))
    clear hb1 hn HN HP
    go_wp2
    exact HF.out

end Go.Proofs.YtblhmeidbjigaaaGreatDoor

/- The code's state of a block in memory: its terms, its marks; stores into it. -/
set_option linter.unusedSimpArgs false
set_option linter.unusedVariables false
namespace Go.Proofs.YtblhmeidbjigaaaGreatDoor
open Go.RowKit

/-- All stays but the state's own blocks: what lies below B, and from Lo on every block that holds no texts. -/
structure Mv (B Lo : Nat) (w w' : World) : Prop where
  low : Below B w w'
  size : w.heap.size ≤ w'.heap.size
  row : ∀ g ty xs, Lo ≤ g → ty ≠ 9 → Row w g ty xs → Row w' g ty xs

theorem Mv.refl (B Lo : Nat) (w : World) : Mv B Lo w w := ⟨Below.refl _ _, Nat.le_refl _, fun _ _ _ _ _ r => r⟩

theorem Mv.trans {B Lo : Nat} {w a b : World} (h : Mv B Lo w a) (h2 : Mv B Lo a b) : Mv B Lo w b :=
  ⟨h.low.trans h2.low, Nat.le_trans h.size h2.size, fun g ty xs hg ht r => h2.row g ty xs hg ht (h.row g ty xs hg ht r)⟩

theorem Mv.of {B Lo : Nat} {w w' : World} (hb : Below w.heap.size w w') (hB : B ≤ w.heap.size) : Mv B Lo w w' := ⟨hb.mono hB, hb.size, fun _ _ _ _ _ r => r.keep hb⟩

theorem Mv.set {B Lo : Nat} {w a : World} (h : Mv B Lo w a) {g : Nat} (hB : B ≤ g) (hL : g < Lo) (i : Nat) (u : Value) : Mv B Lo w (a.setCell ⟨g, i, none⟩ u) :=
  ⟨⟨h.low.os, h.low.tape, h.low.output, by simpa using h.low.size, fun k hk => (Below.heap_setCell _ _ _ _ (by show k ≠ g; omega)).trans (h.low.block k hk)⟩, by simpa using h.size,
    fun g' ty xs hg ht r => (h.row g' ty xs hg ht r).unset (by show g' ≠ g; omega) u⟩

theorem PartsAt.mv {B Lo : Nat} {w w' : World} {t : TD} {ps : Value} (h : PartsAt Lo w t ps) (hm : Mv B Lo w w') : PartsAt Lo w' t ps := by
  induction t generalizing ps with
  | leaf k n => exact ⟨h.1, Nat.le_trans h.2 hm.size⟩
  | two k a b iha ihb => obtain ⟨g, pa, pb, e, lg, r, h1, h2⟩ := h; exact ⟨g, pa, pb, e, lg, hm.row _ _ _ lg (by decide) r, iha h1, ihb h2⟩
  | three k a b c iha ihb ihc => obtain ⟨g, pa, pb, pc, e, lg, r, h1, h2, h3⟩ := h; exact ⟨g, pa, pb, pc, e, lg, hm.row _ _ _ lg (by decide) r, iha h1, ihb h2, ihc h3⟩

/-- Terms side by side in a block. -/
def PlAt (w : World) (P n : Nat) (f : Nat → TD) (ps : Nat → Value) : Prop :=
  ∃ xs, Row w P 119 xs ∧ n * 5 ≤ xs.length ∧ ∀ i, i < n → ∀ j u, (tcells (f i) (ps i))[j]? = some u → xs[i * 5 + j]? = some u

theorem PlAt.keep {w w' : World} {P n : Nat} {f : Nat → TD} {ps : Nat → Value} (h : PlAt w P n f ps) (hb : Below w.heap.size w w') : PlAt w' P n f ps :=
  let ⟨xs, r, hl, hc⟩ := h
  ⟨xs, r.keep hb, hl, hc⟩

theorem PlAt.cell {w : World} {P n : Nat} {f : Nat → TD} {ps : Nat → Value} (h : PlAt w P n f ps) {i : Nat} (hi : i < n) {j : Nat} {u : Value} (hj : (tcells (f i) (ps i))[j]? = some u) : w.cell? ⟨P, i * 5 + j, none⟩ = some u :=
  let ⟨xs, r, hl, hc⟩ := h
  r.cell (hc i hi j u hj)

theorem PlAt.frozen {w : World} {P n : Nat} {f : Nat → TD} {ps : Nat → Value} (h : PlAt w P n f ps) (i : Nat) : w.frozen? ⟨P, i, none⟩ = false :=
  let ⟨xs, r, hl, hc⟩ := h
  r.frozen i

/-- Five cells of a block are set, from o on. -/
def put5 (w : World) (g o : Nat) (a b c d e : Value) : World :=
  ((((w.setCell ⟨g, o, none⟩ a).setCell ⟨g, o + 1, none⟩ b).setCell ⟨g, o + 2, none⟩ c).setCell ⟨g, o + 3, none⟩ d).setCell ⟨g, o + 4, none⟩ e

def upT (f : Nat → TD) (i : Nat) (t : TD) : Nat → TD := fun k => if k = i then t else f k
def upV (f : Nat → Value) (i : Nat) (t : Value) : Nat → Value := fun k => if k = i then t else f k

/-- A term is laid into a block. -/
def putT (w : World) (g o : Nat) (t : TD) (p : Value) : World := put5 w g o (.int .i64 (ckind t)) (.int .i64 (cval t)) p (.int .i64 t.size) (.string (str (showT t)))

theorem PlAt.put {w : World} {P n : Nat} {f : Nat → TD} {ps : Nat → Value} (h : PlAt w P n f ps) {i : Nat} (hi : i < n) (t : TD) (p : Value) : PlAt (putT w P (i * 5) t p) P n (upT f i t) (upV ps i p) := by
  obtain ⟨xs, r, hl, hc⟩ := h
  refine ⟨_, ((((r.set (i * 5) _).set (i * 5 + 1) _).set (i * 5 + 2) _).set (i * 5 + 3) _).set (i * 5 + 4) _, by simpa using hl, ?_⟩
  intro k hk j u hu
  have hj : j < 5 := by
    have := (List.getElem?_eq_some_iff.1 hu).1
    simpa [tcells] using this
  by_cases e : k = i
  · subst e
    simp only [upT, upV, if_true] at hu
    have h5 : j = 0 ∨ j = 1 ∨ j = 2 ∨ j = 3 ∨ j = 4 := by omega
    have hb : k * 5 + 5 ≤ xs.length := by omega
    rcases h5 with rfl | rfl | rfl | rfl | rfl <;> simp only [tcells, List.getElem?_cons_zero, List.getElem?_cons_succ] at hu <;> simp only [List.getElem?_set, List.length_set] <;>
      simp [hu, show k * 5 + 0 < xs.length by omega, show k * 5 < xs.length by omega, show k * 5 + 1 < xs.length by omega, show k * 5 + 2 < xs.length by omega, show k * 5 + 3 < xs.length by omega, show k * 5 + 4 < xs.length by omega]
  · have h0 := hc k hk j u (by simpa [upT, upV, e] using hu)
    simp only [List.getElem?_set]
    rw [if_neg (by omega), if_neg (by omega), if_neg (by omega), if_neg (by omega), if_neg (by omega)]
    exact h0

theorem PlAt.off {w : World} {P n : Nat} {f : Nat → TD} {ps : Nat → Value} (h : PlAt w P n f ps) {g : Nat} (hg : P ≠ g) (i : Nat) (u : Value) : PlAt (w.setCell ⟨g, i, none⟩ u) P n f ps :=
  let ⟨xs, r, hl, hc⟩ := h
  ⟨xs, r.unset (a := ⟨g, i, none⟩) hg u, hl, hc⟩

theorem row_owns_any {w : World} {H : Nat} {t e : TypeId} {xs ys : List Value} {v : Value} {B sz n : Nat} (hr : Row w H t xs) (h : w.ownsRow B e sz v n ys) (ht : t ≠ e) : v.ownBlock ≠ some H := by
  intro q
  rcases h.2 with ⟨rfl, _⟩ | ⟨k, cap, cur, rfl, _, hh, _⟩
  · simp [Value.ownBlock] at q
  · simp only [Value.ownBlock, Option.some.injEq] at q
    subst q
    unfold Row at hr
    rw [hr] at hh
    simp only [Option.some.injEq, Obj.cells.injEq] at hh
    exact ht hh.2.1

/-- What a state leads to: P its places' block. -/
structure StB (B Lo : Nat) (w : World) (P n : Nat) (f : Nat → TD) (ps : Nat → Value) (c : TD) (pc : Value) (ms : List (List UInt8)) (mv : Value) : Prop where
  pl : PlAt w P n f ps
  parts : ∀ i, i < n → PartsAt Lo w (f i) (ps i)
  pc : PartsAt Lo w c pc
  mrk : w.ownsRow Lo 9 1 mv ms.length (texts ms)
  hP : B ≤ P
  hP' : P < Lo

/-- A state: M its own block. -/
structure StU (B Lo : Nat) (w : World) (M P cap n : Nat) (f : Nat → TD) (ps : Nat → Value) (c : TD) (pc : Value) (ms : List (List UInt8)) (mv : Value) (big : Bool) (regs data : Int) : Prop where
  row : Row w M 121 [.slice (some ⟨P, 0, none⟩) n cap, .int .i64 (ckind c), .int .i64 (cval c), pc, .int .i64 c.size, .string (str (showT c)), mv, .bool big, .int .i64 regs, .int .i64 data]
  b : StB B Lo w P n f ps c pc ms mv
  hM : B ≤ M
  hM' : M < Lo
  ne : P ≠ M

def StAt (B Lo : Nat) (w : World) (M P cap n : Nat) (f : Nat → TD) (c : TD) (ms : List (List UInt8)) (big : Bool) (regs data : Int) : Prop :=
  ∃ ps pc mv, StU B Lo w M P cap n f ps c pc ms mv big regs data

section
variable {B Lo : Nat} {w w' : World} {M P cap n : Nat} {f : Nat → TD} {ps : Nat → Value} {c : TD} {pc : Value} {ms : List (List UInt8)} {mv : Value} {big : Bool} {regs data : Int}

theorem StU.at (h : StU B Lo w M P cap n f ps c pc ms mv big regs data) : StAt B Lo w M P cap n f c ms big regs data := ⟨_, _, _, h⟩

theorem StB.le (h : StB B Lo w P n f ps c pc ms mv) : B ≤ w.heap.size := by
  have := h.pc.lo; have := h.hP; have := h.hP'; omega

theorem StU.le (h : StU B Lo w M P cap n f ps c pc ms mv big regs data) : B ≤ w.heap.size := h.b.le

theorem StB.next (h : StB B Lo w P n f ps c pc ms mv) (hb : Below w.heap.size w w') : StB B Lo w' P n f ps c pc ms mv :=
  ⟨h.pl.keep hb, fun i hi => (h.parts i hi).keep hb, h.pc.keep hb, owns_below h.mrk hb (Nat.le_refl _), h.hP, h.hP'⟩

theorem StU.next (h : StU B Lo w M P cap n f ps c pc ms mv big regs data) (hb : Below w.heap.size w w') : StU B Lo w' M P cap n f ps c pc ms mv big regs data :=
  ⟨h.row.keep hb, h.b.next hb, h.hM, h.hM', h.ne⟩

theorem StAt.next (h : StAt B Lo w M P cap n f c ms big regs data) (hb : Below w.heap.size w w') : StAt B Lo w' M P cap n f c ms big regs data :=
  let ⟨_, _, _, u⟩ := h
  ⟨_, _, _, u.next hb⟩

theorem StB.congr (h : StB B Lo w P n f ps c pc ms mv) {g : Nat → TD} (hg : ∀ i, i < n → f i = g i) : StB B Lo w P n g ps c pc ms mv :=
  let ⟨xs, r, hl, hc⟩ := h.pl
  ⟨⟨xs, r, hl, fun i hi j u hj => hc i hi j u (by rw [hg i hi]; exact hj)⟩, fun i hi => by rw [← hg i hi]; exact h.parts i hi, h.pc, h.mrk, h.hP, h.hP'⟩

theorem StAt.congr (h : StAt B Lo w M P cap n f c ms big regs data) {g : Nat → TD} {c' : TD} {ms' : List (List UInt8)} {big' : Bool} (hg : ∀ i, i < n → f i = g i) (hc : c = c') (hm : ms = ms') (hb : big = big') : StAt B Lo w M P cap n g c' ms' big' regs data := by
  subst hc; subst hm; subst hb
  obtain ⟨ps, pc, mv, u⟩ := h
  exact ⟨ps, pc, mv, u.row, u.b.congr hg, u.hM, u.hM', u.ne⟩

theorem StB.mkne (h : StB B Lo w P n f ps c pc ms mv) {g : Nat} (hg : g < Lo) : mv.ownBlock ≠ some g := by
  intro e
  have := (h.mrk.lt g e).1
  omega

theorem PartsAt.putT {Lo : Nat} {w : World} {t : TD} {ps : Value} (h : PartsAt Lo w t ps) {g : Nat} (hg : g < Lo) (o : Nat) (t' : TD) (p : Value) : PartsAt Lo (putT w g o t' p) t ps :=
  ((((h.under hg _ _).under hg _ _).under hg _ _).under hg _ _).under hg _ _

/-- A term is laid into a place. -/
theorem StU.place (h : StU B Lo w M P cap n f ps c pc ms mv big regs data) {i : Nat} (hi : i < n) {t : TD} {p : Value} (hp : PartsAt Lo w t p) :
    StU B Lo (putT w P (i * 5) t p) M P cap n (upT f i t) (upV ps i p) c pc ms mv big regs data := by
  refine ⟨?_, ⟨h.b.pl.put hi t p, ?_, h.b.pc.putT h.b.hP' _ _ _, ?_, h.b.hP, h.b.hP'⟩, h.hM, h.hM', h.ne⟩
  · exact ((((h.row.unset (a := ⟨P, _, none⟩) (Ne.symm h.ne) _).unset (a := ⟨P, _, none⟩) (Ne.symm h.ne) _).unset (a := ⟨P, _, none⟩) (Ne.symm h.ne) _).unset (a := ⟨P, _, none⟩) (Ne.symm h.ne) _).unset (a := ⟨P, _, none⟩) (Ne.symm h.ne) _
  · intro k hk
    by_cases e : k = i
    · simp only [upT, upV, e, if_true]; exact hp.putT h.b.hP' _ _ _
    · simp only [upT, upV, e, if_false]; exact (h.b.parts k hk).putT h.b.hP' _ _ _
  · have q := h.b.mkne h.b.hP'
    exact owns_unset (owns_unset (owns_unset (owns_unset (owns_unset h.b.mrk q _) q _) q _) q _) q _

/-- The cells' term is laid. -/
theorem StU.cells (h : StU B Lo w M P cap n f ps c pc ms mv big regs data) {t : TD} {p : Value} (hp : PartsAt Lo w t p) :
    StU B Lo (putT w M 1 t p) M P cap n f ps t p ms mv big regs data := by
  refine ⟨((((h.row.set 1 _).set 2 _).set 3 _).set 4 _).set 5 _, ⟨((((h.b.pl.off h.ne _ _).off h.ne _ _).off h.ne _ _).off h.ne _ _).off h.ne _ _, fun i hi => (h.b.parts i hi).putT h.hM' _ _ _, hp.putT h.hM' _ _ _, ?_, h.b.hP, h.b.hP'⟩, h.hM, h.hM', h.ne⟩
  have q := h.b.mkne h.hM'
  exact owns_unset (owns_unset (owns_unset (owns_unset (owns_unset h.b.mrk q _) q _) q _) q _) q _

/-- Big is set. -/
theorem StU.flag (h : StU B Lo w M P cap n f ps c pc ms mv big regs data) (b : Bool) : StU B Lo (w.setCell ⟨M, 7, none⟩ (.bool b)) M P cap n f ps c pc ms mv b regs data :=
  ⟨h.row.set 7 _, ⟨h.b.pl.off h.ne _ _, fun i hi => (h.b.parts i hi).under h.hM' _ _, h.b.pc.under h.hM' _ _, owns_unset h.b.mrk (h.b.mkne h.hM') _, h.b.hP, h.b.hP'⟩, h.hM, h.hM', h.ne⟩

/-- A longer list of marks is set. -/
theorem StU.marks (h : StU B Lo w M P cap n f ps c pc ms mv big regs data) {ms' : List (List UInt8)} {mv' : Value} (hm : w'.ownsRow Lo 9 1 mv' ms'.length (texts ms')) (hg : w.grownBy w' mv.ownBlock) :
    StU B Lo (w'.setCell ⟨M, 6, none⟩ mv') M P cap n f ps c pc ms' mv' big regs data ∧ Mv B Lo w (w'.setCell ⟨M, 6, none⟩ mv') := by
  have hm0 : Mv B Lo w w' := by
    refine ⟨⟨hg.os, hg.tape, hg.output, hg.size, fun k hk => hg.block k (Nat.lt_of_lt_of_le hk h.le) (fun e => ?_)⟩, hg.size, fun g ty xs hl ht r => r.grown hg (fun e => ?_)⟩
    · have := h.b.mkne (g := k) (by have := h.hM; have := h.hM'; omega)
      exact this e.symm
    · exact row_owns_any r h.b.mrk ht e
  have h1 : Row w' M 121 _ := h.row.grown hg (h.b.mkne h.hM')
  have h2 : PlAt w' P n f ps := let ⟨xs, r, hl, hc⟩ := h.b.pl; ⟨xs, r.grown hg (h.b.mkne h.b.hP'), hl, hc⟩
  have q : mv'.ownBlock ≠ some M := fun e => by have := (hm.lt M e).1; have := h.hM'; omega
  exact ⟨⟨h1.set 6 _, ⟨h2.off h.ne _ _, fun i hi => ((h.b.parts i hi).mv hm0).under h.hM' _ _, (h.b.pc.mv hm0).under h.hM' _ _, owns_unset hm q _, h.b.hP, h.b.hP'⟩, h.hM, h.hM', h.ne⟩, hm0.set h.hM h.hM' _ _⟩

theorem Mv.putT {w a : World} (h : Mv B Lo w a) {g : Nat} (hB : B ≤ g) (hL : g < Lo) (o : Nat) (t : TD) (p : Value) : Mv B Lo w (putT a g o t p) :=
  ((((h.set hB hL _ _).set hB hL _ _).set hB hL _ _).set hB hL _ _).set hB hL _ _
end

end Go.Proofs.YtblhmeidbjigaaaGreatDoor

/- A block's marks, step by step, as the code lays them; pure. -/
set_option linter.unusedSimpArgs false
set_option linter.unusedVariables false
noncomputable section
namespace Go.Proofs.YtblhmeidbjigaaaGreatDoor
open Go.RowKit Classical

/-- The mark of a Load or Store at u; []: none is needed. -/
def cellText (data : Int) (u : TD) : List UInt8 :=
  match u.isNum with
  | some n => if 0 ≤ n ∧ n < data then [] else 64 :: 32 :: showT u
  | none => 64 :: 32 :: showT u

/-- The mark of a Div of u by v. -/
def divText (u v : TD) : List UInt8 :=
  match u.isNum, v.isNum with
  | some _, some y => if y ≠ 0 then [] else 47 :: 32 :: (showT u ++ 32 :: showT v)
  | _, _ => 47 :: 32 :: (showT u ++ 32 :: showT v)

def opMarkT (data : Int) (was : Int → TD) (o : OpD) : List UInt8 :=
  if o.kind = 11 then divText (was o.b) (was o.c) else if o.kind = 12 then cellText data (was o.b) else if o.kind = 13 then cellText data (was o.a) else []

def laidMark (ms : List (List UInt8)) (s : List UInt8) : List (List UInt8) := if s ≠ [] ∧ s ∉ ms then ms ++ [s] else ms

theorem laid_nil (ms : List (List UInt8)) : laidMark ms [] = ms := by simp [laidMark]
theorem laid_in {ms : List (List UInt8)} {s : List UInt8} (h : s ∈ ms) : laidMark ms s = ms := by simp [laidMark, h]
theorem laid_new {ms : List (List UInt8)} {s : List UInt8} (hn : s ≠ []) (h : s ∉ ms) : laidMark ms s = ms ++ [s] := by simp [laidMark, h, hn]
theorem marks_step (regs slots data : Int) (names : List Int) (ops : List OpD) (k : Nat) :
    marksT regs slots data names ops (k + 1) = laidMark (marksT regs slots data names ops k) (opMarkT data (behindT regs slots names ops k) (ops.getD k oz)) := by
  have e : markT regs slots data names ops k = opMarkT data (behindT regs slots names ops k) (ops.getD k oz) := by
    unfold markT opMarkT
    by_cases h1 : (ops.getD k oz).kind = 11
    · simp only [h1, if_true]; rfl
    · by_cases h2 : (ops.getD k oz).kind = 12
      · simp only [h2, if_true, if_neg (show ¬ ((12 : Int) = 11) by omega), true_or]; rfl
      · by_cases h3 : (ops.getD k oz).kind = 13
        · simp only [h3, if_true, if_neg (show ¬ ((13 : Int) = 11) by omega), if_neg (show ¬ ((13 : Int) = 12) by omega), or_true]; rfl
        · simp only [h1, h2, h3, if_false, or_self]
  show (if markT regs slots data names ops k ≠ [] ∧ markT regs slots data names ops k ∉ marksT regs slots data names ops k then _ else _) = _
  rw [e]
  rfl

end Go.Proofs.YtblhmeidbjigaaaGreatDoor

/- The code's marks: mark, markCell, markDiv. -/
set_option linter.unusedSimpArgs false
set_option linter.unusedVariables false
namespace Go.Proofs.YtblhmeidbjigaaaGreatDoor
open Go.RowKit

set_option maxRecDepth 100000 in
set_option maxHeartbeats 2000000 in
theorem cMark_cps {B Lo : Nat} {w : World} {M P cap n : Nat} {f : Nat → TD} {c : TD} {ms : List (List UInt8)} {big : Bool} {regs data : Int} (h : StAt B Lo w M P cap n f c ms big regs data) (t : List UInt8) (ht : t ≠ []) (hl : ms.length ≤ 1000) (Post : Ending → World → Prop)
    (hp : ∀ w', StAt B Lo w' M P cap n f c (laidMark ms t) big regs data → Mv B Lo w w' → Post (.returned (.tuple #[])) w') :
    Calls Tryz.prog 194 #[.pointer (some ⟨M, 0, none⟩), .string (str t)] w Post := by
  obtain ⟨ps, pc, mv, U⟩ := h
  obtain ⟨i0, ii, iz0, iz1, iz2⟩ := info_parts Tryz.infoStr
  obtain ⟨mo, mc, rfl⟩ := owns_slice U.b.mrk
  obtain ⟨ao, cp, e0, hll, hc⟩ := texts_rd U.b.mrk
  simp only [Value.slice.injEq, true_and] at e0
  obtain ⟨rfl, rfl⟩ := e0
  have m6 := U.row.cell (i := 6) rfl
  have hal := (Below.refl w.heap.size w).alloc (Nat.le_refl _) (.cells #[.string (str t)] 9)
  have U0 := U.next hal
  have m6' := U0.row.cell (i := 6) rfl
  have HU := Lib.hid U
  have HU0 := Lib.hid U0
  have HP := Lib.hid hp
  have HT := Lib.hid ht
  have hlo : Lo ≤ w.heap.size := U.b.pc.lo
  have HO := Lib.hid U0.b.mrk
  clear hp U U0 ht hal
  go_enter Tryz.func194, Tryz.ntmps194
  go_wp2
  go_loopw [4] (fun i wr => wr = w ∧ ∃ (k : Nat), k ≤ ms.length ∧ i = .int .i64 k ∧ Hid (∀ j, j < k → ms.getD j [] ≠ t))
    (fun i _ => ms.length - (intOf i).toNat)
  case atStart => exact ⟨rfl, 0, Nat.zero_le _, rfl, fun j hj => by omega⟩
  case round =>
    obtain ⟨rfl, k, hk, rfl, hno⟩ := hrel
    by_cases hlt : k < ms.length
    · obtain ⟨b, off, rfl, h1⟩ := hc k hlt
      have hki : (0 : Int) ≤ (k : Int) := by omega
      have hkj : (k : Int) < (ms.length : Int) := by omega
      by_cases he : ms.getD k [] = t
      · have h2 := (str_eq (ms.getD k []) t).2 he
        have hm : t ∈ ms := by rw [← he]; exact getD_mem' hlt
        have HF := Lib.hid (HP.out _ (by rw [laid_in hm]; exact HU.out.at) (Mv.refl _ _ _))
        have HE := Lib.hid he
        clear hno he hm HP HU HU0 HO
        generalize ms.getD k [] = x at *
        go_wp2
        go_end0
        exact HF.out
      · have h2 := str_ne he
        have hno2 : Hid (∀ j, j < k + 1 → ms.getD j [] ≠ t) := fun j hj => by
          by_cases e : j = k
          · subst e; exact he
          · exact hno.out j (by omega)
        clear hno he
        generalize ms.getD k [] = x at *
        go_wp2
        go_roundw
        case rel => exact ⟨by first | rfl | trivial, k + 1, by omega, by go_num, hno2⟩
        case measure => simp [intOf]; omega
    · obtain rfl : k = ms.length := by omega
      have hm : t ∉ ms := by
        intro hm
        obtain ⟨j, hj, e⟩ := List.getElem_of_mem hm
        exact hno.out j hj (by simp [List.getD, hj, e])
      have HQ := Lib.hid (fun w' => HP.out w')
      rw [laid_new HT.out hm] at HQ
      clear hno hc HP hm
      go_wp2_with (at_builtin; refine wpList_append_own _ rfl _ _ 26 rfl Lo 9 i0 (.string ⟨#[]⟩) 1 16 Tryz.underlying26 ii iz0 iz1 iz2 rfl (by decide) _ _ _ rfl HO.out ⟨wr.heap.size, 0, none⟩ 1 1 [.string (str t)] rfl rfl ?c1 (tx_one _) ?c3 ?c4 ?c5 ?_)
      case c1 => exact tx_new wr _ _
      case c3 => unfold maxLen; omega
      case c4 => omega
      case c5 => simp; omega
      intro v' w4 hown' hgrow _
      rw [← texts_snoc] at hown'
      obtain ⟨U5, v5⟩ := HU0.out.marks (ms' := ms ++ [t]) (by simpa using hown') hgrow
      have mv0 : Mv B Lo wr (wr.alloc (.cells #[.string (str t)] 9)) := Mv.of ((Below.refl wr.heap.size wr).alloc (Nat.le_refl _) _) HU.out.le
      have HF := Lib.hid (HQ.out _ U5.at (mv0.trans v5))
      have r4 : Row w4 M 121 _ := HU0.out.row.grown hgrow (HU0.out.b.mkne HU0.out.hM')
      have y6 := r4.cell (i := 6) rfl
      have yf := r4.frozen 6
      obtain ⟨lo', lc', rfl⟩ := owns_slice hown'
      clear hgrow hown' U5 v5 mv0 r4 HQ HU HU0 HO
      go_wp2
      go_end0
      exact HF.out

theorem cellText_idle {data : Int} {u : TD} (h : u.isNum.isSome = true ∧ 0 ≤ numOf u ∧ numOf u < data) : cellText data u = [] := by
  obtain ⟨k, hk⟩ := Option.isSome_iff_exists.1 h.1
  have e : numOf u = k := by simp [numOf, hk]
  rw [e] at h
  simp [cellText, hk, h.2]

theorem cellText_else {data : Int} {u : TD} (h : ¬ (u.isNum.isSome = true ∧ 0 ≤ numOf u ∧ numOf u < data)) : cellText data u = 64 :: 32 :: showT u := by
  cases hk : u.isNum with
  | none => simp [cellText, hk]
  | some k =>
    have e : numOf u = k := by simp [numOf, hk]
    rw [e, hk] at h
    simp only [cellText, hk]
    rw [if_neg (fun q => h ⟨rfl, q⟩)]

set_option maxRecDepth 100000 in
set_option maxHeartbeats 2000000 in
theorem cMarkCell_cps {B Lo : Nat} {w : World} {M P cap n : Nat} {f : Nat → TD} {c : TD} {ms : List (List UInt8)} {big : Bool} {regs data : Int} (h : StAt B Lo w M P cap n f c ms big regs data) (u : TD) (pu : Value) (fu : u.fine) (su : u.size ≤ 1000000000) (hl : ms.length ≤ 1000) (Post : Ending → World → Prop)
    (hp : ∀ w', StAt B Lo w' M P cap n f c (laidMark ms (cellText data u)) big regs data → Mv B Lo w w' → Post (.returned (.tuple #[])) w') :
    Calls Tryz.prog 183 #[.pointer (some ⟨M, 0, none⟩), termV u pu] w Post := by
  have hle : B ≤ w.heap.size := let ⟨_, _, _, U⟩ := h; U.le
  have b0 : Below w.heap.size w (w.alloc (.cells #[.int .i64 (ckind u), .int .i64 (cval u), pu, .int .i64 u.size, .string (str (showT u))] 119)) := (Below.refl _ _).alloc (Nat.le_refl _) _
  have H0 := Lib.hid (h.next b0)
  have r0 : Row (w.alloc (.cells #[.int .i64 (ckind u), .int .i64 (cval u), pu, .int .i64 u.size, .string (str (showT u))] 119)) w.heap.size 119 (tcells u pu) := heap_alloc_new w _
  have q1 := cNum_any fu pu (w.alloc (.cells #[.int .i64 (ckind u), .int .i64 (cval u), pu, .int .i64 u.size, .string (str (showT u))] 119))
  have y1 := show_size fu (by omega)
  have HB := Lib.hid b0
  have HR := Lib.hid r0
  have HP := Lib.hid hp
  unfold termV at q1 ⊢
  clear h hp b0 r0
  go_enter Tryz.func183, Tryz.ntmps183
  go_wp2_with fail
  refine q1.mono ?_
  rintro e w1 ⟨rfl, b1⟩
  have h1 := HB.out.trans (b1.mono HB.out.size)
  have H1 := Lib.hid (H0.out.next b1)
  have r1 := HR.out.keep b1
  have d0 : w1.cell? ⟨M, 9, none⟩ = some (.int .i64 data) := let ⟨_, _, _, U⟩ := H1.out; U.row.cell (i := 9) rfl
  have HM : Hid (Mv B Lo w w1) := Mv.of h1 hle
  clear q1 H0 HB HR b1 h1
  by_cases hc : u.isNum.isSome = true ∧ 0 ≤ numOf u ∧ numOf u < data
  · have HF := Lib.hid (HP.out w1 (by rw [cellText_idle hc, laid_nil]; exact H1.out) HM.out)
    obtain ⟨c1, c2, c3⟩ := hc
    rw [c1]
    clear HP H1 HM
    go_wp2
    go_end0
    exact HF.out
  · have HQ := Lib.hid HP.out
    rw [cellText_else hc] at HQ
    have q2 := cText_any (ckind u) (cval u) u.size pu (str (showT u)) w1
    have hs : Hid (str (64 :: 32 :: showT u) = str [64, 32] ++ str (showT u)) := by show _ = _; rw [str_append]; rfl
    have z2 : (str [64, 32]).size = 2 := rfl
    have a0 := r1.cell (i := 0) rfl
    have a1 := r1.cell (i := 1) rfl
    have a2 := r1.cell (i := 2) rfl
    have a3 := r1.cell (i := 3) rfl
    have a4 := r1.cell (i := 4) rfl
    have h3 : u.isNum.isSome = false ∨ (u.isNum.isSome = true ∧ numOf u < 0) ∨ (u.isNum.isSome = true ∧ 0 ≤ numOf u ∧ data ≤ numOf u) := by
      cases hz : u.isNum.isSome with
      | false => exact .inl rfl
      | true =>
        rw [hz] at hc
        by_cases h0 : numOf u < 0
        · exact .inr (.inl ⟨rfl, h0⟩)
        · exact .inr (.inr ⟨rfl, by omega, by have : ¬ (0 ≤ numOf u ∧ numOf u < data) := fun q => hc ⟨rfl, q⟩; omega⟩)
    clear hc HP r1
    generalize numOf u = nu at *
    generalize u.isNum.isSome = zu at *
    rcases h3 with rfl | ⟨rfl, hn⟩ | ⟨rfl, hn, hd⟩
    all_goals
      go_wp2_with fail
      refine q2.mono ?_
      rintro e w2 ⟨rfl, b2⟩
      have H2 := Lib.hid (H1.out.next b2)
      have HM2 : Hid (Mv B Lo w w2) := HM.out.trans (Mv.of b2 (Nat.le_trans hle HM.out.size))
      have q3 := fun P' => cMark_cps H2.out (64 :: 32 :: showT u) (by simp) hl P'
      rw [hs.out] at q3
      clear q2 H1 HM b2 a0 a1 a2 a3 a4 d0
      go_wp2_with fail
      refine q3 _ ?_
      intro w3 h3 m3
      have HF := Lib.hid (HQ.out w3 h3 (HM2.out.trans m3))
      clear q3 HQ HM2 H2 h3 m3
      go_wp2
      go_end0
      exact HF.out

end Go.Proofs.YtblhmeidbjigaaaGreatDoor

/- The code's state: isBig, load. -/
set_option linter.unusedSimpArgs false
set_option linter.unusedVariables false
namespace Go.Proofs.YtblhmeidbjigaaaGreatDoor
open Go.RowKit

set_option maxRecDepth 100000 in
set_option maxHeartbeats 1000000 in
theorem cIsBig_any (t : TD) (ps : Value) (w : World) :
    Calls Tryz.prog 185 #[termV t ps] w fun e w' => e = .returned (.bool (decide (4095 < (t.size : Int)))) ∧ Below w.heap.size w w' := by
  have b0 : Below w.heap.size w (w.alloc (.cells #[.int .i64 (ckind t), .int .i64 (cval t), ps, .int .i64 (t).size, .string (str (showT t))] 119)) := (Below.refl _ _).alloc (Nat.le_refl _) _
  have q := cSize_any (ckind t) (cval t) t.size ps (str (showT t)) (w.alloc (.cells #[.int .i64 (ckind t), .int .i64 (cval t), ps, .int .i64 (t).size, .string (str (showT t))] 119))
  have HB := Lib.hid b0
  unfold termV
  generalize (t.size : Int) = z at *
  clear b0
  go_enter Tryz.func185, Tryz.ntmps185
  go_wp2_with fail
  refine q.mono ?_
  rintro e w1 ⟨rfl, b1⟩
  have HB1 := Lib.hid (HB.out.trans (b1.mono HB.out.size))
  clear q HB b1
  by_cases hz : 4095 < z
  · have hd := Lib.hid (show decide (4095 < z) = true by simp [hz])
    go_wp2
    go_ret
    exact ⟨by rw [hd.out]; rfl, HB1.out⟩
  · have hd := Lib.hid (show decide (4095 < z) = false by simp [hz])
    go_wp2
    go_ret
    exact ⟨by rw [hd.out]; rfl, HB1.out⟩

theorem StU.plc {B Lo : Nat} {w : World} {M P cap n : Nat} {f : Nat → TD} {ps : Nat → Value} {c : TD} {pc : Value} {ms : List (List UInt8)} {mv : Value} {big : Bool} {regs data : Int} (h : StU B Lo w M P cap n f ps c pc ms mv big regs data)
    {i : Nat} (hi : i < n) {u : TD} (hu : f i = u) {p : Value} (hp : ps i = p) : ∀ j v, (tcells u p)[j]? = some v → w.cell? ⟨P, i * 5 + j, none⟩ = some v := fun j v hj => h.b.pl.cell hi (by rw [hu, hp]; exact hj)

set_option maxRecDepth 100000 in
set_option maxHeartbeats 4000000 in
theorem cLoad_cps {B Lo : Nat} {w : World} {M P cap n : Nat} {f : Nat → TD} {c : TD} {ms : List (List UInt8)} {regs data : Int} (h : StAt B Lo w M P cap n f c ms false regs data) (k oc : Int) (a b : Nat) (ha : a < n) (hb : b < n) (hn : n ≤ 1000) (fu : (f b).fine) (su : (f b).size ≤ 10000000) (fc : c.fine) (sc : c.size ≤ 10000000) (hl : ms.length ≤ 1000) (Post : Ending → World → Prop)
    (hp : ∀ w', StAt B Lo w' M P cap n (upT f a (readT c (f b))) c (laidMark ms (cellText data (f b))) (decide (4095 < ((readT c (f b)).size : Int))) regs data → Mv B Lo w w' → Post (.returned (.tuple #[])) w') :
    Calls Tryz.prog 165 #[.pointer (some ⟨M, 0, none⟩), .agg #[.int .i64 k, .int .i64 a, .int .i64 b, .int .i64 oc]] w Post := by
  obtain ⟨ps, pc, mv, U⟩ := h
  obtain ⟨uo, un, uc, hpu⟩ := (U.b.parts b hb).slice
  have pu := U.b.parts b hb
  rw [hpu] at pu
  have hle := U.le
  have hlo : Lo ≤ w.heap.size := U.b.pc.lo
  have b0 : Below w.heap.size w (w.alloc (.cells #[.int .i64 k, .int .i64 a, .int .i64 b, .int .i64 oc] 77)) := (Below.refl _ _).alloc (Nat.le_refl _) _
  have o0 : Row (w.alloc (.cells #[.int .i64 k, .int .i64 a, .int .i64 b, .int .i64 oc] 77)) w.heap.size 77 [.int .i64 k, .int .i64 a, .int .i64 b, .int .i64 oc] := heap_alloc_new w _
  have U0 := U.next b0
  obtain ⟨W, hW⟩ : ∃ W, W = w.alloc (.cells #[.int .i64 k, .int .i64 a, .int .i64 b, .int .i64 oc] 77) := ⟨_, rfl⟩
  rw [← hW] at b0 o0 U0
  obtain ⟨u, hu⟩ : ∃ u, f b = u := ⟨_, rfl⟩
  have plW := U0.plc hb hu hpu
  rw [hu] at fu su hp pu
  have hzW : w.heap.size < W.heap.size := by rw [hW]; simp
  have m0 : ∀ V, Below W.heap.size W V → V.cell? ⟨M, 0, none⟩ = some (.slice (some ⟨P, 0, none⟩) n cap) := fun V hv => cell_keep hv (U0.row.cell (i := 0) rfl)
  have x0 : ∀ V, Below W.heap.size W V → V.cell? ⟨w.heap.size, 2, none⟩ = some (.int .i64 b) := fun V hv => cell_keep hv (o0.cell (i := 2) rfl)
  have p0 : ∀ V, Below W.heap.size W V → V.cell? ⟨P, b * 5, none⟩ = some (.int .i64 (ckind u)) := fun V hv => cell_keep hv (plW 0 _ rfl)
  have p1 : ∀ V, Below W.heap.size W V → V.cell? ⟨P, b * 5 + 1, none⟩ = some (.int .i64 (cval u)) := fun V hv => cell_keep hv (plW 1 _ rfl)
  have p2 : ∀ V, Below W.heap.size W V → V.cell? ⟨P, b * 5 + 2, none⟩ = some (.slice uo un uc) := fun V hv => cell_keep hv (plW 2 _ rfl)
  have p3 : ∀ V, Below W.heap.size W V → V.cell? ⟨P, b * 5 + 3, none⟩ = some (.int .i64 (u).size) := fun V hv => cell_keep hv (plW 3 _ rfl)
  have p4 : ∀ V, Below W.heap.size W V → V.cell? ⟨P, b * 5 + 4, none⟩ = some (.string (str (showT u))) := fun V hv => cell_keep hv (plW 4 _ rfl)
  have hbi : (0 : Int) ≤ (b : Int) := by omega
  have hbj : (b : Int) < (n : Int) := by omega
  have hai : (0 : Int) ≤ (a : Int) := by omega
  have haj : (a : Int) < (n : Int) := by omega
  have k0 : Below W.heap.size W W.drew := (Below.refl _ _).drew
  have k1 : Below W.heap.size W (W.drew.alloc (.cells #[.int .i64 0, .int .i64 0, .slice none 0 0, .int .i64 0, .string ⟨#[]⟩] 119)) := k0.alloc (Nat.le_refl _) _
  have k2 : Below W.heap.size W (W.drew.alloc (.cells #[.int .i64 (ckind u), .int .i64 (cval u), (.slice uo un uc), .int .i64 (u).size, .string (str (showT u))] 119)) := k0.alloc (Nat.le_refl _) _
  have u1 : Row (W.drew.alloc (.cells #[.int .i64 (ckind u), .int .i64 (cval u), (.slice uo un uc), .int .i64 (u).size, .string (str (showT u))] 119)) W.heap.size 119 (tcells u (.slice uo un uc)) := heap_alloc_new W.drew _
  have U1 := U0.next k2
  have o1 := o0.keep k2
  have HM1 : Hid (Mv B Lo w (W.drew.alloc (.cells #[.int .i64 (ckind u), .int .i64 (cval u), (.slice uo un uc), .int .i64 (u).size, .string (str (showT u))] 119))) := Mv.of (b0.trans (k2.mono b0.size)) hle
  have HPU := Lib.hid (pu.keep (b0.trans (k2.mono b0.size)))
  have HU1 := Lib.hid U1
  have HO1 := Lib.hid o1
  have HR1 := Lib.hid u1
  have HP := Lib.hid hp
  have HH := Lib.hid hu
  have q1 := fun P' => cMarkCell_cps U1.at u (.slice uo un uc) fu (by omega) hl P'
  unfold termV at q1
  clear hp hu plW U U0 U1 o0 o1 pu hpu b0
  go_enter Tryz.func165, Tryz.ntmps165
  go_wp2
  rw [← hW]
  clear hW
  go_region_held3 (fun w' => Below W.heap.size W w') (first | with_reducible exact k0 | with_reducible exact k1 | with_reducible exact k2 | exact k1 | exact k2) (fail)
  clear m0 x0 p0 p1 p2 p3 p4 k0 k1 k2
  have a0 := (u1).cell (i := 0) rfl
  have a1 := (u1).cell (i := 1) rfl
  have a2 := (u1).cell (i := 2) rfl
  have a3 := (u1).cell (i := 3) rfl
  have a4 := (u1).cell (i := 4) rfl
  clear u1
  go_wp2_with fail
  refine q1 _ ?_
  intro w2 h2 m2
  obtain ⟨ps2, pc2, mv2, U2⟩ := h2
  obtain ⟨co, cn, cc, rfl⟩ := U2.b.pc.slice
  have hl2 : Lo ≤ W.heap.size := by omega
  have u2 := m2.row _ _ _ hl2 (by decide) HR1.out
  have o2 := m2.row _ _ _ hlo (by decide) HO1.out
  have HM2 : Hid (Mv B Lo w w2) := HM1.out.trans m2
  have pu2 := HPU.out.mv m2
  clear q1 HR1 HO1 HM1 HPU HU1 m2 a0 a1 a2 a3 a4
  have pc2 := U2.b.pc
  have c0 : ∀ V, Below w2.heap.size w2 V → V.cell? ⟨M, 1, none⟩ = some _ := fun V hv => cell_keep hv (U2.row.cell (i := 1) rfl)
  have c1 : ∀ V, Below w2.heap.size w2 V → V.cell? ⟨M, 2, none⟩ = some _ := fun V hv => cell_keep hv (U2.row.cell (i := 2) rfl)
  have c2 : ∀ V, Below w2.heap.size w2 V → V.cell? ⟨M, 3, none⟩ = some _ := fun V hv => cell_keep hv (U2.row.cell (i := 3) rfl)
  have c3 : ∀ V, Below w2.heap.size w2 V → V.cell? ⟨M, 4, none⟩ = some _ := fun V hv => cell_keep hv (U2.row.cell (i := 4) rfl)
  have c4 : ∀ V, Below w2.heap.size w2 V → V.cell? ⟨M, 5, none⟩ = some _ := fun V hv => cell_keep hv (U2.row.cell (i := 5) rfl)
  have a0 : ∀ V, Below w2.heap.size w2 V → V.cell? ⟨W.heap.size, 0, none⟩ = some _ := fun V hv => cell_keep hv (u2.cell (i := 0) rfl)
  have a1 : ∀ V, Below w2.heap.size w2 V → V.cell? ⟨W.heap.size, 1, none⟩ = some _ := fun V hv => cell_keep hv (u2.cell (i := 1) rfl)
  have a2 : ∀ V, Below w2.heap.size w2 V → V.cell? ⟨W.heap.size, 2, none⟩ = some _ := fun V hv => cell_keep hv (u2.cell (i := 2) rfl)
  have a3 : ∀ V, Below w2.heap.size w2 V → V.cell? ⟨W.heap.size, 3, none⟩ = some _ := fun V hv => cell_keep hv (u2.cell (i := 3) rfl)
  have a4 : ∀ V, Below w2.heap.size w2 V → V.cell? ⟨W.heap.size, 4, none⟩ = some _ := fun V hv => cell_keep hv (u2.cell (i := 4) rfl)
  have qr : ∀ V P', Below w2.heap.size w2 V → (∀ pt w', PartsAt Lo w' (readT c u) pt → Below V.heap.size V w' → P' (.returned (termV (readT c u) pt)) w') → Calls Tryz.prog 184 #[termV c (.slice co cn cc), termV u (.slice uo un uc)] V P' := fun V P' hv hP =>
    cRead_cps c u (.slice co cn cc) (.slice uo un uc) V P' (pc2.keep hv) (pu2.keep hv) fc fu (by omega) (by omega) hP
  unfold termV at qr
  have k0 : Below w2.heap.size w2 w2.drew := (Below.refl _ _).drew
  have kB : Below w2.heap.size w2 (w2.alloc (.cells #[.int .i64 0, .int .i64 0, .slice none 0 0, .int .i64 0, .string ⟨#[]⟩] 119)).drew := ((Below.refl _ _).alloc (Nat.le_refl _) _).drew
  have kC : Below w2.heap.size w2 (w2.alloc (.cells #[.int .i64 0, .int .i64 0, .slice none 0 0, .int .i64 0, .string ⟨#[]⟩] 119)) := (Below.refl _ _).alloc (Nat.le_refl _) _
  have rB : Row (w2.alloc (.cells #[.int .i64 0, .int .i64 0, .slice none 0 0, .int .i64 0, .string ⟨#[]⟩] 119)).drew w2.heap.size 119 zT := heap_alloc_new w2 _
  have HU2 := Lib.hid U2
  have HO2 := Lib.hid o2
  have HRB := Lib.hid rB
  clear U2 pc2 pu2 o2 u2 rB
  go_wp2
  go_region_held3 (fun w' => Below w2.heap.size w2 w') (first | with_reducible exact k0 | with_reducible exact kB | with_reducible exact kC | with_reducible exact b3 | with_reducible exact k1 | with_reducible exact k2) (first | (go_at_call 184; with_reducible refine qr _ _ ?_ ?_; with_reducible exact k0; intro pt w3 p3 b3'; obtain ⟨ro, rn, rc, rfl⟩ := p3.slice; have b3 : Below w2.heap.size w2 w3 := k0.trans (b3'.mono k0.size); have k1 : Below w2.heap.size w2 (w3.alloc (.cells #[.int .i64 0, .int .i64 0, .slice none 0 0, .int .i64 0, .string ⟨#[]⟩] 119)) := b3.alloc b3.size _; have k2 : Below w2.heap.size w2 (w3.alloc (.cells #[.int .i64 (ckind (readT c u)), .int .i64 (cval (readT c u)), (.slice ro rn rc), .int .i64 ((readT c u)).size, .string (str (showT (readT c u)))] 119)) := b3.alloc b3.size _) | (go_at_call 184; with_reducible refine qr _ _ ?_ ?_; with_reducible exact kB; intro pt w3 p3 b3'; obtain ⟨ro, rn, rc, rfl⟩ := p3.slice; have b3 : Below w2.heap.size w2 w3 := kB.trans (b3'.mono kB.size); have rz := HRB.out.keep b3'; have z0 := rz.cell (i := 0) rfl; have z1 := rz.cell (i := 1) rfl; have z2 := rz.cell (i := 2) rfl; have z3 := rz.cell (i := 3) rfl; have z4 := rz.cell (i := 4) rfl; have f0 := rz.frozen 0; have f1 := rz.frozen 1; have f2 := rz.frozen 2; have f3 := rz.frozen 3; have f4 := rz.frozen 4; have k1 : Below w2.heap.size w2 (set5 w3 w2.heap.size (.int .i64 (ckind (readT c u))) (.int .i64 (cval (readT c u))) (.slice ro rn rc) (.int .i64 ((readT c u)).size) (.string (str (showT (readT c u))))) := set5_below b3 (Nat.le_refl _) _ _ _ _ _; have k2 := k1; unfold set5 at k1))
  all_goals
    first
    | (obtain ⟨X, hX⟩ : ∃ X, X = w3.alloc (.cells #[.int .i64 (ckind (readT c u)), .int .i64 (cval (readT c u)), (.slice ro rn rc), .int .i64 ((readT c u)).size, .string (str (showT (readT c u)))] 119) := ⟨_, rfl⟩
       rw [← hX]
       have U3 := HU2.out.next k2
       have o3 := HO2.out.keep k2
       have r3 : Row (w3.alloc (.cells #[.int .i64 (ckind (readT c u)), .int .i64 (cval (readT c u)), (.slice ro rn rc), .int .i64 ((readT c u)).size, .string (str (showT (readT c u)))] 119)) w3.heap.size 119 (tcells (readT c u) (.slice ro rn rc)) := heap_alloc_new w3 _
       have p3' := p3.keep ((Below.refl w3.heap.size w3).alloc (Nat.le_refl _) (.cells #[.int .i64 (ckind (readT c u)), .int .i64 (cval (readT c u)), (.slice ro rn rc), .int .i64 ((readT c u)).size, .string (str (showT (readT c u)))] 119))
       have HM3 : Hid (Mv B Lo w (w3.alloc (.cells #[.int .i64 (ckind (readT c u)), .int .i64 (cval (readT c u)), (.slice ro rn rc), .int .i64 ((readT c u)).size, .string (str (showT (readT c u)))] 119))) := HM2.out.trans (Mv.of k2 HU2.out.le)
       have hl3 : Lo ≤ w3.heap.size := Nat.le_trans (by have := HM2.out.size; omega) b3.size
       rw [← hX] at U3 o3 r3 p3' HM3
       clear hX
       generalize w3.heap.size = r at *)
    | (obtain ⟨X, hX⟩ : ∃ X, X = set5 w3 w2.heap.size (.int .i64 (ckind (readT c u))) (.int .i64 (cval (readT c u))) (.slice ro rn rc) (.int .i64 ((readT c u)).size) (.string (str (showT (readT c u)))) := ⟨_, rfl⟩
       unfold set5 at hX
       rw [← hX]
       have U3 := HU2.out.next k2
       have o3 := HO2.out.keep k2
       have r3 : Row (set5 w3 w2.heap.size (.int .i64 (ckind (readT c u))) (.int .i64 (cval (readT c u))) (.slice ro rn rc) (.int .i64 ((readT c u)).size) (.string (str (showT (readT c u))))) w2.heap.size 119 (tcells (readT c u) (.slice ro rn rc)) := rz.on5 _ _ _ _ _
       have p3' := p3.on5 rz rfl (.int .i64 (ckind (readT c u))) (.int .i64 (cval (readT c u))) (.slice ro rn rc) (.int .i64 ((readT c u)).size) (.string (str (showT (readT c u))))
       have HM3 : Hid (Mv B Lo w (set5 w3 w2.heap.size (.int .i64 (ckind (readT c u))) (.int .i64 (cval (readT c u))) (.slice ro rn rc) (.int .i64 ((readT c u)).size) (.string (str (showT (readT c u)))))) := HM2.out.trans (Mv.of k2 HU2.out.le)
       have hl3 : Lo ≤ w2.heap.size := by have := HM2.out.size; omega
       unfold set5 at U3 o3 r3 p3' HM3
       rw [← hX] at U3 o3 r3 p3' HM3
       clear hX
       generalize w2.heap.size = r at *)
    clear qr c0 c1 c2 c3 c4 a0 a1 a2 a3 a4 HU2 HO2 HM2 HRB p3 k0 k1 k2 kB kC b3 b3'
    have d0 : Below X.heap.size X X.drew := (Below.refl _ _).drew
    have U4 := U3.next d0
    have o4 := o3.keep d0
    have r4 := r3.keep d0
    have p4 := p3'.keep d0
    have m0 := U4.row.cell (i := 0) rfl
    have x1 := o4.cell (i := 1) rfl
    have e0 := (r4).cell (i := 0) rfl
    have e1 := (r4).cell (i := 1) rfl
    have e2 := (r4).cell (i := 2) rfl
    have e3 := (r4).cell (i := 3) rfl
    have e4 := (r4).cell (i := 4) rfl
    have g0 := U4.b.pl.frozen (a * 5)
    have g1 := U4.b.pl.frozen (a * 5 + 1)
    have g2 := U4.b.pl.frozen (a * 5 + 2)
    have g3 := U4.b.pl.frozen (a * 5 + 3)
    have g4 := U4.b.pl.frozen (a * 5 + 4)
    have t0 := U4.b.pl.cell (j := 0) ha rfl
    have t1 := U4.b.pl.cell (j := 1) ha rfl
    have t2 := U4.b.pl.cell (j := 2) ha rfl
    have t3 := U4.b.pl.cell (j := 3) ha rfl
    have t4 := U4.b.pl.cell (j := 4) ha rfl
    have h0 := U3.b.pl.frozen (a * 5)
    have h1 := U3.b.pl.frozen (a * 5 + 1)
    have h2 := U3.b.pl.frozen (a * 5 + 2)
    have h3 := U3.b.pl.frozen (a * 5 + 3)
    have h4 := U3.b.pl.frozen (a * 5 + 4)
    have s0 := U3.b.pl.cell (j := 0) ha rfl
    have s1 := U3.b.pl.cell (j := 1) ha rfl
    have s2 := U3.b.pl.cell (j := 2) ha rfl
    have s3 := U3.b.pl.cell (j := 3) ha rfl
    have s4 := U3.b.pl.cell (j := 4) ha rfl
    rw [Nat.add_zero] at t0 s0
    obtain ⟨po, pn, pq, hpa⟩ := (U4.b.parts a ha).slice
    rw [hpa] at t2 s2
    clear hpa
    have hnp : r ≠ P := by have := U3.b.hP'; omega
    have hnp' : P ≠ r := Ne.symm hnp
    have U5 := (U3.place ha p3').next ((Below.refl _ _).drew)
    have HM5 : Hid (Mv B Lo w (putT X P (a * 5) (readT c u) (.slice ro rn rc)).drew) := (HM3.out.putT U3.b.hP U3.b.hP' (a * 5) (readT c u) (.slice ro rn rc)).trans (Mv.of ((Below.refl _ _).drew) (U3.place ha p3').le)
    have r5 : Row (putT X P (a * 5) (readT c u) (.slice ro rn rc)) r 119 (tcells (readT c u) (.slice ro rn rc)) := by
      exact ((((r3.unset (a := ⟨P, _, none⟩) hnp _).unset (a := ⟨P, _, none⟩) hnp _).unset (a := ⟨P, _, none⟩) hnp _).unset (a := ⟨P, _, none⟩) hnp _).unset (a := ⟨P, _, none⟩) hnp _
    have HU5 := Lib.hid U5
    clear U4 o4 r4 p4 U3 o3 r3 p3' HM3 d0 U5
    go_wp2
    refine wp_tail 8 (by kernel_rfl) (by kernel_rfl) ?_
    simp only [List.take_succ_cons, List.take_zero, List.drop_succ_cons, List.drop_zero]
    repeat still_step
    refine wpStill_nil ?_
    have q5 := cIsBig_any (readT c u) (.slice ro rn rc) (putT X P (a * 5) (readT c u) (.slice ro rn rc)).drew
    have y0 := (r5).cell (i := 0) rfl
    have y1 := (r5).cell (i := 1) rfl
    have y2 := (r5).cell (i := 2) rfl
    have y3 := (r5).cell (i := 3) rfl
    have y4 := (r5).cell (i := 4) rfl
    unfold termV putT put5 at q5
    unfold putT put5 at y0 y1 y2 y3 y4
    clear r5
    go_wp2_with fail
    refine q5.mono ?_
    rintro e w6 ⟨rfl, b6⟩
    have U6 := HU5.out.next b6
    have HM6 : Hid (Mv B Lo w w6) := HM5.out.trans (Mv.of b6 HU5.out.le)
    have z7 := U6.row.cell (i := 7) rfl
    have f7 := U6.row.frozen 7
    have U7 := U6.flag (decide (4095 < (((readT c u)).size : Int)))
    have HF := Lib.hid (HP.out _ U7.at (HM6.out.set U6.hM U6.hM' 7 _))
    clear q5 b6 HU5 HM5 U6 U7 HM6 HP y0 y1 y2 y3 y4
    generalize decide (4095 < (((readT c u)).size : Int)) = zb at *
    go_wp2
    go_end0
    exact HF.out

end Go.Proofs.YtblhmeidbjigaaaGreatDoor
