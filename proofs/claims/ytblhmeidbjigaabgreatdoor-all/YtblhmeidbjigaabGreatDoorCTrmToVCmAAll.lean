/- Term in package compute, and in package twin. -/
import Derived.Test.YtblhmeidbjigaabGreatDoorRows
import Derived.WalkKit
import Derived.WalkSpells
import Derived.WalkLawsBesides
import Derived.Laws.BytesArg
import Derived.Deep.QuietTactic
import Derived.BigQuiet
import Derived.Deep.RegionHeld3
import Derived.Lib.ItoaNum
import Derived.Lib.ItoaLen
import Derived.OpenShut
import Derived.Maps.AppendAt
import Derived.Shelf.Strconv.Itoa3
import Derived.Shelf.Lay
import Derived.Ground.NamesProg
import Derived.Lib.SmallJoins
import Derived.Lib.Hide
import Derived.StillTailTactics
import Derived.Test.YtblhmeidbjigaabGreatDoorCCpJToCCpKAll

set_option linter.unusedSimpArgs false
set_option linter.unusedVariables false
namespace Go.Proofs.YtblhmeidbjigaabGreatDoor
open Go.RowKit

set_option maxRecDepth 100000 in
set_option maxHeartbeats 1000000 in
theorem cHas_any (a r d s : Int) (bo : Option Addr) (bn bc : Nat) (block : Int) (w : World) :
    Calls Tryz.prog 147 #[.agg #[.int .i64 a, .int .i64 r, .int .i64 d, .int .i64 s, .slice bo bn bc], .int .i64 block] w fun e w' => e = .returned (.bool (decide (0 ≤ block) && decide (block < bn))) ∧ Below w.heap.size w w' := by
  have b0 : Below w.heap.size w (w.alloc (.cells #[.int .i64 a, .int .i64 r, .int .i64 d, .int .i64 s, .slice bo bn bc] 25)) := (Below.refl _ _).alloc (Nat.le_refl _) _
  have HB := Lib.hid b0
  clear b0
  by_cases h1 : 0 ≤ block
  · by_cases h2 : block < bn
    · have hd := Lib.hid (show (decide (0 ≤ block) && decide (block < bn)) = true by simp [h1, h2])
      go_enter Tryz.func147, Tryz.ntmps147
      go_wp2
      go_ret
      exact ⟨by first | (rw [hd.out]; rfl) | rfl | (simp [h1]; done) | (simp [h1]; omega) | (simp; omega), HB.out⟩
    · have hd := Lib.hid (show (decide (0 ≤ block) && decide (block < bn)) = false by simp [h2])
      go_enter Tryz.func147, Tryz.ntmps147
      go_wp2
      go_ret
      exact ⟨by first | (rw [hd.out]; rfl) | rfl | (simp [h1]; done) | (simp [h1]; omega) | (simp; omega), HB.out⟩
  · have hd := Lib.hid (show (decide (0 ≤ block) && decide (block < bn)) = false by simp [h1])
    go_enter Tryz.func147, Tryz.ntmps147
    go_wp2
    go_ret
    exact ⟨by first | (rw [hd.out]; rfl) | rfl | (simp [h1]; done) | (simp [h1]; omega) | (simp; omega), HB.out⟩

set_option maxRecDepth 100000 in
set_option maxHeartbeats 4000000 in
theorem cTermOf_any (s : ByteArray) (block place : Int) (w : World) (hs : s.size ≤ maxLen) (htab : TabW w) :
    Calls Tryz.prog 114 #[.string s, .int .i64 block, .int .i64 place] w fun e w' => ∃ t er, e = .returned (.tuple #[.string (str t), .int .i64 er]) ∧ TermAns s block place t er ∧ Below w.heap.size w w' := by
  have hc := cDecode_any s w hs
  go_enter Tryz.func114, Tryz.ntmps114
  go_wp2_with fail
  refine hc.mono ?_
  clear hc
  rintro e w1 ⟨hor, hb1⟩
  rcases hor with ⟨p, v, bv, rfl, ho, hd, hg, ht⟩ | ⟨hn, rfl⟩
  · obtain ⟨bo, bc, rfl⟩ := owns_slice ho.row
    have hlen : bv.length = p.blocks.length := by rw [← hd, bdat_length]
    have hrd0 := ho.rd
    rw [hd] at hrd0
    rw [hlen] at hrd0 ⊢
    obtain ⟨hr, hargs, hdata, hsl⟩ := good_shape hg
    have hb2 : Below w.heap.size w (w1.alloc (.cells #[.int .i64 p.args, .int .i64 p.regs, .int .i64 p.data, .int .i64 p.slots, .slice bo p.blocks.length bc] 25)) := hb1.alloc hb1.size _
    have hb12 : Below w1.heap.size w1 (w1.alloc (.cells #[.int .i64 p.args, .int .i64 p.regs, .int .i64 p.data, .int .i64 p.slots, .slice bo p.blocks.length bc] 25)) := (Below.refl _ _).alloc (Nat.le_refl _) _
    have hrd2 := hrd0.keep hb12
    have r : Row (w1.alloc (.cells #[.int .i64 p.args, .int .i64 p.regs, .int .i64 p.data, .int .i64 p.slots, .slice bo p.blocks.length bc] 25)) w1.heap.size 25 [.int .i64 p.args, .int .i64 p.regs, .int .i64 p.data, .int .i64 p.slots, .slice bo p.blocks.length bc] := heap_alloc_new w1 _
    have q1 := cHas_any p.args p.regs p.data p.slots bo p.blocks.length bc block (w1.alloc (.cells #[.int .i64 p.args, .int .i64 p.regs, .int .i64 p.data, .int .i64 p.slots, .slice bo p.blocks.length bc] 25))
    have hll := progGood_len hg
    have hadd : IntKind.i64.wrap (p.regs + p.slots) = p.regs + p.slots := by rw [IntKind.wrap_i64]; omega
    unfold progV
    clear ho hd hrd0 hb1 hb12 hlen
    go_wp2_with fail
    refine q1.mono ?_
    rintro e w2 ⟨rfl, b2⟩
    have r2 := r.keep b2
    have hrd3 := hrd2.keep b2
    have hb3 : Below w.heap.size w w2 := hb2.trans (b2.mono hb2.size)
    have p0 := r2.cell (i := 0) rfl
    have p1 := r2.cell (i := 1) rfl
    have p2 := r2.cell (i := 2) rfl
    have p3 := r2.cell (i := 3) rfl
    have p4 := r2.cell (i := 4) rfl
    clear q1 b2 r hrd2 hb2
    by_cases hall : 0 ≤ block ∧ block < p.blocks.length ∧ 0 ≤ place ∧ place ≤ p.regs + p.slots
    · obtain ⟨ha1, ha2, ha3, ha4⟩ := id hall
      obtain ⟨b, rfl⟩ := Int.eq_ofNat_of_zero_le ha1
      obtain ⟨pl, rfl⟩ := Int.eq_ofNat_of_zero_le ha3
      obtain ⟨n, hn⟩ := Int.eq_ofNat_of_zero_le (show 0 ≤ p.regs + p.slots by omega)
      have hbn : b < p.blocks.length := by omega
      have hdec : (decide ((0 : Int) ≤ (b : Int)) && decide ((b : Int) < (p.blocks.length : Int))) = true := by simp; omega
      rw [hdec]
      have hq3 : ¬ ((pl : Int) < 0) := by omega
      have hq4 : ¬ (p.regs + p.slots < (pl : Int)) := by omega
      have HALL := Lib.hid hall
      have HN := Lib.hid hn
      have qb := fun P' => cBlock_cps p (.slice bo p.blocks.length bc) b n hn.symm hg hbn w2 hrd3 (htab.keep hb3) P'
      unfold progV at qb
      clear hall hdec hn
      go_wp2_with fail
      refine qb _ ?_ ?_
      · intro hbig v w3 f c ms hv b3
        obtain ⟨B, Lo, P, cap, ps, pc, mv, hB, rfl, hS⟩ := hv
        have HX : Hid (TermAns s b pl [] 5) := .inr ⟨p, hg, ht, .inr ⟨HALL.out, .inl ⟨rfl, rfl, by simpa using hbig⟩⟩⟩
        have HB : Hid (Below w.heap.size w (w3.alloc (.cells #[.slice (some ⟨P, 0, none⟩) n cap, .int .i64 (ckind c), .int .i64 (cval c), pc, .int .i64 c.size, .string (str (showT c)), mv, .bool true, .int .i64 p.regs, .int .i64 p.data] 181))) := (hb3.trans (b3.mono hb3.size)).alloc (Nat.le_trans hb3.size b3.size) _
        obtain ⟨co, cn, cc, rfl⟩ := hS.pc.slice
        obtain ⟨mo, mc, rfl⟩ := owns_slice hS.mrk
        unfold stV
        clear hbig hS hb3 b3 qb r2 hrd3
        go_wp2
        go_ret2
        exact ⟨[], 5, rfl, HX.out, HB.out⟩
      · intro hbig v w3 hv b3
        obtain ⟨B, Lo, P, cap, ps, pc, mv, hB, rfl, hS⟩ := hv
        obtain ⟨co, cn, cc, rfl⟩ := hS.pc.slice
        obtain ⟨mo, mc, hmv⟩ := owns_slice hS.mrk
        subst hmv
        have HX : Hid (∀ t, behindT p.regs p.slots (plainNames p.regs p.slots) (bops p.blocks b) (bops p.blocks b).length (pl : Int) = t → TermAns s b pl (showT t) 0) := fun t e => by
          subst e
          exact .inr ⟨p, hg, ht, .inr ⟨HALL.out, .inr ⟨rfl, by simpa using hbig, by simp⟩⟩⟩
        obtain ⟨c, hc⟩ : ∃ c, behindT p.regs p.slots (plainNames p.regs p.slots) (bops p.blocks b) (bops p.blocks b).length (n : Int) = c := ⟨_, rfl⟩
        have HC := Lib.hid hc
        obtain ⟨mn, hmn⟩ : ∃ mn, mn = (marksT p.regs p.slots p.data (plainNames p.regs p.slots) (bops p.blocks b) (bops p.blocks b).length).length := ⟨_, rfl⟩
        rw [← hmn]
        unfold stV
        rw [hc]
        have b4 : Below w3.heap.size w3 (w3.alloc (.cells #[.slice (some ⟨P, 0, none⟩) n cap, .int .i64 (ckind c), .int .i64 (cval c), .slice co cn cc, .int .i64 c.size, .string (str (showT c)), .slice mo mn mc, .bool false, .int .i64 p.regs, .int .i64 p.data] 181)) := (Below.refl _ _).alloc (Nat.le_refl _) _
        have r4 : Row (w3.alloc (.cells #[.slice (some ⟨P, 0, none⟩) n cap, .int .i64 (ckind c), .int .i64 (cval c), .slice co cn cc, .int .i64 c.size, .string (str (showT c)), .slice mo mn mc, .bool false, .int .i64 p.regs, .int .i64 p.data] 181)) w3.heap.size 181 [.slice (some ⟨P, 0, none⟩) n cap, .int .i64 (ckind c), .int .i64 (cval c), .slice co cn cc, .int .i64 c.size, .string (str (showT c)), .slice mo mn mc, .bool false, .int .i64 p.regs, .int .i64 p.data] := heap_alloc_new w3 _
        have hb4 : Below w.heap.size w (w3.alloc (.cells #[.slice (some ⟨P, 0, none⟩) n cap, .int .i64 (ckind c), .int .i64 (cval c), .slice co cn cc, .int .i64 c.size, .string (str (showT c)), .slice mo mn mc, .bool false, .int .i64 p.regs, .int .i64 p.data] 181)) := (hb3.trans (b3.mono hb3.size)).alloc (Nat.le_trans hb3.size b3.size) _
        have ro4 := (r2.keep b3).keep b4
        have hS4 := hS.next b4
        obtain ⟨W, hW⟩ : ∃ W, W = w3.alloc (.cells #[.slice (some ⟨P, 0, none⟩) n cap, .int .i64 (ckind c), .int .i64 (cval c), .slice co cn cc, .int .i64 c.size, .string (str (showT c)), .slice mo mn mc, .bool false, .int .i64 p.regs, .int .i64 p.data] 181) := ⟨_, rfl⟩
        obtain ⟨D, hD⟩ : ∃ D, D = w3.heap.size := ⟨_, rfl⟩
        have r4' := r4
        rw [← hW, ← hD] at r4'
        rw [← hW] at ro4 hb4 hS4
        have HWE := Lib.hid hW
        have HDE := Lib.hid hD
        have e0 := r4.cell (i := 7) rfl
        have pp1 := ro4.cell (i := 1) rfl
        have pp3 := ro4.cell (i := 3) rfl
        rw [hW] at pp1 pp3
        by_cases hpe : pl = n
        · have hpe' : (pl : Int) = p.regs + p.slots := by rw [HN.out, hpe]
          have qt := cText_any (ckind c) (cval c) c.size (.slice co cn cc) (str (showT c)) W
          have s0 := r4'.cell (i := 1) rfl
          have s1 := r4'.cell (i := 2) rfl
          have s2 := r4'.cell (i := 3) rfl
          have s3 := r4'.cell (i := 4) rfl
          have s4 := r4'.cell (i := 5) rfl
          rw [hW] at qt
          rw [hW, hD] at s0 s1 s2 s3 s4
          have HB := Lib.hid hb4
          have HT := Lib.hid (HX.out c (by rw [hpe]; exact HC.out))
          have heq : ((pl : Int) == p.regs + p.slots) = true := by simp [hpe']
          have HH := Lib.hid hpe'
          clear hpe hpe' hc hmn hbig hS hS4 b4 r4 r4' ro4 hb4 hW hD qb r2 hrd3 HX HC
          go_wp2_with fail
          refine qt.mono ?_
          rintro e w5 ⟨rfl, b5⟩
          rw [← HWE.out] at b5
          have HB5 := Lib.hid (HB.out.trans (b5.mono HB.out.size))
          clear qt b5
          generalize showT c = T at *
          go_wp2
          go_ret2
          exact ⟨T, 0, rfl, HT.out, HB5.out⟩
        · have hlt : pl < n := by have := HN.out; omega
          obtain ⟨t, htt⟩ : ∃ t, behindT p.regs p.slots (plainNames p.regs p.slots) (bops p.blocks b) (bops p.blocks b).length (pl : Int) = t := ⟨_, rfl⟩
          obtain ⟨to, tn, tc, hpt⟩ := (hS4.parts pl hlt).slice
          have plc : ∀ j u, (tcells t (.slice to tn tc))[j]? = some u → W.cell? ⟨P, pl * 5 + j, none⟩ = some u := fun j u hj => hS4.pl.cell hlt (by rw [hpt]; simp only [htt]; exact hj)
          have qt := cText_any (ckind t) (cval t) t.size (.slice to tn tc) (str (showT t)) W
          have s0 := plc 0 _ rfl
          have s1 := plc 1 _ rfl
          have s2 := plc 2 _ rfl
          have s3 := plc 3 _ rfl
          have s4 := plc 4 _ rfl
          rw [Nat.add_zero] at s0
          have e1 := r4.cell (i := 0) rfl
          rw [hW] at qt s0 s1 s2 s3 s4
          have HB := Lib.hid hb4
          have HT := Lib.hid (HX.out t htt)
          have heq : ((pl : Int) == p.regs + p.slots) = false := by
            have := HN.out
            simp only [beq_eq_false_iff_ne]
            omega
          have hpi : (0 : Int) ≤ (pl : Int) := by omega
          have hpj : (pl : Int) < (n : Int) := by omega
          clear hpe hc hmn hbig hS hS4 b4 r4 r4' ro4 hb4 hW hD qb r2 hrd3 HX HC plc htt hpt
          go_wp2_with fail
          refine qt.mono ?_
          rintro e w5 ⟨rfl, b5⟩
          rw [← HWE.out] at b5
          have HB5 := Lib.hid (HB.out.trans (b5.mono HB.out.size))
          clear qt b5
          generalize showT t = T at *
          go_wp2
          go_ret2
          exact ⟨T, 0, rfl, HT.out, HB5.out⟩
    · have HX : Hid (TermAns s block place [] 4) := .inr ⟨p, hg, ht, .inl ⟨rfl, rfl, hall⟩⟩
      have HB := Lib.hid hb3
      clear hb3 hrd3 r2
      by_cases hblk : 0 ≤ block ∧ block < p.blocks.length
      · have hdec : (decide (0 ≤ block) && decide (block < (p.blocks.length : Int))) = true := by simp; exact hblk
        rw [hdec]
        by_cases h3 : place < 0
        · clear hall hblk hdec
          go_wp2
          go_ret2
          exact ⟨[], 4, rfl, HX.out, HB.out⟩
        · have h4 : p.regs + p.slots < place := by omega
          clear hall hblk hdec
          go_wp2
          go_ret2
          exact ⟨[], 4, rfl, HX.out, HB.out⟩
      · have hdec : (decide (0 ≤ block) && decide (block < (p.blocks.length : Int))) = false := by
          rw [Bool.and_eq_false_iff]
          by_cases q : 0 ≤ block
          · exact .inr (by simp; omega)
          · exact .inl (by simp; omega)
        rw [hdec]
        clear hall hblk hdec
        go_wp2
        go_ret2
        exact ⟨[], 4, rfl, HX.out, HB.out⟩
  · have HX : Hid (TermAns s block place [] 1) := .inl ⟨rfl, rfl, hn⟩
    have HB : Hid (Below w.heap.size w (w1.alloc (.cells #[.int .i64 0, .int .i64 0, .int .i64 0, .int .i64 0, .slice none 0 0] 25))) := hb1.alloc hb1.size _
    clear hb1 hn
    go_wp2
    go_ret2
    exact ⟨[], 1, rfl, HX.out, HB.out⟩

end Go.Proofs.YtblhmeidbjigaabGreatDoor

/- The reference's Term. -/
set_option linter.unusedSimpArgs false
set_option linter.unusedVariables false
namespace Go.Proofs.YtblhmeidbjigaabGreatDoor
open Go.RowKit

set_option maxRecDepth 100000 in
set_option maxHeartbeats 4000000 in
theorem rTermOf_any (s : ByteArray) (block place : Int) (w : World) (hs : s.size ≤ maxLen) (htab : TabW w) :
    Calls Tryz.prog 87 #[.string s, .int .i64 block, .int .i64 place] w fun e w' => ∃ t er, e = .returned (.tuple #[.string (str t), .int .i64 er]) ∧ TermAns s block place t er ∧ Below w.heap.size w w' := by
  have hc := rDecode_any s w hs
  go_enter Tryz.func87, Tryz.ntmps87
  go_wp2_with fail
  refine hc.mono ?_
  clear hc
  rintro e w1 ⟨hor, hb1⟩
  rcases hor with ⟨p, v, bv, rfl, ho, hd, hg, ht⟩ | ⟨hn, rfl⟩
  · obtain ⟨bo, bc, rfl⟩ := owns_slice ho.row
    have hlen : bv.length = p.blocks.length := by rw [← hd, bdat_length]
    have hrd0 := ho.rd
    rw [hd] at hrd0
    rw [hlen] at hrd0 ⊢
    obtain ⟨hr, hargs, hdata, hsl⟩ := good_shape hg
    have hb2 : Below w.heap.size w (w1.alloc (.cells #[.int .i64 p.args, .int .i64 p.regs, .int .i64 p.data, .int .i64 p.slots, .slice bo p.blocks.length bc] 25)) := hb1.alloc hb1.size _
    have hb12 : Below w1.heap.size w1 (w1.alloc (.cells #[.int .i64 p.args, .int .i64 p.regs, .int .i64 p.data, .int .i64 p.slots, .slice bo p.blocks.length bc] 25)) := (Below.refl _ _).alloc (Nat.le_refl _) _
    have hrd2 := hrd0.keep hb12
    have htab2 := htab.keep hb2
    have r : Row (w1.alloc (.cells #[.int .i64 p.args, .int .i64 p.regs, .int .i64 p.data, .int .i64 p.slots, .slice bo p.blocks.length bc] 25)) w1.heap.size 25 [.int .i64 p.args, .int .i64 p.regs, .int .i64 p.data, .int .i64 p.slots, .slice bo p.blocks.length bc] := heap_alloc_new w1 _
    have p0 := r.cell (i := 0) rfl
    have p1 := r.cell (i := 1) rfl
    have p2 := r.cell (i := 2) rfl
    have p3 := r.cell (i := 3) rfl
    have p4 := r.cell (i := 4) rfl
    have hll := progGood_len hg
    unfold progV
    by_cases hall : 0 ≤ block ∧ block < p.blocks.length ∧ 0 ≤ place ∧ place ≤ p.regs + p.slots
    · obtain ⟨ha1, ha2, ha3, ha4⟩ := id hall
      obtain ⟨b, rfl⟩ := Int.eq_ofNat_of_zero_le ha1
      have hbn : b < p.blocks.length := by omega
      have hq1 : ¬ ((b : Int) < 0) := by omega
      have hq3 : ¬ (place < 0) := by omega
      have HALL := Lib.hid hall
      clear hall ho hd hrd0 hb1 hb12 hlen
      have qp := fun P => rPlain_cps p bo p.blocks.length bc b (w1.alloc (.cells #[.int .i64 p.args, .int .i64 p.regs, .int .i64 p.data, .int .i64 p.slots, .slice bo p.blocks.length bc] 25)) ⟨by omega, hr.2⟩ hsl P
      unfold progV viewV at qp
      go_wp2_with fail
      refine qp _ ?_
      intro nv w3 hown hb3
      have hb03 : Below w.heap.size w w3 := hb2.trans (hb3.mono hb2.size)
      have hrd3 := hrd2.keep hb3
      have htab3 := htab.keep hb03
      have hnv := vw_rd hown
      clear hown hb2 hrd2 htab2 r p0 p1 p2 p3 p4 qp hb3
      have hb4 : Below w.heap.size w (w3.alloc (.cells #[.int .i64 p.args, .int .i64 p.regs, .int .i64 p.data, .int .i64 p.slots, .slice bo p.blocks.length bc, .int .i64 b, nv] 164)) := hb03.alloc hb03.size _
      have hb34 : Below w3.heap.size w3 (w3.alloc (.cells #[.int .i64 p.args, .int .i64 p.regs, .int .i64 p.data, .int .i64 p.slots, .slice bo p.blocks.length bc, .int .i64 b, nv] 164)) := (Below.refl _ _).alloc (Nat.le_refl _) _
      have r4 : Row (w3.alloc (.cells #[.int .i64 p.args, .int .i64 p.regs, .int .i64 p.data, .int .i64 p.slots, .slice bo p.blocks.length bc, .int .i64 b, nv] 164)) w3.heap.size 164 (viewC p (.slice bo p.blocks.length bc) b nv) := heap_alloc_new w3 _
      have V4 : RdView (w3.alloc (.cells #[.int .i64 p.args, .int .i64 p.regs, .int .i64 p.data, .int .i64 p.slots, .slice bo p.blocks.length bc, .int .i64 b, nv] 164)) p (.slice bo p.blocks.length bc) nv (plainNames p.regs p.slots) := ⟨hrd3.keep hb34, hnv.keep hb34, htab3.keep hb34⟩
      have hnm := plain_le p.regs p.slots (by omega)
      have qb := rBig_any p (.slice bo p.blocks.length bc) nv b _ hg hbn hnm _ V4
      have u0 := r4.cell (i := 0) rfl
      have u1 := r4.cell (i := 1) rfl
      have u2 := r4.cell (i := 2) rfl
      have u3 := r4.cell (i := 3) rfl
      have u4 := r4.cell (i := 4) rfl
      have u5 := r4.cell (i := 5) rfl
      have u6 := r4.cell (i := 6) rfl
      obtain ⟨no, nc, rfl, _, _⟩ := id hnv
      unfold viewV at qb
      clear hrd3 htab3 hnv hb03 hb34
      go_wp2_with fail
      refine qb.mono ?_
      rintro e w5 ⟨rfl, hb5⟩
      have V5 := V4.keep hb5
      have r5 := r4.keep hb5
      have hb05 : Below w.heap.size w w5 := hb4.trans (hb5.mono hb4.size)
      clear u0 u1 u2 u3 u4 u5 u6 qb V4 r4 hb4 hb5
      cases hbig : bigT p.regs p.slots (plainNames p.regs p.slots) (bops p.blocks b) with
      | true =>
        clear r5 V5
        go_wp2
        go_ret2
        exact ⟨[], 5, rfl, .inr ⟨p, hg, ht, .inr ⟨HALL.out, .inl ⟨rfl, rfl, hbig⟩⟩⟩, hb05⟩
      | false =>
        have u0 := r5.cell (i := 0) rfl
        have u1 := r5.cell (i := 1) rfl
        have u2 := r5.cell (i := 2) rfl
        have u3 := r5.cell (i := 3) rfl
        have u4 := r5.cell (i := 4) rfl
        have u5 := r5.cell (i := 5) rfl
        have u6 := r5.cell (i := 6) rfl
        have qf := fun P => rFinal_cps p (.slice bo p.blocks.length bc) (.slice no (plainNames p.regs p.slots).length nc) b _ hg hbn hnm place w5 P V5 ha3 ha4
        unfold viewV at qf
        go_wp2_with fail
        refine qf _ ?_
        intro g6 w6 t6 hb6
        have hb06 : Below w.heap.size w w6 := hb05.trans (hb6.mono hb05.size)
        obtain ⟨h12, hops⟩ := good_block hg hbn
        have hfine := behindT_fine (show 0 ≤ p.regs ∧ p.regs ≤ 100 by omega) (show 0 ≤ p.slots ∧ p.slots ≤ 100 by omega) hnm hops _ (Nat.le_refl _) place ha3 ha4
        have hsz : (behindT p.regs p.slots (plainNames p.regs p.slots) (bops p.blocks b) (bops p.blocks b).length place).size ≤ 800000 := Nat.le_trans (behindT_size p.regs p.slots _ (bops p.blocks b) _ _) (most_12 h12)
        have qs := rShow_any _ g6 w6 t6 (htab.keep hb06) hfine (by omega)
        have HX : Hid (TermAns s b place (showT (behindT p.regs p.slots (plainNames p.regs p.slots) (bops p.blocks b) (bops p.blocks b).length place)) 0) := .inr ⟨p, hg, ht, .inr ⟨HALL.out, .inr ⟨rfl, hbig, by simp⟩⟩⟩
        generalize showT (behindT p.regs p.slots (plainNames p.regs p.slots) (bops p.blocks b) (bops p.blocks b).length place) = T at *
        clear u0 u1 u2 u3 u4 u5 u6 qf V5 r5 hb05 hb6 hfine hsz t6 hbig
        go_wp2_with fail
        refine qs.mono ?_
        rintro e w7 ⟨rfl, hb7⟩
        have hb07 : Below w.heap.size w w7 := hb06.trans (hb7.mono hb06.size)
        clear qs hb7
        go_wp2
        go_ret2
        exact ⟨T, 0, rfl, HX.out, hb07⟩
    · have HX : Hid (TermAns s block place [] 4) := .inr ⟨p, hg, ht, .inl ⟨rfl, rfl, hall⟩⟩
      have HB := Lib.hid hb2
      clear ho hd hrd0 hb1 hb12 hlen hrd2 htab2 r hb2
      by_cases ha1 : block < 0
      · go_wp2
        go_ret2
        exact ⟨[], 4, rfl, HX.out, HB.out⟩
      · by_cases ha2 : (p.blocks.length : Int) ≤ block
        · have hn1 : ¬ (block < 0) := ha1
          go_wp2
          go_ret2
          exact ⟨[], 4, rfl, HX.out, HB.out⟩
        · have hn2 : block < (p.blocks.length : Int) := by omega
          by_cases ha3 : place < 0
          · go_wp2
            go_ret2
            exact ⟨[], 4, rfl, HX.out, HB.out⟩
          · have ha4 : p.regs + p.slots < place := by omega
            go_wp2
            go_ret2
            exact ⟨[], 4, rfl, HX.out, HB.out⟩
  · have HX : Hid (TermAns s block place [] 1) := .inl ⟨rfl, rfl, hn⟩
    have HB : Hid (Below w.heap.size w (w1.alloc (.cells #[.int .i64 0, .int .i64 0, .int .i64 0, .int .i64 0, .slice none 0 0] 25))) := hb1.alloc hb1.size _
    clear hb1 hn
    go_wp2
    go_ret2
    exact ⟨[], 1, rfl, HX.out, HB.out⟩

end Go.Proofs.YtblhmeidbjigaabGreatDoor

/- The reference's twins: Named, suits, starts. -/
set_option linter.unusedSimpArgs false
set_option linter.unusedVariables false
namespace Go.Proofs.YtblhmeidbjigaabGreatDoor
open Go.RowKit

/-- The name of a place by the first k pairs: the last that names it. -/
def nameTo (qs : List PairD) (p : Int) : Nat → Int
  | 0 => -1
  | k + 1 => if pplace qs k = p then preg qs k else nameTo qs p k

theorem nameTo_find {qs : List PairD} (hd : ∀ j k, j < k → k < qs.length → pplace qs j ≠ pplace qs k) (p : Int) : ∀ k, k ≤ qs.length → nameTo qs p k = match (qs.take k).find? (fun x => decide (x.place = p)) with | some x => x.reg | none => -1
  | 0, _ => by simp [nameTo]
  | k + 1, hk => by
    have ih := nameTo_find hd p k (by omega)
    rw [take_getD qs pz k (by omega), List.find?_append]
    unfold nameTo
    obtain ⟨x, hx⟩ : ∃ x, x = qs.getD k pz := ⟨_, rfl⟩
    have e1 : pplace qs k = x.place := by unfold pplace; rw [← hx]
    have e2 : preg qs k = x.reg := by unfold preg; rw [← hx]
    rw [← hx, e1, e2]
    by_cases h : x.place = p
    · have hn : (qs.take k).find? (fun x => decide (x.place = p)) = none := by
        rw [List.find?_eq_none]
        intro y hy
        obtain ⟨j, hj, rfl⟩ := List.getElem_of_mem hy
        have hj' : j < k := by simp at hj; omega
        have hne := hd j k hj' (by omega)
        rw [e1, h] at hne
        have hjl : j < qs.length := by omega
        simp only [decide_eq_true_eq]
        intro e
        apply hne
        simpa [pplace, List.getD, hjl] using e
      rw [hn, if_pos h]
      simp [h]
    · rw [if_neg h, ih]
      cases hf : (qs.take k).find? (fun x => decide (x.place = p)) <;> simp [h]

theorem namesOf_snoc {qs : List PairD} (hd : ∀ j k, j < k → k < qs.length → pplace qs j ≠ pplace qs k) (k : Nat) : ints (namesOf qs (k + 1)) = ints (namesOf qs k) ++ [.int .i64 (nameTo qs k qs.length)] := by
  rw [← ints_snoc, nameTo_find hd _ _ (Nat.le_refl _), List.take_length]
  simp only [namesOf, List.range_succ, List.map_append, List.map_cons, List.map_nil]
  rfl

set_option maxRecDepth 100000 in
set_option maxHeartbeats 4000000 in
theorem rNamed_cps (q : ProgD) (po : Option Addr) (pn pc b : Nat) (src : Int) (so : Option Addr) (sn sc : Nat) (qs : List PairD) (w : World) (hq : RdPairs w (.slice so sn sc) qs) (hd : ∀ j k, j < k → k < qs.length → pplace qs j ≠ pplace qs k) (h1 : 0 ≤ q.regs ∧ q.regs ≤ 8) (h2 : 0 ≤ q.slots ∧ q.slots ≤ 8) (Post : Ending → World → Prop)
    (hp : ∀ nv w', w'.ownsRow w.heap.size 3 1 nv (q.regs + q.slots).toNat (ints (namesOf qs (q.regs + q.slots).toNat)) → Below w.heap.size w w' → Post (.returned (viewV q (.slice po pn pc) b nv)) w') :
    Calls Tryz.prog 124 #[progV q (.slice po pn pc), .agg #[.int .i64 src, .slice so sn sc], .int .i64 b] w Post := by
  obtain ⟨i0, ii, iz0, iz1, iz2⟩ := info_parts Tryz.infoInt
  obtain ⟨so', sc', e0, hql, hqs⟩ := hq
  simp only [Value.slice.injEq] at e0
  obtain ⟨rfl, rfl, rfl⟩ := e0
  unfold viewV at hp
  unfold progV
  obtain ⟨n, hn⟩ : ∃ n : Nat, (q.regs + q.slots).toNat = n := ⟨_, rfl⟩
  have hn2 : q.regs + q.slots = n := by omega
  rw [hn] at hp
  have HP := Lib.hid hp
  have HT := Lib.hid (namesOf_snoc hd)
  clear hp hn hd
  generalize q.args = pa at *
  generalize q.regs = pr at *
  generalize q.data = pd at *
  generalize q.slots = ps at *
  obtain ⟨A, hA⟩ : ∃ A, A = (((w.alloc (.cells #[.int .i64 pa, .int .i64 pr, .int .i64 pd, .int .i64 ps, .slice po pn pc] 25)).alloc (.cells #[.int .i64 src, .slice so qs.length sc] 33)).alloc (.cells #[.int .i64 0, .int .i64 0, .int .i64 0, .int .i64 0, .slice none 0 0, .int .i64 0, .slice none 0 0] 164)).alloc (.cells #[.int .i64 pa, .int .i64 pr, .int .i64 pd, .int .i64 ps, .slice po pn pc, .int .i64 b, .slice none 0 0] 164) := ⟨_, rfl⟩
  have r0 : Row A w.heap.size 25 [.int .i64 pa, .int .i64 pr, .int .i64 pd, .int .i64 ps, .slice po pn pc] := by subst hA; exact Row.alloc (Row.alloc (Row.alloc (heap_alloc_new w _) _) _) _
  have rx : Row A (w.heap.size + 1) 33 [.int .i64 src, .slice so qs.length sc] := by subst hA; exact Row.alloc (Row.alloc (heap_alloc2_new w _ _) _) _
  have r1 : Row A (w.heap.size + 2) 164 zView := by
    subst hA
    have q := heap_alloc2_new (w.alloc (.cells #[.int .i64 pa, .int .i64 pr, .int .i64 pd, .int .i64 ps, .slice po pn pc] 25)) (.cells #[.int .i64 src, .slice so qs.length sc] 33) (.cells #[.int .i64 0, .int .i64 0, .int .i64 0, .int .i64 0, .slice none 0 0, .int .i64 0, .slice none 0 0] 164)
    simp only [World.size_alloc] at q
    exact Row.alloc q _
  have r2 : Row A (w.heap.size + 3) 164 [.int .i64 pa, .int .i64 pr, .int .i64 pd, .int .i64 ps, .slice po pn pc, .int .i64 b, .slice none 0 0] := by
    subst hA
    have q := heap_alloc2_new ((w.alloc (.cells #[.int .i64 pa, .int .i64 pr, .int .i64 pd, .int .i64 ps, .slice po pn pc] 25)).alloc (.cells #[.int .i64 src, .slice so qs.length sc] 33)) (.cells #[.int .i64 0, .int .i64 0, .int .i64 0, .int .i64 0, .slice none 0 0, .int .i64 0, .slice none 0 0] 164) (.cells #[.int .i64 pa, .int .i64 pr, .int .i64 pd, .int .i64 ps, .slice po pn pc, .int .i64 b, .slice none 0 0] 164)
    simp only [World.size_alloc] at q
    exact q
  have b0 : Below w.heap.size w A := by subst hA; exact ((((Below.refl w.heap.size w).alloc (Nat.le_refl _) _).alloc (by simp) _).alloc (by simp; omega) _).alloc (by simp; omega) _
  have z0 : w.heap.size + 4 ≤ A.heap.size := by subst hA; simp
  have HA := Lib.hid hA
  clear hA
  go_enter Tryz.func124, Tryz.ntmps124
  go_wp2
  rw [← HA.out]
  clear HA
  go_loopw [8] (fun i wr => ∃ (k : Nat) (sv : Value), k ≤ n ∧ i = .int .i64 k ∧ Row wr w.heap.size 25 [.int .i64 pa, .int .i64 pr, .int .i64 pd, .int .i64 ps, .slice po pn pc] ∧ Row wr (w.heap.size + 1) 33 [.int .i64 src, .slice so qs.length sc] ∧ Row wr (w.heap.size + 2) 164 zView ∧ Row wr (w.heap.size + 3) 164 [.int .i64 pa, .int .i64 pr, .int .i64 pd, .int .i64 ps, .slice po pn pc, .int .i64 b, sv] ∧
      wr.ownsRow (w.heap.size + 4) 3 1 sv k (ints (namesOf qs k)) ∧ Below w.heap.size w wr ∧ w.heap.size + 4 ≤ wr.heap.size)
    (fun i _ => n - (intOf i).toNat)
  case atStart => exact ⟨0, .slice none 0 0, Nat.zero_le _, rfl, r0, rx, r1, r2, World.ownsRow_nil _ _ _ _, b0, z0⟩
  case round =>
    clear r0 rx r1 r2 b0 z0 A
    rename World => w1
    obtain ⟨k, sv, hk, rfl, r0, rx, r1, r2, hown, hbel, hz⟩ := hrel
    obtain ⟨lo, lc, rfl⟩ := owns_slice hown
    have p1 := r0.cell (i := 1) rfl
    have p3 := r0.cell (i := 3) rfl
    by_cases hlt : k < n
    · go_wp2
      go_loopw [9, 10] (fun nv i wi => ∃ (j : Nat), j ≤ qs.length ∧ i = .int .i64 j ∧ nv = .int .i64 (nameTo qs k j) ∧ Below w1.heap.size w1 wi)
        (fun _ i _ => qs.length - (intOf i).toNat)
      case atStart => exact ⟨0, Nat.zero_le _, rfl, rfl, Below.refl _ _⟩
      case round =>
        obtain ⟨j, hj, rfl, rfl, kei⟩ := hrel
        clear p1 p3
        have bel' := hbel.trans (kei.mono hbel.size)
        by_cases hlt2 : j < qs.length
        · have x1 := cell_keep kei (rx.cell (i := 1) rfl)
          obtain ⟨qb, qoff, rfl, g0, g1⟩ := hqs j hlt2
          have y0 := cell_keep bel' g0
          have y1 := cell_keep bel' g1
          have hji : (0 : Int) ≤ (j : Int) := by omega
          have hjj : (j : Int) < (qs.length : Int) := by omega
          have HS : Hid (nameTo qs k (j + 1) = if pplace qs j = (k : Int) then preg qs j else nameTo qs k j) := rfl
          clear g0 g1 hqs r0 rx r1 r2 hown hbel bel' HT HP
          by_cases he : pplace qs j = (k : Int)
          · have HS2 : Hid (nameTo qs k (j + 1) = preg qs j) := by show _ = _; rw [HS.out, if_pos he]
            have e1 : (pplace qs j == (k : Int)) = true := by simp [he]
            have HE := Lib.hid he
            clear HS he
            generalize nameTo qs k j = old at *
            generalize preg qs j = rgv at *
            generalize pplace qs j = plv at *
            go_wp2
            go_roundw
            case rel => exact ⟨j + 1, by omega, by go_num, by rw [HS2.out], kei⟩
            case measure => simp [intOf]; omega
          · have HS2 : Hid (nameTo qs k (j + 1) = nameTo qs k j) := by show _ = _; rw [HS.out, if_neg he]
            have e1 : (pplace qs j == (k : Int)) = false := by simp [he]
            clear HS he
            generalize nameTo qs k j = old at *
            generalize preg qs j = rgv at *
            generalize pplace qs j = plv at *
            go_wp2
            go_roundw
            case rel => exact ⟨j + 1, by omega, by go_num, by rw [HS2.out], kei⟩
            case measure => simp [intOf]; omega
        · obtain rfl : j = qs.length := by omega
          have x1 := cell_keep kei (rx.cell (i := 1) rfl)
          have HT2 := Lib.hid (HT.out k)
          have r0' := r0.keep kei
          have rx' := rx.keep kei
          have r1' := r1.keep kei
          have r2' := r2.keep kei
          have own' := owns_below hown kei (Nat.le_refl _)
          have hz' : w.heap.size + 4 ≤ wr.heap.size := Nat.le_trans hz kei.size
          have v6 := r2'.cell (i := 6) rfl
          generalize nameTo qs k qs.length = X at *
          clear hqs r0 rx r1 r2 hown hbel hz kei HT HP
          go_wp2_with (at_builtin; refine wpList_append_own _ rfl _ _ 22 rfl (w.heap.size + 4) 3 i0 (.int .i64 0) 1 8 Tryz.underlying22 ii iz0 iz1 iz2 rfl (by decide) _ _ _ rfl (own'.alloc _) ⟨wr.heap.size, 0, none⟩ 1 1 [.int .i64 X] rfl rfl ?c1 (vw_one _) ?c3 ?c4 ?c5 ?_)
          try (case c1 => exact vw_new wr _ _)
          case c3 => unfold maxLen; omega
          case c4 => omega
          case c5 => first | omega | (simp; omega)
          intro v' w3 hown' hgrow _
          rw [← HT2.out] at hown'
          have hb2 := ((Below.refl (w.heap.size + 4) wr).alloc hz' (.cells #[.int .i64 X] 3)).grown hgrow (by simp; omega) (fun g hg => (own'.lt g hg).1)
          have q0 := r0'.below hb2 (by omega)
          have qx := rx'.below hb2 (by omega)
          have q1 := r1'.below hb2 (by omega)
          have q2 := r2'.below hb2 (by omega)
          obtain ⟨lo', lc', rfl⟩ := owns_slice hown'
          have y6 := q2.cell (i := 6) rfl
          have f6 := q2.frozen 6
          have q0s := q0.unset (a := ⟨w.heap.size + 3, 6, none⟩) (by show w.heap.size ≠ w.heap.size + 3; omega) (.slice lo' (k + 1) lc')
          have qxs := qx.unset (a := ⟨w.heap.size + 3, 6, none⟩) (by show w.heap.size + 1 ≠ w.heap.size + 3; omega) (.slice lo' (k + 1) lc')
          have q1s := q1.unset (a := ⟨w.heap.size + 3, 6, none⟩) (by show w.heap.size + 2 ≠ w.heap.size + 3; omega) (.slice lo' (k + 1) lc')
          have q2s := q2.set 6 (.slice lo' (k + 1) lc')
          have own3 := ownsRow_setCell_below hown' (a := ⟨w.heap.size + 3, 6, none⟩) (by show w.heap.size + 3 < w.heap.size + 4; omega) (.slice lo' (k + 1) lc')
          have bel3 := below_set (g := w.heap.size + 3) (i := 6) (bel'.trans (hb2.mono (by omega))) (by omega) (.slice lo' (k + 1) lc')
          have hz3 : w.heap.size + 4 ≤ (w3.setCell ⟨w.heap.size + 3, 6, none⟩ (.slice lo' (k + 1) lc')).heap.size := by have := hb2.size; simp; omega
          clear hown' hgrow own' r0' rx' r1' r2' q0 qx q1 q2 hb2 HT2 v6 x1
          go_wp2
          go_roundw
          case rel => exact ⟨k + 1, _, by omega, by go_num, q0s, qxs, q1s, q2s, own3, bel3, hz3⟩
          case measure => simp [intOf]; omega
    · obtain rfl : k = n := by omega
      have HF : Hid (Post (.returned (.agg #[.int .i64 pa, .int .i64 pr, .int .i64 pd, .int .i64 ps, .slice po pn pc, .int .i64 b, .slice lo k lc])) (set7 w1 (w.heap.size + 2) (.int .i64 pa) (.int .i64 pr) (.int .i64 pd) (.int .i64 ps) (.slice po pn pc) (.int .i64 b) (.slice lo k lc))) :=
        HP.out _ _ (owns_base (set7_owns hown (by omega) _ _ _ _ _ _ _) (by omega)) (set7_below hbel (by omega) _ _ _ _ _ _ _)
      have v0 := r2.cell (i := 0) rfl
      have a0 := r1.cell (i := 0) rfl
      have f0 := r1.frozen 0
      have v1 := r2.cell (i := 1) rfl
      have a1 := r1.cell (i := 1) rfl
      have f1 := r1.frozen 1
      have v2 := r2.cell (i := 2) rfl
      have a2 := r1.cell (i := 2) rfl
      have f2 := r1.frozen 2
      have v3 := r2.cell (i := 3) rfl
      have a3 := r1.cell (i := 3) rfl
      have f3 := r1.frozen 3
      have v4 := r2.cell (i := 4) rfl
      have a4 := r1.cell (i := 4) rfl
      have f4 := r1.frozen 4
      have v5 := r2.cell (i := 5) rfl
      have a5 := r1.cell (i := 5) rfl
      have f5 := r1.frozen 5
      have v6 := r2.cell (i := 6) rfl
      have a6 := r1.cell (i := 6) rfl
      have f6 := r1.frozen 6
      clear HP r0 r1 r2 rx hown hbel HT hqs
      go_wp2
      exact bodyPost_ret (v := .agg #[.int .i64 pa, .int .i64 pr, .int .i64 pd, .int .i64 ps, .slice po pn pc, .int .i64 b, .slice lo k lc]) (by simp [results, Tryz.results124, go_sem, a0, a1, a2, a3, a4, a5, a6]) rfl HF.out

end Go.Proofs.YtblhmeidbjigaabGreatDoor

/- The reference's twins: views as they are held against each other; paired, marksAlike. -/
set_option linter.unusedSimpArgs false
set_option linter.unusedVariables false
namespace Go.Proofs.YtblhmeidbjigaabGreatDoor
open Go.RowKit

/-- A view of a block that is read. -/
structure VwF (w : World) (p : ProgD) (pv nv : Value) (b : Nat) (names : List Int) : Prop where
  rd : RdView w p pv nv names
  good : progGood p = true
  lt : b < p.blocks.length
  small : ∀ x ∈ names, x ≤ 1000

theorem VwF.keep {w w' : World} {p : ProgD} {pv nv : Value} {b : Nat} {names : List Int} (h : VwF w p pv nv b names) (hb : Below w.heap.size w w') : VwF w' p pv nv b names :=
  ⟨h.rd.keep hb, h.good, h.lt, h.small⟩

/-- What a place holds at the block's end. -/
noncomputable def finT (p : ProgD) (names : List Int) (b : Nat) (i : Int) : TD := behindT p.regs p.slots names (bops p.blocks b) (bops p.blocks b).length i
/-- A view's marks. -/
noncomputable def mksT (p : ProgD) (names : List Int) (b : Nat) : List (List UInt8) := marksT p.regs p.slots p.data names (bops p.blocks b) (bops p.blocks b).length

theorem VwF.fine {w : World} {p : ProgD} {pv nv : Value} {b : Nat} {names : List Int} (h : VwF w p pv nv b names) {i : Int} (h0 : 0 ≤ i) (h1 : i ≤ p.regs + p.slots) : (finT p names b i).fine := by
  obtain ⟨hr, hargs, hdata, hs⟩ := good_shape h.good
  obtain ⟨h12, hops⟩ := good_block h.good h.lt
  exact behindT_fine (by omega) (by omega) h.small hops _ (Nat.le_refl _) i h0 h1

theorem VwF.final {w : World} {p : ProgD} {pv nv : Value} {b : Nat} {names : List Int} (h : VwF w p pv nv b names) (i : Int) (h0 : 0 ≤ i) (h1 : i ≤ p.regs + p.slots) (Post : Ending → World → Prop)
    (hp : ∀ g' w', TreeAt w' (finT p names b i) g' → Below w.heap.size w w' → Post (.returned (.pointer (some ⟨g', 0, none⟩))) w') :
    Calls Tryz.prog 117 #[viewV p pv b nv, .int .i64 i] w Post :=
  rFinal_cps p pv nv b names h.good h.lt h.small i w Post h.rd h0 h1 hp

theorem rSame_bel (t u : TD) (g h : Nat) (w : World) (h1 : TreeAt w t g) (h2 : TreeAt w u h) (f1 : t.fine) (f2 : u.fine) (Post : Ending → World → Prop)
    (hp : ∀ z w', (z = true ↔ t = u) → Below w.heap.size w w' → Post (.returned (.bool z)) w') :
    Calls Tryz.prog 157 #[.pointer (some ⟨g, 0, none⟩), .pointer (some ⟨h, 0, none⟩)] w Post :=
  (rSame_any t u g h w h1 h2 f1 f2).mono fun e w' ⟨he, m, hw⟩ => by
    subst he hw
    exact hp _ _ (sameT_iff t u) (below_drewN (Below.refl _ _) m)

set_option maxRecDepth 100000 in
set_option maxHeartbeats 4000000 in
theorem rPaired_cps (p q : ProgD) (po no qo mo : Option Addr) (pn pc nn nc qn qc mn mc a b : Nat) (np nq : List Int) (qs : List PairD) (lo : Option Addr) (ln lc : Nat) (w : World) (h1 : VwF w p (.slice po pn pc) (.slice no nn nc) a np) (h2 : VwF w q (.slice qo qn qc) (.slice mo mn mc) b nq) (hl : RdPairs w (.slice lo ln lc) qs) (hin : ∀ x ∈ qs, (0 ≤ x.reg ∧ x.reg ≤ p.regs + p.slots) ∧ (0 ≤ x.place ∧ x.place ≤ q.regs + q.slots)) (Post : Ending → World → Prop)
    (hp : ∀ z w', (z = true ↔ ∀ x ∈ qs, finT p np a x.reg = finT q nq b x.place) → Below w.heap.size w w' → Post (.returned (.bool z)) w') :
    Calls Tryz.prog 182 #[viewV p (.slice po pn pc) a (.slice no nn nc), viewV q (.slice qo qn qc) b (.slice mo mn mc), .slice lo ln lc] w Post := by
  obtain ⟨lo', lc', e0, hql, hqs⟩ := hl
  simp only [Value.slice.injEq] at e0
  obtain ⟨rfl, rfl, rfl⟩ := e0
  unfold viewV
  obtain ⟨A, hA⟩ : ∃ A, A = (w.alloc (.cells #[.int .i64 p.args, .int .i64 p.regs, .int .i64 p.data, .int .i64 p.slots, .slice po pn pc, .int .i64 a, .slice no nn nc] 164)).alloc (.cells #[.int .i64 q.args, .int .i64 q.regs, .int .i64 q.data, .int .i64 q.slots, .slice qo qn qc, .int .i64 b, .slice mo mn mc] 164) := ⟨_, rfl⟩
  have r1 : Row A w.heap.size 164 [.int .i64 p.args, .int .i64 p.regs, .int .i64 p.data, .int .i64 p.slots, .slice po pn pc, .int .i64 a, .slice no nn nc] := by subst hA; exact Row.alloc (heap_alloc_new w _) _
  have r2 : Row A (w.heap.size + 1) 164 [.int .i64 q.args, .int .i64 q.regs, .int .i64 q.data, .int .i64 q.slots, .slice qo qn qc, .int .i64 b, .slice mo mn mc] := by subst hA; exact heap_alloc2_new w _ _
  have b0 : Below w.heap.size w A := by subst hA; exact ((Below.refl w.heap.size w).alloc (Nat.le_refl _) _).alloc (by simp) _
  have HA := Lib.hid hA
  have HP := Lib.hid hp
  have H1 := Lib.hid h1
  have H2 := Lib.hid h2
  have HIN := Lib.hid hin
  clear hA hp h1 h2 hin
  go_enter Tryz.func182, Tryz.ntmps182
  go_wp2
  rw [← HA.out]
  clear HA
  go_loopw [7] (fun i wr => ∃ (k : Nat), k ≤ qs.length ∧ i = .int .i64 k ∧ Below A.heap.size A wr ∧ Hid (∀ j, j < k → finT p np a (preg qs j) = finT q nq b (pplace qs j)))
    (fun i _ => qs.length - (intOf i).toNat)
  case atStart => exact ⟨0, Nat.zero_le _, rfl, Below.refl _ _, fun j hj => by omega⟩
  case round =>
    obtain ⟨k, hk, rfl, hbel, hall⟩ := hrel
    have hbw : Below w.heap.size w wr := b0.trans (hbel.mono b0.size)
    by_cases hlt : k < qs.length
    · obtain ⟨lb, loff, rfl, g0, g1⟩ := hqs k hlt
      have hM := HIN.out _ (getD_mem' (d := pz) hlt)
      have hM1 : 0 ≤ preg qs k ∧ preg qs k ≤ p.regs + p.slots := hM.1
      have hM2 : 0 ≤ pplace qs k ∧ pplace qs k ≤ q.regs + q.slots := hM.2
      have k0 : Below wr.heap.size wr wr.drew := (Below.refl _ _).drew
      have hbd : Below w.heap.size w wr.drew := hbw.trans (k0.mono hbw.size)
      have q1 := fun P' => (H1.out.keep hbd).final (preg qs k) hM1.1 hM1.2 P'
      have c0 := fun V (hV : Below wr.heap.size wr V) => cell_keep hV (cell_keep hbel (r1.cell (i := 0) rfl))
      have c1 := fun V (hV : Below wr.heap.size wr V) => cell_keep hV (cell_keep hbel (r1.cell (i := 1) rfl))
      have c2 := fun V (hV : Below wr.heap.size wr V) => cell_keep hV (cell_keep hbel (r1.cell (i := 2) rfl))
      have c3 := fun V (hV : Below wr.heap.size wr V) => cell_keep hV (cell_keep hbel (r1.cell (i := 3) rfl))
      have c4 := fun V (hV : Below wr.heap.size wr V) => cell_keep hV (cell_keep hbel (r1.cell (i := 4) rfl))
      have c5 := fun V (hV : Below wr.heap.size wr V) => cell_keep hV (cell_keep hbel (r1.cell (i := 5) rfl))
      have c6 := fun V (hV : Below wr.heap.size wr V) => cell_keep hV (cell_keep hbel (r1.cell (i := 6) rfl))
      have y0 : ∀ V, Below wr.heap.size wr V → V.cell? ⟨lb, loff + k * 2, none⟩ = some (.int .i64 (preg qs k)) := fun V hV => cell_keep hV (cell_keep hbw g0)
      have hki : (0 : Int) ≤ (k : Int) := by omega
      have hkj : (k : Int) < (qs.length : Int) := by omega
      have HG1 := Lib.hid g1
      have HBEL := Lib.hid hbel
      have HBW := Lib.hid hbw
      have HM := Lib.hid (getD_mem' (d := pz) hlt)
      have HR : Hid ((qs.getD k pz).reg = preg qs k ∧ (qs.getD k pz).place = pplace qs k) := ⟨rfl, rfl⟩
      have HR1 := Lib.hid r1
      have HR2 := Lib.hid r2
      have F1 := Lib.hid (H1.out.fine hM1.1 hM1.2)
      have F2 := Lib.hid (H2.out.fine hM2.1 hM2.2)
      unfold viewV at q1
      clear g0 g1 hqs hbel hbw hbd r1 r2 hM hM1
      generalize preg qs k = rg at *
      generalize pplace qs k = pg at *
      go_wp2
      go_region_held3 (fun V => Below wr.heap.size wr V) (first | with_reducible exact k0 | with_reducible exact b3) (first | (go_at_call 117; refine q1 _ ?_; intro g1 w2 t1 b2; have b3 : Below wr.heap.size wr w2 := k0.trans (b2.mono k0.size)))
      have hb2 : Below A.heap.size A w2 := HBEL.out.trans (b3.mono HBEL.out.size)
      have hw2 : Below w.heap.size w w2 := HBW.out.trans (b3.mono HBW.out.size)
      clear q1 b2 c0 c1 c2 c3 c4 c5 c6 y0 HBEL k0
      have k2 : Below w2.heap.size w2 w2.drew := (Below.refl _ _).drew
      have hbd2 : Below w.heap.size w w2.drew := hw2.trans (k2.mono hw2.size)
      have q2 := fun P' => (H2.out.keep hbd2).final pg hM2.1 hM2.2 P'
      have c0 := fun V (hV : Below w2.heap.size w2 V) => cell_keep hV (cell_keep hb2 (HR2.out.cell (i := 0) rfl))
      have c1 := fun V (hV : Below w2.heap.size w2 V) => cell_keep hV (cell_keep hb2 (HR2.out.cell (i := 1) rfl))
      have c2 := fun V (hV : Below w2.heap.size w2 V) => cell_keep hV (cell_keep hb2 (HR2.out.cell (i := 2) rfl))
      have c3 := fun V (hV : Below w2.heap.size w2 V) => cell_keep hV (cell_keep hb2 (HR2.out.cell (i := 3) rfl))
      have c4 := fun V (hV : Below w2.heap.size w2 V) => cell_keep hV (cell_keep hb2 (HR2.out.cell (i := 4) rfl))
      have c5 := fun V (hV : Below w2.heap.size w2 V) => cell_keep hV (cell_keep hb2 (HR2.out.cell (i := 5) rfl))
      have c6 := fun V (hV : Below w2.heap.size w2 V) => cell_keep hV (cell_keep hb2 (HR2.out.cell (i := 6) rfl))
      have y1 : ∀ V, Below w2.heap.size w2 V → V.cell? ⟨lb, loff + k * 2 + 1, none⟩ = some (.int .i64 pg) := fun V hV => cell_keep hV (cell_keep hw2 HG1.out)
      have HT1 := Lib.hid t1
      have HB2 := Lib.hid hb2
      have HW2 := Lib.hid hw2
      unfold viewV at q2
      clear t1 hb2 hw2 hbd2 b3 HG1
      go_wp2
      go_region_held3 (fun V => Below w2.heap.size w2 V) (first | with_reducible exact k2 | with_reducible exact b5) (first | (go_at_call 117; refine q2 _ ?_; intro g2 w3 t2 b4; have b5 : Below w2.heap.size w2 w3 := k2.trans (b4.mono k2.size)))
      have q3 := fun P' => rSame_bel _ _ g1 g2 w3 (HT1.out.keep b5) t2 F1.out F2.out P'
      have HB3 := Lib.hid (HB2.out.trans (b5.mono HB2.out.size))
      have HW3 := Lib.hid (HW2.out.trans (b5.mono HW2.out.size))
      clear q2 b4 c0 c1 c2 c3 c4 c5 c6 y1 k2 HT1 t2 HB2 HW2 b5
      go_wp2_with fail
      refine q3 _ ?_
      intro z w4 hz b6
      have HZ := Lib.hid hz
      have b7 := HB3.out.trans (b6.mono HB3.out.size)
      have b8 := HW3.out.trans (b6.mono HW3.out.size)
      clear q3 hz b6 HB3 HW3
      cases z with
      | true =>
        have hall2 : Hid (∀ j, j < k + 1 → finT p np a (preg qs j) = finT q nq b (pplace qs j)) := fun j hj => by
          by_cases e : j = k
          · rw [e]
            have e1 : preg qs k = rg := HR.out.1
            have e2 : pplace qs k = pg := HR.out.2
            rw [e1, e2]; exact HZ.out.1 rfl
          · exact hall.out j (by omega)
        clear hall HR HM
        go_wp2
        go_roundw
        case rel => exact ⟨k + 1, by omega, by go_num, b7, hall2⟩
        case measure => simp [intOf]; omega
      | false =>
        have HF := Lib.hid (HP.out false w4 ⟨fun hq => (by cases hq), fun hA => by
          have := hA _ HM.out
          rw [HR.out.1, HR.out.2] at this
          have := HZ.out.2 this; cases this⟩ b8)
        clear hall HR HM
        go_wp2
        exact HF.out
    · obtain rfl : k = qs.length := by omega
      have HY : Hid (∀ x ∈ qs, finT p np a x.reg = finT q nq b x.place) := fun x hx => by
        obtain ⟨j, hj, rfl⟩ := List.getElem_of_mem hx
        have := hall.out j hj
        simpa [preg, pplace, List.getD, hj] using this
      have HF := Lib.hid (HP.out true _ ⟨fun _ => HY.out, fun _ => rfl⟩ hbw)
      clear hqs hall hbel hbw
      go_wp2
      exact HF.out

theorem VwF.marked {w : World} {p : ProgD} {pv nv : Value} {b : Nat} {names : List Int} (h : VwF w p pv nv b names) (Post : Ending → World → Prop)
    (hp : ∀ v w', w'.ownsRow w.heap.size 9 1 v (mksT p names b).length (texts (mksT p names b)) → Below w.heap.size w w' → Post (.returned v) w') :
    Calls Tryz.prog 120 #[viewV p pv b nv] w Post :=
  rMarked_cps p pv nv b names h.good h.lt h.small w h.rd Post hp

set_option maxRecDepth 100000 in
set_option maxHeartbeats 4000000 in
theorem rAlike_cps (p q : ProgD) (po no qo mo : Option Addr) (pn pc nn nc qn qc mn mc a b : Nat) (np nq : List Int) (w : World) (h1 : VwF w p (.slice po pn pc) (.slice no nn nc) a np) (h2 : VwF w q (.slice qo qn qc) (.slice mo mn mc) b nq) (Post : Ending → World → Prop)
    (hp : ∀ z w', (z = true ↔ mksT p np a = mksT q nq b) → Below w.heap.size w w' → Post (.returned (.bool z)) w') :
    Calls Tryz.prog 156 #[viewV p (.slice po pn pc) a (.slice no nn nc), viewV q (.slice qo qn qc) b (.slice mo mn mc)] w Post := by
  obtain ⟨A, hA⟩ : ∃ A, A = (w.alloc (.cells #[.int .i64 p.args, .int .i64 p.regs, .int .i64 p.data, .int .i64 p.slots, .slice po pn pc, .int .i64 a, .slice no nn nc] 164)).alloc (.cells #[.int .i64 q.args, .int .i64 q.regs, .int .i64 q.data, .int .i64 q.slots, .slice qo qn qc, .int .i64 b, .slice mo mn mc] 164) := ⟨_, rfl⟩
  have r2 : Row A (w.heap.size + 1) 164 [.int .i64 q.args, .int .i64 q.regs, .int .i64 q.data, .int .i64 q.slots, .slice qo qn qc, .int .i64 b, .slice mo mn mc] := by subst hA; exact heap_alloc2_new w _ _
  have b0 : Below w.heap.size w A := by subst hA; exact ((Below.refl w.heap.size w).alloc (Nat.le_refl _) _).alloc (by simp) _
  have q1 := fun P' => (h1.keep b0).marked P'
  rw [hA] at q1
  unfold viewV at q1 ⊢
  have HR2 := Lib.hid r2
  have HB0 := Lib.hid b0
  have HP := Lib.hid hp
  have H2 := Lib.hid h2
  subst hA
  clear r2 b0 hp h1 h2
  go_enter Tryz.func156, Tryz.ntmps156
  go_wp2_with fail
  refine q1 _ ?_
  intro v w1 own1 b1
  obtain ⟨uo, uc, rfl⟩ := owns_slice own1
  have r2 := HR2.out.keep b1
  have b01 := HB0.out.trans (b1.mono HB0.out.size)
  have q2 := fun P' => (H2.out.keep b01).marked P'
  have c0 := r2.cell (i := 0) rfl
  have c1 := r2.cell (i := 1) rfl
  have c2 := r2.cell (i := 2) rfl
  have c3 := r2.cell (i := 3) rfl
  have c4 := r2.cell (i := 4) rfl
  have c5 := r2.cell (i := 5) rfl
  have c6 := r2.cell (i := 6) rfl
  have HO1 := Lib.hid own1
  unfold viewV at q2
  clear q1 HR2 HB0 r2 own1 b1
  go_wp2_with fail
  refine q2 _ ?_
  intro v2 w2 own2 b2
  obtain ⟨vo, vc, rfl⟩ := owns_slice own2
  have b02 := b01.trans (b2.mono b01.size)
  have hu := texts_rd (owns_below HO1.out b2 (Nat.le_refl _))
  have hv := texts_rd own2
  clear q2 HO1 own2 b2 b01 c0 c1 c2 c3 c4 c5 c6 H2
  generalize mksT p np a = l at *
  generalize mksT q nq b = m at *
  obtain ⟨uo', uc', e0, hul, hucs⟩ := hu
  simp only [Value.slice.injEq, true_and] at e0
  obtain ⟨rfl, rfl⟩ := e0
  obtain ⟨vo', vc', e0, hvl, hvcs⟩ := hv
  simp only [Value.slice.injEq, true_and] at e0
  obtain ⟨rfl, rfl⟩ := e0
  by_cases hlen : l.length = m.length
  · obtain ⟨n, hn⟩ : ∃ n, l.length = n := ⟨_, rfl⟩
    have hm : m.length = n := by rw [← hlen, hn]
    have HLEN := Lib.hid hlen
    have HN := Lib.hid hn
    rw [hn] at hucs hul ⊢
    rw [hm] at hvcs hvl ⊢
    clear hlen hn hm
    go_wp2
    go_loopw [7] (fun i wr => ∃ (k : Nat), k ≤ n ∧ i = .int .i64 k ∧ Below w2.heap.size w2 wr ∧ Hid (∀ j, j < k → l.getD j [] = m.getD j []))
      (fun i _ => n - (intOf i).toNat)
    case atStart => exact ⟨0, Nat.zero_le _, rfl, Below.refl _ _, fun j hj => by omega⟩
    case round =>
      obtain ⟨k, hk, rfl, hbel, hall⟩ := hrel
      by_cases hlt : k < n
      · obtain ⟨b, off, rfl, h1⟩ := hucs k hlt
        obtain ⟨b', off', rfl, h2⟩ := hvcs k hlt
        have g1 := cell_keep hbel h1
        have g2 := cell_keep hbel h2
        have hki : (k : Int) < (n : Int) := by omega
        have hbd := Lib.hid (fun d => below_drewN hbel d)
        have hbd2 := Lib.hid (fun d => below_drewN (b02.trans (hbel.mono b02.size)) d)
        clear h1 h2 hucs hvcs
        by_cases he : l.getD k [] = m.getD k []
        · have hq := (str_eq (l.getD k []) (m.getD k [])).2 he
          have hall2 : Hid (∀ j, j < k + 1 → l.getD j [] = m.getD j []) := fun j hj => by
            by_cases q : j = k
            · rw [q]; exact he
            · exact hall.out j (by omega)
          clear he hall
          generalize str (l.getD k []) = x at *
          generalize str (m.getD k []) = y at *
          go_wp2
          go_quiet (fail)
          go_wp2
          go_roundw
          case rel => exact ⟨k + 1, by omega, by go_num, hbd.out _, hall2⟩
          case measure => simp [intOf]; omega
        · have hq := str_ne he
          have HD : Hid (¬ l = m) := by
            intro q
            rw [q] at he
            exact he rfl
          clear he hall
          generalize str (l.getD k []) = x at *
          generalize str (m.getD k []) = y at *
          go_wp2
          go_quiet (fail)
          go_wp2
          exact HP.out false _ ⟨fun hq => (by cases hq), fun hA => absurd hA HD.out⟩ (hbd2.out _)
      · obtain rfl : k = n := by omega
        have HD : Hid (l = m) := by
          show l = m
          apply List.ext_getElem (by rw [HLEN.out])
          intro j h1 h2
          have := hall.out j (by rw [← HN.out]; exact h1)
          simpa [List.getD, h1, h2] using this
        have HF := Lib.hid (HP.out true _ ⟨fun _ => HD.out, fun _ => rfl⟩ (b02.trans (hbel.mono b02.size)))
        clear hucs hvcs hall hbel
        go_wp2
        exact HF.out
  · have hq : ((l.length : Int) == (m.length : Int)) = false := by simp; omega
    have HF := Lib.hid (HP.out false w2 ⟨fun hq => (by cases hq), fun hA => absurd (congrArg List.length hA) hlen⟩ b02)
    clear hucs hvcs hlen
    go_wp2
    exact HF.out

end Go.Proofs.YtblhmeidbjigaabGreatDoor

/- Package compare: lists of texts, how a block is left. -/
set_option linter.unusedSimpArgs false
set_option linter.unusedVariables false
namespace Go.Proofs.YtblhmeidbjigaabGreatDoor
open Go.RowKit

set_option maxRecDepth 100000 in
set_option maxHeartbeats 1000000 in
theorem vList_any (u v : Value) (l m : List (List UInt8)) (w : World) (hu : RdTexts w u l) (hv : RdTexts w v m) :
    Calls Tryz.prog 133 #[u, v] w fun e w' => e = .returned (.bool (decide (l = m))) ∧ Below w.heap.size w w' := by
  obtain ⟨uo, uc, rfl, hul, hucs⟩ := hu
  obtain ⟨vo, vc, rfl, hvl, hvcs⟩ := hv
  by_cases hlen : l.length = m.length
  · obtain ⟨n, hn⟩ : ∃ n, l.length = n := ⟨_, rfl⟩
    have hm : m.length = n := by rw [← hlen, hn]
    have HLEN := Lib.hid hlen
    have HN := Lib.hid hn
    rw [hn] at hucs hul ⊢
    rw [hm] at hvcs hvl ⊢
    clear hlen hn hm
    go_enter Tryz.func133, Tryz.ntmps133
    go_wp2
    go_loopw [5] (fun i wr => ∃ (k : Nat), k ≤ n ∧ i = .int .i64 k ∧ Below w.heap.size w wr ∧ Hid (∀ j, j < k → l.getD j [] = m.getD j []))
      (fun i _ => n - (intOf i).toNat)
    case atStart => exact ⟨0, Nat.zero_le _, rfl, Below.refl _ _, fun j hj => by omega⟩
    case round =>
      obtain ⟨k, hk, rfl, hbel, hall⟩ := hrel
      by_cases hlt : k < n
      · obtain ⟨b, off, rfl, h1⟩ := hucs k hlt
        obtain ⟨b', off', rfl, h2⟩ := hvcs k hlt
        have g1 := cell_keep hbel h1
        have g2 := cell_keep hbel h2
        have hki : (k : Int) < (n : Int) := by omega
        have hbd := Lib.hid (fun d => below_drewN hbel d)
        clear h1 h2 hucs hvcs
        by_cases he : l.getD k [] = m.getD k []
        · have hq := (str_eq (l.getD k []) (m.getD k [])).2 he
          have hall2 : Hid (∀ j, j < k + 1 → l.getD j [] = m.getD j []) := fun j hj => by
            by_cases q : j = k
            · rw [q]; exact he
            · exact hall.out j (by omega)
          clear he hall
          generalize str (l.getD k []) = x at *
          generalize str (m.getD k []) = y at *
          go_wp2
          go_quiet (fail)
          go_wp2
          go_roundw
          case rel => exact ⟨k + 1, by omega, by go_num, hbd.out _, hall2⟩
          case measure => simp [intOf]; omega
        · have hq := str_ne he
          have HD : Hid (decide (l = m) = false) := by
            show _ = _
            rw [decide_eq_false_iff_not]
            intro q
            rw [q] at he
            exact he rfl
          clear he hall
          generalize str (l.getD k []) = x at *
          generalize str (m.getD k []) = y at *
          go_wp2
          go_quiet (fail)
          go_wp2
          (try simp only [Exit.inBlock, Exit.then])
          refine bodyPost_ret (v := .bool false) ?_ rfl ?_
          · simp [results, Tryz.results133, go_sem]
          · exact ⟨by rw [HD.out], hbd.out _⟩
      · obtain rfl : k = n := by omega
        have HD : Hid (decide (l = m) = true) := by
          show _ = _
          rw [decide_eq_true_eq]
          apply List.ext_getElem (by rw [HLEN.out])
          intro j h1 h2
          have := hall.out j (by rw [← HN.out]; exact h1)
          simpa [List.getD, h1, h2] using this
        clear hucs hvcs hall
        go_wp2
        go_ret
        exact ⟨by rw [HD.out]; rfl, hbel⟩
  · have HD : Hid (decide (l = m) = false) := by
      show _ = _
      rw [decide_eq_false_iff_not]
      exact fun q => hlen (by rw [q])
    have hne : ((l.length : Int) == (m.length : Int)) = false := by simp; omega
    clear hucs hvcs hlen
    generalize l.length = a at *
    generalize m.length = b at *
    go_enter Tryz.func133, Tryz.ntmps133
    go_wp2
    go_ret
    exact ⟨by rw [HD.out]; rfl, Below.refl _ _⟩

set_option maxRecDepth 100000 in
set_option maxHeartbeats 1000000 in
theorem vSame_any (k n s k' n' s' : Int) (po qo : Option Addr) (pn pc qn qc : Nat) (x y : ByteArray) (w : World) :
    Calls Tryz.prog 134 #[.agg #[.int .i64 k, .int .i64 n, .slice po pn pc, .int .i64 s, .string x], .agg #[.int .i64 k', .int .i64 n', .slice qo qn qc, .int .i64 s', .string y]] w fun e w' => e = .returned (.bool (x.toList == y.toList)) ∧ Below w.heap.size w w' := by
  have hb : Below w.heap.size w ((w.alloc (.cells #[.int .i64 k, .int .i64 n, .slice po pn pc, .int .i64 s, .string x] 179)).alloc (.cells #[.int .i64 k', .int .i64 n', .slice qo qn qc, .int .i64 s', .string y] 179)) := ((Below.refl _ _).alloc (Nat.le_refl _) _).alloc (by simp) _
  go_enter Tryz.func134, Tryz.ntmps134
  go_wp2
  go_ret
  exact ⟨rfl, hb⟩

/-- How a block is left, as data. -/
structure ExD where
  kind : Int
  on : Option TD
  next : List Int

noncomputable def exitD (f : Int → TD) (e : EndD) : ExD :=
  if e.kind = 3 then ⟨3, some (f e.r), []⟩
  else if e.kind = 1 then ⟨1, none, [e.x]⟩
  else match (f e.r).isNum with
    | none => ⟨2, some (f e.r), [e.x, e.y]⟩
    | some n => if n = 0 then ⟨1, none, [e.y]⟩ else ⟨1, none, [e.x]⟩

def onText : Option TD → ByteArray
  | none => ⟨#[]⟩
  | some t => str (showT t)

/-- How a block is left, as a value. -/
def ExAt (B : Nat) (w : World) (v : Value) (ex : ExD) : Prop :=
  ∃ a b c po pn pc nv, v = .agg #[.int .i64 ex.kind, .int .i64 a, .int .i64 b, .slice po pn pc, .int .i64 c, .string (onText ex.on), nv] ∧ RdWords w nv ex.next ∧ ∀ o n c, nv = .slice (some o) n c → B ≤ o.block

theorem words_one {w : World} {g : Nat} {x : Int} (h : w.cell? ⟨g, 0, none⟩ = some (.int .i64 x)) : RdWords w (.slice (some ⟨g, 0, none⟩) 1 1) [x] := by
  refine ⟨_, _, rfl, by simp, fun i hi => ⟨g, 0, rfl, ?_⟩⟩
  have e : i = 0 := by simpa using hi
  subst e
  simpa using h

theorem words_two {w : World} {g : Nat} {x y : Int} (h : w.cell? ⟨g, 0, none⟩ = some (.int .i64 x)) (h' : w.cell? ⟨g, 1, none⟩ = some (.int .i64 y)) : RdWords w (.slice (some ⟨g, 0, none⟩) 2 2) [x, y] := by
  refine ⟨_, _, rfl, by simp, fun i hi => ⟨g, 0, rfl, ?_⟩⟩
  have hi' : i < 2 := by simpa using hi
  rcases Nat.lt_or_ge i 1 with q | q
  · obtain rfl : i = 0 := by omega
    simpa using h
  · obtain rfl : i = 1 := by omega
    simpa using h'

theorem words_nil (w : World) : RdWords w (.slice none 0 0) [] := ⟨_, _, rfl, by simp, fun i hi => by simp at hi⟩

end Go.Proofs.YtblhmeidbjigaabGreatDoor
