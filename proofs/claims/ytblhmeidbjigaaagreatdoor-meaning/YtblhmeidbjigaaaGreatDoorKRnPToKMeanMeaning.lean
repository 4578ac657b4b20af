/- Other names for registers: what is built. -/
import Derived.Test.YtblhmeidbjigaaaGreatDoorRows
import Derived.WalkKit
import Derived.WalkSpells
import Derived.WalkLawsBesides
import Derived.Laws.BytesArg
import Derived.Deep.QuietTactic
import Derived.BigQuiet
import Derived.Deep.RegionHeld3
import Derived.Deep.RegionLaw
import Derived.Deep.AppendLies
import Derived.Lib.ItoaNum
import Derived.Lib.ItoaLen
import Derived.OpenShut
import Derived.Maps.AppendAt
import Derived.StillTailTactics
import Derived.Shelf.Strconv.Itoa3
import Derived.Shelf.Lay
import Derived.Ground.NamesProg
import Derived.Lib.SmallJoins
import Derived.Lib.Hide
import Derived.ProofKit
import Derived.SizedLaws
import Derived.Deep.Slices
import Derived.BigRegion
import Derived.LaidMore
import Derived.Stop.Joined
import Derived.Stop.LaidErr
import Derived.Test.YtblhmeidbjigaaaGreatDoorTie
import Derived.Test.YtblhmeidbjigaaaGreatDoorCards
import Derived.SevenTiedAt
import Derived.ShutString
import Derived.ChangeOld
import Derived.Test.YtblhmeidbjigaaaGreatDoorKWholeToKSpPMeaning

set_option linter.unusedSimpArgs false
set_option linter.unusedVariables false
namespace Go.Proofs.YtblhmeidbjigaaaGreatDoor
open Go.RowKit

theorem blkCells_setR (bv : List (BlockD × Value)) (i : Nat) (hi : i < bv.length) (r : Int) :
    blkCells (bv.set i (⟨bv[i].1.ops, ⟨bv[i].1.fin.kind, r, bv[i].1.fin.x, bv[i].1.fin.y⟩⟩, bv[i].2)) = (blkCells bv).set (i * 5 + 2) (.int .i64 r) := by
  induction bv generalizing i with
  | nil => simp at hi
  | cons p q ih =>
    cases i with
    | zero => rfl
    | succ i =>
      have h := ih i (by simpa using hi)
      have e1 : (i + 1) * 5 + 2 = i * 5 + 2 + 1 + 1 + 1 + 1 + 1 := by omega
      rw [e1]
      show [_, _, _, _, _] ++ blkCells (q.set i _) = [_, _, _, _, _] ++ (blkCells q).set (i * 5 + 2) _
      rw [← h]
      rfl

theorem OwnBlocks.setR {w : World} {base b n cap : Nat} {bv : List (BlockD × Value)} (h : OwnBlocks w base (.slice (some ⟨b, 0, none⟩) n cap) bv) {i : Nat} (hi : i < bv.length) (r : Int) :
    OwnBlocks (w.setCell ⟨b, i * 5 + 2, none⟩ (.int .i64 r)) base (.slice (some ⟨b, 0, none⟩) n cap) (bv.set i (⟨bv[i].1.ops, ⟨bv[i].1.fin.kind, r, bv[i].1.fin.x, bv[i].1.fin.y⟩⟩, bv[i].2)) := by
  have hl := blkCells_length bv
  have key : ∀ {v : Value} {m : Nat} {ys : List Value}, w.ownsRow base 77 4 v m ys → v.ownBlock ≠ some b := fun hv e => owns_apart h.row hv (by decide) b rfl e
  refine ⟨?_, ?_, ?_⟩
  · rw [blkCells_setR bv i hi, List.length_set]
    exact owns_set h.row rfl (by omega) _
  · intro y hy
    rcases List.mem_or_eq_of_mem_set hy with hy | rfl
    · exact owns_unset (h.each y hy) (key (h.each y hy)) _
    · have hx := h.each _ (List.getElem_mem hi)
      exact owns_unset hx (key hx) _
  · rw [List.pairwise_iff_getElem]
    intro p q hp hq hpq g hg
    have hp' : p < bv.length := by simpa using hp
    have hq' : q < bv.length := by simpa using hq
    have ap := List.pairwise_iff_getElem.1 h.apart p q hp' hq' hpq
    rw [List.getElem_set] at hg ⊢
    split at hg
    · rename_i e
      rw [if_neg (by omega)]
      subst e
      exact ap g hg
    · split
      · rename_i e; subst e; exact ap g hg
      · exact ap g hg

end Go.Proofs.YtblhmeidbjigaaaGreatDoor

/- Term in package compute, and in package twin. -/
set_option linter.unusedSimpArgs false
set_option linter.unusedVariables false
namespace Go.Proofs.YtblhmeidbjigaaaGreatDoor
open Go.RowKit

set_option maxRecDepth 100000 in
set_option maxHeartbeats 1000000 in
theorem cHas_any (a r d s : Int) (bo : Option Addr) (bn bc : Nat) (block : Int) (w : World) :
    Calls Tryz.prog 66 #[.agg #[.int .i64 a, .int .i64 r, .int .i64 d, .int .i64 s, .slice bo bn bc], .int .i64 block] w fun e w' => e = .returned (.bool (decide (0 ≤ block) && decide (block < bn))) ∧ Below w.heap.size w w' := by
  have b0 : Below w.heap.size w (w.alloc (.cells #[.int .i64 a, .int .i64 r, .int .i64 d, .int .i64 s, .slice bo bn bc] 33)) := (Below.refl _ _).alloc (Nat.le_refl _) _
  have HB := Lib.hid b0
  clear b0
  by_cases h1 : 0 ≤ block
  · by_cases h2 : block < bn
    · have hd := Lib.hid (show (decide (0 ≤ block) && decide (block < bn)) = true by simp [h1, h2])
      go_enter Tryz.func66, Tryz.ntmps66
      go_wp2
      go_ret
      exact ⟨by first | (rw [hd.out]; rfl) | rfl | (simp [h1]; done) | (simp [h1]; omega) | (simp; omega), HB.out⟩
    · have hd := Lib.hid (show (decide (0 ≤ block) && decide (block < bn)) = false by simp [h2])
      go_enter Tryz.func66, Tryz.ntmps66
      go_wp2
      go_ret
      exact ⟨by first | (rw [hd.out]; rfl) | rfl | (simp [h1]; done) | (simp [h1]; omega) | (simp; omega), HB.out⟩
  · have hd := Lib.hid (show (decide (0 ≤ block) && decide (block < bn)) = false by simp [h1])
    go_enter Tryz.func66, Tryz.ntmps66
    go_wp2
    go_ret
    exact ⟨by first | (rw [hd.out]; rfl) | rfl | (simp [h1]; done) | (simp [h1]; omega) | (simp; omega), HB.out⟩

set_option maxRecDepth 100000 in
set_option maxHeartbeats 4000000 in
theorem cTermOf_any (s : ByteArray) (block place : Int) (w : World) (hs : s.size ≤ maxLen) (htab : TabW w) :
    Calls Tryz.prog 33 #[.string s, .int .i64 block, .int .i64 place] w fun e w' => ∃ t er, e = .returned (.tuple #[.string (str t), .int .i64 er]) ∧ TermAns s block place t er ∧ Below w.heap.size w w' := by
  have hc := cDecode_any s w hs
  go_enter Tryz.func33, Tryz.ntmps33
  go_wp2_with fail
  refine hc.mono ?_
  clear hc
  rintro e w1 ⟨hor, hb1⟩
  rcases hor with ⟨p, v, bv, rfl, ho, hd, hg, ht⟩ | ⟨hn, rfl⟩
  · obtain ⟨bo, bc, rfl⟩ := owns_slice ho.row
    have hlen : bv.length = p.blocks.length := by rw [← hd, bdat_length]
    have hrd0 := ho.rd
    rw [hd] at hrd0
    rw [hlen] at hrd0 ⊢
    obtain ⟨hr, hargs, hdata, hsl⟩ := good_shape hg
    have hb2 : Below w.heap.size w (w1.alloc (.cells #[.int .i64 p.args, .int .i64 p.regs, .int .i64 p.data, .int .i64 p.slots, .slice bo p.blocks.length bc] 33)) := hb1.alloc hb1.size _
    have hb12 : Below w1.heap.size w1 (w1.alloc (.cells #[.int .i64 p.args, .int .i64 p.regs, .int .i64 p.data, .int .i64 p.slots, .slice bo p.blocks.length bc] 33)) := (Below.refl _ _).alloc (Nat.le_refl _) _
    have hrd2 := hrd0.keep hb12
    have r : Row (w1.alloc (.cells #[.int .i64 p.args, .int .i64 p.regs, .int .i64 p.data, .int .i64 p.slots, .slice bo p.blocks.length bc] 33)) w1.heap.size 33 [.int .i64 p.args, .int .i64 p.regs, .int .i64 p.data, .int .i64 p.slots, .slice bo p.blocks.length bc] := heap_alloc_new w1 _
    have q1 := cHas_any p.args p.regs p.data p.slots bo p.blocks.length bc block (w1.alloc (.cells #[.int .i64 p.args, .int .i64 p.regs, .int .i64 p.data, .int .i64 p.slots, .slice bo p.blocks.length bc] 33))
    have hll := progGood_len hg
    have hadd : IntKind.i64.wrap (p.regs + p.slots) = p.regs + p.slots := by rw [IntKind.wrap_i64]; omega
    unfold progV
    clear ho hd hrd0 hb1 hb12 hlen
    go_wp2_with fail
    refine q1.mono ?_
    rintro e w2 ⟨rfl, b2⟩
    have r2 := r.keep b2
    have hrd3 := hrd2.keep b2
    have hb3 : Below w.heap.size w w2 := hb2.trans (b2.mono hb2.size)
    have p0 := r2.cell (i := 0) rfl
    have p1 := r2.cell (i := 1) rfl
    have p2 := r2.cell (i := 2) rfl
    have p3 := r2.cell (i := 3) rfl
    have p4 := r2.cell (i := 4) rfl
    clear q1 b2 r hrd2 hb2
    by_cases hall : 0 ≤ block ∧ block < p.blocks.length ∧ 0 ≤ place ∧ place ≤ p.regs + p.slots
    · obtain ⟨ha1, ha2, ha3, ha4⟩ := id hall
      obtain ⟨b, rfl⟩ := Int.eq_ofNat_of_zero_le ha1
      obtain ⟨pl, rfl⟩ := Int.eq_ofNat_of_zero_le ha3
      obtain ⟨n, hn⟩ := Int.eq_ofNat_of_zero_le (show 0 ≤ p.regs + p.slots by omega)
      have hbn : b < p.blocks.length := by omega
      have hdec : (decide ((0 : Int) ≤ (b : Int)) && decide ((b : Int) < (p.blocks.length : Int))) = true := by simp; omega
      rw [hdec]
      have hq3 : ¬ ((pl : Int) < 0) := by omega
      have hq4 : ¬ (p.regs + p.slots < (pl : Int)) := by omega
      have HALL := Lib.hid hall
      have HN := Lib.hid hn
      have qb := fun P' => cBlock_cps p (.slice bo p.blocks.length bc) b n hn.symm hg hbn w2 hrd3 (htab.keep hb3) P'
      unfold progV at qb
      clear hall hdec hn
      go_wp2_with fail
      refine qb _ ?_ ?_
      · intro hbig v w3 f c ms hv b3
        obtain ⟨B, Lo, P, cap, ps, pc, mv, hB, rfl, hS⟩ := hv
        have HX : Hid (TermAns s b pl [] 5) := .inr ⟨p, hg, ht, .inr ⟨HALL.out, .inl ⟨rfl, rfl, by simpa using hbig⟩⟩⟩
        have HB : Hid (Below w.heap.size w (w3.alloc (.cells #[.slice (some ⟨P, 0, none⟩) n cap, .int .i64 (ckind c), .int .i64 (cval c), pc, .int .i64 c.size, .string (str (showT c)), mv, .bool true, .int .i64 p.regs, .int .i64 p.data] 121))) := (hb3.trans (b3.mono hb3.size)).alloc (Nat.le_trans hb3.size b3.size) _
        obtain ⟨co, cn, cc, rfl⟩ := hS.pc.slice
        obtain ⟨mo, mc, rfl⟩ := owns_slice hS.mrk
        unfold stV
        clear hbig hS hb3 b3 qb r2 hrd3
        go_wp2
        go_ret2
        exact ⟨[], 5, rfl, HX.out, HB.out⟩
      · intro hbig v w3 hv b3
        obtain ⟨B, Lo, P, cap, ps, pc, mv, hB, rfl, hS⟩ := hv
        obtain ⟨co, cn, cc, rfl⟩ := hS.pc.slice
        obtain ⟨mo, mc, hmv⟩ := owns_slice hS.mrk
        subst hmv
        have HX : Hid (∀ t, behindT p.regs p.slots (plainNames p.regs p.slots) (bops p.blocks b) (bops p.blocks b).length (pl : Int) = t → TermAns s b pl (showT t) 0) := fun t e => by
          subst e
          exact .inr ⟨p, hg, ht, .inr ⟨HALL.out, .inr ⟨rfl, by simpa using hbig, by simp⟩⟩⟩
        obtain ⟨c, hc⟩ : ∃ c, behindT p.regs p.slots (plainNames p.regs p.slots) (bops p.blocks b) (bops p.blocks b).length (n : Int) = c := ⟨_, rfl⟩
        have HC := Lib.hid hc
        obtain ⟨mn, hmn⟩ : ∃ mn, mn = (marksT p.regs p.slots p.data (plainNames p.regs p.slots) (bops p.blocks b) (bops p.blocks b).length).length := ⟨_, rfl⟩
        rw [← hmn]
        unfold stV
        rw [hc]
        have b4 : Below w3.heap.size w3 (w3.alloc (.cells #[.slice (some ⟨P, 0, none⟩) n cap, .int .i64 (ckind c), .int .i64 (cval c), .slice co cn cc, .int .i64 c.size, .string (str (showT c)), .slice mo mn mc, .bool false, .int .i64 p.regs, .int .i64 p.data] 121)) := (Below.refl _ _).alloc (Nat.le_refl _) _
        have r4 : Row (w3.alloc (.cells #[.slice (some ⟨P, 0, none⟩) n cap, .int .i64 (ckind c), .int .i64 (cval c), .slice co cn cc, .int .i64 c.size, .string (str (showT c)), .slice mo mn mc, .bool false, .int .i64 p.regs, .int .i64 p.data] 121)) w3.heap.size 121 [.slice (some ⟨P, 0, none⟩) n cap, .int .i64 (ckind c), .int .i64 (cval c), .slice co cn cc, .int .i64 c.size, .string (str (showT c)), .slice mo mn mc, .bool false, .int .i64 p.regs, .int .i64 p.data] := heap_alloc_new w3 _
        have hb4 : Below w.heap.size w (w3.alloc (.cells #[.slice (some ⟨P, 0, none⟩) n cap, .int .i64 (ckind c), .int .i64 (cval c), .slice co cn cc, .int .i64 c.size, .string (str (showT c)), .slice mo mn mc, .bool false, .int .i64 p.regs, .int .i64 p.data] 121)) := (hb3.trans (b3.mono hb3.size)).alloc (Nat.le_trans hb3.size b3.size) _
        have ro4 := (r2.keep b3).keep b4
        have hS4 := hS.next b4
        obtain ⟨W, hW⟩ : ∃ W, W = w3.alloc (.cells #[.slice (some ⟨P, 0, none⟩) n cap, .int .i64 (ckind c), .int .i64 (cval c), .slice co cn cc, .int .i64 c.size, .string (str (showT c)), .slice mo mn mc, .bool false, .int .i64 p.regs, .int .i64 p.data] 121) := ⟨_, rfl⟩
        obtain ⟨D, hD⟩ : ∃ D, D = w3.heap.size := ⟨_, rfl⟩
        have r4' := r4
        rw [← hW, ← hD] at r4'
        rw [← hW] at ro4 hb4 hS4
        have HWE := Lib.hid hW
        have HDE := Lib.hid hD
        have e0 := r4.cell (i := 7) rfl
        have pp1 := ro4.cell (i := 1) rfl
        have pp3 := ro4.cell (i := 3) rfl
        rw [hW] at pp1 pp3
        by_cases hpe : pl = n
        · have hpe' : (pl : Int) = p.regs + p.slots := by rw [HN.out, hpe]
          have qt := cText_any (ckind c) (cval c) c.size (.slice co cn cc) (str (showT c)) W
          have s0 := r4'.cell (i := 1) rfl
          have s1 := r4'.cell (i := 2) rfl
          have s2 := r4'.cell (i := 3) rfl
          have s3 := r4'.cell (i := 4) rfl
          have s4 := r4'.cell (i := 5) rfl
          rw [hW] at qt
          rw [hW, hD] at s0 s1 s2 s3 s4
          have HB := Lib.hid hb4
          have HT := Lib.hid (HX.out c (by rw [hpe]; exact HC.out))
          have heq : ((pl : Int) == p.regs + p.slots) = true := by simp [hpe']
          have HH := Lib.hid hpe'
          clear hpe hpe' hc hmn hbig hS hS4 b4 r4 r4' ro4 hb4 hW hD qb r2 hrd3 HX HC
          go_wp2_with fail
          refine qt.mono ?_
          rintro e w5 ⟨rfl, b5⟩
          rw [← HWE.out] at b5
          have HB5 := Lib.hid (HB.out.trans (b5.mono HB.out.size))
          clear qt b5
          generalize showT c = T at *
          go_wp2
          go_ret2
          exact ⟨T, 0, rfl, HT.out, HB5.out⟩
        · have hlt : pl < n := by have := HN.out; omega
          obtain ⟨t, htt⟩ : ∃ t, behindT p.regs p.slots (plainNames p.regs p.slots) (bops p.blocks b) (bops p.blocks b).length (pl : Int) = t := ⟨_, rfl⟩
          obtain ⟨to, tn, tc, hpt⟩ := (hS4.parts pl hlt).slice
          have plc : ∀ j u, (tcells t (.slice to tn tc))[j]? = some u → W.cell? ⟨P, pl * 5 + j, none⟩ = some u := fun j u hj => hS4.pl.cell hlt (by rw [hpt]; simp only [htt]; exact hj)
          have qt := cText_any (ckind t) (cval t) t.size (.slice to tn tc) (str (showT t)) W
          have s0 := plc 0 _ rfl
          have s1 := plc 1 _ rfl
          have s2 := plc 2 _ rfl
          have s3 := plc 3 _ rfl
          have s4 := plc 4 _ rfl
          rw [Nat.add_zero] at s0
          have e1 := r4.cell (i := 0) rfl
          rw [hW] at qt s0 s1 s2 s3 s4
          have HB := Lib.hid hb4
          have HT := Lib.hid (HX.out t htt)
          have heq : ((pl : Int) == p.regs + p.slots) = false := by
            have := HN.out
            simp only [beq_eq_false_iff_ne]
            omega
          have hpi : (0 : Int) ≤ (pl : Int) := by omega
          have hpj : (pl : Int) < (n : Int) := by omega
          clear hpe hc hmn hbig hS hS4 b4 r4 r4' ro4 hb4 hW hD qb r2 hrd3 HX HC plc htt hpt
          go_wp2_with fail
          refine qt.mono ?_
          rintro e w5 ⟨rfl, b5⟩
          rw [← HWE.out] at b5
          have HB5 := Lib.hid (HB.out.trans (b5.mono HB.out.size))
          clear qt b5
          generalize showT t = T at *
          go_wp2
          go_ret2
          exact ⟨T, 0, rfl, HT.out, HB5.out⟩
    · have HX : Hid (TermAns s block place [] 4) := .inr ⟨p, hg, ht, .inl ⟨rfl, rfl, hall⟩⟩
      have HB := Lib.hid hb3
      clear hb3 hrd3 r2
      by_cases hblk : 0 ≤ block ∧ block < p.blocks.length
      · have hdec : (decide (0 ≤ block) && decide (block < (p.blocks.length : Int))) = true := by simp; exact hblk
        rw [hdec]
        by_cases h3 : place < 0
        · clear hall hblk hdec
          go_wp2
          go_ret2
          exact ⟨[], 4, rfl, HX.out, HB.out⟩
        · have h4 : p.regs + p.slots < place := by omega
          clear hall hblk hdec
          go_wp2
          go_ret2
          exact ⟨[], 4, rfl, HX.out, HB.out⟩
      · have hdec : (decide (0 ≤ block) && decide (block < (p.blocks.length : Int))) = false := by
          rw [Bool.and_eq_false_iff]
          by_cases q : 0 ≤ block
          · exact .inr (by simp; omega)
          · exact .inl (by simp; omega)
        rw [hdec]
        clear hall hblk hdec
        go_wp2
        go_ret2
        exact ⟨[], 4, rfl, HX.out, HB.out⟩
  · have HX : Hid (TermAns s block place [] 1) := .inl ⟨rfl, rfl, hn⟩
    have HB : Hid (Below w.heap.size w (w1.alloc (.cells #[.int .i64 0, .int .i64 0, .int .i64 0, .int .i64 0, .slice none 0 0] 33))) := hb1.alloc hb1.size _
    clear hb1 hn
    go_wp2
    go_ret2
    exact ⟨[], 1, rfl, HX.out, HB.out⟩

end Go.Proofs.YtblhmeidbjigaaaGreatDoor

/- For every text, block and place the law Terms returns true: Term answers what the document's own Term answers, and the input reads as it did. No condition but that the tables which the program lists hold what its text lays in them (the card's tie pays it). -/
set_option linter.unusedSimpArgs false
set_option linter.unusedVariables false
namespace Go.Proofs.YtblhmeidbjigaaaGreatDoor
open Go.ChangeShapes Go.WideShapes Go.ChangeAt Go.WideMaps Go.WideElems Go.RowKit
open Go.ChangeMaps (open_string shut_string)

set_option maxRecDepth 100000 in
set_option maxHeartbeats 1000000 in
theorem tTerm_any (s : ByteArray) (block place : Int) (w : World) (hs : s.size ≤ maxLen) (htab : TabW w) :
    Calls Tryz.prog 10 #[.string s, .int .i64 block, .int .i64 place] w fun e w' => ∃ t er, e = .returned (.tuple #[.string (str t), .int .i64 er]) ∧ TermAns s block place t er ∧ Below w.heap.size w w' := by
  have hc := cTermOf_any s block place w hs htab
  go_enter Tryz.func10, Tryz.ntmps10
  go_wp2_with fail
  refine hc.mono ?_
  rintro e w1 ⟨t, er, rfl, ha, hb⟩
  have HA := Lib.hid ha
  have HB := Lib.hid hb
  clear hc ha hb
  generalize hT : str t = T
  go_wp2
  go_ret2
  exact ⟨t, er, by subst hT; rfl, HA.out, HB.out⟩

end Go.Proofs.YtblhmeidbjigaaaGreatDoor

/- twinkeep.Sound: what is taken for twins ends alike. -/
set_option linter.unusedSimpArgs false
set_option linter.unusedVariables false
namespace Go.Proofs.YtblhmeidbjigaaaGreatDoor
open Go.RowKit

theorem padTo_wide {l : List Int} (h : Wide l) (n : Nat) : ∀ x ∈ padTo l n, W64 x := by
  intro x hx
  simp only [padTo, List.mem_map, List.mem_range] at hx
  obtain ⟨i, _, rfl⟩ := hx
  by_cases hi : i < l.length
  · exact h _ (getD_mem' hi)
  · have e : l.getD i 0 = 0 := by simp [List.getD, hi]
    rw [e]
    exact w64_small (by omega)

end Go.Proofs.YtblhmeidbjigaaaGreatDoor

/- twinkeep.leaks, twinkeep.Quiet: what is taken for twins lets out alike. -/
set_option linter.unusedSimpArgs false
set_option linter.unusedVariables false
namespace Go.Proofs.YtblhmeidbjigaaaGreatDoor
open Go.RowKit

set_option maxRecDepth 100000 in
set_option maxHeartbeats 1000000 in
theorem kSameInts_two (u v : Value) (l m : List Int) (w : World) (hu : RdWords w u l) (hv : RdWords w v m) :
    Calls Tryz.prog 22 #[u, v] w fun e w' => e = .returned (.bool (decide (l = m))) ∧ Below w.heap.size w w' := by
  obtain ⟨uo, uc, rfl, hul, hucs⟩ := hu
  obtain ⟨vo, vc, rfl, hvl, hvcs⟩ := hv
  by_cases hlen : l.length = m.length
  · obtain ⟨n, hn⟩ : ∃ n, l.length = n := ⟨_, rfl⟩
    have hm : m.length = n := by rw [← hlen, hn]
    have HLEN := Lib.hid hlen
    have HN := Lib.hid hn
    rw [hn] at hucs hul ⊢
    rw [hm] at hvcs hvl ⊢
    clear hlen hn hm
    go_enter Tryz.func22, Tryz.ntmps22
    go_wp2
    go_loopw [5] (fun i wr => ∃ (k : Nat), k ≤ n ∧ i = .int .i64 k ∧ Below w.heap.size w wr ∧ Hid (∀ j, j < k → l.getD j 0 = m.getD j 0))
      (fun i _ => n - (intOf i).toNat)
    case atStart => exact ⟨0, Nat.zero_le _, rfl, Below.refl _ _, fun j hj => by omega⟩
    case round =>
      obtain ⟨k, hk, rfl, hbel, hall⟩ := hrel
      by_cases hlt : k < n
      · obtain ⟨b, off, rfl, h1⟩ := hucs k hlt
        obtain ⟨b', off', rfl, h2⟩ := hvcs k hlt
        have g1 := cell_keep hbel h1
        have g2 := cell_keep hbel h2
        have hki : (k : Int) < (n : Int) := by omega
        have hbd := Lib.hid (fun d => below_drewN hbel d)
        clear h1 h2 hucs hvcs
        by_cases he : l.getD k 0 = m.getD k 0
        · have hq : (l.getD k 0 != m.getD k 0) = false := by simpa using he
          have hall2 : Hid (∀ j, j < k + 1 → l.getD j 0 = m.getD j 0) := fun j hj => by
            by_cases q : j = k
            · rw [q]; exact he
            · exact hall.out j (by omega)
          clear he hall
          generalize l.getD k 0 = x at *
          generalize m.getD k 0 = y at *
          go_wp2
          go_quiet (fail)
          go_wp2
          go_roundw
          case rel => exact ⟨k + 1, by omega, by go_num, hbd.out _, hall2⟩
          case measure => simp [intOf]; omega
        · have hq : (l.getD k 0 != m.getD k 0) = true := by simpa using he
          have HD : Hid (decide (l = m) = false) := by
            show _ = _
            rw [decide_eq_false_iff_not]
            intro q
            rw [q] at he
            exact he rfl
          clear he hall
          generalize l.getD k 0 = x at *
          generalize m.getD k 0 = y at *
          go_wp2
          go_quiet (fail)
          go_wp2
          (try simp only [Exit.inBlock, Exit.then])
          refine bodyPost_ret (v := .bool false) ?_ rfl ?_
          · simp [results, Tryz.results22, go_sem]
          · exact ⟨by rw [HD.out], hbd.out _⟩
      · obtain rfl : k = n := by omega
        have HD : Hid (decide (l = m) = true) := by
          show _ = _
          rw [decide_eq_true_eq]
          apply List.ext_getElem (by rw [HLEN.out])
          intro j h1 h2
          have := hall.out j (by rw [← HN.out]; exact h1)
          simpa [List.getD, h1, h2] using this
        clear hucs hvcs hall
        go_wp2
        go_ret
        exact ⟨by rw [HD.out]; rfl, hbel⟩
  · have hq : ((l.length : Int) == (m.length : Int)) = false := by simp; omega
    have HD : Hid (decide (l = m) = false) := by
      show _ = _
      rw [decide_eq_false_iff_not]
      intro q; exact hlen (by rw [q])
    clear hucs hvcs hlen
    go_enter Tryz.func22, Tryz.ntmps22
    go_wp2
    go_ret
    exact ⟨by rw [HD.out]; rfl, Below.refl _ _⟩

end Go.Proofs.YtblhmeidbjigaaaGreatDoor

/- A program of one block in memory; what Run, Term and Marks answer there, pure. -/
set_option linter.unusedSimpArgs false
set_option linter.unusedVariables false
namespace Go.Proofs.YtblhmeidbjigaaaGreatDoor
open Go.RowKit Go.Deep

theorem one_good {R D S : Nat} {ops : List OpD} {er : Int} (hR : 1 ≤ R ∧ R ≤ 8) (hD : D ≤ 8) (hS : S ≤ 8) (hl : ops.length ≤ 12) (hg : opsGood R S ops = true) (her : 0 ≤ er ∧ er < R) : progGood (oneP R D S ops er) = true := by
  simp only [progGood, oneP, Bool.and_eq_true, decide_eq_true_eq]
  refine ⟨⟨⟨⟨⟨decide_eq_true (by show 1 ≤ (R : Int) ∧ (R : Int) ≤ 8; omega), decide_eq_true (by show 0 ≤ (R : Int) ∧ (R : Int) ≤ (R : Int); omega)⟩, decide_eq_true (by show 0 ≤ (D : Int) ∧ (D : Int) ≤ 8; omega)⟩, decide_eq_true (by show 0 ≤ (S : Int) ∧ (S : Int) ≤ 8; omega)⟩, by simp⟩, ?_⟩
  simp only [blocksGood, List.all_cons, List.all_nil, Bool.and_true, blockGood, Bool.and_eq_true, decide_eq_true_eq]
  refine ⟨⟨hl, hg⟩, ?_⟩
  simp only [endGood, below, Bool.and_eq_true, decide_eq_true_eq]
  simp
  omega

theorem runO {p : ProgD} (hg : progGood p = true) {args mem spill : List Int} (hf : fits p args mem spill) {o : OutD} {e : Int} (h : RunAns (str (progText p)) args mem spill 1 o e) : e = 0 ∧ o = runN p.blocks 1 0 (begins p args mem spill) := by
  have h2 : RunAns (str (progText p)) args mem spill 1 (runN p.blocks 1 0 (begins p args mem spill)) 0 := .inr ⟨p, hg, rfl, .inr (.inr ⟨rfl, hf, by omega, rfl⟩)⟩
  obtain ⟨h3, h4⟩ := h.one h2
  exact ⟨h4, h3⟩

theorem termO {R D S : Nat} {ops : List OpD} {er : Int} (hg : progGood (oneP R D S ops er) = true) {place : Int} (hp : 0 ≤ place ∧ place ≤ (R : Int) + S) {t : List UInt8} {e : Int} (h : TermAns (str (progText (oneP R D S ops er))) 0 place t e) :
    (e = 5 ∧ bigT R S (plainNames R S) ops = true) ∨ (e = 0 ∧ bigT R S (plainNames R S) ops = false ∧ t = showT (behindT R S (plainNames R S) ops ops.length place)) := by
  have hr : 0 ≤ (0 : Int) ∧ (0 : Int) < (oneP R D S ops er).blocks.length ∧ 0 ≤ place ∧ place ≤ (oneP R D S ops er).regs + (oneP R D S ops er).slots := ⟨by omega, by simp [oneP], hp.1, hp.2⟩
  by_cases hb : bigT R S (plainNames R S) ops = true
  · have h2 : TermAns (str (progText (oneP R D S ops er))) 0 place [] 5 := .inr ⟨_, hg, rfl, .inr ⟨hr, .inl ⟨rfl, rfl, hb⟩⟩⟩
    exact .inl ⟨(h.one h2).2, hb⟩
  · rw [Bool.not_eq_true] at hb
    have h2 : TermAns (str (progText (oneP R D S ops er))) 0 place (showT (behindT R S (plainNames R S) ops ops.length place)) 0 := .inr ⟨_, hg, rfl, .inr ⟨hr, .inr ⟨rfl, hb, rfl⟩⟩⟩
    obtain ⟨h3, h4⟩ := h.one h2
    exact .inr ⟨h4, hb, h3⟩

/-- The program q of one block, boxed at Qb. -/
structure MnSt (w V : World) (Qb g R D S : Nat) (ops : List OpD) (ov : Value) (er : Int) : Prop where
  row : Row V Qb 33 [.int .i64 R, .int .i64 R, .int .i64 D, .int .i64 S, .slice (some ⟨g, 0, none⟩) 1 1]
  own : OwnBlocks V w.heap.size (.slice (some ⟨g, 0, none⟩) 1 1) [(⟨ops, ⟨3, er, 0, 0⟩⟩, ov)]
  below : Below w.heap.size w V
  low : g < Qb

theorem MnSt.keep {w V V' : World} {Qb g R D S : Nat} {ops : List OpD} {ov : Value} {er : Int} (h : MnSt w V Qb g R D S ops ov er) (hb : Below V.heap.size V V') : MnSt w V' Qb g R D S ops ov er :=
  ⟨h.row.keep hb, h.own.below hb (Nat.le_refl _), h.below.trans (hb.mono h.below.size), h.low⟩

theorem MnSt.set {w V : World} {Qb g R D S : Nat} {ops : List OpD} {ov : Value} {er : Int} (h : MnSt w V Qb g R D S ops ov er) (r : Int) : MnSt w (V.setCell ⟨g, 2, none⟩ (.int .i64 r)) Qb g R D S ops ov r := by
  have hl := h.low
  exact ⟨h.row.unset (a := ⟨g, 2, none⟩) (by show Qb ≠ g; omega) _, h.own.setR (i := 0) (by simp) r, h.below.setCell (p := ⟨g, 2, none⟩) ((h.own.row.lt g rfl).1) _, h.low⟩

theorem MnSt.rd {w V : World} {Qb g R D S : Nat} {ops : List OpD} {ov : Value} {er : Int} (h : MnSt w V Qb g R D S ops ov er) : RdBlocks V (.slice (some ⟨g, 0, none⟩) 1 1) [⟨ops, ⟨3, er, 0, 0⟩⟩] := OwnBlocks.rd h.own

theorem MnSt.cells {w V : World} {Qb g R D S : Nat} {ops : List OpD} {ov : Value} {er : Int} (h : MnSt w V Qb g R D S ops ov er) : V.cell? ⟨g, 0, none⟩ = some ov ∧ V.cell? ⟨g, 2, none⟩ = some (.int .i64 er) ∧ V.frozen? ⟨g, 2, none⟩ = false := by
  obtain ⟨b, e, _, c0, _, c2, _, _, cf⟩ := ownBlocks_at h.own (i := 0) (by simp)
  simp only [Option.some.injEq, Addr.mk.injEq, and_true] at e
  subst e
  exact ⟨by simpa using c0, by simpa using c2, cf 2⟩

theorem show_ne (t : TD) (h : t.fine) : showT t ≠ [] := by
  cases t with
  | leaf k n =>
    simp only [showT]
    repeat' split
    · intro e
      by_cases h0 : 0 ≤ n
      · obtain ⟨u, rfl⟩ := Int.eq_ofNat_of_zero_le h0
        rw [Lib.itoa_nonneg] at e
        exact decDigits_ne u e
      · obtain ⟨u, hu⟩ : ∃ u : Nat, n = -(u : Int) := ⟨(-n).toNat, by omega⟩
        subst hu
        rw [Lib.itoa_neg u (by omega)] at e
        cases e
    all_goals simp
  | two k a b => simp [showT]
  | three k a b c => simp [showT]

theorem strO_size (l : List UInt8) : (str l).size = l.length := by simp [str, ByteArray.size]

theorem rdO_away {V V' : World} {Rb : Nat} (hlt : V.heap.size ≤ Rb) (hb : Below V.heap.size V V') {V2 : World} (hk : Keep (fun g => g = Rb) V' V2) : Below V.heap.size V V2 :=
  hb.trans (hk.toBelow hb.size (fun g hg => by rw [hg]; exact hlt))

end Go.Proofs.YtblhmeidbjigaaaGreatDoor

/- twinkeep.Meaning: what Term tells, worked out, is what a run leaves. -/
set_option linter.unusedSimpArgs false
set_option linter.unusedVariables false
namespace Go.Proofs.YtblhmeidbjigaaaGreatDoor
open Go.RowKit Go.Deep

theorem strO_list (l : List UInt8) : (str l).toList = l := by unfold str; rw [ByteArray.toList_mk]

set_option maxRecDepth 100000 in
set_option maxHeartbeats 2000000 in
theorem meaning_cps (ao : Option Addr) (rn cap : Nat) (va vm vs : Value) (la lm ls : List Int) (reg : Int) (w : World) (hraw : RdInts w (.slice ao rn cap) rn) (htab : TabW w) (ha : RdWords w va la) (hm : RdWords w vm lm) (hs : RdWords w vs ls) (wa : Wide la) (wm : Wide lm) (ws : Wide ls) (hreg : -9223372036854775808 ≤ reg ∧ reg ≤ 9223372036854775807) (Post : Ending → World → Prop)
    (hp : ∀ w', Below w.heap.size w w' → Post (.returned (.bool true)) w') :
    Calls Tryz.prog 5 #[.slice ao rn cap, va, vm, vs, .int .i64 reg] w Post := by
  obtain ⟨o1, c1, rfl, _, _⟩ := id ha
  obtain ⟨o2, c2, rfl, _, _⟩ := id hm
  obtain ⟨o3, c3, rfl, _, _⟩ := id hs
  have q1 := fun P' => single_cps ao rn cap w hraw P'
  have HP := Lib.hid hp
  have HA := Lib.hid ha
  have HM := Lib.hid hm
  have HS := Lib.hid hs
  have HTB := Lib.hid htab
  have WA := Lib.hid (padTo_wide wa)
  have WM := Lib.hid (padTo_wide wm)
  have WS := Lib.hid (padTo_wide ws)
  clear hp ha hm hs htab wa wm ws hraw
  go_enter Tryz.func5, Tryz.ntmps5
  go_wp2_with fail
  refine q1 _ ?_
  intro R D S ops g ov w1 hR hD hS hol hog own1 b1
  have hgl : g < w1.heap.size := (own1.row.lt g rfl).2
  obtain ⟨W0, hW0⟩ : ∃ x, x = w1.alloc (.cells #[.int .i64 R, .int .i64 R, .int .i64 D, .int .i64 S, .slice (some ⟨g, 0, none⟩) 1 1] 33) := ⟨_, rfl⟩
  have b01 : Below w1.heap.size w1 W0 := by rw [hW0]; exact (Below.refl _ _).alloc (Nat.le_refl _) _
  have S0 : MnSt w W0 w1.heap.size g R D S ops ov 0 := ⟨by rw [hW0]; exact heap_alloc_new w1 _, own1.below b01 (Nat.le_refl _), b1.trans (b01.mono b1.size), hgl⟩
  have hQW : w1.heap.size < W0.heap.size := S0.row.lt
  obtain ⟨x, hx, hpk⟩ := pick_det reg (R : Int) hreg (by omega)
  have HOG := Lib.hid hog
  have HS0 := Lib.hid S0
  have HW0 := Lib.hid hW0
  clear q1 own1 b1 hgl hW0 b01 S0 hog hreg
  go_wp2
  rw [← HW0.out]
  clear HW0
  generalize w1.heap.size = Qb at *
  have cA : ∀ V, (∃ r : Int, MnSt w V Qb g R D S ops ov r) → V.cell? ⟨Qb, 4, none⟩ = some (.slice (some ⟨g, 0, none⟩) 1 1) := fun V h => by obtain ⟨r, h⟩ := h; exact h.row.cell (i := 4) rfl
  have cR : ∀ V, (∃ r : Int, MnSt w V Qb g R D S ops ov r) → V.cell? ⟨Qb, 1, none⟩ = some (.int .i64 (R : Int)) := fun V h => by obtain ⟨r, h⟩ := h; exact h.row.cell (i := 1) rfl
  have cX : ∀ V, (∃ r : Int, MnSt w V Qb g R D S ops ov r) → ∃ u, V.cell? ⟨g, 2, none⟩ = some u := fun V h => by obtain ⟨r, h⟩ := h; exact ⟨_, h.cells.2.1⟩
  have cF : ∀ V, (∃ r : Int, MnSt w V Qb g R D S ops ov r) → V.frozen? ⟨g, 2, none⟩ = false := fun V h => by obtain ⟨r, h⟩ := h; exact h.cells.2.2
  have hS1 : ∃ r : Int, MnSt w W0.drew Qb g R D S ops ov r := ⟨0, HS0.out.keep (Below.refl _ _).drew⟩
  have q2 := hpk W0.drew
  clear hpk
  go_region_held3 (fun V => ∃ r : Int, MnSt w V Qb g R D S ops ov r) (first | with_reducible exact hS1 | with_reducible exact hS3 | with_reducible exact hS4) (first | (go_at_call 14; refine q2.mono ?_; rintro e w3 ⟨rfl, m3, hw3⟩; have S3 : MnSt w w3 Qb g R D S ops ov 0 := by { rw [hw3]; exact (HS0.out.keep (Below.refl _ _).drew).keep (below_drewN (Below.refl _ _) m3) }; clear hw3; have hS3 : ∃ r : Int, MnSt w w3 Qb g R D S ops ov r := ⟨0, S3⟩; have dcc := S3.cells.2.1; have dcf := S3.cells.2.2; have S4 := S3.set (x : Int); have hS4 : ∃ r : Int, MnSt w (w3.setCell ⟨g, 2, none⟩ (.int .i64 (x : Int))) Qb g R D S ops ov r := ⟨(x : Int), S4⟩))
  obtain ⟨W, hW⟩ : ∃ W, W = w3.setCell ⟨g, 2, none⟩ (.int .i64 (x : Int)) := ⟨_, rfl⟩
  rw [← hW] at S4 ⊢
  clear hS1 hS3 hS4 dcc dcf cA cR cX cF q2 S3 hW HS0 hQW
  have hxr : x < R := by omega
  have GP : Hid (progGood (oneP R D S ops (x : Int)) = true) := one_good hR hD hS hol HOG.out ⟨by omega, by omega⟩
  have q3 := kText_any (R : Int) (R : Int) (D : Int) (S : Int) (.slice (some ⟨g, 0, none⟩) 1 1) [⟨ops, ⟨3, (x : Int), 0, 0⟩⟩] W S4.rd GP.out
  have HPT : Hid (progText ⟨(R : Int), (R : Int), (D : Int), (S : Int), [⟨ops, ⟨3, (x : Int), 0, 0⟩⟩]⟩ = progText (oneP R D S ops (x : Int))) := rfl
  rw [HPT.out] at q3
  have hps : (str (progText (oneP R D S ops (x : Int)))).size ≤ maxLen := progText_small GP.out
  obtain ⟨T, hT⟩ : ∃ T, T = str (progText (oneP R D S ops (x : Int))) := ⟨_, rfl⟩
  have HT := Lib.hid hT
  rw [← hT] at q3 hps
  clear hT HPT
  have e0 := S4.row.cell (i := 0) rfl
  have e1 := S4.row.cell (i := 1) rfl
  have e2 := S4.row.cell (i := 2) rfl
  have e3 := S4.row.cell (i := 3) rfl
  have e4 := S4.row.cell (i := 4) rfl
  have HS4 := Lib.hid S4
  clear S4
  go_wp2_with fail
  refine q3.mono ?_
  rintro er w5 ⟨rfl, hb5⟩
  have S5 := HS4.out.keep hb5
  clear q3 hb5 e0 e1 e2 e3 e4 HS4
  have bw5 := S5.below
  have q4 := fun P' => suited_cps (R : Int) R D S (.slice (some ⟨g, 0, none⟩) 1 1) _ _ _ la lm ls w5 (HA.out.keep bw5) (HM.out.keep bw5) (HS.out.keep bw5) (by omega) (by omega) (by omega) ⟨_, _, _, rfl⟩ P'
  have e0 := S5.row.cell (i := 0) rfl
  have e1 := S5.row.cell (i := 1) rfl
  have e2 := S5.row.cell (i := 2) rfl
  have e3 := S5.row.cell (i := 3) rfl
  have e4 := S5.row.cell (i := 4) rfl
  have HS5 := Lib.hid S5
  clear S5 bw5 HA HM HS
  go_wp2_with fail
  refine q4 _ ?_
  intro av mv sv w6 hin
  have S6 := HS5.out.keep hin.below
  obtain ⟨ia, ca, rfl, _, _⟩ := id hin.args
  obtain ⟨im, cm, rfl, _, _⟩ := id hin.mem
  obtain ⟨is, cs, rfl, _, _⟩ := id hin.spill
  rw [padTo_length, padTo_length, padTo_length]
  obtain ⟨W7, hW7⟩ : ∃ x, x = w6.alloc (.cells #[.slice ia R ca, .slice im D cm, .slice is S cs] 44) := ⟨_, rfl⟩
  have b67 : Below w6.heap.size w6 W7 := by rw [hW7]; exact (Below.refl _ _).alloc (Nat.le_refl _) _
  have rI : Row W7 w6.heap.size 44 [.slice ia R ca, .slice im D cm, .slice is S cs] := by rw [hW7]; exact heap_alloc_new w6 _
  have S7 := S6.keep b67
  have ra := hin.args.keep b67
  have rm := hin.mem.keep b67
  have rs := hin.spill.keep b67
  rw [padTo_length] at ra rm rs
  have q5 := fun P' => tRun_cps T (.slice ia R ca) (.slice im D cm) (.slice is S cs) (padTo la R) (padTo lm D) (padTo ls S) 1 W7 ra rm rs hps P'
  rw [hW7] at q5
  have HW7 := Lib.hid hW7
  have HRI := Lib.hid rI
  have HS7 := Lib.hid S7
  have HRA := Lib.hid ra
  have HRM := Lib.hid rm
  have HRS := Lib.hid rs
  clear q4 hin S6 b67 rI S7 ra rm rs e0 e1 e2 e3 e4 HS5 hW7
  go_wp2_with fail
  refine q5 _ ?_
  rw [← HW7.out]
  intro o e mv lv w8 hans hout
  have hfit : fits (oneP R D S ops (x : Int)) (padTo la R) (padTo lm D) (padTo ls S) := ⟨by rw [padTo_length]; rfl, by rw [padTo_length]; rfl, by rw [padTo_length]; rfl⟩
  rw [HT.out] at hans
  obtain ⟨he, ho⟩ := runO GP.out hfit hans
  subst he
  have ONE := Lib.hid (one_run GP.out HOG.out ⟨by omega, by omega⟩ hR.2 hS (padTo_length la R) (padTo_length lm D) (padTo_length ls S) (WA.out R) (WM.out D) (WS.out S) ho)
  have b78 := hout.below
  have S8 := HS7.out.keep b78
  have rI8 := HRI.out.keep b78
  have ra8 := HRA.out.keep b78
  have rm8 := HRM.out.keep b78
  have rs8 := HRS.out.keep b78
  have rdm := owns_rdI hout.mem
  obtain ⟨mo, mc, hmv⟩ := owns_slice hout.mem
  obtain ⟨lo, lc, hlv⟩ := owns_slice hout.leak
  obtain ⟨ml, hml⟩ : ∃ ml, ml = o.mem.length := ⟨_, rfl⟩
  obtain ⟨ll, hll⟩ : ∃ ll, ll = o.leak.length := ⟨_, rfl⟩
  rw [← hml] at hmv
  rw [← hll] at hlv
  subst hmv
  subst hlv
  obtain ⟨kd, hkd⟩ : ∃ kd, kd = o.kind := ⟨_, rfl⟩
  obtain ⟨res, hres⟩ : ∃ res, res = o.result := ⟨_, rfl⟩
  rw [← hkd, ← hres]
  obtain ⟨W9, hW9⟩ : ∃ y, y = w8.alloc (.cells #[.int .i64 kd, .int .i64 res, .slice mo ml mc, .slice lo ll lc] 47) := ⟨_, rfl⟩
  have b89 : Below w8.heap.size w8 W9 := by rw [hW9]; exact (Below.refl _ _).alloc (Nat.le_refl _) _
  have rO : Row W9 w8.heap.size 47 [.int .i64 kd, .int .i64 res, .slice mo ml mc, .slice lo ll lc] := by rw [hW9]; exact heap_alloc_new w8 _
  have S9 := S8.keep b89
  have rI9 := rI8.keep b89
  have ra9 := ra8.keep b89
  have rm9 := rm8.keep b89
  have rs9 := rs8.keep b89
  have rd9 := rdm.keep b89
  have q6 := fun P' => kEnded_cps (R : Int) (R : Int) (D : Int) (S : Int) (.slice (some ⟨g, 0, none⟩) 1 1) (.slice mo ml mc) (.slice lo ll lc) ⟨ops, ⟨3, (x : Int), 0, 0⟩⟩ kd res W9 S9.rd (by show ops.length ≤ 1000; omega) ⟨_, _, _, rfl⟩ ⟨_, _, _, rfl⟩ (by rw [hkd]; exact ONE.out.kinds) (by rw [hkd]; exact ONE.out.quiet) P'
  have e0 := S9.row.cell (i := 0) rfl
  have e1 := S9.row.cell (i := 1) rfl
  have e2 := S9.row.cell (i := 2) rfl
  have e3 := S9.row.cell (i := 3) rfl
  have e4 := S9.row.cell (i := 4) rfl
  have u0 := rO.cell (i := 0) rfl
  have u1 := rO.cell (i := 1) rfl
  have u2 := rO.cell (i := 2) rfl
  have u3 := rO.cell (i := 3) rfl
  rw [hW9] at q6 e0 e1 e2 e3 e4 u0 u1 u2 u3
  have HS9 := Lib.hid S9
  have HRI9 := Lib.hid rI9
  have HRA9 := Lib.hid ra9
  have HRM9 := Lib.hid rm9
  have HRS9 := Lib.hid rs9
  have HRD9 := Lib.hid rd9
  have HRO9 := Lib.hid rO
  have HW9 := Lib.hid hW9
  have HML := Lib.hid hml
  clear q5 hans hout b78 S8 rI8 ra8 rm8 rs8 rdm b89 rO S9 rI9 ra9 rm9 rs9 rd9 HS7 HRI HRA HRM HRS HW7 ho hfit hml hll WA WM WS hW9
  have HKD := Lib.hid hkd
  have HRES := Lib.hid hres
  clear hkd hres
  go_wp2_with fail
  refine q6 _ ?_
  rw [← HW9.out]
  intro wa hba
  have S10 := HS9.out.keep hba
  have rI10 := HRI9.out.keep hba
  have ra10 := HRA9.out.keep hba
  have rm10 := HRM9.out.keep hba
  have rs10 := HRS9.out.keep hba
  have rd10 := HRD9.out.keep hba
  have rO10 := HRO9.out.keep hba
  clear q6 hba e0 e1 e2 e3 e4 u0 u1 u2 u3 HS9 HRI9 HRA9 HRM9 HRS9 HRD9 HRO9 HW9
  have q7 := tTerm_any T 0 (x : Int) wa hps (HTB.out.keep S10.below)
  have e4 := S10.row.cell (i := 4) rfl
  have g2 := S10.cells.2.1
  have HS10 := Lib.hid S10
  have HRI10 := Lib.hid rI10
  have HRA10 := Lib.hid ra10
  have HRM10 := Lib.hid rm10
  have HRS10 := Lib.hid rs10
  have HRD10 := Lib.hid rd10
  have HRO10 := Lib.hid rO10
  clear S10 rI10 ra10 rm10 rs10 rd10 rO10
  go_wp2_with fail
  refine q7.mono ?_
  rintro er w11 ⟨t, er1, rfl, ha1, hb11⟩
  rw [HT.out] at ha1
  have S11 := HS10.out.keep hb11
  have q8 := tTerm_any T 0 ((R : Int) + (S : Int)) w11 hps (HTB.out.keep S11.below)
  have e1 := S11.row.cell (i := 1) rfl
  have e3 := S11.row.cell (i := 3) rfl
  have hwrs : IntKind.i64.wrap ((R : Int) + (S : Int)) = (R : Int) + (S : Int) := by rw [IntKind.wrap_i64]; omega
  have HA1 := Lib.hid ha1
  have HS11 := Lib.hid S11
  have HB11 := Lib.hid hb11
  clear q7 ha1 hb11 S11 e4 g2
  go_wp2_with fail
  refine q8.mono ?_
  rintro er w12 ⟨u, er2, rfl, ha2, hb12⟩
  rw [HT.out] at ha2
  have S12 := HS11.out.keep hb12
  have bac : Below wa.heap.size wa w12 := HB11.out.trans (hb12.mono HB11.out.size)
  have rO12 := HRO10.out.keep bac
  have FIN : Hid (∀ place : Int, 0 ≤ place → place ≤ (R : Int) + S → (behindT R S (plainNames R S) ops ops.length place).fine) := fun place h0 h1 => behindT_fine ⟨by omega, by omega⟩ ⟨by omega, by omega⟩ (plainN_le R S (by omega)) HOG.out ops.length (Nat.le_refl _) place h0 h1
  have t1 := termO GP.out ⟨by omega, by omega⟩ HA1.out
  have t2 := termO GP.out ⟨by omega, by omega⟩ ha2
  clear q8 ha2 e1 e3 HA1 HS11 HB11 hwrs
  by_cases hbig : bigT R S (plainNames R S) ops = true
  · have he1 : er1 = 5 := by
      rcases t1 with ⟨h, _⟩ | ⟨_, h, _⟩
      · exact h
      · rw [hbig] at h; cases h
    have he2 : er2 = 5 := by
      rcases t2 with ⟨h, _⟩ | ⟨_, h, _⟩
      · exact h
      · rw [hbig] at h; cases h
    subst he1
    subst he2
    have hl7 : 7 < ops.length := by
      by_cases h : ops.length ≤ 7
      · rw [bigT_short h] at hbig; cases hbig
      · omega
    have e4 := S12.row.cell (i := 4) rfl
    have g0 := S12.cells.1
    obtain ⟨oo, oc, hov⟩ := owns_slice (S12.own.each _ (List.mem_singleton.2 rfl))
    dsimp only at hov
    obtain ⟨on, hon⟩ : ∃ on, on = ops.length := ⟨_, rfl⟩
    rw [hov, ← hon] at g0
    have hl8 : (7 : Int) < (on : Int) := by omega
    have HF := Lib.hid (HP.out w12 S12.below)
    clear t1 t2 S12 rO12 HS10 HRI10 HRA10 HRM10 HRS10 HRD10 HRO10 hb12 bac FIN ONE HP hbig hl7 hov hon HT GP HOG HKD HRES HML HTB
    generalize str t = X1 at *
    generalize str u = X2 at *
    go_wp2
    first | exact HF.out | (go_ret; exact HF.out)
  have he1 : er1 = 0 ∧ t = showT (behindT R S (plainNames R S) ops ops.length (x : Int)) := by
    rcases t1 with ⟨_, h⟩ | ⟨h, _, h2⟩
    · exact absurd h hbig
    · exact ⟨h, h2⟩
  have he2 : er2 = 0 ∧ u = showT (behindT R S (plainNames R S) ops ops.length ((R : Int) + S)) := by
    rcases t2 with ⟨_, h⟩ | ⟨h, _, h2⟩
    · exact absurd h hbig
    · exact ⟨h, h2⟩
  rw [Bool.not_eq_true] at hbig
  obtain ⟨rfl, ht⟩ := he1
  obtain ⟨rfl, hu⟩ := he2
  have f1 := FIN.out (x : Int) (by omega) (by omega)
  have f2 := FIN.out ((R : Int) + S) (by omega) (by omega)
  have z1 := not_big HOG.out hbig ops.length (Nat.le_refl _) (x : Int)
  have z2 := not_big HOG.out hbig ops.length (Nat.le_refl _) ((R : Int) + S)
  have l1 := show_length f1
  have l2 := show_length f2
  have n1 := show_ne _ f1
  have n2 := show_ne _ f2
  rw [← ht] at l1 n1
  rw [← hu] at l2 n2
  have m1 : t.length ≤ 98280 := by omega
  have m2 : u.length ≤ 98280 := by omega
  have d1 : (str t).size ≤ 98280 := by rw [strO_size]; exact m1
  have d2 : (str u).size ≤ 98280 := by rw [strO_size]; exact m2
  have NE : Hid (t ≠ [] ∧ u ≠ []) := ⟨n1, n2⟩
  have o0 := rO12.cell (i := 0) rfl
  have HTT := Lib.hid ht
  have HUU := Lib.hid hu
  have HF1 := Lib.hid f1
  have HF2 := Lib.hid f2
  have HM1 := Lib.hid m1
  have HM2 := Lib.hid m2
  clear t1 t2 hbig ht hu f1 f2 z1 z2 l1 l2 n1 n2 m1 m2 FIN HT HTB
  obtain ⟨X1, hX1⟩ : ∃ X1, X1 = str t := ⟨_, rfl⟩
  obtain ⟨X2, hX2⟩ : ∃ X2, X2 = str u := ⟨_, rfl⟩
  rw [← hX1] at d1 ⊢
  rw [← hX2] at d2 ⊢
  have HX1 := Lib.hid hX1
  have HX2 := Lib.hid hX2
  clear hX1 hX2
  have d5 : X1.toList ≠ [] := by rw [HX1.out, strO_list]; exact NE.out.1
  have d6 : X2.toList ≠ [] := by rw [HX2.out, strO_list]; exact NE.out.2
  have d5' : X1.toList.isEmpty = false := by rw [List.isEmpty_eq_false_iff]; exact d5
  have d6' : X2.toList.isEmpty = false := by rw [List.isEmpty_eq_false_iff]; exact d6
  have d7 : ¬ ((98280 : Int) < (X1.size : Int)) := by omega
  have d8 : ¬ ((98280 : Int) < (X2.size : Int)) := by omega
  by_cases hk : kd = 1
  · subst hk
    have hk1 := HKD.out.symm
    have hsafe := ONE.out.safe hk1
    have hev := ONE.out.word hk1
    have hcl := ONE.out.cells hk1
    have C1 : Hid (RWordC (envS R (padTo la R) (padTo lm D) (padTo ls S)) R S D (behindT R S (plainNames R S) ops ops.length (x : Int))) := (reads_all _ R S D (by omega) (by omega) (by omega) _ HF1.out (hsafe (x : Int) (by omega) (by omega)).1).1 ((hsafe (x : Int) (by omega) (by omega)).2.1 (by omega))
    have C2 : Hid (RCellsC (envS R (padTo la R) (padTo lm D) (padTo ls S)) R S D (behindT R S (plainNames R S) ops ops.length ((R : Int) + S))) := (reads_all _ R S D (by omega) (by omega) (by omega) _ HF2.out (hsafe ((R : Int) + S) (by omega) (by omega)).1).2 ((hsafe ((R : Int) + S) (by omega) (by omega)).2.2 rfl)
    have HEV : Hid (evW (envS R (padTo la R) (padTo lm D) (padTo ls S)) (behindT R S (plainNames R S) ops ops.length (x : Int)) = res) := by show _ = _; rw [hev, HRES.out]
    have HCL := Lib.hid hcl
    clear hk1 hsafe hev hcl ONE HF1 HF2 HKD HRES
    have rI12 := HRI10.out.keep bac
    have ra12 := HRA10.out.keep bac
    have rm12 := HRM10.out.keep bac
    have rs12 := HRS10.out.keep bac
    have rd12 := HRD10.out.keep bac
    have qA := fun P' => begun_cps t (R : Int) R D S (.slice (some ⟨g, 0, none⟩) 1 1) (.slice ia R ca) (.slice im D cm) (.slice is S cs) (padTo la R) (padTo lm D) (padTo ls S) w12 ra12 rm12 rs12 ⟨_, _, _, rfl⟩ (by omega) (by omega) (by omega) P'
    rw [← HX1.out] at qA
    have e0 := S12.row.cell (i := 0) rfl
    have e1 := S12.row.cell (i := 1) rfl
    have e2 := S12.row.cell (i := 2) rfl
    have e3 := S12.row.cell (i := 3) rfl
    have e4 := S12.row.cell (i := 4) rfl
    have i0 := rI12.cell (i := 0) rfl
    have i1 := rI12.cell (i := 1) rfl
    have i2 := rI12.cell (i := 2) rfl
    have HS12 := Lib.hid S12
    have HO12 := Lib.hid rO12
    have HI12 := Lib.hid rI12
    have HRA12 := Lib.hid ra12
    have HRM12 := Lib.hid rm12
    have HRS12 := Lib.hid rs12
    have HRD12 := Lib.hid rd12
    clear S12 rO12 rI12 ra12 rm12 rs12 rd12 HRI10 HRA10 HRM10 HRS10 HRD10 HRO10 HS10 bac hb12
    go_wp2_with fail
    refine qA _ ?_
    intro Rb1 rv1 sv1 mv1 w13 rG1 env1 hlt1 hb13
    have qB := fun P' => C1.out Rb1 t 0 [] rv1 sv1 mv1 w13 P' rG1 env1 (by have := HM1.out; omega) (by rw [← HTT.out]; simp) stops_nil
    rw [HEV.out] at qB
    clear qA env1 rG1 e0 e1 e2 e3 e4 i0 i1 i2 o0
    go_wp2_with fail
    refine qB _ ?_
    intro w14 rG1 k14
    rw [← HTT.out, Nat.zero_add, ← strO_size t, ← HX1.out] at rG1
    have b14 : Below w12.heap.size w12 w14 := rdO_away hlt1 hb13 k14
    have S14 := HS12.out.keep b14
    have rO14 := HO12.out.keep b14
    have rI14 := HI12.out.keep b14
    have ra14 := HRA12.out.keep b14
    have rm14 := HRM12.out.keep b14
    have rs14 := HRS12.out.keep b14
    have rd14 := HRD12.out.keep b14
    have qC := fun P' => begun_cps u (R : Int) R D S (.slice (some ⟨g, 0, none⟩) 1 1) (.slice ia R ca) (.slice im D cm) (.slice is S cs) (padTo la R) (padTo lm D) (padTo ls S) w14 ra14 rm14 rs14 ⟨_, _, _, rfl⟩ (by omega) (by omega) (by omega) P'
    rw [← HX2.out] at qC
    have e0 := S14.row.cell (i := 0) rfl
    have e1 := S14.row.cell (i := 1) rfl
    have e2 := S14.row.cell (i := 2) rfl
    have e3 := S14.row.cell (i := 3) rfl
    have e4 := S14.row.cell (i := 4) rfl
    have i0 := rI14.cell (i := 0) rfl
    have i1 := rI14.cell (i := 1) rfl
    have i2 := rI14.cell (i := 2) rfl
    have HG1 := Lib.hid rG1
    have HB14 := Lib.hid S14.below
    have HO14 := Lib.hid rO14
    have HRD14 := Lib.hid rd14
    clear qB k14 hb13 hlt1 b14 S14 rO14 rI14 ra14 rm14 rs14 rd14 rG1 HS12 HO12 HI12 HRA12 HRM12 HRS12 HRD12 C1 HEV
    go_wp2_with fail
    refine qC _ ?_
    intro Rb2 rv2 sv2 mv2 w15 rG2 env2 hlt2 hb15
    have qD := fun P' => C2.out Rb2 u 0 [] rv2 sv2 mv2 w15 P' rG2 env2 (by have := HM2.out; omega) (by rw [← HUU.out]; simp) stops_nil
    clear qC env2 rG2 e0 e1 e2 e3 e4 i0 i1 i2
    go_wp2_with fail
    refine qD _ ?_
    intro v6 w16 ow16 rG2 k16
    rw [← HUU.out, Nat.zero_add, ← strO_size u, ← HX2.out] at rG2
    have b16 : Below w14.heap.size w14 w16 := rdO_away hlt2 hb15 k16
    have rG1 := HG1.out.keep b16
    have rO16 := HO14.out.keep b16
    have rd16 := HRD14.out.keep b16
    have rdl := owns_rdI ow16
    have b6 : Below w.heap.size w w16 := HB14.out.trans (b16.mono HB14.out.size)
    have qE := kSameInts_two v6 (.slice mo ml mc) _ o.mem w16 rdl rd16
    rw [HCL.out] at qE
    have hdt : decide (o.mem = o.mem) = true := by simp
    rw [hdt] at qE
    obtain ⟨vo, vc, hv6⟩ := owns_slice ow16
    rw [cellL_length] at hv6
    subst hv6
    have u2 := rO16.cell (i := 2) rfl
    have HG1b := Lib.hid rG1
    have HG2b := Lib.hid rG2
    have HO16 := Lib.hid rO16
    have HB6 := Lib.hid b6
    clear qD k16 hb15 hlt2 b16 rG1 rG2 rO16 rd16 rdl ow16 b6 HG1 HO14 HRD14 HB14 C2 HCL hdt
    go_wp2_with fail
    refine qE.mono ?_
    rintro e9 w17 ⟨rfl, hb17⟩
    have rG1 := HG1b.out.keep hb17
    have rG2 := HG2b.out.keep hb17
    have rO17 := HO16.out.keep hb17
    have p1 := rG1.cell (i := 1) rfl
    have p2 := rG1.cell (i := 2) rfl
    have p3 := rG2.cell (i := 1) rfl
    have p4 := rG2.cell (i := 2) rfl
    have o1' := rO17.cell (i := 1) rfl
    have HF := Lib.hid (HP.out w17 (HB6.out.trans (hb17.mono HB6.out.size)))
    clear qE hb17 rG1 rG2 rO17 HG1b HG2b HO16 HB6 HP u2 HX1 HX2 HTT HUU HM1 HM2 NE GP HOG HML
    go_wp2
    first | exact HF.out | (go_ret; exact HF.out)
  · have hkn : (kd != 1) = true := by simpa using hk
    have HF := Lib.hid (HP.out w12 S12.below)
    clear NE S12 rO12 HS10 HRI10 HRA10 HRM10 HRS10 HRD10 HRO10 hb12 bac ONE HP GP HOG HKD HRES HML HTT HUU HF1 HF2 HM1 HM2 HX1 HX2
    go_wp2
    first | exact HF.out | (go_ret; exact HF.out)

end Go.Proofs.YtblhmeidbjigaaaGreatDoor
