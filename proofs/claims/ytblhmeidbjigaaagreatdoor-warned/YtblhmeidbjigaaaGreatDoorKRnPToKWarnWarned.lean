/- Other names for registers: what is built. -/
import Derived.Test.YtblhmeidbjigaaaGreatDoorRows
import Derived.WalkKit
import Derived.WalkSpells
import Derived.WalkLawsBesides
import Derived.Laws.BytesArg
import Derived.Deep.QuietTactic
import Derived.BigQuiet
import Derived.Deep.RegionHeld3
import Derived.Deep.RegionLaw
import Derived.Deep.AppendLies
import Derived.Lib.ItoaNum
import Derived.Lib.ItoaLen
import Derived.OpenShut
import Derived.Maps.AppendAt
import Derived.StillTailTactics
import Derived.Shelf.Strconv.Itoa3
import Derived.Shelf.Lay
import Derived.Ground.NamesProg
import Derived.Lib.SmallJoins
import Derived.Lib.Hide
import Derived.ProofKit
import Derived.SizedLaws
import Derived.Deep.Slices
import Derived.BigRegion
import Derived.LaidMore
import Derived.Stop.Joined
import Derived.Stop.LaidErr
import Derived.Test.YtblhmeidbjigaaaGreatDoorTie
import Derived.Test.YtblhmeidbjigaaaGreatDoorCards
import Derived.SevenTiedAt
import Derived.ShutString
import Derived.ChangeOld
import Derived.Test.YtblhmeidbjigaaaGreatDoorKWholeToKSpPWarned

set_option linter.unusedSimpArgs false
set_option linter.unusedVariables false
namespace Go.Proofs.YtblhmeidbjigaaaGreatDoor
open Go.RowKit

theorem blkCells_setR (bv : List (BlockD × Value)) (i : Nat) (hi : i < bv.length) (r : Int) :
    blkCells (bv.set i (⟨bv[i].1.ops, ⟨bv[i].1.fin.kind, r, bv[i].1.fin.x, bv[i].1.fin.y⟩⟩, bv[i].2)) = (blkCells bv).set (i * 5 + 2) (.int .i64 r) := by
  induction bv generalizing i with
  | nil => simp at hi
  | cons p q ih =>
    cases i with
    | zero => rfl
    | succ i =>
      have h := ih i (by simpa using hi)
      have e1 : (i + 1) * 5 + 2 = i * 5 + 2 + 1 + 1 + 1 + 1 + 1 := by omega
      rw [e1]
      show [_, _, _, _, _] ++ blkCells (q.set i _) = [_, _, _, _, _] ++ (blkCells q).set (i * 5 + 2) _
      rw [← h]
      rfl

theorem OwnBlocks.setR {w : World} {base b n cap : Nat} {bv : List (BlockD × Value)} (h : OwnBlocks w base (.slice (some ⟨b, 0, none⟩) n cap) bv) {i : Nat} (hi : i < bv.length) (r : Int) :
    OwnBlocks (w.setCell ⟨b, i * 5 + 2, none⟩ (.int .i64 r)) base (.slice (some ⟨b, 0, none⟩) n cap) (bv.set i (⟨bv[i].1.ops, ⟨bv[i].1.fin.kind, r, bv[i].1.fin.x, bv[i].1.fin.y⟩⟩, bv[i].2)) := by
  have hl := blkCells_length bv
  have key : ∀ {v : Value} {m : Nat} {ys : List Value}, w.ownsRow base 77 4 v m ys → v.ownBlock ≠ some b := fun hv e => owns_apart h.row hv (by decide) b rfl e
  refine ⟨?_, ?_, ?_⟩
  · rw [blkCells_setR bv i hi, List.length_set]
    exact owns_set h.row rfl (by omega) _
  · intro y hy
    rcases List.mem_or_eq_of_mem_set hy with hy | rfl
    · exact owns_unset (h.each y hy) (key (h.each y hy)) _
    · have hx := h.each _ (List.getElem_mem hi)
      exact owns_unset hx (key hx) _
  · rw [List.pairwise_iff_getElem]
    intro p q hp hq hpq g hg
    have hp' : p < bv.length := by simpa using hp
    have hq' : q < bv.length := by simpa using hq
    have ap := List.pairwise_iff_getElem.1 h.apart p q hp' hq' hpq
    rw [List.getElem_set] at hg ⊢
    split at hg
    · rename_i e
      rw [if_neg (by omega)]
      subst e
      exact ap g hg
    · split
      · rename_i e; subst e; exact ap g hg
      · exact ap g hg

end Go.Proofs.YtblhmeidbjigaaaGreatDoor

/- Term in package compute, and in package twin. -/
set_option linter.unusedSimpArgs false
set_option linter.unusedVariables false
namespace Go.Proofs.YtblhmeidbjigaaaGreatDoor
open Go.RowKit

set_option maxRecDepth 100000 in
set_option maxHeartbeats 1000000 in
theorem cHas_any (a r d s : Int) (bo : Option Addr) (bn bc : Nat) (block : Int) (w : World) :
    Calls Tryz.prog 66 #[.agg #[.int .i64 a, .int .i64 r, .int .i64 d, .int .i64 s, .slice bo bn bc], .int .i64 block] w fun e w' => e = .returned (.bool (decide (0 ≤ block) && decide (block < bn))) ∧ Below w.heap.size w w' := by
  have b0 : Below w.heap.size w (w.alloc (.cells #[.int .i64 a, .int .i64 r, .int .i64 d, .int .i64 s, .slice bo bn bc] 33)) := (Below.refl _ _).alloc (Nat.le_refl _) _
  have HB := Lib.hid b0
  clear b0
  by_cases h1 : 0 ≤ block
  · by_cases h2 : block < bn
    · have hd := Lib.hid (show (decide (0 ≤ block) && decide (block < bn)) = true by simp [h1, h2])
      go_enter Tryz.func66, Tryz.ntmps66
      go_wp2
      go_ret
      exact ⟨by first | (rw [hd.out]; rfl) | rfl | (simp [h1]; done) | (simp [h1]; omega) | (simp; omega), HB.out⟩
    · have hd := Lib.hid (show (decide (0 ≤ block) && decide (block < bn)) = false by simp [h2])
      go_enter Tryz.func66, Tryz.ntmps66
      go_wp2
      go_ret
      exact ⟨by first | (rw [hd.out]; rfl) | rfl | (simp [h1]; done) | (simp [h1]; omega) | (simp; omega), HB.out⟩
  · have hd := Lib.hid (show (decide (0 ≤ block) && decide (block < bn)) = false by simp [h1])
    go_enter Tryz.func66, Tryz.ntmps66
    go_wp2
    go_ret
    exact ⟨by first | (rw [hd.out]; rfl) | rfl | (simp [h1]; done) | (simp [h1]; omega) | (simp; omega), HB.out⟩

end Go.Proofs.YtblhmeidbjigaaaGreatDoor

/- Marks in package compute, and in package twin. -/
set_option linter.unusedSimpArgs false
set_option linter.unusedVariables false
namespace Go.Proofs.YtblhmeidbjigaaaGreatDoor
open Go.RowKit

set_option maxRecDepth 100000 in
set_option maxHeartbeats 4000000 in
theorem cMarksOf_cps (s : ByteArray) (block : Int) (w : World) (hs : s.size ≤ maxLen) (htab : TabW w) (Post : Ending → World → Prop)
    (hp : ∀ l er v w', MarksAns s block l er → w'.ownsRow w.heap.size 9 1 v l.length (texts l) → Below w.heap.size w w' → Post (.returned (.tuple #[v, .int .i64 er])) w') :
    Calls Tryz.prog 54 #[.string s, .int .i64 block] w Post := by
  have hc := cDecode_any s w hs
  have HP := Lib.hid hp
  clear hp
  go_enter Tryz.func54, Tryz.ntmps54
  go_wp2_with fail
  refine hc.mono ?_
  clear hc
  rintro e w1 ⟨hor, hb1⟩
  rcases hor with ⟨p, v, bv, rfl, ho, hd, hg, ht⟩ | ⟨hn, rfl⟩
  · obtain ⟨bo, bc, rfl⟩ := owns_slice ho.row
    have hlen : bv.length = p.blocks.length := by rw [← hd, bdat_length]
    have hrd0 := ho.rd
    rw [hd] at hrd0
    rw [hlen] at hrd0 ⊢
    obtain ⟨hr, hargs, hdata, hsl⟩ := good_shape hg
    have hb2 : Below w.heap.size w (w1.alloc (.cells #[.int .i64 p.args, .int .i64 p.regs, .int .i64 p.data, .int .i64 p.slots, .slice bo p.blocks.length bc] 33)) := hb1.alloc hb1.size _
    have hb12 : Below w1.heap.size w1 (w1.alloc (.cells #[.int .i64 p.args, .int .i64 p.regs, .int .i64 p.data, .int .i64 p.slots, .slice bo p.blocks.length bc] 33)) := (Below.refl _ _).alloc (Nat.le_refl _) _
    have hrd2 := hrd0.keep hb12
    have r : Row (w1.alloc (.cells #[.int .i64 p.args, .int .i64 p.regs, .int .i64 p.data, .int .i64 p.slots, .slice bo p.blocks.length bc] 33)) w1.heap.size 33 [.int .i64 p.args, .int .i64 p.regs, .int .i64 p.data, .int .i64 p.slots, .slice bo p.blocks.length bc] := heap_alloc_new w1 _
    have q1 := cHas_any p.args p.regs p.data p.slots bo p.blocks.length bc block (w1.alloc (.cells #[.int .i64 p.args, .int .i64 p.regs, .int .i64 p.data, .int .i64 p.slots, .slice bo p.blocks.length bc] 33))
    unfold progV
    clear ho hd hrd0 hb1 hb12 hlen
    go_wp2_with fail
    refine q1.mono ?_
    rintro e w2 ⟨rfl, b2⟩
    have r2 := r.keep b2
    have hrd3 := hrd2.keep b2
    have hb3 : Below w.heap.size w w2 := hb2.trans (b2.mono hb2.size)
    have p0 := r2.cell (i := 0) rfl
    have p1 := r2.cell (i := 1) rfl
    have p2 := r2.cell (i := 2) rfl
    have p3 := r2.cell (i := 3) rfl
    have p4 := r2.cell (i := 4) rfl
    clear q1 b2 r hrd2 hb2
    by_cases hall : 0 ≤ block ∧ block < p.blocks.length
    · obtain ⟨ha1, ha2⟩ := id hall
      obtain ⟨b, rfl⟩ := Int.eq_ofNat_of_zero_le ha1
      obtain ⟨n, hn⟩ := Int.eq_ofNat_of_zero_le (show 0 ≤ p.regs + p.slots by omega)
      have hbn : b < p.blocks.length := by omega
      have hdec : (decide ((0 : Int) ≤ (b : Int)) && decide ((b : Int) < (p.blocks.length : Int))) = true := by simp; omega
      rw [hdec]
      have HALL := Lib.hid hall
      have qb := fun P' => cBlock_cps p (.slice bo p.blocks.length bc) b n hn.symm hg hbn w2 hrd3 (htab.keep hb3) P'
      unfold progV at qb
      clear hall hdec hn
      go_wp2_with fail
      refine qb _ ?_ ?_
      · intro hbig v w3 f c ms hv b3
        obtain ⟨B, Lo, P, cap, ps, pc, mv, hB, rfl, hS⟩ := hv
        have HX : Hid (MarksAns s b [] 5) := .inr ⟨p, hg, ht, .inr ⟨HALL.out, .inl ⟨rfl, rfl, by simpa using hbig⟩⟩⟩
        obtain ⟨co, cn, cc, rfl⟩ := hS.pc.slice
        obtain ⟨mo, mc, rfl⟩ := owns_slice hS.mrk
        have hb4 : Below w.heap.size w (w3.alloc (.cells #[.slice (some ⟨P, 0, none⟩) n cap, .int .i64 (ckind c), .int .i64 (cval c), .slice co cn cc, .int .i64 c.size, .string (str (showT c)), .slice mo ms.length mc, .bool true, .int .i64 p.regs, .int .i64 p.data] 121)) := (hb3.trans (b3.mono hb3.size)).alloc (Nat.le_trans hb3.size b3.size) _
        have HF := Lib.hid (HP.out [] 5 (.slice none 0 0) _ HX.out (World.ownsRow_nil _ _ _ _) hb4)
        unfold stV
        clear hbig hS hb3 b3 qb r2 hrd3 HP hb4
        go_wp2
        exact HF.out
      · intro hbig v w3 hv b3
        obtain ⟨B, Lo, P, cap, ps, pc, mv, hB, rfl, hS⟩ := hv
        obtain ⟨co, cn, cc, rfl⟩ := hS.pc.slice
        obtain ⟨mo, mc, hmv⟩ := owns_slice hS.mrk
        subst hmv
        obtain ⟨L, hL⟩ : ∃ L, L = marksT p.regs p.slots p.data (plainNames p.regs p.slots) (bops p.blocks b) (bops p.blocks b).length := ⟨_, rfl⟩
        have HX : Hid (MarksAns s b L 0) := .inr ⟨p, hg, ht, .inr ⟨HALL.out, .inr ⟨rfl, by simpa using hbig, by rw [hL]; simp⟩⟩⟩
        obtain ⟨c, hc⟩ : ∃ c, behindT p.regs p.slots (plainNames p.regs p.slots) (bops p.blocks b) (bops p.blocks b).length (n : Int) = c := ⟨_, rfl⟩
        rw [← hL] at hS ⊢
        unfold stV
        rw [hc]
        have b4 : Below w3.heap.size w3 (w3.alloc (.cells #[.slice (some ⟨P, 0, none⟩) n cap, .int .i64 (ckind c), .int .i64 (cval c), .slice co cn cc, .int .i64 c.size, .string (str (showT c)), .slice mo L.length mc, .bool false, .int .i64 p.regs, .int .i64 p.data] 121)) := (Below.refl _ _).alloc (Nat.le_refl _) _
        have hb4 : Below w.heap.size w (w3.alloc (.cells #[.slice (some ⟨P, 0, none⟩) n cap, .int .i64 (ckind c), .int .i64 (cval c), .slice co cn cc, .int .i64 c.size, .string (str (showT c)), .slice mo L.length mc, .bool false, .int .i64 p.regs, .int .i64 p.data] 121)) := (hb3.trans (b3.mono hb3.size)).alloc (Nat.le_trans hb3.size b3.size) _
        have hS4 := hS.next b4
        have hown := owns_base hS4.mrk (show w.heap.size ≤ Lo by have := hS4.hP; have := hS4.hP'; have := hb3.size; omega)
        have HF := Lib.hid (HP.out L 0 _ _ HX.out hown hb4)
        clear hc hL hbig hS hS4 b4 hb4 qb r2 hrd3 HP hown hb3 b3
        generalize L.length = ln at *
        go_wp2
        exact HF.out
    · have HX : Hid (MarksAns s block [] 4) := .inr ⟨p, hg, ht, .inl ⟨rfl, rfl, hall⟩⟩
      have HF := Lib.hid (HP.out [] 4 (.slice none 0 0) _ HX.out (World.ownsRow_nil _ _ _ _) hb3)
      clear hb3 hrd3 r2 HP
      have hdec : (decide (0 ≤ block) && decide (block < (p.blocks.length : Int))) = false := by
        rw [Bool.and_eq_false_iff]
        by_cases q : 0 ≤ block
        · exact .inr (by simp; omega)
        · exact .inl (by simp; omega)
      rw [hdec]
      clear hall hdec
      go_wp2
      exact HF.out
  · have HX : Hid (MarksAns s block [] 1) := .inl ⟨rfl, rfl, hn⟩
    have HF := Lib.hid (HP.out [] 1 (.slice none 0 0) _ HX.out (World.ownsRow_nil _ _ _ _) (hb1.alloc hb1.size (.cells #[.int .i64 0, .int .i64 0, .int .i64 0, .int .i64 0, .slice none 0 0] 33)))
    clear hb1 hn HP
    go_wp2
    exact HF.out

set_option maxRecDepth 100000 in
set_option maxHeartbeats 1000000 in
theorem tMarks_cps (s : ByteArray) (block : Int) (w : World) (hs : s.size ≤ maxLen) (htab : TabW w) (Post : Ending → World → Prop)
    (hp : ∀ l er v w', MarksAns s block l er → w'.ownsRow w.heap.size 9 1 v l.length (texts l) → Below w.heap.size w w' → Post (.returned (.tuple #[v, .int .i64 er])) w') :
    Calls Tryz.prog 23 #[.string s, .int .i64 block] w Post := by
  have hc := fun P' => cMarksOf_cps s block w hs htab P'
  go_enter Tryz.func23, Tryz.ntmps23
  go_wp2_with fail
  refine hc _ ?_
  intro l er v w1 ha ho hb
  obtain ⟨lo, lc, rfl⟩ := owns_slice ho
  have HF := Lib.hid (hp l er _ w1 ha ho hb)
  clear hc ha ho hb hp
  generalize l.length = ln at *
  go_wp2
  exact HF.out

end Go.Proofs.YtblhmeidbjigaaaGreatDoor

/- twinkeep.Sound: what is taken for twins ends alike. -/
set_option linter.unusedSimpArgs false
set_option linter.unusedVariables false
namespace Go.Proofs.YtblhmeidbjigaaaGreatDoor
open Go.RowKit

theorem padTo_wide {l : List Int} (h : Wide l) (n : Nat) : ∀ x ∈ padTo l n, W64 x := by
  intro x hx
  simp only [padTo, List.mem_map, List.mem_range] at hx
  obtain ⟨i, _, rfl⟩ := hx
  by_cases hi : i < l.length
  · exact h _ (getD_mem' hi)
  · have e : l.getD i 0 = 0 := by simp [List.getD, hi]
    rw [e]
    exact w64_small (by omega)

end Go.Proofs.YtblhmeidbjigaaaGreatDoor

/- A program of one block in memory; what Run, Term and Marks answer there, pure. -/
set_option linter.unusedSimpArgs false
set_option linter.unusedVariables false
namespace Go.Proofs.YtblhmeidbjigaaaGreatDoor
open Go.RowKit Go.Deep

theorem one_good {R D S : Nat} {ops : List OpD} {er : Int} (hR : 1 ≤ R ∧ R ≤ 8) (hD : D ≤ 8) (hS : S ≤ 8) (hl : ops.length ≤ 12) (hg : opsGood R S ops = true) (her : 0 ≤ er ∧ er < R) : progGood (oneP R D S ops er) = true := by
  simp only [progGood, oneP, Bool.and_eq_true, decide_eq_true_eq]
  refine ⟨⟨⟨⟨⟨decide_eq_true (by show 1 ≤ (R : Int) ∧ (R : Int) ≤ 8; omega), decide_eq_true (by show 0 ≤ (R : Int) ∧ (R : Int) ≤ (R : Int); omega)⟩, decide_eq_true (by show 0 ≤ (D : Int) ∧ (D : Int) ≤ 8; omega)⟩, decide_eq_true (by show 0 ≤ (S : Int) ∧ (S : Int) ≤ 8; omega)⟩, by simp⟩, ?_⟩
  simp only [blocksGood, List.all_cons, List.all_nil, Bool.and_true, blockGood, Bool.and_eq_true, decide_eq_true_eq]
  refine ⟨⟨hl, hg⟩, ?_⟩
  simp only [endGood, below, Bool.and_eq_true, decide_eq_true_eq]
  simp
  omega

theorem runO {p : ProgD} (hg : progGood p = true) {args mem spill : List Int} (hf : fits p args mem spill) {o : OutD} {e : Int} (h : RunAns (str (progText p)) args mem spill 1 o e) : e = 0 ∧ o = runN p.blocks 1 0 (begins p args mem spill) := by
  have h2 : RunAns (str (progText p)) args mem spill 1 (runN p.blocks 1 0 (begins p args mem spill)) 0 := .inr ⟨p, hg, rfl, .inr (.inr ⟨rfl, hf, by omega, rfl⟩)⟩
  obtain ⟨h3, h4⟩ := h.one h2
  exact ⟨h4, h3⟩

theorem marksO {R D S : Nat} {ops : List OpD} {er : Int} (hg : progGood (oneP R D S ops er) = true) {l : List (List UInt8)} {e : Int} (h : MarksAns (str (progText (oneP R D S ops er))) 0 l e) :
    (e = 5 ∧ bigT R S (plainNames R S) ops = true) ∨ (e = 0 ∧ bigT R S (plainNames R S) ops = false ∧ l = marksT R S D (plainNames R S) ops ops.length) := by
  have hr : 0 ≤ (0 : Int) ∧ (0 : Int) < (oneP R D S ops er).blocks.length := ⟨by omega, by simp [oneP]⟩
  by_cases hb : bigT R S (plainNames R S) ops = true
  · have h2 : MarksAns (str (progText (oneP R D S ops er))) 0 [] 5 := .inr ⟨_, hg, rfl, .inr ⟨hr, .inl ⟨rfl, rfl, hb⟩⟩⟩
    exact .inl ⟨(h.one h2).2, hb⟩
  · rw [Bool.not_eq_true] at hb
    have h2 : MarksAns (str (progText (oneP R D S ops er))) 0 (marksT R S D (plainNames R S) ops ops.length) 0 := .inr ⟨_, hg, rfl, .inr ⟨hr, .inr ⟨rfl, hb, rfl⟩⟩⟩
    obtain ⟨h3, h4⟩ := h.one h2
    exact .inr ⟨h4, hb, h3⟩

/-- The program q of one block, boxed at Qb. -/
structure MnSt (w V : World) (Qb g R D S : Nat) (ops : List OpD) (ov : Value) (er : Int) : Prop where
  row : Row V Qb 33 [.int .i64 R, .int .i64 R, .int .i64 D, .int .i64 S, .slice (some ⟨g, 0, none⟩) 1 1]
  own : OwnBlocks V w.heap.size (.slice (some ⟨g, 0, none⟩) 1 1) [(⟨ops, ⟨3, er, 0, 0⟩⟩, ov)]
  below : Below w.heap.size w V
  low : g < Qb

theorem MnSt.keep {w V V' : World} {Qb g R D S : Nat} {ops : List OpD} {ov : Value} {er : Int} (h : MnSt w V Qb g R D S ops ov er) (hb : Below V.heap.size V V') : MnSt w V' Qb g R D S ops ov er :=
  ⟨h.row.keep hb, h.own.below hb (Nat.le_refl _), h.below.trans (hb.mono h.below.size), h.low⟩

theorem MnSt.set {w V : World} {Qb g R D S : Nat} {ops : List OpD} {ov : Value} {er : Int} (h : MnSt w V Qb g R D S ops ov er) (r : Int) : MnSt w (V.setCell ⟨g, 2, none⟩ (.int .i64 r)) Qb g R D S ops ov r := by
  have hl := h.low
  exact ⟨h.row.unset (a := ⟨g, 2, none⟩) (by show Qb ≠ g; omega) _, h.own.setR (i := 0) (by simp) r, h.below.setCell (p := ⟨g, 2, none⟩) ((h.own.row.lt g rfl).1) _, h.low⟩

theorem MnSt.rd {w V : World} {Qb g R D S : Nat} {ops : List OpD} {ov : Value} {er : Int} (h : MnSt w V Qb g R D S ops ov er) : RdBlocks V (.slice (some ⟨g, 0, none⟩) 1 1) [⟨ops, ⟨3, er, 0, 0⟩⟩] := OwnBlocks.rd h.own

theorem MnSt.cells {w V : World} {Qb g R D S : Nat} {ops : List OpD} {ov : Value} {er : Int} (h : MnSt w V Qb g R D S ops ov er) : V.cell? ⟨g, 0, none⟩ = some ov ∧ V.cell? ⟨g, 2, none⟩ = some (.int .i64 er) ∧ V.frozen? ⟨g, 2, none⟩ = false := by
  obtain ⟨b, e, _, c0, _, c2, _, _, cf⟩ := ownBlocks_at h.own (i := 0) (by simp)
  simp only [Option.some.injEq, Addr.mk.injEq, and_true] at e
  subst e
  exact ⟨by simpa using c0, by simpa using c2, cf 2⟩

theorem strO_size (l : List UInt8) : (str l).size = l.length := by simp [str, ByteArray.size]

theorem rdO_away {V V' : World} {Rb : Nat} (hlt : V.heap.size ≤ Rb) (hb : Below V.heap.size V V') {V2 : World} (hk : Keep (fun g => g = Rb) V' V2) : Below V.heap.size V V2 :=
  hb.trans (hk.toBelow hb.size (fun g hg => by rw [hg]; exact hlt))

end Go.Proofs.YtblhmeidbjigaaaGreatDoor

/- twinkeep.fails: a mark, worked out. -/
set_option linter.unusedSimpArgs false
set_option linter.unusedVariables false
namespace Go.Proofs.YtblhmeidbjigaaaGreatDoor
open Go.RowKit Go.Deep

set_option maxRecDepth 100000 in
set_option maxHeartbeats 1500000 in
theorem fails_cell (u : TD) (R D S : Nat) (g : Nat) (av mv sv : Value) (la lm ls : List Int) (w : World) (ha : RdWords w av la) (hm : RdWords w mv lm) (hs : RdWords w sv ls) (hR : R ≤ 8) (hD : D ≤ 8) (hS : S ≤ 8) (hu : RWordC (envS R la lm ls) R S D u) (hlen : (showM (.cell u)).length ≤ 1000000000) (Post : Ending → World → Prop)
    (hp : ∀ w', Below w.heap.size w w' → Post (.returned (.tuple #[.int .i64 (fails (envS R la lm ls) D (.cell u)), .bool true])) w') :
    Calls Tryz.prog 24 #[.string (str (showM (.cell u))), .agg #[.int .i64 R, .int .i64 R, .int .i64 D, .int .i64 S, .slice (some ⟨g, 0, none⟩) 1 1], .agg #[av, mv, sv]] w Post := by
  obtain ⟨ia, ca, rfl, _, _⟩ := id ha
  obtain ⟨im, cm, rfl, _, _⟩ := id hm
  obtain ⟨is, cs, rfl, _, _⟩ := id hs
  obtain ⟨an, han⟩ : ∃ an, an = la.length := ⟨_, rfl⟩
  obtain ⟨mn, hmn⟩ : ∃ mn, mn = lm.length := ⟨_, rfl⟩
  obtain ⟨sn, hsn⟩ : ∃ sn, sn = ls.length := ⟨_, rfl⟩
  rw [← han] at ha ⊢
  rw [← hmn] at hm ⊢
  rw [← hsn] at hs ⊢
  clear han hmn hsn
  obtain ⟨L, hLe⟩ : ∃ L, L = showM (.cell u) := ⟨_, rfl⟩
  have hL9 : L.length ≤ 1000000000 := by rw [hLe]; exact hlen
  have htx0 : L.drop 0 = 64 :: 32 :: showT u := by rw [hLe]; simp [showM]
  obtain ⟨_, hc0, t1⟩ := drop_next htx0
  have hc0 : nextB L 0 = 64 := hc0
  obtain ⟨h1n, h1c, t2⟩ := drop_next t1
  have h1c : nextB L 1 = 32 := h1c
  have HLL : Hid (L.length = (showM (.cell u)).length) := by show _ = _; rw [hLe]
  rw [← hLe]
  clear hlen htx0 hLe
  obtain ⟨W, hW⟩ : ∃ W, W = (w.alloc (.cells #[.int .i64 R, .int .i64 R, .int .i64 D, .int .i64 S, .slice (some ⟨g, 0, none⟩) 1 1] 33)).alloc (.cells #[.slice ia an ca, .slice im mn cm, .slice is sn cs] 44) := ⟨_, rfl⟩
  have bW : Below w.heap.size w W := by rw [hW]; exact ((Below.refl _ _).alloc (Nat.le_refl _) _).alloc (by simp) _
  have rP : Row W w.heap.size 33 [.int .i64 R, .int .i64 R, .int .i64 D, .int .i64 S, .slice (some ⟨g, 0, none⟩) 1 1] := by rw [hW]; exact Row.alloc (heap_alloc_new w _) _
  have q1 := fun P' => begun_cps L (R : Int) R D S (.slice (some ⟨g, 0, none⟩) 1 1) (.slice ia an ca) (.slice im mn cm) (.slice is sn cs) la lm ls W (ha.keep bW) (hm.keep bW) (hs.keep bW) ⟨_, _, _, rfl⟩ hR hD hS P'
  obtain ⟨X, hX⟩ : ∃ X, X = str L := ⟨_, rfl⟩
  rw [← hX] at q1 ⊢
  have HX := Lib.hid hX
  rw [hW] at q1
  have HW := Lib.hid hW
  have HRP := Lib.hid rP
  have HBW := Lib.hid bW
  have HP := Lib.hid hp
  clear ha hm hs hX hW rP bW hp
  go_enter Tryz.func24, Tryz.ntmps24
  go_wp2_with fail
  refine q1 _ ?_
  rw [← HW.out]
  intro Rb rv sv mv w1 rG1 env1 hlt1 hb1
  have q2 := kByteAt_any Rb L 0 false rv sv mv w1 rG1 hL9
  rw [hc0] at q2
  have HE1 := Lib.hid env1
  have HG1 := Lib.hid rG1
  have HB1 := Lib.hid hb1
  clear q1 rG1 env1 hb1 hc0 HW
  go_wp2_with fail
  refine q2.mono ?_
  rintro e w2 ⟨rfl, m, rfl⟩
  have rG2 : Row (w1.drewN m) Rb 57 (rdgC L ((0 : Nat) : Int) false rv sv mv) := HG1.out.keep (below_drewN (Below.refl _ _) m)
  have k2 : Keep (fun g => g = Rb) w1 (w1.drewN m) := (Keep.refl (fun g => g = Rb) w1).below (below_drewN (Below.refl w1.heap.size w1) m) (Nat.le_refl _)
  have d1 : (w1.drewN m).cell? ⟨Rb, 1, none⟩ = some (.int .i64 0) := rG2.cell (i := 1) rfl
  have g1 := rG2.frozen 1
  have rG3 : Row ((w1.drewN m).setCell ⟨Rb, 1, none⟩ (.int .i64 1)) Rb 57 (rdgC L ((1 : Nat) : Int) false rv sv mv) := rG2.set 1 (.int .i64 1)
  have k3 := k2.setCell (p := ⟨Rb, 1, none⟩) (.inl rfl) (.int .i64 1)
  have q3 := fun P' => kTake_cps Rb L 1 false rv sv mv 32 ((w1.drewN m).setCell ⟨Rb, 1, none⟩ (.int .i64 1)) rG3 hL9 h1n h1c P'
  have K3 := Lib.hid k3
  clear q2 HG1 rG2 k2 rG3 k3 h1c
  go_wp2_with fail
  refine q3 _ ?_
  intro w4 rG4 k4
  have K4 := Lib.hid (K3.out.trans k4)
  have rG4 : Row w4 Rb 57 (rdgC L ((2 : Nat) : Int) false rv sv mv) := rG4
  clear q3 k4 K3 d1 g1
  have t2' : L.drop 2 = showT u ++ [] := by rw [List.append_nil]; exact t2
  have q5 := fun P' => hu Rb L 2 [] rv sv mv w4 P' rG4 (HE1.out.kept K4.out) hL9 t2' stops_nil
  have HFD : Hid (fails (envS R la lm ls) D (.cell u) = if 0 ≤ evW (envS R la lm ls) u ∧ evW (envS R la lm ls) u < D then 0 else 2) := rfl
  clear rG4 t1 t2 t2' hu
  generalize evW (envS R la lm ls) u = x at *
  go_wp2_with fail
  refine q5 _ ?_
  intro w5 rG5 k5
  have K5 := Lib.hid (K4.out.trans k5)
  have hzz : 2 + (showT u).length = L.length := by rw [HLL.out]; simp [showM]; omega
  rw [hzz, ← strO_size L, ← HX.out] at rG5
  have bE : Below W.heap.size W w5 := rdO_away hlt1 HB1.out K5.out
  have rP5 := HRP.out.keep bE
  have p2 := rP5.cell (i := 2) rfl
  have bw5 : Below w.heap.size w w5 := HBW.out.trans (bE.mono HBW.out.size)
  have a1 := rG5.cell (i := 1) rfl
  have a2 := rG5.cell (i := 2) rfl
  have HF0 : Hid (∀ m, Post (.returned (.tuple #[.int .i64 (fails (envS R la lm ls) D (.cell u)), .bool true])) (w5.drewN m)) := fun m => HP.out _ (below_drewN bw5 m)
  rw [HFD.out] at HF0
  clear q5 rG5 k5 K5 hzz bE rP5 bw5 HP HB1 HRP HBW K4 HE1 HFD HX HLL
  by_cases hx0 : x < 0
  · rw [if_neg (by omega)] at HF0
    have HF := HF0
    clear HF0
    go_wp2
    go_quiet (fail)
    go_wp2
    first | exact HF.out _ | (go_ret2; exact HF.out _)
  · by_cases hxD : x < (D : Int)
    · rw [if_pos (by omega)] at HF0
      have HF := HF0
      have hxn : ¬ ((D : Int) ≤ x) := by omega
      clear HF0
      go_wp2
      go_quiet (fail)
      go_wp2
      first | exact HF.out _ | (go_ret2; exact HF.out _)
    · rw [if_neg (by omega)] at HF0
      have HF := HF0
      have hxn : (D : Int) ≤ x := by omega
      clear HF0
      go_wp2
      go_quiet (fail)
      go_wp2
      first | exact HF.out _ | (go_ret2; exact HF.out _)

set_option maxRecDepth 100000 in
set_option maxHeartbeats 1500000 in
theorem fails_div (u v : TD) (R D S : Nat) (g : Nat) (av mv sv : Value) (la lm ls : List Int) (w : World) (ha : RdWords w av la) (hm : RdWords w mv lm) (hs : RdWords w sv ls) (hR : R ≤ 8) (hD : D ≤ 8) (hS : S ≤ 8) (hu : RWordC (envS R la lm ls) R S D u) (hv : RWordC (envS R la lm ls) R S D v) (hlen : (showM (.div u v)).length ≤ 1000000000) (Post : Ending → World → Prop)
    (hp : ∀ w', Below w.heap.size w w' → Post (.returned (.tuple #[.int .i64 (fails (envS R la lm ls) D (.div u v)), .bool true])) w') :
    Calls Tryz.prog 24 #[.string (str (showM (.div u v))), .agg #[.int .i64 R, .int .i64 R, .int .i64 D, .int .i64 S, .slice (some ⟨g, 0, none⟩) 1 1], .agg #[av, mv, sv]] w Post := by
  obtain ⟨ia, ca, rfl, _, _⟩ := id ha
  obtain ⟨im, cm, rfl, _, _⟩ := id hm
  obtain ⟨is, cs, rfl, _, _⟩ := id hs
  obtain ⟨an, han⟩ : ∃ an, an = la.length := ⟨_, rfl⟩
  obtain ⟨mn, hmn⟩ : ∃ mn, mn = lm.length := ⟨_, rfl⟩
  obtain ⟨sn, hsn⟩ : ∃ sn, sn = ls.length := ⟨_, rfl⟩
  rw [← han] at ha ⊢
  rw [← hmn] at hm ⊢
  rw [← hsn] at hs ⊢
  clear han hmn hsn
  obtain ⟨L, hLe⟩ : ∃ L, L = showM (.div u v) := ⟨_, rfl⟩
  have hL9 : L.length ≤ 1000000000 := by rw [hLe]; exact hlen
  have htx0 : L.drop 0 = 47 :: 32 :: (showT u ++ 32 :: showT v) := by rw [hLe]; simp [showM]
  obtain ⟨_, hc0, t1⟩ := drop_next htx0
  have hc0 : nextB L 0 = 47 := hc0
  obtain ⟨h1n, h1c, t2⟩ := drop_next t1
  have h1c : nextB L 1 = 32 := h1c
  have HLL : Hid (L.length = (showM (.div u v)).length) := by show _ = _; rw [hLe]
  rw [← hLe]
  clear hlen htx0 hLe
  obtain ⟨W, hW⟩ : ∃ W, W = (w.alloc (.cells #[.int .i64 R, .int .i64 R, .int .i64 D, .int .i64 S, .slice (some ⟨g, 0, none⟩) 1 1] 33)).alloc (.cells #[.slice ia an ca, .slice im mn cm, .slice is sn cs] 44) := ⟨_, rfl⟩
  have bW : Below w.heap.size w W := by rw [hW]; exact ((Below.refl _ _).alloc (Nat.le_refl _) _).alloc (by simp) _
  have rP : Row W w.heap.size 33 [.int .i64 R, .int .i64 R, .int .i64 D, .int .i64 S, .slice (some ⟨g, 0, none⟩) 1 1] := by rw [hW]; exact Row.alloc (heap_alloc_new w _) _
  have q1 := fun P' => begun_cps L (R : Int) R D S (.slice (some ⟨g, 0, none⟩) 1 1) (.slice ia an ca) (.slice im mn cm) (.slice is sn cs) la lm ls W (ha.keep bW) (hm.keep bW) (hs.keep bW) ⟨_, _, _, rfl⟩ hR hD hS P'
  obtain ⟨X, hX⟩ : ∃ X, X = str L := ⟨_, rfl⟩
  rw [← hX] at q1 ⊢
  have HX := Lib.hid hX
  rw [hW] at q1
  have HW := Lib.hid hW
  have HRP := Lib.hid rP
  have HBW := Lib.hid bW
  have HP := Lib.hid hp
  clear ha hm hs hX hW rP bW hp
  go_enter Tryz.func24, Tryz.ntmps24
  go_wp2_with fail
  refine q1 _ ?_
  rw [← HW.out]
  intro Rb rv sv mv w1 rG1 env1 hlt1 hb1
  have q2 := kByteAt_any Rb L 0 false rv sv mv w1 rG1 hL9
  rw [hc0] at q2
  have HE1 := Lib.hid env1
  have HG1 := Lib.hid rG1
  have HB1 := Lib.hid hb1
  clear q1 rG1 env1 hb1 hc0 HW
  go_wp2_with fail
  refine q2.mono ?_
  rintro e w2 ⟨rfl, m, rfl⟩
  have rG2 : Row (w1.drewN m) Rb 57 (rdgC L ((0 : Nat) : Int) false rv sv mv) := HG1.out.keep (below_drewN (Below.refl _ _) m)
  have k2 : Keep (fun g => g = Rb) w1 (w1.drewN m) := (Keep.refl (fun g => g = Rb) w1).below (below_drewN (Below.refl w1.heap.size w1) m) (Nat.le_refl _)
  have d1 : (w1.drewN m).cell? ⟨Rb, 1, none⟩ = some (.int .i64 0) := rG2.cell (i := 1) rfl
  have g1 := rG2.frozen 1
  have rG3 : Row ((w1.drewN m).setCell ⟨Rb, 1, none⟩ (.int .i64 1)) Rb 57 (rdgC L ((1 : Nat) : Int) false rv sv mv) := rG2.set 1 (.int .i64 1)
  have k3 := k2.setCell (p := ⟨Rb, 1, none⟩) (.inl rfl) (.int .i64 1)
  have q3 := fun P' => kTake_cps Rb L 1 false rv sv mv 32 ((w1.drewN m).setCell ⟨Rb, 1, none⟩ (.int .i64 1)) rG3 hL9 h1n h1c P'
  have K3 := Lib.hid k3
  clear q2 HG1 rG2 k2 rG3 k3 h1c
  go_wp2_with fail
  refine q3 _ ?_
  intro w4 rG4 k4
  have K4 := Lib.hid (K3.out.trans k4)
  have rG4 : Row w4 Rb 57 (rdgC L ((2 : Nat) : Int) false rv sv mv) := rG4
  clear q3 k4 K3 d1 g1
  have t2' : L.drop 2 = showT u ++ 32 :: showT v := t2
  have q5 := fun P' => hu Rb L 2 (32 :: showT v) rv sv mv w4 P' rG4 (HE1.out.kept K4.out) hL9 t2' (stops_cons (by decide))
  have HFD : Hid (fails (envS R la lm ls) D (.div u v) = if evW (envS R la lm ls) v = 0 then 3 else 0) := rfl
  have t5 := drop_past t2'
  clear rG4 t1 t2 t2' hu
  generalize evW (envS R la lm ls) u = x at *
  go_wp2_with fail
  refine q5 _ ?_
  intro w5 rG5 k5
  have K5 := Lib.hid (K4.out.trans k5)
  obtain ⟨p5, hp5⟩ : ∃ p5, p5 = 2 + (showT u).length := ⟨_, rfl⟩
  rw [← hp5] at rG5 t5
  have HP5 := Lib.hid hp5
  clear q5 k5 K4 hp5
  obtain ⟨h6n, h6c, t6⟩ := drop_next t5
  have h6c : nextB L p5 = 32 := h6c
  have q6 := fun P' => kTake_cps Rb L p5 false rv sv mv 32 w5 rG5 hL9 h6n h6c P'
  clear h6c t5
  go_wp2_with fail
  refine q6 _ ?_
  intro w6 rG6 k6
  have K6 := Lib.hid (K5.out.trans k6)
  have rG6 : Row w6 Rb 57 (rdgC L ((p5 + 1 : Nat) : Int) false rv sv mv) := rG6
  have t6' : L.drop (p5 + 1) = showT v ++ [] := by rw [List.append_nil]; exact t6
  have q7 := fun P' => hv Rb L (p5 + 1) [] rv sv mv w6 P' rG6 (HE1.out.kept K6.out) hL9 t6' stops_nil
  clear q6 k6 K5 rG5 rG6 t6 t6' hv h6n
  generalize evW (envS R la lm ls) v = y at *
  go_wp2_with fail
  refine q7 _ ?_
  intro w7 rG7 k7
  have K7 := Lib.hid (K6.out.trans k7)
  have hzz : p5 + 1 + (showT v).length = L.length := by rw [HLL.out, HP5.out]; simp [showM]; omega
  rw [hzz, ← strO_size L, ← HX.out] at rG7
  have bE : Below W.heap.size W w7 := rdO_away hlt1 HB1.out K7.out
  have bw7 : Below w.heap.size w w7 := HBW.out.trans (bE.mono HBW.out.size)
  have a1 := rG7.cell (i := 1) rfl
  have a2 := rG7.cell (i := 2) rfl
  have HF0 : Hid (∀ m, Post (.returned (.tuple #[.int .i64 (fails (envS R la lm ls) D (.div u v)), .bool true])) (w7.drewN m)) := fun m => HP.out _ (below_drewN bw7 m)
  rw [HFD.out] at HF0
  clear q7 rG7 k7 K7 hzz bE bw7 HP HB1 HRP HBW K6 HE1 HFD HX HLL HP5
  by_cases hy0 : y = 0
  · subst hy0
    rw [if_pos rfl] at HF0
    have HF := HF0
    clear HF0
    go_wp2
    go_quiet (fail)
    go_wp2
    first | exact HF.out _ | (go_ret2; exact HF.out _)
  · rw [if_neg hy0] at HF0
    have HF := HF0
    clear HF0
    go_wp2
    go_quiet (fail)
    go_wp2
    first | exact HF.out _ | (go_ret2; exact HF.out _)

theorem kFails_cps (m : MD) (R D S : Nat) (g : Nat) (av mv sv : Value) (la lm ls : List Int) (w : World) (ha : RdWords w av la) (hm : RdWords w mv lm) (hs : RdWords w sv ls) (hR : R ≤ 8) (hD : D ≤ 8) (hS : S ≤ 8) (hf : m.fine) (hsm : safeM (envS R la lm ls) R S D m) (hlen : (showM m).length ≤ 1000000000) (Post : Ending → World → Prop)
    (hp : ∀ w', Below w.heap.size w w' → Post (.returned (.tuple #[.int .i64 (fails (envS R la lm ls) D m), .bool true])) w') :
    Calls Tryz.prog 24 #[.string (str (showM m)), .agg #[.int .i64 R, .int .i64 R, .int .i64 D, .int .i64 S, .slice (some ⟨g, 0, none⟩) 1 1], .agg #[av, mv, sv]] w Post := by
  cases m with
  | cell u => exact fails_cell u R D S g av mv sv la lm ls w ha hm hs hR hD hS ((reads_all _ R S D (by omega) (by omega) (by omega) _ hf hsm.1).1 hsm.2) hlen Post hp
  | div u v => exact fails_div u v R D S g av mv sv la lm ls w ha hm hs hR hD hS ((reads_all _ R S D (by omega) (by omega) (by omega) _ hf.1 hsm.1.1).1 hsm.1.2) ((reads_all _ R S D (by omega) (by omega) (by omega) _ hf.2 hsm.2.1).1 hsm.2.2) hlen Post hp

theorem first_app {r : EnvD} {data : Int} {m : MD} {l2 : List MD} : ∀ l1 : List MD, firstFail r data l1 = 0 → firstFail r data (l1 ++ m :: l2) = if fails r data m ≠ 0 then fails r data m else firstFail r data l2 := by
  intro l1
  induction l1 with
  | nil => intro _; rfl
  | cons a l ih =>
    intro h
    simp only [firstFail] at h
    by_cases h0 : fails r data a = 0
    · rw [if_neg (by simpa using h0)] at h
      rw [List.cons_append]
      simp only [firstFail]
      rw [if_neg (by simpa using h0)]
      exact ih h
    · rw [if_pos h0] at h
      exact absurd h h0

theorem mark_len {R S : Nat} {ops : List OpD} (hg : opsGood R S ops = true) (hb : bigT R S (plainNames R S) ops = false) {k : Nat} (hk : k < ops.length) {m : MD} (hm : rawMark R S (plainNames R S) ops k = some m) (hf : m.fine) : (showM m).length ≤ 294840 := by
  have key := not_big hg hb k (by omega)
  unfold rawMark at hm
  split at hm
  · simp only [Option.some.injEq] at hm
    subst hm
    have h1 := show_length hf.1
    have h2 := show_length hf.2
    have z1 := key (ops.getD k oz).b
    have z2 := key (ops.getD k oz).c
    simp only [showM, List.length_cons, List.length_append]
    omega
  · split at hm
    · simp only [Option.some.injEq] at hm
      subst hm
      have hf' : (behindT R S (plainNames R S) ops k (ops.getD k oz).b).fine := hf
      have h1 := show_length hf'
      have z1 := key (ops.getD k oz).b
      simp only [showM, List.length_cons]
      omega
    · split at hm
      · simp only [Option.some.injEq] at hm
        subst hm
        have hf' : (behindT R S (plainNames R S) ops k (ops.getD k oz).a).fine := hf
        have h1 := show_length hf'
        have z1 := key (ops.getD k oz).a
        simp only [showM, List.length_cons]
        omega
      · cases hm

end Go.Proofs.YtblhmeidbjigaaaGreatDoor

/- twinkeep.Warned: a block traps as the first of its marks that fails says. -/
set_option linter.unusedSimpArgs false
set_option linter.unusedVariables false
namespace Go.Proofs.YtblhmeidbjigaaaGreatDoor
open Go.RowKit Go.Deep

set_option maxRecDepth 100000 in
set_option maxHeartbeats 2000000 in
theorem warned_cps (ao : Option Addr) (rn cap : Nat) (va vm vs : Value) (la lm ls : List Int) (w : World) (hraw : RdInts w (.slice ao rn cap) rn) (htab : TabW w) (ha : RdWords w va la) (hm : RdWords w vm lm) (hs : RdWords w vs ls) (wa : Wide la) (wm : Wide lm) (ws : Wide ls) (Post : Ending → World → Prop)
    (hp : ∀ w', Below w.heap.size w w' → Post (.returned (.bool true)) w') :
    Calls Tryz.prog 6 #[.slice ao rn cap, va, vm, vs] w Post := by
  obtain ⟨o1, c1, rfl, _, _⟩ := id ha
  obtain ⟨o2, c2, rfl, _, _⟩ := id hm
  obtain ⟨o3, c3, rfl, _, _⟩ := id hs
  have q1 := fun P' => single_cps ao rn cap w hraw P'
  have HP := Lib.hid hp
  have HA := Lib.hid ha
  have HM := Lib.hid hm
  have HS := Lib.hid hs
  have HTB := Lib.hid htab
  have WA := Lib.hid (padTo_wide wa)
  have WM := Lib.hid (padTo_wide wm)
  have WS := Lib.hid (padTo_wide ws)
  clear hp ha hm hs htab wa wm ws hraw
  go_enter Tryz.func6, Tryz.ntmps6
  go_wp2_with fail
  refine q1 _ ?_
  intro R D S ops g ov w1 hR hD hS hol hog own1 b1
  have hgl : g < w1.heap.size := (own1.row.lt g rfl).2
  obtain ⟨W0, hW0⟩ : ∃ x, x = w1.alloc (.cells #[.int .i64 R, .int .i64 R, .int .i64 D, .int .i64 S, .slice (some ⟨g, 0, none⟩) 1 1] 33) := ⟨_, rfl⟩
  have b01 : Below w1.heap.size w1 W0 := by rw [hW0]; exact (Below.refl _ _).alloc (Nat.le_refl _) _
  have S0 : MnSt w W0 w1.heap.size g R D S ops ov 0 := ⟨by rw [hW0]; exact heap_alloc_new w1 _, own1.below b01 (Nat.le_refl _), b1.trans (b01.mono b1.size), hgl⟩
  have HOG := Lib.hid hog
  have GP : Hid (progGood (oneP R D S ops 0) = true) := one_good hR hD hS hol hog ⟨by omega, by omega⟩
  have q3 := kText_any (R : Int) (R : Int) (D : Int) (S : Int) (.slice (some ⟨g, 0, none⟩) 1 1) [⟨ops, ⟨3, 0, 0, 0⟩⟩] W0 S0.rd GP.out
  have HPT : Hid (progText ⟨(R : Int), (R : Int), (D : Int), (S : Int), [⟨ops, ⟨3, 0, 0, 0⟩⟩]⟩ = progText (oneP R D S ops 0)) := rfl
  rw [HPT.out] at q3
  have hps : (str (progText (oneP R D S ops 0))).size ≤ maxLen := progText_small GP.out
  obtain ⟨T, hT⟩ : ∃ T, T = str (progText (oneP R D S ops 0)) := ⟨_, rfl⟩
  have HT := Lib.hid hT
  rw [← hT] at q3 hps
  rw [hW0] at q3
  have HS4 := Lib.hid S0
  have HW0 := Lib.hid hW0
  clear hT HPT q1 own1 b1 hgl hW0 b01 S0 hog
  go_wp2_with fail
  refine q3.mono ?_
  rw [← HW0.out]
  rintro er w5 ⟨rfl, hb5⟩
  have S5 := HS4.out.keep hb5
  clear q3 hb5 HS4 HW0
  have bw5 := S5.below
  have q4 := fun P' => suited_cps (R : Int) R D S (.slice (some ⟨g, 0, none⟩) 1 1) _ _ _ la lm ls w5 (HA.out.keep bw5) (HM.out.keep bw5) (HS.out.keep bw5) (by omega) (by omega) (by omega) ⟨_, _, _, rfl⟩ P'
  have e0 := S5.row.cell (i := 0) rfl
  have e1 := S5.row.cell (i := 1) rfl
  have e2 := S5.row.cell (i := 2) rfl
  have e3 := S5.row.cell (i := 3) rfl
  have e4 := S5.row.cell (i := 4) rfl
  have HS5 := Lib.hid S5
  clear S5 bw5 HA HM HS
  go_wp2_with fail
  refine q4 _ ?_
  intro av mv sv w6 hin
  have S6 := HS5.out.keep hin.below
  obtain ⟨ia, ca, rfl, _, _⟩ := id hin.args
  obtain ⟨im, cm, rfl, _, _⟩ := id hin.mem
  obtain ⟨is, cs, rfl, _, _⟩ := id hin.spill
  rw [padTo_length, padTo_length, padTo_length]
  obtain ⟨W7, hW7⟩ : ∃ x, x = w6.alloc (.cells #[.slice ia R ca, .slice im D cm, .slice is S cs] 44) := ⟨_, rfl⟩
  have b67 : Below w6.heap.size w6 W7 := by rw [hW7]; exact (Below.refl _ _).alloc (Nat.le_refl _) _
  have rI : Row W7 w6.heap.size 44 [.slice ia R ca, .slice im D cm, .slice is S cs] := by rw [hW7]; exact heap_alloc_new w6 _
  have S7 := S6.keep b67
  have ra := hin.args.keep b67
  have rm := hin.mem.keep b67
  have rs := hin.spill.keep b67
  rw [padTo_length] at ra rm rs
  have q5 := fun P' => tRun_cps T (.slice ia R ca) (.slice im D cm) (.slice is S cs) (padTo la R) (padTo lm D) (padTo ls S) 1 W7 ra rm rs hps P'
  rw [hW7] at q5
  have HW7 := Lib.hid hW7
  have HRI := Lib.hid rI
  have HS7 := Lib.hid S7
  have HRA := Lib.hid ra
  have HRM := Lib.hid rm
  have HRS := Lib.hid rs
  clear q4 hin S6 b67 rI S7 ra rm rs e0 e1 e2 e3 e4 HS5 hW7
  go_wp2_with fail
  refine q5 _ ?_
  rw [← HW7.out]
  intro o e mv lv w8 hans hout
  have hfit : fits (oneP R D S ops 0) (padTo la R) (padTo lm D) (padTo ls S) := ⟨by rw [padTo_length]; rfl, by rw [padTo_length]; rfl, by rw [padTo_length]; rfl⟩
  rw [HT.out] at hans
  obtain ⟨he, ho⟩ := runO GP.out hfit hans
  subst he
  have ONE := Lib.hid (one_run GP.out HOG.out ⟨by omega, by omega⟩ hR.2 hS (padTo_length la R) (padTo_length lm D) (padTo_length ls S) (WA.out R) (WM.out D) (WS.out S) ho)
  have b78 := hout.below
  have S8 := HS7.out.keep b78
  have rI8 := HRI.out.keep b78
  have ra8 := HRA.out.keep b78
  have rm8 := HRM.out.keep b78
  have rs8 := HRS.out.keep b78
  have rdm := owns_rdI hout.mem
  obtain ⟨mo, mc, hmv⟩ := owns_slice hout.mem
  obtain ⟨lo, lc, hlv⟩ := owns_slice hout.leak
  obtain ⟨ml, hml⟩ : ∃ ml, ml = o.mem.length := ⟨_, rfl⟩
  obtain ⟨ll, hll⟩ : ∃ ll, ll = o.leak.length := ⟨_, rfl⟩
  rw [← hml] at hmv
  rw [← hll] at hlv
  subst hmv
  subst hlv
  obtain ⟨kd, hkd⟩ : ∃ kd, kd = o.kind := ⟨_, rfl⟩
  obtain ⟨res, hres⟩ : ∃ res, res = o.result := ⟨_, rfl⟩
  rw [← hkd, ← hres]
  obtain ⟨W9, hW9⟩ : ∃ y, y = w8.alloc (.cells #[.int .i64 kd, .int .i64 res, .slice mo ml mc, .slice lo ll lc] 47) := ⟨_, rfl⟩
  have b89 : Below w8.heap.size w8 W9 := by rw [hW9]; exact (Below.refl _ _).alloc (Nat.le_refl _) _
  have rO : Row W9 w8.heap.size 47 [.int .i64 kd, .int .i64 res, .slice mo ml mc, .slice lo ll lc] := by rw [hW9]; exact heap_alloc_new w8 _
  have S9 := S8.keep b89
  have rI9 := rI8.keep b89
  have ra9 := ra8.keep b89
  have rm9 := rm8.keep b89
  have rs9 := rs8.keep b89
  have rd9 := rdm.keep b89
  have q6 := fun P' => kEnded_cps (R : Int) (R : Int) (D : Int) (S : Int) (.slice (some ⟨g, 0, none⟩) 1 1) (.slice mo ml mc) (.slice lo ll lc) ⟨ops, ⟨3, 0, 0, 0⟩⟩ kd res W9 S9.rd (by show ops.length ≤ 1000; omega) ⟨_, _, _, rfl⟩ ⟨_, _, _, rfl⟩ (by rw [hkd]; exact ONE.out.kinds) (by rw [hkd]; exact ONE.out.quiet) P'
  have e0 := S9.row.cell (i := 0) rfl
  have e1 := S9.row.cell (i := 1) rfl
  have e2 := S9.row.cell (i := 2) rfl
  have e3 := S9.row.cell (i := 3) rfl
  have e4 := S9.row.cell (i := 4) rfl
  have u0 := rO.cell (i := 0) rfl
  have u1 := rO.cell (i := 1) rfl
  have u2 := rO.cell (i := 2) rfl
  have u3 := rO.cell (i := 3) rfl
  rw [hW9] at q6 e0 e1 e2 e3 e4 u0 u1 u2 u3
  have HS9 := Lib.hid S9
  have HRI9 := Lib.hid rI9
  have HRA9 := Lib.hid ra9
  have HRM9 := Lib.hid rm9
  have HRS9 := Lib.hid rs9
  have HRD9 := Lib.hid rd9
  have HRO9 := Lib.hid rO
  have HW9 := Lib.hid hW9
  have HML := Lib.hid hml
  clear q5 hans hout b78 S8 rI8 ra8 rm8 rs8 rdm b89 rO S9 rI9 ra9 rm9 rs9 rd9 HS7 HRI HRA HRM HRS HW7 ho hfit hml hll WA WM WS hW9
  have HKD := Lib.hid hkd
  have HRES := Lib.hid hres
  clear hkd hres
  go_wp2_with fail
  refine q6 _ ?_
  rw [← HW9.out]
  intro wa hba
  have S10 := HS9.out.keep hba
  have rI10 := HRI9.out.keep hba
  have ra10 := HRA9.out.keep hba
  have rm10 := HRM9.out.keep hba
  have rs10 := HRS9.out.keep hba
  have rd10 := HRD9.out.keep hba
  have rO10 := HRO9.out.keep hba
  clear q6 hba e0 e1 e2 e3 e4 u0 u1 u2 u3 HS9 HRI9 HRA9 HRM9 HRS9 HRD9 HRO9 HW9
  have q7 := fun P' => tMarks_cps T 0 wa hps (HTB.out.keep S10.below) P'
  have HS10 := Lib.hid S10
  have HRI10 := Lib.hid rI10
  have HRA10 := Lib.hid ra10
  have HRM10 := Lib.hid rm10
  have HRS10 := Lib.hid rs10
  have HRD10 := Lib.hid rd10
  have HRO10 := Lib.hid rO10
  clear S10 rI10 ra10 rm10 rs10 rd10 rO10
  go_wp2_with fail
  refine q7 _ ?_
  intro l er v w11 hans own11 hb11
  rw [HT.out] at hans
  have S11 := HS10.out.keep hb11
  have t1 := marksO GP.out hans
  have rI11 := HRI10.out.keep hb11
  have ra11 := HRA10.out.keep hb11
  have rm11 := HRM10.out.keep hb11
  have rs11 := HRS10.out.keep hb11
  have rO11 := HRO10.out.keep hb11
  have rdt := texts_rd own11
  obtain ⟨lo', lc', hv⟩ := owns_slice own11
  obtain ⟨n, hn⟩ : ∃ n, n = l.length := ⟨_, rfl⟩
  rw [← hn] at hv
  subst hv
  have HN := Lib.hid hn
  clear q7 hans own11 hn HS10 HRI10 HRA10 HRM10 HRS10 HRD10 HRO10 hb11 HML HRES
  by_cases hbig : bigT R S (plainNames R S) ops = true
  · have he1 : er = 5 := by
      rcases t1 with ⟨h, _⟩ | ⟨_, h, _⟩
      · exact h
      · rw [hbig] at h; cases h
    subst he1
    have hl7 : 7 < ops.length := by
      by_cases h : ops.length ≤ 7
      · rw [bigT_short h] at hbig; cases hbig
      · omega
    have e4 := S11.row.cell (i := 4) rfl
    have g0 := S11.cells.1
    obtain ⟨oo, oc, hov⟩ := owns_slice (S11.own.each _ (List.mem_singleton.2 rfl))
    dsimp only at hov
    obtain ⟨on, hon⟩ : ∃ on, on = ops.length := ⟨_, rfl⟩
    rw [hov, ← hon] at g0
    have hl8 : (7 : Int) < (on : Int) := by omega
    have HF := Lib.hid (HP.out w11 S11.below)
    clear t1 S11 rI11 ra11 rm11 rs11 rO11 rdt HP hbig hl7 hov hon HT GP HOG HKD HTB ONE HN
    go_wp2
    first | exact HF.out | (go_ret; exact HF.out)
  have he1 : er = 0 ∧ l = marksT R S D (plainNames R S) ops ops.length := by
    rcases t1 with ⟨_, h⟩ | ⟨h, _, h2⟩
    · exact absurd h hbig
    · exact ⟨h, h2⟩
  rw [Bool.not_eq_true] at hbig
  obtain ⟨rfl, hl⟩ := he1
  obtain ⟨hms, hfin⟩ := marks_show (regs := (R : Int)) (slots := (S : Int)) (data := (D : Int)) (names := plainNames R S) (ops := ops) (fun k hk i h0 h1 => behindT_fine ⟨by omega, by omega⟩ ⟨by omega, by omega⟩ (plainN_le R S (by omega)) HOG.out k hk i h0 h1) HOG.out (by omega) (by omega) ops.length (Nat.le_refl _)
  rw [hms] at hl
  have HNM : Hid (n = (marksD R S D (plainNames R S) ops ops.length).length) := by show _ = _; rw [HN.out, hl, List.length_map]
  have hn12 : n ≤ 12 := by have := marks_le (regs := (R : Int)) (slots := (S : Int)) (data := (D : Int)) (names := plainNames R S) (ops := ops) ops.length; rw [HNM.out]; omega
  have HGET : Hid (∀ i, i < n → l.getD i [] = showM ((marksD R S D (plainNames R S) ops ops.length).getD i (.cell (tnum 0)))) := by
    intro i hi
    have h1 : i < (marksD R S D (plainNames R S) ops ops.length).length := by rw [← HNM.out]; exact hi
    rw [hl]
    simp [List.getD, h1]
  have HMEM : Hid (∀ i, i < n → (marksD R S D (plainNames R S) ops ops.length).getD i (.cell (tnum 0)) ∈ (marksD R S D (plainNames R S) ops ops.length)) := by
    intro i hi
    have h1 : i < (marksD R S D (plainNames R S) ops ops.length).length := by rw [← HNM.out]; exact hi
    simp [List.getD, h1]
  have HAT : Hid (∀ i, i < n → ∃ k, k < ops.length ∧ rawMark R S (plainNames R S) ops k = some ((marksD R S D (plainNames R S) ops ops.length).getD i (.cell (tnum 0))) ∧ marksD R S D (plainNames R S) ops k = (marksD R S D (plainNames R S) ops ops.length).take i) := fun i hi => marks_at ops.length (Nat.le_refl _) i (by rw [← HNM.out]; exact hi)
  have HFIN := Lib.hid hfin
  have HBIG := Lib.hid hbig
  have HS11 := Lib.hid S11
  have HI11 := Lib.hid rI11
  have HRA := Lib.hid ra11
  have HRM := Lib.hid rm11
  have HRS := Lib.hid rs11
  have HO11 := Lib.hid rO11
  have HTX := Lib.hid rdt
  have hn12i : ¬ ((12 : Int) < (n : Int)) := by omega
  clear t1 S11 rI11 ra11 rm11 rs11 rO11 rdt hms hfin hl hbig HT HTB GP
  go_wp2
  go_loopw [17] (fun iv wi => ∃ (i : Nat), i ≤ n ∧ iv = .int .i64 i ∧ Hid (firstFail (envS R (padTo la R) (padTo lm D) (padTo ls S)) D ((marksD R S D (plainNames R S) ops ops.length).take i) = 0) ∧ Below w11.heap.size w11 wi)
    (fun iv _ => n - (intOf iv).toNat)
  case atStart => exact ⟨0, Nat.zero_le _, rfl, rfl, Below.refl _ _⟩
  case round =>
    obtain ⟨i, hi, rfl, hff, hb⟩ := hrel
    by_cases hlt : i < n
    · obtain ⟨mk, hmk⟩ : ∃ mk, mk = (marksD R S D (plainNames R S) ops ops.length).getD i (.cell (tnum 0)) := ⟨_, rfl⟩
      obtain ⟨k, hk, hraw, hpre⟩ := HAT.out i hlt
      rw [← hmk] at hraw
      have hfine : mk.fine := by rw [hmk]; exact HFIN.out _ (HMEM.out i hlt)
      have h0 : firstFail (envS R (padTo la R) (padTo lm D) (padTo ls S)) D (rawMarks R S (plainNames R S) ops k) = 0 := by rw [← marks_fail, hpre]; exact hff.out
      have hsafe := raw_safe HOG.out hk h0 hraw
      have hlen := mark_len HOG.out HBIG.out hk hraw hfine
      have HML : Hid ((marksD R S D (plainNames R S) ops ops.length) = (marksD R S D (plainNames R S) ops ops.length).take i ++ mk :: (marksD R S D (plainNames R S) ops ops.length).drop (i + 1)) := by
        show _ = _
        have h1 : i < (marksD R S D (plainNames R S) ops ops.length).length := by rw [← HNM.out]; exact hlt
        have h2 : mk = (marksD R S D (plainNames R S) ops ops.length)[i] := by rw [hmk]; simp [List.getD, h1]
        rw [h2, ← List.drop_eq_getElem_cons h1, List.take_append_drop]
      obtain ⟨to', tc', e0, _, hcell⟩ := HTX.out.keep hb
      simp only [Value.slice.injEq] at e0
      obtain ⟨rfl, e0, rfl⟩ := e0
      obtain ⟨tb, toff, rfl, hti⟩ := hcell i (by rw [← HN.out]; exact hlt)
      clear hcell e0
      rw [HGET.out i hlt, ← hmk] at hti
      have Sr := HS11.out.keep hb
      have q5 := fun P' => kFails_cps mk R D S g (.slice ia R ca) (.slice im D cm) (.slice is S cs) (padTo la R) (padTo lm D) (padTo ls S) wr.drew ((HRA.out.keep hb).keep (Below.refl _ _).drew) ((HRM.out.keep hb).keep (Below.refl _ _).drew) ((HRS.out.keep hb).keep (Below.refl _ _).drew) (by omega) (by omega) (by omega) hfine hsafe (by omega) P'
      have hXs : (str (showM mk)).size ≤ 294840 := by rw [strO_size]; exact hlen
      obtain ⟨X, hX⟩ : ∃ X, X = str (showM mk) := ⟨_, rfl⟩
      rw [← hX] at q5 hti hXs
      have hXi : ¬ ((294840 : Int) < (X.size : Int)) := by omega
      have rI := HI11.out.keep hb
      have k1 : Below wr.heap.size wr wr.drew := (Below.refl _ _).drew
      have cT : ∀ V, Below wr.heap.size wr V → V.cell? ⟨tb, toff + i, none⟩ = some (.string X) := fun V hV => cell_keep hV hti
      have cQ0 := fun V (hV : Below wr.heap.size wr V) => cell_keep hV (Sr.row.cell (i := 0) rfl)
      have cQ1 := fun V (hV : Below wr.heap.size wr V) => cell_keep hV (Sr.row.cell (i := 1) rfl)
      have cQ2 := fun V (hV : Below wr.heap.size wr V) => cell_keep hV (Sr.row.cell (i := 2) rfl)
      have cQ3 := fun V (hV : Below wr.heap.size wr V) => cell_keep hV (Sr.row.cell (i := 3) rfl)
      have cQ4 := fun V (hV : Below wr.heap.size wr V) => cell_keep hV (Sr.row.cell (i := 4) rfl)
      have cI0 := fun V (hV : Below wr.heap.size wr V) => cell_keep hV (rI.cell (i := 0) rfl)
      have cI1 := fun V (hV : Below wr.heap.size wr V) => cell_keep hV (rI.cell (i := 1) rfl)
      have cI2 := fun V (hV : Below wr.heap.size wr V) => cell_keep hV (rI.cell (i := 2) rfl)
      have hii : (0 : Int) ≤ (i : Int) := by omega
      have hij : (i : Int) < (n : Int) := by omega
      obtain ⟨f, hf⟩ : ∃ f, f = fails (envS R (padTo la R) (padTo lm D) (padTo ls S)) D mk := ⟨_, rfl⟩
      rw [← hf] at q5
      have HFF := Lib.hid hf
      have HMK := Lib.hid hmk
      clear hraw hfine h0 hsafe hlen Sr rI hX hf hmk hpre hk
      go_wp2
      go_region_held3 (fun V => Below wr.heap.size wr V) (first | with_reducible exact k1 | with_reducible exact b5) (first | (go_at_call 24; refine q5 _ ?_; intro w5 b5'; have b5 : Below wr.heap.size wr w5 := k1.trans (b5'.mono k1.size)))
      have hb5 := hb.trans (b5.mono hb.size)
      clear q5 b5' b5 k1 cT cQ0 cQ1 cQ2 cQ3 cQ4 cI0 cI1 cI2 hti hXi hXs
      by_cases hf0 : f = 0
      · have hff2 : Hid (firstFail (envS R (padTo la R) (padTo lm D) (padTo ls S)) D ((marksD R S D (plainNames R S) ops ops.length).take (i + 1)) = 0) := by
          show _ = _
          have h1 : i < (marksD R S D (plainNames R S) ops ops.length).length := by rw [← HNM.out]; exact hlt
          have h2 : (marksD R S D (plainNames R S) ops ops.length)[i] = mk := by rw [HMK.out]; simp [List.getD, h1]
          rw [List.take_succ_eq_append_getElem h1, h2, firstFail_snoc, if_neg (by rw [hff.out]; simp), ← HFF.out, hf0]
        subst hf0
        clear HFF HMK HML hff
        go_wp2
        go_roundw
        case rel => exact ⟨i + 1, by omega, by go_num, hff2, hb5⟩
        case measure => simp [intOf]; omega
      · have h1 := first_app (m := mk) (l2 := (marksD R S D (plainNames R S) ops ops.length).drop (i + 1)) _ hff.out
        rw [← HML.out, ← HFF.out, if_pos hf0] at h1
        have hkf : kd = f := by
          rw [HKD.out]
          by_cases h2 : o.kind = 1
          · have := ONE.out.none h2
            rw [h1] at this
            exact absurd this hf0
          · rw [← ONE.out.trap h2, h1]
        subst hkf
        have rO := HO11.out.keep hb5
        have o0 := rO.cell (i := 0) rfl
        have hfn : (kd != 0) = true := by simpa using hf0
        have HF := Lib.hid (HP.out w5 (HS11.out.keep hb5).below)
        clear h1 rO HFF HMK HML hff hb5 hb HP ONE
        go_wp2
        first | exact HF.out | (go_ret; exact HF.out)
    · have hin : i = n := by omega
      subst hin
      have hff' := hff.out
      rw [HNM.out, List.take_length] at hff'
      have hk1 : kd = 1 := by
        rw [HKD.out]
        by_cases h2 : o.kind = 1
        · exact h2
        · have h3 := ONE.out.trap h2
          rw [hff'] at h3
          have := ONE.out.kinds
          omega
      subst hk1
      have rO := HO11.out.keep hb
      have o0 := rO.cell (i := 0) rfl
      have HF := Lib.hid (HP.out wr (HS11.out.keep hb).below)
      clear hff hff' rO hb HP ONE
      go_wp2
      first | exact HF.out | (go_ret; exact HF.out)

end Go.Proofs.YtblhmeidbjigaaaGreatDoor
