/- Does a program with spare room read as it did? The calls of the program itself. -/
import Derived.Test.YtblhmeidbjigaaaGreatDoorRows
import Derived.WalkKit
import Derived.WalkSpells
import Derived.WalkLawsBesides
import Derived.Laws.BytesArg
import Derived.Deep.QuietTactic
import Derived.BigQuiet
import Derived.Deep.RegionHeld3
import Derived.Maps.AppendAt
import Derived.StillTailTactics
import Derived.Test.YtblhmeidbjigaaaGreatDoorPOwnToPLawKWarned

set_option linter.unusedSimpArgs false
set_option linter.unusedVariables false
namespace Go.Proofs.YtblhmeidbjigaaaGreatDoor
open Go.RowKit

/-! ### The calls themselves -/

set_option maxRecDepth 100000 in
set_option maxHeartbeats 1000000 in
theorem tEncode_any (p : ProgD) (v : Value) (w : World) (hr : RdBlocks w v p.blocks) :
    Calls Tryz.prog 43 #[progV p v] w fun e w' => e = .returned (.tuple (if progGood p then #[.string (str (progText p)), .int .i64 0] else #[.string ⟨#[]⟩, .int .i64 1])) ∧ Below w.heap.size w w' := by
  obtain ⟨a0, a1, a2, a3, l⟩ := p
  unfold progV
  simp only at hr ⊢
  obtain ⟨ao, cap, e0, _, _⟩ := id hr
  subst e0
  have hc := cEncode_any a0 a1 a2 a3 _ l (w.alloc (.cells #[.int .i64 a0, .int .i64 a1, .int .i64 a2, .int .i64 a3, .slice ao l.length cap] 33)) (hr.keep ((Below.refl _ _).alloc (Nat.le_refl _) _))
  cases hg : progGood ⟨a0, a1, a2, a3, l⟩
  · simp only [hg] at hc
    go_enter Tryz.func43, Tryz.ntmps43
    go_wp2_with fail
    refine hc.mono ?_
    rintro e w1 ⟨rfl, hb1⟩
    clear hc
    go_wp2
    go_ret2
    exact ⟨by simp [hg], ((Below.refl _ _).alloc (Nat.le_refl _) _).trans (hb1.mono (by simp))⟩
  · simp only [hg] at hc
    go_enter Tryz.func43, Tryz.ntmps43
    go_wp2_with fail
    refine hc.mono ?_
    rintro e w1 ⟨rfl, hb1⟩
    clear hc
    go_wp2
    go_ret2
    exact ⟨by simp [hg], ((Below.refl _ _).alloc (Nat.le_refl _) _).trans (hb1.mono (by simp))⟩

set_option maxRecDepth 100000 in
set_option maxHeartbeats 1000000 in
theorem tDecode_cps (s : ByteArray) (w : World) (hs : s.size ≤ maxLen) (Post : Ending → World → Prop)
    (hyes : ∀ a0 a1 a2 a3 l v bv w', OwnBlocks w' w.heap.size v bv → bdat bv = l → progGood ⟨a0, a1, a2, a3, l⟩ = true → str (progText ⟨a0, a1, a2, a3, l⟩) = s → Below w.heap.size w w' → Post (.returned (.tuple #[.agg #[.int .i64 a0, .int .i64 a1, .int .i64 a2, .int .i64 a3, v], .int .i64 0])) w')
    (hno : ∀ w', (∀ p, progGood p = true → str (progText p) ≠ s) → Below w.heap.size w w' → Post (.returned (.tuple #[.agg #[.int .i64 0, .int .i64 0, .int .i64 0, .int .i64 0, .slice none 0 0], .int .i64 1])) w') :
    Calls Tryz.prog 44 #[.string s] w Post := by
  have hc := cDecode_any s (w.alloc (.cells #[.int .i64 0, .int .i64 0, .int .i64 0, .int .i64 0, .slice none 0 0] 33)) hs
  have hW : Row (w.alloc (.cells #[.int .i64 0, .int .i64 0, .int .i64 0, .int .i64 0, .slice none 0 0] 33)) w.heap.size 33 [.int .i64 0, .int .i64 0, .int .i64 0, .int .i64 0, .slice none 0 0] := heap_alloc_new w _
  go_enter Tryz.func44, Tryz.ntmps44
  go_wp2_with fail
  refine hc.mono ?_
  clear hc
  rintro e w1 ⟨hor, hb1⟩
  have hz1 := hb1.size
  simp at hz1
  have V := hW.keep hb1
  have x0 := V.cell (i := 0) rfl
  have x1 := V.cell (i := 1) rfl
  have x2 := V.cell (i := 2) rfl
  have x3 := V.cell (i := 3) rfl
  have x4 := V.cell (i := 4) rfl
  have f0 := V.frozen 0
  have f1 := V.frozen 1
  have f2 := V.frozen 2
  have f3 := V.frozen 3
  have f4 := V.frozen 4
  have hb2 : Below w.heap.size w w1 := ((Below.refl _ _).alloc (Nat.le_refl _) _).trans (hb1.mono (by simp))
  rcases hor with ⟨⟨a0, a1, a2, a3, l⟩, v, bv, rfl, ho, hd, hg, ht⟩ | ⟨hn, rfl⟩
  · obtain ⟨ao, cap, rfl⟩ := owns_slice ho.row
    have ho' : OwnBlocks w1 (w.heap.size + 1) (.slice ao bv.length cap) bv := by simpa using ho
    have hfin := hyes a0 a1 a2 a3 l (.slice ao bv.length cap) bv (((((w1.setCell ⟨w.heap.size, 0, none⟩ (.int .i64 a0)).setCell ⟨w.heap.size, 1, none⟩ (.int .i64 a1)).setCell ⟨w.heap.size, 2, none⟩ (.int .i64 a2)).setCell ⟨w.heap.size, 3, none⟩ (.int .i64 a3)).setCell ⟨w.heap.size, 4, none⟩ (.slice ao bv.length cap))
      ((((((ho'.set (by simp) _).set (by simp) _).set (by simp) _).set (by simp) _).set (by simp) _).base (by omega)) hd hg ht
      (((((hb2.setCell (by simp) _).setCell (by simp) _).setCell (by simp) _).setCell (by simp) _).setCell (by simp) _)
    clear hyes hno ho ho' hg ht
    unfold progV
    go_wp2
    exact bodyPost_ret (v := .tuple #[.agg #[.int .i64 a0, .int .i64 a1, .int .i64 a2, .int .i64 a3, .slice ao bv.length cap], .int .i64 0]) (by simp [results, Tryz.results44, go_sem, x0, x1, x2, x3, x4]) rfl hfin
  · have hfin := hno (((((w1.setCell ⟨w.heap.size, 0, none⟩ (.int .i64 0)).setCell ⟨w.heap.size, 1, none⟩ (.int .i64 0)).setCell ⟨w.heap.size, 2, none⟩ (.int .i64 0)).setCell ⟨w.heap.size, 3, none⟩ (.int .i64 0)).setCell ⟨w.heap.size, 4, none⟩ (.slice none 0 0)) hn
      (((((hb2.setCell (by simp) _).setCell (by simp) _).setCell (by simp) _).setCell (by simp) _).setCell (by simp) _)
    clear hyes hno hn
    go_wp2
    exact bodyPost_ret (v := .tuple #[.agg #[.int .i64 0, .int .i64 0, .int .i64 0, .int .i64 0, .slice none 0 0], .int .i64 1]) (by simp [results, Tryz.results44, go_sem, x0, x1, x2, x3, x4]) rfl hfin

end Go.Proofs.YtblhmeidbjigaaaGreatDoor

/- Comparing programs, in twinkeep. -/
set_option linter.unusedSimpArgs false
set_option linter.unusedVariables false
namespace Go.Proofs.YtblhmeidbjigaaaGreatDoor
open Go.RowKit

set_option maxRecDepth 100000 in
set_option maxHeartbeats 1000000 in
theorem kSameOps_any (v u : Value) (ps : List OpD) (w : World) (hv : RdOps w v ps) (hu : RdOps w u ps) :
    Calls Tryz.prog 79 #[v, u] w fun e w' => e = .returned (.bool true) ∧ Below w.heap.size w w' := by
  obtain ⟨ao, cap, rfl, hl, hc⟩ := hv
  obtain ⟨bo, cap2, rfl, _, hd⟩ := hu
  go_enter Tryz.func79, Tryz.ntmps79
  go_wp2
  go_loopw [5] (fun i wr => ∃ (k : Nat), k ≤ ps.length ∧ i = .int .i64 k ∧ Below w.heap.size w wr)
    (fun i _ => ps.length - (intOf i).toNat)
  case atStart => exact ⟨0, Nat.zero_le _, rfl, Below.refl _ _⟩
  case round =>
    obtain ⟨k, hk, rfl, hbel⟩ := hrel
    by_cases hlt : k < ps.length
    · obtain ⟨b, off, rfl, c1, c2, c3, c4⟩ := hc k hlt
      obtain ⟨b', off', rfl, d1, d2, d3, d4⟩ := hd k hlt
      have e1 := cell_keep hbel c1
      have e2 := cell_keep hbel c2
      have e3 := cell_keep hbel c3
      have e4 := cell_keep hbel c4
      have f1 := cell_keep hbel d1
      have f2 := cell_keep hbel d2
      have f3 := cell_keep hbel d3
      have f4 := cell_keep hbel d4
      go_wp2
      go_quiet (fail)
      go_wp2
      go_roundw
      case rel => exact ⟨k + 1, by omega, by go_num, below_drewN hbel _⟩
      case measure => simp [intOf]; omega
    · go_wp2
      go_ret
      exact ⟨rfl, hbel⟩

set_option maxRecDepth 100000 in
set_option maxHeartbeats 2000000 in
theorem kSameProg_any (a0 a1 a2 a3 : Int) (v u : Value) (l : List BlockD) (w : World) (hv : RdBlocks w v l) (hu : RdBlocks w u l) :
    Calls Tryz.prog 45 #[.agg #[.int .i64 a0, .int .i64 a1, .int .i64 a2, .int .i64 a3, v], .agg #[.int .i64 a0, .int .i64 a1, .int .i64 a2, .int .i64 a3, u]] w fun e w' => e = .returned (.bool true) ∧ Below w.heap.size w w' := by
  obtain ⟨ao, cap, rfl, hl, hc⟩ := hv
  obtain ⟨bo, cap2, rfl, _, hd⟩ := hu
  go_enter Tryz.func45, Tryz.ntmps45
  go_wp2
  go_loopw [5] (fun i wr => ∃ (k : Nat), k ≤ l.length ∧ i = .int .i64 k ∧ Below (w.heap.size + 2) ((w.alloc (.cells #[.int .i64 a0, .int .i64 a1, .int .i64 a2, .int .i64 a3, .slice ao l.length cap] 33)).alloc (.cells #[.int .i64 a0, .int .i64 a1, .int .i64 a2, .int .i64 a3, .slice bo l.length cap2] 33)) wr)
    (fun i _ => l.length - (intOf i).toNat)
  case atStart => exact ⟨0, Nat.zero_le _, rfl, Below.refl _ _⟩
  case round =>
    obtain ⟨k, hk, rfl, hbel⟩ := hrel
    have hb0 : Below w.heap.size w wr := (((Below.refl w.heap.size w).alloc (Nat.le_refl _) _).alloc (by simp) _).trans (hbel.mono (by omega))
    have x0 : wr.cell? ⟨w.heap.size, 4, none⟩ = some (.slice ao l.length cap) := (hbel.cell (by simp)).trans (by simp)
    have x1 : wr.cell? ⟨w.heap.size + 1, 4, none⟩ = some (.slice bo l.length cap2) := (hbel.cell (by simp)).trans (by simp)
    have hzz := hbel.size
    simp at hzz
    by_cases hlt : k < l.length
    · obtain ⟨b, off, sv, rfl, c1, c2, c3, c4, c5, c6⟩ := hc k hlt
      obtain ⟨b', off', tv, rfl, d1, d2, d3, d4, d5, d6⟩ := hd k hlt
      have e1 := cell_keep hb0 c1
      have e2 := cell_keep hb0 c2
      have e3 := cell_keep hb0 c3
      have e4 := cell_keep hb0 c4
      have e5 := cell_keep hb0 c5
      have f1 := cell_keep hb0 d1
      have f2 := cell_keep hb0 d2
      have f3 := cell_keep hb0 d3
      have f4 := cell_keep hb0 d4
      have f5 := cell_keep hb0 d5
      have r1 := c6.keep hb0
      have r2 := d6.keep hb0
      have q0 := fun x : Past wr.heap.size wr => x.cell x0
      have q1 := fun x : Past wr.heap.size wr => x.cell x1
      have q2 := fun x : Past wr.heap.size wr => x.cell e1
      have q3 := fun x : Past wr.heap.size wr => x.cell f1
      have np := Past.any wr.heap.size wr
      go_wp2
      refine wp_region_past wr.heap.size (by kernel_rfl) (by kernel_rfl) ?_
      repeat (go_big_quiet_step (exact Calls.past_of (Nat.le_refl _) (kSameOps_any _ _ _ _ (r1.keep (Past.ok _)) (r2.keep (Past.ok _)))))
      refine wpQuiet_nil ?_
      rintro _ ⟨x, rfl⟩
      have y0 := x.cell x0
      have y1 := x.cell x1
      have g2 := x.cell e2
      have g3 := x.cell e3
      have g4 := x.cell e4
      have g5 := x.cell e5
      have h2 := x.cell f2
      have h3 := x.cell f3
      have h4 := x.cell f4
      have h5 := x.cell f5
      have hb1 := hbel.trans (x.ok.mono (by omega))
      generalize x.wd = w1 at *
      clear q0 q1 q2 q3 np
      go_wp2
      go_quiet (fail)
      go_wp2
      go_roundw
      case rel => exact ⟨k + 1, by omega, by go_num, below_drewN hb1 _⟩
      case measure => simp [intOf]; omega
    · go_wp2
      go_ret
      exact ⟨rfl, hb0⟩

end Go.Proofs.YtblhmeidbjigaaaGreatDoor

/- text and hintText of twinkeep. -/
set_option linter.unusedSimpArgs false
set_option linter.unusedVariables false
namespace Go.Proofs.YtblhmeidbjigaaaGreatDoor
open Go.RowKit

theorem progText_small {p : ProgD} (hg : progGood p = true) : (str (progText p)).size ≤ maxLen := by
  have := progTo_size hg p.blocks.length
  rw [progTo_end (Nat.le_refl _)] at this
  unfold maxLen
  omega

set_option maxRecDepth 100000 in
set_option maxHeartbeats 2000000 in
theorem kText_any (a0 a1 a2 a3 : Int) (v : Value) (l : List BlockD) (w : World) (hr : RdBlocks w v l) (hg : progGood ⟨a0, a1, a2, a3, l⟩ = true) :
    Calls Tryz.prog 15 #[.agg #[.int .i64 a0, .int .i64 a1, .int .i64 a2, .int .i64 a3, v]] w fun e w' => e = .returned (.tuple #[.string (str (progText ⟨a0, a1, a2, a3, l⟩)), .bool true]) ∧ Below w.heap.size w w' := by
  obtain ⟨uo, uc, e0, _, _⟩ := id hr
  subst e0
  have hsz := progText_small hg
  have hone : Hid (∀ b0 b1 b2 b3 l2, progGood ⟨b0, b1, b2, b3, l2⟩ = true → str (progText ⟨b0, b1, b2, b3, l2⟩) = str (progText ⟨a0, a1, a2, a3, l⟩) → b0 = a0 ∧ b1 = a1 ∧ b2 = a2 ∧ b3 = a3 ∧ l2 = l) := by
    intro b0 b1 b2 b3 l2 h1 h2
    have := prog_one h1 hg h2
    simpa using this
  have hself : Hid (¬ ∀ p, progGood p = true → str (progText p) ≠ str (progText ⟨a0, a1, a2, a3, l⟩)) := fun h => h _ hg rfl
  have hbU : Below w.heap.size w (w.alloc (.cells #[.int .i64 a0, .int .i64 a1, .int .i64 a2, .int .i64 a3, .slice uo l.length uc] 33)) := (Below.refl w.heap.size w).alloc (Nat.le_refl _) _
  have WU : Row (w.alloc (.cells #[.int .i64 a0, .int .i64 a1, .int .i64 a2, .int .i64 a3, .slice uo l.length uc] 33)) w.heap.size 33 [.int .i64 a0, .int .i64 a1, .int .i64 a2, .int .i64 a3, .slice uo l.length uc] := heap_alloc_new w _
  have hc := tEncode_any ⟨a0, a1, a2, a3, l⟩ _ _ (hr.keep hbU)
  rw [if_pos hg] at hc
  simp only [progV] at hc
  generalize str (progText ⟨a0, a1, a2, a3, l⟩) = T at *
  clear hg
  go_enter Tryz.func15, Tryz.ntmps15
  go_wp2_with fail
  refine hc.mono ?_
  clear hc
  rintro e w1 ⟨rfl, hb1⟩
  have VU := WU.keep hb1
  have hb1' : Below (w.heap.size + 1) (w.alloc (.cells #[.int .i64 a0, .int .i64 a1, .int .i64 a2, .int .i64 a3, .slice uo l.length uc] 33)) w1 := by simpa using hb1
  have hb01 := Below.under hb1'
  have hz1 := hb1'.size
  simp at hz1
  clear hb1 hb1' WU hbU
  go_wp2_with fail
  refine tDecode_cps T _ hsz _ ?_ ?_
  · intro b0 b1 b2 b3 l2 v2 bv w2 own hd hg2 ht hb2
    obtain ⟨rfl, rfl, rfl, rfl, rfl⟩ := hone.out b0 b1 b2 b3 l2 hg2 ht
    obtain ⟨ao, cp, rfl⟩ := owns_slice own.row
    have VU2 := VU.keep hb2
    have hb02 := hb01.trans (hb2.mono (by omega))
    have hz2 := hb2.size
    have hbA : Below w2.heap.size w2 (w2.alloc (.cells #[.int .i64 b0, .int .i64 b1, .int .i64 b2, .int .i64 b3, .slice ao bv.length cp] 33)) := (Below.refl _ _).alloc (Nat.le_refl _) _
    have rd1 := (hr.keep hb02).keep hbA
    have rd2 := own.rd.keep hbA
    rw [hd] at rd2
    have hzl : w.heap.size < w2.heap.size := by omega
    have x0 := VU2.cell (i := 0) rfl
    have x1 := VU2.cell (i := 1) rfl
    have x2 := VU2.cell (i := 2) rfl
    have x3 := VU2.cell (i := 3) rfl
    have x4 := VU2.cell (i := 4) rfl
    clear hone hself hg2 ht own
    go_wp2_with fail
    refine (kSameProg_any b0 b1 b2 b3 _ _ _ _ rd1 rd2).mono ?_
    rintro e w3 ⟨rfl, hb3⟩
    have hb03 : Below w.heap.size w w3 := (hb02.trans (hbA.mono (by omega))).trans (hb3.mono (by simp; omega))
    clear x0 x1 x2 x3 x4
    go_wp2
    go_ret2
    exact ⟨by simp, hb03⟩
  · intro w2 hn _
    exact absurd hn hself.out

end Go.Proofs.YtblhmeidbjigaaaGreatDoor

/- Raw numbers, read one after the other. -/
set_option linter.unusedSimpArgs false
set_option linter.unusedVariables false
namespace Go.Proofs.YtblhmeidbjigaaaGreatDoor
open Go.RowKit

set_option maxHeartbeats 400000 in
theorem pick_any (c n : Int) (w : World) (hc : -9223372036854775808 ≤ c ∧ c ≤ 9223372036854775807) (hn : 1 ≤ n ∧ n ≤ 1000) (Post : Ending → World → Prop)
    (hp : ∀ x, 0 ≤ x → x < n → Post (.returned (.int .i64 x)) w) : Calls Tryz.prog 14 #[.int .i64 c, .int .i64 n] w Post := by
  by_cases h0 : c < 0
  · have hx := hp ((-(c + 1)).tmod n) (Int.tmod_nonneg _ (by omega)) (by rw [Int.tmod_eq_emod_of_nonneg (by omega)]; exact Int.emod_lt_of_pos _ (by omega))
    rw [Int.neg_tmod] at hx
    clear hp
    go_enter Tryz.func14, Tryz.ntmps14
    go_wp2
    exact hx
  · have hx := hp (c % n) (Int.emod_nonneg _ (by omega)) (Int.emod_lt_of_pos _ (by omega))
    clear hp
    go_enter Tryz.func14, Tryz.ntmps14
    go_wp2
    exact hx

/-- A list of numbers that is read. -/
def RdInts (w : World) (v : Value) (n : Nat) : Prop :=
  ∃ ao cap, v = .slice ao n cap ∧ n ≤ 9223372036854775807 ∧ ∀ i, i < n → ∃ b off x, ao = some ⟨b, off, none⟩ ∧ -9223372036854775808 ≤ x ∧ x ≤ 9223372036854775807 ∧ w.cell? ⟨b, off + i, none⟩ = some (.int .i64 x)

/-- The rolls at block R, over a list of n numbers that lies elsewhere. -/
structure Rolls (w : World) (R : Nat) (ao : Option Addr) (n cap k : Nat) : Prop where
  row : Row w R 111 [.slice ao n cap, .int .i64 k]
  le : k ≤ n
  rd : RdInts w (.slice ao n cap) n
  off : 0 < n → ∀ b o, ao = some ⟨b, o, none⟩ → b ≠ R

theorem Rolls.keep {w w' : World} {R : Nat} {ao : Option Addr} {n cap k : Nat} (h : Rolls w R ao n cap k) (hb : Below w.heap.size w w') : Rolls w' R ao n cap k := by
  refine ⟨h.row.keep hb, h.le, ?_, h.off⟩
  obtain ⟨ao', cap', e, hn, hc⟩ := h.rd
  exact ⟨ao', cap', e, hn, fun i hi => let ⟨b, off, x, e1, h1, h2, h3⟩ := hc i hi; ⟨b, off, x, e1, h1, h2, cell_keep hb h3⟩⟩

theorem rd_away {w : World} {R : Nat} {ao : Option Addr} {n cap i : Nat} (h : RdInts w (.slice ao n cap) n) (hoff : 0 < n → ∀ b o, ao = some ⟨b, o, none⟩ → b ≠ R) (u : Value) : RdInts (w.setCell ⟨R, i, none⟩ u) (.slice ao n cap) n := by
  obtain ⟨ao', cap', e, hn, hc⟩ := h
  simp only [Value.slice.injEq, true_and] at e
  obtain ⟨rfl, rfl⟩ := e
  refine ⟨ao, cap, rfl, hn, fun i hi => ?_⟩
  obtain ⟨b, off, x, e1, h1, h2, h3⟩ := hc i hi
  exact ⟨b, off, x, e1, h1, h2, cell_unset (fun e => hoff (by omega) b off e1 (by simp at e; exact e.1.symm)) h3⟩

set_option maxRecDepth 100000 in
set_option maxHeartbeats 2000000 in
theorem next_cps (R : Nat) (ao : Option Addr) (n cap k : Nat) (m : Int) (w : World) (h : Rolls w R ao n cap k) (hm : 1 ≤ m ∧ m ≤ 1000) (Post : Ending → World → Prop)
    (hp : ∀ x k' w', 0 ≤ x → x < m → Rolls w' R ao n cap k' → Keep (fun g => g = R) w w' → w'.heap.size = w.heap.size → Post (.returned (.int .i64 x)) w') :
    Calls Tryz.prog 61 #[.pointer (some ⟨R, 0, none⟩), .int .i64 m] w Post := by
  have hle := h.le
  have hrow := h.row
  have x0 := hrow.cell (i := 0) rfl
  have x1 := hrow.cell (i := 1) rfl
  have xf := hrow.frozen 1
  obtain ⟨ao', cap', e, hn, hc⟩ := h.rd
  simp only [Value.slice.injEq, true_and] at e
  obtain ⟨rfl, rfl⟩ := e
  have hd : ∀ d, Rolls (w.drewN d) R ao n cap k := fun d => h.keep (below_drewN (Below.refl _ _) d)
  have hkd : ∀ d, Keep (fun g => g = R) w (w.drewN d) := fun d => (Keep.refl _ _).below (below_drewN (Below.refl w.heap.size w) d) (Nat.le_refl _)
  by_cases hlt : k < n
  · obtain ⟨b, off, x, rfl, hx1, hx2, hx3⟩ := hc k hlt
    have hbR := h.off (by omega) b off rfl
    have hp' : Hid (∀ y d, 0 ≤ y → y < m → Post (.returned (.int .i64 y)) ((w.drewN d).setCell ⟨R, 1, none⟩ (.int .i64 ((k : Int) + 1)))) := by
      intro y d h1 h2
      refine hp y (k + 1) _ h1 h2 ⟨?_, by omega, ?_, (hd d).off⟩ ((hkd d).setCell (.inl rfl) _) (by simp)
      · have := (hd d).row.set 1 (.int .i64 ((k + 1 : Nat) : Int))
        simpa using this
      · exact rd_away (hd d).rd (hd d).off _
    clear hp hd hkd hc
    go_enter Tryz.func61, Tryz.ntmps61
    go_wp2
    go_quiet (fail)
    go_wp2
    go_quiet (fail)
    go_wp2_with fail
    refine pick_any _ _ _ ⟨hx1, hx2⟩ hm _ ?_
    intro y h1 h2
    go_wp2
    exact hp'.out y _ h1 h2
  · have hp' : Hid (∀ y d, 0 ≤ y → y < m → Post (.returned (.int .i64 y)) (w.drewN d)) := fun y d h1 h2 => hp y k _ h1 h2 (hd d) (hkd d) (by simp)
    clear hp hd hkd hc
    go_enter Tryz.func61, Tryz.ntmps61
    go_wp2
    go_quiet (fail)
    go_wp2_with fail
    refine pick_any _ _ _ (by omega) hm _ ?_
    intro y h1 h2
    go_wp2
    exact hp'.out y _ h1 h2

end Go.Proofs.YtblhmeidbjigaaaGreatDoor

/- The law on programs: reading. -/
set_option linter.unusedSimpArgs false
set_option linter.unusedVariables false
namespace Go.Proofs.YtblhmeidbjigaaaGreatDoor
open Go.RowKit

theorem Row.kept {S : Nat → Prop} {w w' : World} {g : Nat} {e : TypeId} {xs : List Value} (h : Row w g e xs) (hk : Keep S w w') (hn : ¬ S g) : Row w' g e xs := h.same (hk.block g h.lt hn)

theorem OwnBlocks.apartFrom {S : Nat → Prop} {w w' : World} {base : Nat} {v : Value} {bv : List (BlockD × Value)} (h : OwnBlocks w base v bv) (hk : Keep S w w') (hS : ∀ g, S g → g < base) : OwnBlocks w' base v bv := by
  have key : ∀ (e : TypeId) (sz : Nat) (u : Value) (n : Nat) (xs : List Value), w.ownsRow base e sz u n xs → w'.ownsRow base e sz u n xs := by
    intro e sz u n xs hu
    refine owns_same hu fun g hg => hk.block g (hu.lt g hg).2 (fun hs => ?_)
    have := hS g hs
    have := (hu.lt g hg).1
    omega
  exact ⟨key _ _ _ _ _ h.row, fun x hx => key _ _ _ _ _ (h.each x hx), h.apart⟩

end Go.Proofs.YtblhmeidbjigaaaGreatDoor

/- An end out of raw numbers. -/
set_option linter.unusedSimpArgs false
set_option linter.unusedVariables false
namespace Go.Proofs.YtblhmeidbjigaaaGreatDoor
open Go.RowKit

theorem Keep.trans {S : Nat → Prop} {w a b : World} (h : Keep S w a) (h2 : Keep S a b) : Keep S w b :=
  h.step h2.os h2.tape h2.output h2.size fun k hk hn => h2.block k (Nat.lt_of_lt_of_le hk h.size) hn

theorem Rolls.set {w w0 : World} {R : Nat} {ao : Option Addr} {n cap k k0 : Nat} (h : Rolls w R ao n cap k) (h0 : Rolls w0 R ao n cap k0) {g i : Nat} (hg : w0.heap.size ≤ g) (u : Value) : Rolls (w.setCell ⟨g, i, none⟩ u) R ao n cap k := by
  have hR := h0.row.lt
  refine ⟨h.row.unset (a := ⟨g, i, none⟩) (by show R ≠ g; omega) _, h.le, ?_, h.off⟩
  obtain ⟨ao', cap', e, hn, hc⟩ := h.rd
  obtain ⟨ao2, cap2, e2, _, hc2⟩ := h0.rd
  simp only [Value.slice.injEq, true_and] at e e2
  obtain ⟨rfl, rfl⟩ := e
  obtain ⟨rfl, rfl⟩ := e2
  refine ⟨ao, cap, rfl, hn, fun i hi => ?_⟩
  obtain ⟨b, off, x, e1, h1, h2, h3⟩ := hc i hi
  obtain ⟨b2, off2, x2, e2, _, _, h4⟩ := hc2 i hi
  rw [e1] at e2
  simp only [Option.some.injEq, Addr.mk.injEq, and_true] at e2
  obtain ⟨rfl, rfl⟩ := e2
  have := World.block_lt_of_cell? _ _ h4
  exact ⟨b, off, x, e1, h1, h2, cell_unset (fun e => by simp at e; simp at this; omega) h3⟩

/-- Underway: two blocks of four cells each, the answer's (still zero) and the one that is filled. -/
structure St (w : World) (R : Nat) (ao : Option Addr) (n cap : Nat) (t : TypeId) (A B : Nat) (xs : List Value) (w' : World) : Prop where
  rolls : ∃ k, Rolls w' R ao n cap k
  keep : Keep (fun g => g = R) w w'
  rowA : Row w' A t [.int .i64 0, .int .i64 0, .int .i64 0, .int .i64 0]
  rowB : Row w' B t xs
  geA : w.heap.size ≤ A
  geB : w.heap.size ≤ B
  ne : B ≠ A
  ltR : R < w.heap.size

theorem St.next {w w' w2 : World} {R : Nat} {ao : Option Addr} {n cap k : Nat} {t : TypeId} {A B : Nat} {xs : List Value} (h : St w R ao n cap t A B xs w') (hr : Rolls w2 R ao n cap k) (hk : Keep (fun g => g = R) w' w2) : St w R ao n cap t A B xs w2 :=
  ⟨⟨k, hr⟩, h.keep.trans hk, h.rowA.kept hk (by have := h.geA; have := h.ltR; omega), h.rowB.kept hk (by have := h.geB; have := h.ltR; omega), h.geA, h.geB, h.ne, h.ltR⟩

theorem St.store {w w' : World} {R : Nat} {ao : Option Addr} {n cap k : Nat} {t : TypeId} {A B : Nat} {xs : List Value} (h : St w R ao n cap t A B xs w') (h0 : Rolls w R ao n cap k) (i : Nat) (u : Value) : St w R ao n cap t A B (xs.set i u) (w'.setCell ⟨B, i, none⟩ u) :=
  ⟨let ⟨k, hr⟩ := h.rolls; ⟨k, hr.set h0 h.geB u⟩, h.keep.setCell (.inr h.geB) u, h.rowA.unset (a := ⟨B, i, none⟩) (fun e => h.ne e.symm) u, h.rowB.set i u, h.geA, h.geB, h.ne, h.ltR⟩

theorem St.start {w w1 : World} {R : Nat} {ao : Option Addr} {n cap k k1 : Nat} {t : TypeId} {O : Obj} (h : Rolls w R ao n cap k) (hr : Rolls w1 R ao n cap k1) (hk : Keep (fun g => g = R) (w.alloc O) w1) (hA : Row w1 w.heap.size t [.int .i64 0, .int .i64 0, .int .i64 0, .int .i64 0])
    (hz : w1.heap.size = w.heap.size + 1) (xs : List Value) : St w R ao n cap t w.heap.size w1.heap.size xs (w1.alloc (.cells xs.toArray t)) :=
  ⟨⟨k1, hr.keep ((Below.refl _ _).alloc (Nat.le_refl _) _)⟩, (((Keep.refl _ _).alloc O).trans hk).alloc _, hA.alloc _, heap_alloc_new w1 _, Nat.le_refl _, by omega, by omega, h.row.lt⟩

set_option maxRecDepth 100000 in
set_option maxHeartbeats 2000000 in
theorem end_cps (R : Nat) (ao : Option Addr) (n cap k : Nat) (regs nb : Int) (w : World) (h : Rolls w R ao n cap k) (hre : 1 ≤ regs ∧ regs ≤ 8) (hnb : 1 ≤ nb ∧ nb ≤ 6) (Post : Ending → World → Prop)
    (hp : ∀ a b c d k' w', endGood regs nb ⟨a, b, c, d⟩ = true → Rolls w' R ao n cap k' → Keep (fun g => g = R) w w' → Post (.returned (.agg #[.int .i64 a, .int .i64 b, .int .i64 c, .int .i64 d])) w') :
    Calls Tryz.prog 95 #[.pointer (some ⟨R, 0, none⟩), .int .i64 regs, .int .i64 nb] w Post := by
  have hRw := h.row.lt
  have hA0 : Row (w.alloc (.cells #[.int .i64 0, .int .i64 0, .int .i64 0, .int .i64 0] 37)) w.heap.size 37 [.int .i64 0, .int .i64 0, .int .i64 0, .int .i64 0] := heap_alloc_new w _
  go_enter Tryz.func95, Tryz.ntmps95
  go_wp2_with fail
  refine next_cps R ao n cap k 3 _ (h.keep ((Below.refl _ _).alloc (Nat.le_refl _) _)) (by omega) _ ?_
  intro x k1 w1 hx0 hx3 hr1 hk1 hz1
  have hA := hA0.kept hk1 (by omega)
  simp only [World.size_alloc] at hz1
  have HZ : Hid (w1.heap.size = w.heap.size + 1) := hz1
  have hzl : w.heap.size < w1.heap.size := by omega
  have hRB : R < w1.heap.size := by omega
  clear hA0 hz1
  have hnb' : 1 ≤ nb ∧ nb ≤ 1000 := by omega
  have hre' : 1 ≤ regs ∧ regs ≤ 1000 := by omega
  obtain rfl | rfl | rfl : x = 0 ∨ x = 1 ∨ x = 2 := by omega
  · have st : St w R ao n cap 37 w.heap.size w1.heap.size [.int .i64 1, .int .i64 0, .int .i64 0, .int .i64 0] (w1.alloc (.cells #[.int .i64 1, .int .i64 0, .int .i64 0, .int .i64 0] 37)) := St.start h hr1 hk1 hA HZ.out _
    obtain ⟨k0, hro0⟩ := st.rolls
    go_wp2_with fail
    refine next_cps R ao n cap k0 nb _ hro0 hnb' _ ?_
    intro y0 kk0 v0 ya0 yb0 hr hk hzz
    have st := st.next hr hk
    have bc := st.rowB.cell (i := 2) rfl
    have bf := st.rowB.frozen 2
    have st' := st.store h 2 (.int .i64 y0)
    clear hr hk hzz
    have st2 := st'
    obtain ⟨kf, hrof⟩ := st2.rolls
    have hfin := hp 1 0 y0 0 kf (set4 (v0.setCell ⟨w1.heap.size, 2, none⟩ (.int .i64 y0)) w.heap.size 0 1 0 y0 0) (by simp [endGood, below]; omega) (((hrof.set h (Nat.le_refl _) _).set h (Nat.le_refl _) _ |>.set h (Nat.le_refl _) _).set h (Nat.le_refl _) _) (st2.keep.set4 (.inr (Nat.le_refl _)) _ _ _ _)
    have hne := st2.ne
    have a0 := st2.rowA.cell (i := 0) rfl
    have a1 := st2.rowA.cell (i := 1) rfl
    have a2 := st2.rowA.cell (i := 2) rfl
    have a3 := st2.rowA.cell (i := 3) rfl
    have f0 := st2.rowA.frozen 0
    have f1 := st2.rowA.frozen 1
    have f2 := st2.rowA.frozen 2
    have f3 := st2.rowA.frozen 3
    have q0 := st2.rowB.cell (i := 0) (u := .int .i64 1) rfl
    have q1 := st2.rowB.cell (i := 1) (u := .int .i64 0) rfl
    have q2 := st2.rowB.cell (i := 2) (u := .int .i64 y0) rfl
    have q3 := st2.rowB.cell (i := 3) (u := .int .i64 0) rfl
    clear st st' st2 hp h hr1 hk1 hA
    have HF : Hid (Post (.returned (.agg #[.int .i64 1, .int .i64 0, .int .i64 y0, .int .i64 0])) (set4 (v0.setCell ⟨w1.heap.size, 2, none⟩ (.int .i64 y0)) w.heap.size 0 1 0 y0 0)) := hfin
    clear hfin
    go_wp2
    exact bodyPost_ret (v := .agg #[.int .i64 1, .int .i64 0, .int .i64 y0, .int .i64 0]) (by simp [results, Tryz.results95, go_sem, a0, a1, a2, a3]) rfl HF.out
  · have st : St w R ao n cap 37 w.heap.size w1.heap.size [.int .i64 2, .int .i64 0, .int .i64 0, .int .i64 0] (w1.alloc (.cells #[.int .i64 2, .int .i64 0, .int .i64 0, .int .i64 0] 37)) := St.start h hr1 hk1 hA HZ.out _
    obtain ⟨k0, hro0⟩ := st.rolls
    go_wp2_with fail
    refine next_cps R ao n cap k0 regs _ hro0 hre' _ ?_
    intro y0 kk0 v0 ya0 yb0 hr hk hzz
    have st := st.next hr hk
    have bc := st.rowB.cell (i := 1) rfl
    have bf := st.rowB.frozen 1
    have st' := st.store h 1 (.int .i64 y0)
    clear hr hk hzz
    replace st := st'
    obtain ⟨k1, hro1⟩ := st.rolls
    go_wp2_with fail
    refine next_cps R ao n cap k1 nb _ hro1 hnb' _ ?_
    intro y1 kk1 v1 ya1 yb1 hr hk hzz
    have st := st.next hr hk
    have bc := st.rowB.cell (i := 2) rfl
    have bf := st.rowB.frozen 2
    have st' := st.store h 2 (.int .i64 y1)
    clear hr hk hzz
    replace st := st'
    obtain ⟨k2, hro2⟩ := st.rolls
    go_wp2_with fail
    refine next_cps R ao n cap k2 nb _ hro2 hnb' _ ?_
    intro y2 kk2 v2 ya2 yb2 hr hk hzz
    have st := st.next hr hk
    have bc := st.rowB.cell (i := 3) rfl
    have bf := st.rowB.frozen 3
    have st' := st.store h 3 (.int .i64 y2)
    clear hr hk hzz
    have st2 := st'
    obtain ⟨kf, hrof⟩ := st2.rolls
    have hfin := hp 2 y0 y1 y2 kf (set4 (v2.setCell ⟨w1.heap.size, 3, none⟩ (.int .i64 y2)) w.heap.size 0 2 y0 y1 y2) (by simp [endGood, below]; omega) (((hrof.set h (Nat.le_refl _) _).set h (Nat.le_refl _) _ |>.set h (Nat.le_refl _) _).set h (Nat.le_refl _) _) (st2.keep.set4 (.inr (Nat.le_refl _)) _ _ _ _)
    have hne := st2.ne
    have a0 := st2.rowA.cell (i := 0) rfl
    have a1 := st2.rowA.cell (i := 1) rfl
    have a2 := st2.rowA.cell (i := 2) rfl
    have a3 := st2.rowA.cell (i := 3) rfl
    have f0 := st2.rowA.frozen 0
    have f1 := st2.rowA.frozen 1
    have f2 := st2.rowA.frozen 2
    have f3 := st2.rowA.frozen 3
    have q0 := st2.rowB.cell (i := 0) (u := .int .i64 2) rfl
    have q1 := st2.rowB.cell (i := 1) (u := .int .i64 y0) rfl
    have q2 := st2.rowB.cell (i := 2) (u := .int .i64 y1) rfl
    have q3 := st2.rowB.cell (i := 3) (u := .int .i64 y2) rfl
    clear st st' st2 hp h hr1 hk1 hA
    have HF : Hid (Post (.returned (.agg #[.int .i64 2, .int .i64 y0, .int .i64 y1, .int .i64 y2])) (set4 (v2.setCell ⟨w1.heap.size, 3, none⟩ (.int .i64 y2)) w.heap.size 0 2 y0 y1 y2)) := hfin
    clear hfin
    go_wp2
    exact bodyPost_ret (v := .agg #[.int .i64 2, .int .i64 y0, .int .i64 y1, .int .i64 y2]) (by simp [results, Tryz.results95, go_sem, a0, a1, a2, a3]) rfl HF.out
  · have st : St w R ao n cap 37 w.heap.size w1.heap.size [.int .i64 3, .int .i64 0, .int .i64 0, .int .i64 0] (w1.alloc (.cells #[.int .i64 3, .int .i64 0, .int .i64 0, .int .i64 0] 37)) := St.start h hr1 hk1 hA HZ.out _
    obtain ⟨k0, hro0⟩ := st.rolls
    go_wp2_with fail
    refine next_cps R ao n cap k0 regs _ hro0 hre' _ ?_
    intro y0 kk0 v0 ya0 yb0 hr hk hzz
    have st := st.next hr hk
    have bc := st.rowB.cell (i := 1) rfl
    have bf := st.rowB.frozen 1
    have st' := st.store h 1 (.int .i64 y0)
    clear hr hk hzz
    have st2 := st'
    obtain ⟨kf, hrof⟩ := st2.rolls
    have hfin := hp 3 y0 0 0 kf (set4 (v0.setCell ⟨w1.heap.size, 1, none⟩ (.int .i64 y0)) w.heap.size 0 3 y0 0 0) (by simp [endGood, below]; omega) (((hrof.set h (Nat.le_refl _) _).set h (Nat.le_refl _) _ |>.set h (Nat.le_refl _) _).set h (Nat.le_refl _) _) (st2.keep.set4 (.inr (Nat.le_refl _)) _ _ _ _)
    have hne := st2.ne
    have a0 := st2.rowA.cell (i := 0) rfl
    have a1 := st2.rowA.cell (i := 1) rfl
    have a2 := st2.rowA.cell (i := 2) rfl
    have a3 := st2.rowA.cell (i := 3) rfl
    have f0 := st2.rowA.frozen 0
    have f1 := st2.rowA.frozen 1
    have f2 := st2.rowA.frozen 2
    have f3 := st2.rowA.frozen 3
    have q0 := st2.rowB.cell (i := 0) (u := .int .i64 3) rfl
    have q1 := st2.rowB.cell (i := 1) (u := .int .i64 y0) rfl
    have q2 := st2.rowB.cell (i := 2) (u := .int .i64 0) rfl
    have q3 := st2.rowB.cell (i := 3) (u := .int .i64 0) rfl
    clear st st' st2 hp h hr1 hk1 hA
    have HF : Hid (Post (.returned (.agg #[.int .i64 3, .int .i64 y0, .int .i64 0, .int .i64 0])) (set4 (v0.setCell ⟨w1.heap.size, 1, none⟩ (.int .i64 y0)) w.heap.size 0 3 y0 0 0)) := hfin
    clear hfin
    go_wp2
    exact bodyPost_ret (v := .agg #[.int .i64 3, .int .i64 y0, .int .i64 0, .int .i64 0]) (by simp [results, Tryz.results95, go_sem, a0, a1, a2, a3]) rfl HF.out

end Go.Proofs.YtblhmeidbjigaaaGreatDoor

/- The machine lets words out. -/
set_option linter.unusedSimpArgs false
set_option linter.unusedVariables false
namespace Go.Proofs.YtblhmeidbjigaaaGreatDoor
open Go.RowKit

theorem Row.grown {w w' : World} {M : Nat} {t : TypeId} {xs : List Value} {row : Option Nat} (h : Row w M t xs) (hg : w.grownBy w' row) (hne : row ≠ some M) : Row w' M t xs := h.same (hg.block M h.lt (fun e => hne e.symm))

theorem Keep.mono {S S' : Nat → Prop} {w w' : World} (h : Keep S w w') (hs : ∀ g, S g → S' g) : Keep S' w w' := ⟨h.os, h.tape, h.output, h.size, fun k hk hn => h.block k hk (fun e => hn (hs k e))⟩

/-- The machine at block M. -/
def Mach (K : Nat → Prop) (w : World) (M : Nat) (s : RunD) : Prop :=
  ∃ rv cv sv lv, Row w M 135 [rv, cv, sv, lv, .int .i64 s.trap] ∧ Bunch K w rv cv sv lv s ∧ ¬ K M

theorem Mach.keep {K : Nat → Prop} {w w' : World} {M : Nat} {s : RunD} (h : Mach K w M s) (hb : Below w.heap.size w w') : Mach K w' M s := by
  obtain ⟨rv, cv, sv, lv, h1, h2, h3⟩ := h
  exact ⟨rv, cv, sv, lv, h1.keep hb, h2.keep hb, h3⟩

/-- Other blocks are kept: some of those, and new ones. -/
theorem Mach.kept {K K' : Nat → Prop} {w w' : World} {M : Nat} {s : RunD} (h : Mach K w M s) (hk : ∀ g, K' g → K g ∨ w.heap.size ≤ g) (hl : ∀ g, K' g → g < w'.heap.size) (hb : Below w.heap.size w w') : Mach K' w' M s := by
  obtain ⟨rv, cv, sv, lv, h1, h2, h3⟩ := h
  refine ⟨rv, cv, sv, lv, h1.keep hb, h2.kept hk hl hb, fun e => ?_⟩
  rcases hk M e with q | q
  · exact h3 q
  · have := h1.lt; omega

theorem Mach.lt {K : Nat → Prop} {w : World} {M : Nat} {s : RunD} (h : Mach K w M s) : ∀ g, K g → g < w.heap.size := by
  obtain ⟨rv, cv, sv, lv, h1, h2, h3⟩ := h
  exact h2.lt

theorem one_new (w : World) (x : Value) (t : TypeId) : ∀ j u, [x][j]? = some u → (w.alloc (.cells #[x] t)).cell? ((⟨w.heap.size, 0, none⟩ : Addr).add j) = some u := by
  intro j u hj
  match j, hj with
  | 0, hj => simp at hj; subst hj; simp [Addr.add]

set_option maxRecDepth 100000 in
set_option maxHeartbeats 2000000 in
theorem letOut_cps (K : Nat → Prop) (M : Nat) (s : RunD) (x : Int) (w : World) (h : Mach K w M s) (hl : s.leak.length ≤ 100000) (Post : Ending → World → Prop)
    (hp : ∀ w', Mach K w' M (s.out x) → Keep (fun g => ¬ K g) w w' → Post (.returned (.tuple #[])) w') :
    Calls Tryz.prog 152 #[.pointer (some ⟨M, 0, none⟩), .int .i64 x] w Post := by
  obtain ⟨rv, cv, sv, lv, hrow, hb, hK⟩ := h
  obtain ⟨i0, ii, iz0, iz1, iz2⟩ := info_parts Tryz.infoInt
  obtain ⟨lo, lc, rfl⟩ := owns_slice hb.leak
  have x3 := hrow.cell (i := 3) rfl
  have hne := row_owns_apart hrow hb.leak (by decide)
  have hal := (Below.refl w.heap.size w).alloc (Nat.le_refl _) (.cells #[.int .i64 x] 3)
  have hb0 := hb.keep hal
  have hr0 := hrow.keep hal
  have hk0 : Keep (fun g => ¬ K g) w (w.alloc (.cells #[.int .i64 x] 3)) := (Keep.refl _ _).alloc _
  go_enter Tryz.func152, Tryz.ntmps152
  go_wp2_with (at_builtin; refine wpList_append_own_at _ rfl _ _ 30 rfl 0 3 i0 (.int .i64 0) 1 8 Tryz.underlying30 ii iz0 iz1 iz2 rfl (by decide) _ _ _ rfl hb0.leak ⟨w.heap.size, 0, none⟩ 1 1 [.int .i64 x] rfl rfl ?c1 ?c2 ?c3 ?c4 (by omega) ?_)
  case c1 => exact one_new w _ _
  case c2 => intro u hu; simp at hu; subst hu; rfl
  case c3 => unfold maxLen; omega
  case c4 => omega
  intro v' w1 hown hgrow _ hat
  have hb1 := hb0.app hown hgrow (by simpa using hat)
  have hr1 := hr0.grown hgrow hne
  have hk1 := hk0.grown hgrow (fun g e => .inl (hb.kl g e))
  have y3 := hr1.cell (i := 3) rfl
  have yf := hr1.frozen 3
  have hb2 := hb1.far hr1 (by decide) 3 v'
  have hr2 := hr1.set 3 v'
  have hk2 := hk1.setCell (p := ⟨M, 3, none⟩) (.inl hK) v'
  have HF : Hid (Post (.returned (.tuple #[])) (w1.setCell ⟨M, 3, none⟩ v')) := hp _ ⟨rv, cv, sv, v', hr2, hb2, hK⟩ hk2
  obtain ⟨lo', lc', rfl⟩ := owns_slice hown
  clear hp hb hb0 hr0 hb1 hr1 hk1 hb2 hr2 hk2 hgrow hown hat hal hk0 hrow
  go_wp2
  go_end0
  exact HF.out

set_option maxRecDepth 100000 in
set_option maxHeartbeats 2000000 in
theorem reaches_cps (K : Nat → Prop) (M : Nat) (s : RunD) (n : Int) (w : World) (h : Mach K w M s) (hl : s.leak.length ≤ 100000) (Post : Ending → World → Prop)
    (hyes : 0 ≤ n ∧ n < s.cells.length → ∀ w', Mach K w' M (s.out n) → Keep (fun g => ¬ K g) w w' → Post (.returned (.bool true)) w')
    (hno : ¬ (0 ≤ n ∧ n < s.cells.length) → ∀ w', Mach K w' M ((s.out n).die 2) → Keep (fun g => ¬ K g) w w' → Post (.returned (.bool false)) w') :
    Calls Tryz.prog 192 #[.pointer (some ⟨M, 0, none⟩), .int .i64 n] w Post := by
  go_enter Tryz.func192, Tryz.ntmps192
  go_wp2_with fail
  refine letOut_cps K M s n w h hl _ ?_
  intro w1 hm hk
  clear h hl
  obtain ⟨rv, cv, sv, lv, hrow, hb, hK⟩ := id hm
  obtain ⟨co, cc, rfl⟩ := owns_slice hb.cells
  have x1 := hrow.cell (i := 1) rfl
  have hlc : (s.out n).cells.length = s.cells.length := rfl
  rw [hlc] at x1 hrow hb
  by_cases h0 : n < 0
  · have x4 := hrow.cell (i := 4) rfl
    have xf := hrow.frozen 4
    have hk2 := hk.setCell (p := ⟨M, 4, none⟩) (.inl hK) (.int .i64 2)
    have HF : Hid (Post (.returned (.bool false)) (w1.setCell ⟨M, 4, none⟩ (.int .i64 2))) := hno (by omega) _ ⟨rv, _, sv, lv, hrow.set 4 (.int .i64 2), (hb.far hrow (by decide) 4 _).trapped 2, hK⟩ hk2
    clear hyes hno hk hk2 hb hrow hm
    go_wp2
    exact HF.out
  by_cases h1 : n < s.cells.length
  · have HF : Hid (Post (.returned (.bool true)) w1) := hyes ⟨by omega, h1⟩ _ hm hk
    clear hyes hno hk hb hrow hm
    go_wp2
    exact HF.out
  · have x4 := hrow.cell (i := 4) rfl
    have xf := hrow.frozen 4
    have hk2 := hk.setCell (p := ⟨M, 4, none⟩) (.inl hK) (.int .i64 2)
    have HF : Hid (Post (.returned (.bool false)) (w1.setCell ⟨M, 4, none⟩ (.int .i64 2))) := hno (by omega) _ ⟨rv, _, sv, lv, hrow.set 4 (.int .i64 2), (hb.far hrow (by decide) 4 _).trapped 2, hK⟩ hk2
    clear hyes hno hk hk2 hb hrow hm
    go_wp2
    exact HF.out

end Go.Proofs.YtblhmeidbjigaaaGreatDoor

/- The machine's Load. -/
set_option linter.unusedSimpArgs false
set_option linter.unusedVariables false
namespace Go.Proofs.YtblhmeidbjigaaaGreatDoor
open Go.RowKit

/-- A region that reads, then one store (or what follows of itself). -/
theorem wp_tail {P : Program} {id : Nat} {Q : Exit → Act → World → Prop} {a : Act} {w : World} {l : List Oper} (n : Nat) (hm : P.follows .mixedOrders = true) (hB : Region.lexTailB .any l.toArray n = true)
    (h : wpStill P l.toArray w.drew (fun a' => wpList P l.toArray Q (l.drop n) a' w.drew) (l.take n) a) : (Code.region id l.toArray true).wp P Q a w :=
  wp_region_still_tail n hm hB h

/-- The machine beside a boxed operation (or end) at block O. -/
structure With (K : Nat → Prop) (w0 w : World) (M O : Nat) (t : TypeId) (xs : List Value) (s : RunD) : Prop where
  mach : Mach (fun g => K g ∨ g = O) w M s
  row : Row w O t xs
  keep : Keep (fun g => ¬ K g) w0 w
  lt : ∀ g, K g → g < w0.heap.size
  ge : w0.heap.size ≤ O

theorem With.start {K : Nat → Prop} {w : World} {M : Nat} {s : RunD} (h : Mach K w M s) (t : TypeId) (xs : List Value) : With K w (w.alloc (.cells xs.toArray t)) M w.heap.size t xs s :=
  ⟨h.kept (fun g hg => by rcases hg with hg | hg; exact .inl hg; exact .inr (by omega)) (fun g hg => by rcases hg with hg | hg; have := h.lt g hg; simp; omega; simp; omega) ((Below.refl _ _).alloc (Nat.le_refl _) _),
    heap_alloc_new w _, (Keep.refl _ _).alloc _, h.lt, Nat.le_refl _⟩

theorem With.below {K : Nat → Prop} {w0 w w' : World} {M O : Nat} {t : TypeId} {xs : List Value} {s : RunD} (h : With K w0 w M O t xs s) (hb : Below w.heap.size w w') : With K w0 w' M O t xs s :=
  ⟨h.mach.keep hb, h.row.keep hb, h.keep.below hb h.keep.size, h.lt, h.ge⟩

theorem With.next {K : Nat → Prop} {w0 w w' : World} {M O : Nat} {t : TypeId} {xs : List Value} {s s' : RunD} (h : With K w0 w M O t xs s) (hm : Mach (fun g => K g ∨ g = O) w' M s') (hk : Keep (fun g => ¬ (K g ∨ g = O)) w w') : With K w0 w' M O t xs s' :=
  ⟨hm, h.row.same (hk.block O h.row.lt (fun hn => hn (.inr rfl))), h.keep.trans (hk.mono (fun g hn e => hn (.inl e))), h.lt, h.ge⟩

theorem With.done {K : Nat → Prop} {w0 w : World} {M O : Nat} {t : TypeId} {xs : List Value} {s : RunD} (h : With K w0 w M O t xs s) : Mach K w M s :=
  h.mach.kept (fun g hg => .inl (.inl hg)) (fun g hg => Nat.lt_of_lt_of_le (h.lt g hg) h.keep.size) (Below.refl _ _)

/-- A word becomes another: a register. -/
theorem With.setReg {K : Nat → Prop} {w0 w : World} {M O : Nat} {t : TypeId} {xs : List Value} {s : RunD} (h : With K w0 w M O t xs s) {rv cv sv lv : Value} (hrow : Row w M 135 [rv, cv, sv, lv, .int .i64 s.trap]) (hb : Bunch (fun g => K g ∨ g = O) w rv cv sv lv s)
    {g i : Nat} (hg : rv.ownBlock = some g) (hi : i < s.regs.length) (u : Int) : Mach K (w.setCell ⟨g, i, none⟩ (.int .i64 u)) M (s.reg i u) ∧ Keep (fun g => ¬ K g) w0 (w.setCell ⟨g, i, none⟩ (.int .i64 u)) := by
  have hne : ¬ (rv.ownBlock = some M) := row_owns_apart hrow hb.regs (by decide)
  have hK : ¬ (K g ∨ g = O) := hb.kr g hg
  have hM : ¬ K M := by obtain ⟨_, _, _, _, _, _, h3⟩ := h.mach; exact fun e => h3 (.inl e)
  have b2 := hb.setReg hg hi u
  have r2 := hrow.unset (a := ⟨g, i, none⟩) (fun e => hne (by rw [hg]; exact congrArg some e.symm)) (.int .i64 u)
  have b3 := b2.kept (K' := K) (fun g hg => .inl (.inl hg)) (fun g hg => by have := h.lt g hg; have := h.keep.size; simp; omega) (Below.refl _ _)
  exact ⟨⟨rv, cv, sv, lv, r2, b3, hM⟩, h.keep.setCell (.inl (fun e => hK (.inl e))) _⟩

theorem With.setMem {K : Nat → Prop} {w0 w : World} {M O : Nat} {t : TypeId} {xs : List Value} {s : RunD} (h : With K w0 w M O t xs s) {rv cv sv lv : Value} (hrow : Row w M 135 [rv, cv, sv, lv, .int .i64 s.trap]) (hb : Bunch (fun g => K g ∨ g = O) w rv cv sv lv s)
    {g i : Nat} (hg : cv.ownBlock = some g) (hi : i < s.cells.length) (u : Int) : Mach K (w.setCell ⟨g, i, none⟩ (.int .i64 u)) M (s.cell i u) ∧ Keep (fun g => ¬ K g) w0 (w.setCell ⟨g, i, none⟩ (.int .i64 u)) := by
  have hne : ¬ (cv.ownBlock = some M) := row_owns_apart hrow hb.cells (by decide)
  have hK : ¬ (K g ∨ g = O) := hb.kc g hg
  have hM : ¬ K M := by obtain ⟨_, _, _, _, _, _, h3⟩ := h.mach; exact fun e => h3 (.inl e)
  have b2 := hb.setMem hg hi u
  have r2 := hrow.unset (a := ⟨g, i, none⟩) (fun e => hne (by rw [hg]; exact congrArg some e.symm)) (.int .i64 u)
  have b3 := b2.kept (K' := K) (fun g hg => .inl (.inl hg)) (fun g hg => by have := h.lt g hg; have := h.keep.size; simp; omega) (Below.refl _ _)
  exact ⟨⟨rv, cv, sv, lv, r2, b3, hM⟩, h.keep.setCell (.inl (fun e => hK (.inl e))) _⟩

theorem With.setSlot {K : Nat → Prop} {w0 w : World} {M O : Nat} {t : TypeId} {xs : List Value} {s : RunD} (h : With K w0 w M O t xs s) {rv cv sv lv : Value} (hrow : Row w M 135 [rv, cv, sv, lv, .int .i64 s.trap]) (hb : Bunch (fun g => K g ∨ g = O) w rv cv sv lv s)
    {g i : Nat} (hg : sv.ownBlock = some g) (hi : i < s.slots.length) (u : Int) : Mach K (w.setCell ⟨g, i, none⟩ (.int .i64 u)) M (s.slot i u) ∧ Keep (fun g => ¬ K g) w0 (w.setCell ⟨g, i, none⟩ (.int .i64 u)) := by
  have hne : ¬ (sv.ownBlock = some M) := row_owns_apart hrow hb.slots (by decide)
  have hK : ¬ (K g ∨ g = O) := hb.ks g hg
  have hM : ¬ K M := by obtain ⟨_, _, _, _, _, _, h3⟩ := h.mach; exact fun e => h3 (.inl e)
  have b2 := hb.setSlot hg hi u
  have r2 := hrow.unset (a := ⟨g, i, none⟩) (fun e => hne (by rw [hg]; exact congrArg some e.symm)) (.int .i64 u)
  have b3 := b2.kept (K' := K) (fun g hg => .inl (.inl hg)) (fun g hg => by have := h.lt g hg; have := h.keep.size; simp; omega) (Below.refl _ _)
  exact ⟨⟨rv, cv, sv, lv, r2, b3, hM⟩, h.keep.setCell (.inl (fun e => hK (.inl e))) _⟩

set_option maxRecDepth 100000 in
set_option maxHeartbeats 4000000 in
theorem load_cps (K : Nat → Prop) (M : Nat) (s : RunD) (k c : Int) (a b : Nat) (w : World) (h : Mach K w M s) (hl : s.leak.length ≤ 100000) (ha : a < s.regs.length) (hb : b < s.regs.length) (Post : Ending → World → Prop)
    (hp : ∀ w', Mach K w' M (if 0 ≤ rg s.regs b ∧ rg s.regs b < s.cells.length then (s.out (rg s.regs b)).reg a (rg s.cells (rg s.regs b)) else (s.out (rg s.regs b)).die 2) → Keep (fun g => ¬ K g) w w' → Post (.returned (.tuple #[])) w') :
    Calls Tryz.prog 176 #[.pointer (some ⟨M, 0, none⟩), .agg #[.int .i64 k, .int .i64 a, .int .i64 b, .int .i64 c]] w Post := by
  have W0 := With.start h 77 [.int .i64 k, .int .i64 a, .int .i64 b, .int .i64 c]
  clear h
  obtain ⟨rv, cv, sv, lv, hrow, hbu, hK⟩ := id W0.mach
  obtain ⟨rb, rc, hrv, hrb, hrc, hrf⟩ := hbu.regs.at hb
  subst hrv
  have m0 := hrow.cell (i := 0) rfl
  have o2 := W0.row.cell (i := 2) rfl
  have hbi : (0 : Int) ≤ (b : Int) := by omega
  have hbj : (b : Int) < (s.regs.length : Int) := by omega
  have hn : s.regs.getD b 0 = rg s.regs b := by simp [rg]
  rw [hn] at hrc
  generalize rg s.regs b = n at *
  have Wd : ∀ d, With K w ((w.alloc (.cells #[.int .i64 k, .int .i64 a, .int .i64 b, .int .i64 c] 77)).drewN d) M w.heap.size 77 [.int .i64 k, .int .i64 a, .int .i64 b, .int .i64 c] s := fun d => W0.below (below_drewN (Below.refl _ _) d)
  clear W0 hrow hbu
  go_enter Tryz.func176, Tryz.ntmps176
  go_wp2
  go_quiet (fail)
  go_wp2_with fail
  generalize hwq : (w.alloc (.cells #[.int .i64 k, .int .i64 a, .int .i64 b, .int .i64 c] 77)).drewN _ = wq
  have Wq : With K w wq M w.heap.size 77 [.int .i64 k, .int .i64 a, .int .i64 b, .int .i64 c] s := by rw [← hwq]; exact Wd _
  clear Wd hwq m0 o2 hrc hrf
  refine reaches_cps _ M s n wq Wq.mach hl _ ?_ ?_
  · intro hin w2 hm2 hk2
    rw [if_pos hin] at hp
    obtain ⟨hn0, hn1⟩ := hin
    obtain ⟨j, rfl⟩ := Int.eq_ofNat_of_zero_le hn0
    have W2 := Wq.next hm2 hk2
    clear Wq hm2 hk2
    have Wd := W2.below ((Below.refl w2.heap.size w2).drew)
    obtain ⟨rv, cv, sv, lv, hrow, hbu, hK⟩ := id Wd.mach
    obtain ⟨g1, cc, hcv, hgc, hcc, hcf⟩ := hbu.cells.at (i := j) (by show j < s.cells.length; omega)
    obtain ⟨g2, rc, hrv, hgr, hrc, hrf⟩ := hbu.regs.at (i := a) ha
    subst hcv hrv
    have e1 : (s.out j).cells.getD j 0 = rg s.cells j := by simp [rg, RunD.out]
    rw [e1] at hcc
    have m0 := hrow.cell (i := 0) rfl
    have m1 := hrow.cell (i := 1) rfl
    have o1 := Wd.row.cell (i := 1) rfl
    have f2 := hrf a
    have hai : (0 : Int) ≤ (a : Int) := by omega
    have haj : (a : Int) < ((s.out j).regs.length : Int) := by show (a : Int) < (s.regs.length : Int); omega
    have hji : (0 : Int) ≤ (j : Int) := by omega
    have hjj : (j : Int) < ((s.out j).cells.length : Int) := hn1
    obtain ⟨q1, q2⟩ := Wd.setReg hrow hbu hgr (i := a) ha (rg s.cells j)
    have HF : Hid (Post (.returned (.tuple #[])) (w2.drew.setCell ⟨g2, a, none⟩ (.int .i64 (rg s.cells j)))) := hp _ q1 q2
    clear hp q1 q2 W2 Wd hrow hbu
    go_wp2
    refine wp_tail 14 (by kernel_rfl) (by kernel_rfl) ?_
    simp only [List.take_succ_cons, List.take_zero, List.drop_succ_cons, List.drop_zero]
    repeat still_step
    refine wpStill_nil ?_
    go_wp2
    go_end0
    exact HF.out
  · intro hin w2 hm2 hk2
    rw [if_neg hin] at hp
    have W2 := Wq.next hm2 hk2
    have HF : Hid (Post (.returned (.tuple #[])) w2) := hp _ W2.done W2.keep
    clear hp W2 Wq hm2 hk2
    go_wp2
    go_end0
    exact HF.out

end Go.Proofs.YtblhmeidbjigaaaGreatDoor

/- The machine's Store; operations from Add to Div. -/
set_option linter.unusedSimpArgs false
set_option linter.unusedVariables false
namespace Go.Proofs.YtblhmeidbjigaaaGreatDoor
open Go.RowKit

set_option maxRecDepth 100000 in
set_option maxHeartbeats 4000000 in
theorem store_cps (K : Nat → Prop) (M : Nat) (s : RunD) (k c : Int) (a b : Nat) (w : World) (h : Mach K w M s) (hl : s.leak.length ≤ 100000) (ha : a < s.regs.length) (hb : b < s.regs.length) (Post : Ending → World → Prop)
    (hp : ∀ w', Mach K w' M (if 0 ≤ rg s.regs a ∧ rg s.regs a < s.cells.length then (s.out (rg s.regs a)).cell (rg s.regs a) (rg s.regs b) else (s.out (rg s.regs a)).die 2) → Keep (fun g => ¬ K g) w w' → Post (.returned (.tuple #[])) w') :
    Calls Tryz.prog 177 #[.pointer (some ⟨M, 0, none⟩), .agg #[.int .i64 k, .int .i64 a, .int .i64 b, .int .i64 c]] w Post := by
  have W0 := With.start h 77 [.int .i64 k, .int .i64 a, .int .i64 b, .int .i64 c]
  clear h
  obtain ⟨rv, cv, sv, lv, hrow, hbu, hK⟩ := id W0.mach
  obtain ⟨rb, rc, hrv, hrb, hrc, hrf⟩ := hbu.regs.at ha
  subst hrv
  have m0 := hrow.cell (i := 0) rfl
  have o1 := W0.row.cell (i := 1) rfl
  have hbi : (0 : Int) ≤ (a : Int) := by omega
  have hbj : (a : Int) < (s.regs.length : Int) := by omega
  have hn : s.regs.getD a 0 = rg s.regs a := by simp [rg]
  rw [hn] at hrc
  generalize rg s.regs a = n at *
  have Wd : ∀ d, With K w ((w.alloc (.cells #[.int .i64 k, .int .i64 a, .int .i64 b, .int .i64 c] 77)).drewN d) M w.heap.size 77 [.int .i64 k, .int .i64 a, .int .i64 b, .int .i64 c] s := fun d => W0.below (below_drewN (Below.refl _ _) d)
  clear W0 hrow hbu
  go_enter Tryz.func177, Tryz.ntmps177
  go_wp2
  go_quiet (fail)
  go_wp2_with fail
  generalize hwq : (w.alloc (.cells #[.int .i64 k, .int .i64 a, .int .i64 b, .int .i64 c] 77)).drewN _ = wq
  have Wq : With K w wq M w.heap.size 77 [.int .i64 k, .int .i64 a, .int .i64 b, .int .i64 c] s := by rw [← hwq]; exact Wd _
  clear Wd hwq m0 o1 hrc hrf
  refine reaches_cps _ M s n wq Wq.mach hl _ ?_ ?_
  · intro hin w2 hm2 hk2
    rw [if_pos hin] at hp
    obtain ⟨hn0, hn1⟩ := hin
    obtain ⟨j, rfl⟩ := Int.eq_ofNat_of_zero_le hn0
    have W2 := Wq.next hm2 hk2
    clear Wq hm2 hk2
    have Wd := W2.below ((Below.refl w2.heap.size w2).drew)
    obtain ⟨rv, cv, sv, lv, hrow, hbu, hK⟩ := id Wd.mach
    obtain ⟨g1, cc, hcv, hgc, hcc, hcf⟩ := hbu.cells.at (i := j) (by show j < s.cells.length; omega)
    obtain ⟨g2, rc, hrv, hgr, hrc, hrf⟩ := hbu.regs.at (i := b) hb
    subst hcv hrv
    have e1 : (s.out j).regs.getD b 0 = rg s.regs b := by simp [rg, RunD.out]
    rw [e1] at hrc
    have m0 := hrow.cell (i := 0) rfl
    have m1 := hrow.cell (i := 1) rfl
    have o2 := Wd.row.cell (i := 2) rfl
    have f2 := hcf j
    have hai : (0 : Int) ≤ (b : Int) := by omega
    have haj : (b : Int) < ((s.out j).regs.length : Int) := by show (b : Int) < (s.regs.length : Int); omega
    have hji : (0 : Int) ≤ (j : Int) := by omega
    have hjj : (j : Int) < ((s.out j).cells.length : Int) := hn1
    obtain ⟨q1, q2⟩ := Wd.setMem hrow hbu hgc (i := j) (by show j < s.cells.length; omega) (rg s.regs b)
    have HF : Hid (Post (.returned (.tuple #[])) (w2.drew.setCell ⟨g1, j, none⟩ (.int .i64 (rg s.regs b)))) := hp _ q1 q2
    clear hp q1 q2 W2 Wd hrow hbu
    go_wp2
    refine wp_tail 14 (by kernel_rfl) (by kernel_rfl) ?_
    simp only [List.take_succ_cons, List.take_zero, List.drop_succ_cons, List.drop_zero]
    repeat still_step
    refine wpStill_nil ?_
    go_wp2
    go_end0
    exact HF.out
  · intro hin w2 hm2 hk2
    rw [if_neg hin] at hp
    have W2 := Wq.next hm2 hk2
    have HF : Hid (Post (.returned (.tuple #[])) w2) := hp _ W2.done W2.keep
    clear hp W2 Wq hm2 hk2
    go_wp2
    go_end0
    exact HF.out

/-- The machine traps. -/
theorem With.trap {K : Nat → Prop} {w0 w : World} {M O : Nat} {t : TypeId} {xs : List Value} {s : RunD} (h : With K w0 w M O t xs s) {rv cv sv lv : Value} (hrow : Row w M 135 [rv, cv, sv, lv, .int .i64 s.trap]) (hb : Bunch (fun g => K g ∨ g = O) w rv cv sv lv s) (u : Int) :
    Mach K (w.setCell ⟨M, 4, none⟩ (.int .i64 u)) M (s.die u) ∧ Keep (fun g => ¬ K g) w0 (w.setCell ⟨M, 4, none⟩ (.int .i64 u)) := by
  have hM : ¬ K M := by obtain ⟨_, _, _, _, _, _, h3⟩ := h.mach; exact fun e => h3 (.inl e)
  have b2 := (hb.far hrow (by decide) 4 (.int .i64 u)).trapped u
  have b3 := b2.kept (K' := K) (fun g hg => .inl (.inl hg)) (fun g hg => by have := h.lt g hg; have := h.keep.size; simp; omega) (Below.refl _ _)
  exact ⟨⟨rv, cv, sv, lv, hrow.set 4 (.int .i64 u), b3, hM⟩, h.keep.setCell (.inl hM) _⟩

set_option maxRecDepth 100000 in
set_option maxHeartbeats 4000000 in
theorem compute_cps (K : Nat → Prop) (M : Nat) (s : RunD) (k : Int) (a b c : Nat) (w : World) (h : Mach K w M s) (hl : s.leak.length ≤ 99999) (hk : 3 ≤ k ∧ k ≤ 11) (ha : a < s.regs.length) (hb : b < s.regs.length) (hc : c < s.regs.length) (Post : Ending → World → Prop)
    (hp : ∀ w', Mach K w' M (if k = 11 then (if rg s.regs c = 0 then ((s.out (rg s.regs b)).out (rg s.regs c)).die 3 else ((s.out (rg s.regs b)).out (rg s.regs c)).reg a (calcW 11 (rg s.regs b) (rg s.regs c))) else s.reg a (calcW k (rg s.regs b) (rg s.regs c))) → Keep (fun g => ¬ K g) w w' → Post (.returned (.tuple #[])) w') :
    Calls Tryz.prog 178 #[.pointer (some ⟨M, 0, none⟩), .agg #[.int .i64 k, .int .i64 a, .int .i64 b, .int .i64 c]] w Post := by
  have W0 := With.start h 77 [.int .i64 k, .int .i64 a, .int .i64 b, .int .i64 c]
  clear h
  obtain ⟨rv, cv, sv, lv, hrow, hbu, hK⟩ := id W0.mach
  obtain ⟨rb, rc, hrv, hrb, hrc, hrf⟩ := hbu.regs.at hb
  subst hrv
  have m0 := hrow.cell (i := 0) rfl
  have o2 := W0.row.cell (i := 2) rfl
  have hbi : (0 : Int) ≤ (b : Int) := by omega
  have hbj : (b : Int) < (s.regs.length : Int) := by omega
  have hn : s.regs.getD b 0 = rg s.regs b := by simp [rg]
  rw [hn] at hrc
  generalize rg s.regs b = x at *
  have Wd : ∀ d, With K w ((w.alloc (.cells #[.int .i64 k, .int .i64 a, .int .i64 b, .int .i64 c] 77)).drewN d) M w.heap.size 77 [.int .i64 k, .int .i64 a, .int .i64 b, .int .i64 c] s := fun d => W0.below (below_drewN (Below.refl _ _) d)
  clear W0 hrow hbu
  go_enter Tryz.func178, Tryz.ntmps178
  go_wp2
  go_quiet (fail)
  go_wp2
  generalize hwq : (w.alloc (.cells #[.int .i64 k, .int .i64 a, .int .i64 b, .int .i64 c] 77)).drewN _ = wq
  have Wq : With K w wq M w.heap.size 77 [.int .i64 k, .int .i64 a, .int .i64 b, .int .i64 c] s := by rw [← hwq]; exact Wd _
  clear Wd hwq m0 o2 hrc hrf hrb hK hbi hbj hn
  obtain ⟨rv, cv, sv, lv, hrow, hbu, hK⟩ := id Wq.mach
  obtain ⟨rb, rc, hrv, hrb, hrc, hrf⟩ := hbu.regs.at hc
  subst hrv
  have m0 := hrow.cell (i := 0) rfl
  have o3 := Wq.row.cell (i := 3) rfl
  have hbi : (0 : Int) ≤ (c : Int) := by omega
  have hbj : (c : Int) < (s.regs.length : Int) := by omega
  have hn : s.regs.getD c 0 = rg s.regs c := by simp [rg]
  rw [hn] at hrc
  generalize rg s.regs c = y at *
  go_quiet (fail)
  have Wd : ∀ d, With K w (wq.drewN d) M w.heap.size 77 [.int .i64 k, .int .i64 a, .int .i64 b, .int .i64 c] s := fun d => Wq.below (below_drewN (Below.refl _ _) d)
  clear Wq hrow hbu
  generalize hwq : wq.drewN _ = wp
  have Wp : With K w wp M w.heap.size 77 [.int .i64 k, .int .i64 a, .int .i64 b, .int .i64 c] s := by rw [← hwq]; exact Wd _
  clear Wd hwq m0 o3 hrc hrf hrb hK hbi hbj hn
  have o0 := Wp.row.cell (i := 0) rfl
  by_cases h11 : k = 11
  · subst h11
    go_wp2_with fail
    refine letOut_cps _ M s x wp Wp.mach (by omega) _ ?_
    intro w3 hm3 hk3
    have W3 := Wp.next hm3 hk3
    clear Wp hm3 hk3 o0
    go_wp2_with fail
    refine letOut_cps _ M _ y w3 W3.mach (by simp [RunD.out]; omega) _ ?_
    intro w4 hm4 hk4
    have W4 := W3.next hm4 hk4
    clear W3 hm4 hk4
    have o0 := W4.row.cell (i := 0) rfl
    by_cases hy : y = 0
    · subst hy
      obtain ⟨rv, cv, sv, lv, hrow, hbu, hK⟩ := id W4.mach
      have m4 := hrow.cell (i := 4) rfl
      have f4 := hrow.frozen 4
      obtain ⟨q1, q2⟩ := W4.trap hrow hbu 3
      have HF : Hid (Post (.returned (.tuple #[])) (w4.setCell ⟨M, 4, none⟩ (.int .i64 3))) := hp _ (by simpa using q1) q2
      clear hp q1 q2 W4 hrow hbu
      go_wp2_with (go_at_call 193; refine (wordOf_zero _ _).mono ?_; rintro e w' ⟨rfl, rfl⟩)
      exact bodyPost_ret (v := .tuple #[]) (by simp [results, Tryz.results178, go_sem]) rfl HF.out
    · have Wd := W4.below ((Below.refl w4.heap.size w4).drew)
      obtain ⟨rv, cv, sv, lv, hrow, hbu, hK⟩ := id Wd.mach
      obtain ⟨g2, rc, hrv, hgr, hrc, hrf⟩ := hbu.regs.at (i := a) ha
      subst hrv
      have m0 := hrow.cell (i := 0) rfl
      have o1 := Wd.row.cell (i := 1) rfl
      have f2 := hrf a
      have hai : (0 : Int) ≤ (a : Int) := by omega
      have haj : (a : Int) < (((s.out x).out y).regs.length : Int) := by show (a : Int) < (s.regs.length : Int); omega
      obtain ⟨q1, q2⟩ := Wd.setReg hrow hbu hgr (i := a) ha (calcW 11 x y)
      have HF : Hid (Post (.returned (.tuple #[])) (w4.drew.setCell ⟨g2, a, none⟩ (.int .i64 (calcW 11 x y)))) := hp _ (by simpa [hy] using q1) q2
      clear hp q1 q2 W4 Wd hrow hbu
      go_wp2_with (go_at_call 193; refine (wordOf_any 11 x y _ (by omega) (fun _ => hy)).mono ?_; rintro e w' ⟨rfl, rfl⟩)
      generalize calcW 11 x y = v at *
      refine wp_tail 8 (by kernel_rfl) (by kernel_rfl) ?_
      simp only [List.take_succ_cons, List.take_zero, List.drop_succ_cons, List.drop_zero]
      repeat still_step
      refine wpStill_nil ?_
      go_wp2
      go_end0
      exact HF.out
  · have h11' : (k == 11) = false := by simp [h11]
    rw [if_neg h11] at hp
    have Wd := Wp.below ((Below.refl wp.heap.size wp).drew)
    obtain ⟨rv, cv, sv, lv, hrow, hbu, hK⟩ := id Wd.mach
    obtain ⟨g2, rc, hrv, hgr, hrc, hrf⟩ := hbu.regs.at (i := a) ha
    subst hrv
    have m0 := hrow.cell (i := 0) rfl
    have o1 := Wd.row.cell (i := 1) rfl
    have f2 := hrf a
    have hai : (0 : Int) ≤ (a : Int) := by omega
    have haj : (a : Int) < (s.regs.length : Int) := by omega
    obtain ⟨q1, q2⟩ := Wd.setReg hrow hbu hgr (i := a) ha (calcW k x y)
    have HF : Hid (Post (.returned (.tuple #[])) (wp.drew.setCell ⟨g2, a, none⟩ (.int .i64 (calcW k x y)))) := hp _ q1 q2
    clear hp q1 q2 Wp Wd hrow hbu
    go_wp2_with (go_at_call 193; refine (wordOf_any k x y _ hk (fun e => absurd e h11)).mono ?_; rintro e w' ⟨rfl, rfl⟩)
    generalize calcW k x y = v at *
    refine wp_tail 8 (by kernel_rfl) (by kernel_rfl) ?_
    simp only [List.take_succ_cons, List.take_zero, List.drop_succ_cons, List.drop_zero]
    repeat still_step
    refine wpStill_nil ?_
    go_wp2
    go_end0
    exact HF.out

end Go.Proofs.YtblhmeidbjigaaaGreatDoor
