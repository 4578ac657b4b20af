/- What Run answers, pure. -/
import Derived.Test.YtblhmeidbjigaaaGreatDoorRows
import Derived.WalkKit
import Derived.WalkSpells
import Derived.WalkLawsBesides
import Derived.Laws.BytesArg
import Derived.Deep.QuietTactic
import Derived.BigQuiet
import Derived.Deep.RegionHeld3
import Derived.Maps.AppendAt
import Derived.StillTailTactics
import Derived.Test.YtblhmeidbjigaaaGreatDoorMDoToMBegWarned

set_option linter.unusedSimpArgs false
set_option linter.unusedVariables false
namespace Go.Proofs.YtblhmeidbjigaaaGreatDoor
open Go.RowKit

def outZ : OutD := ⟨0, 0, [], []⟩

def fits (p : ProgD) (args mem spill : List Int) : Prop := (args.length : Int) = p.args ∧ (mem.length : Int) = p.data ∧ (spill.length : Int) = p.slots

def begins (p : ProgD) (args mem spill : List Int) : RunD := ⟨regs0 args (p.regs - args.length).toNat, mem, spill, [], 0⟩

/-- The document's answer: the outcome and the error. -/
def RunAns (s : ByteArray) (args mem spill : List Int) (fuel : Int) (o : OutD) (e : Int) : Prop :=
  (e = 1 ∧ o = outZ ∧ ∀ p, progGood p = true → str (progText p) ≠ s) ∨
  ∃ p, progGood p = true ∧ str (progText p) = s ∧
    ((e = 3 ∧ o = outZ ∧ ¬ fits p args mem spill) ∨ (e = 4 ∧ o = outZ ∧ fits p args mem spill ∧ ¬ (0 ≤ fuel ∧ fuel ≤ 300)) ∨
      (e = 0 ∧ fits p args mem spill ∧ (0 ≤ fuel ∧ fuel ≤ 300) ∧ o = runN p.blocks fuel.toNat 0 (begins p args mem spill)))

theorem RunAns.one {s : ByteArray} {args mem spill : List Int} {fuel : Int} {o o' : OutD} {e e' : Int} (h : RunAns s args mem spill fuel o e) (h' : RunAns s args mem spill fuel o' e') : o = o' ∧ e = e' := by
  rcases h with ⟨rfl, rfl, h1⟩ | ⟨p, hg, ht, h1⟩
  · rcases h' with ⟨rfl, rfl, _⟩ | ⟨q, hg, ht, _⟩
    · exact ⟨rfl, rfl⟩
    · exact absurd ht (h1 q hg)
  · rcases h' with ⟨rfl, rfl, h2⟩ | ⟨q, hg', ht', h2⟩
    · exact absurd ht (h2 p hg)
    · obtain rfl : p = q := prog_one hg hg' (ht.trans ht'.symm)
      rcases h1 with ⟨rfl, rfl, a⟩ | ⟨rfl, rfl, a, b⟩ | ⟨rfl, a, b, rfl⟩
      · rcases h2 with ⟨rfl, rfl, _⟩ | ⟨_, _, c, _⟩ | ⟨_, c, _, _⟩
        · exact ⟨rfl, rfl⟩
        · exact absurd c a
        · exact absurd c a
      · rcases h2 with ⟨_, _, c⟩ | ⟨rfl, rfl, _, _⟩ | ⟨_, _, c, _⟩
        · exact absurd a c
        · exact ⟨rfl, rfl⟩
        · exact absurd c b
      · rcases h2 with ⟨_, _, c⟩ | ⟨_, _, _, c⟩ | ⟨rfl, _, _, rfl⟩
        · exact absurd a c
        · exact absurd b c
        · exact ⟨rfl, rfl⟩

theorem owns_rebase {w : World} {B : Nat} {e : TypeId} {sz : Nat} {v : Value} {n : Nat} {xs : List Value} (h : w.ownsRow 0 e sz v n xs) (hB : ∀ g, v.ownBlock = some g → B ≤ g) : w.ownsRow B e sz v n xs := by
  refine ⟨h.1, ?_⟩
  rcases h.2 with h2 | ⟨g, cap, cur, rfl, hg, r⟩
  · exact .inl h2
  · exact .inr ⟨g, cap, cur, rfl, hB g rfl, r⟩

/-- What comes out of Run. -/
structure RunOut (w w' : World) (o : OutD) (mv lv : Value) : Prop where
  mem : w'.ownsRow w.heap.size 3 1 mv o.mem.length (ints o.mem)
  leak : w'.ownsRow w.heap.size 3 1 lv o.leak.length (ints o.leak)
  apart : ∀ g, mv.ownBlock = some g → lv.ownBlock ≠ some g
  below : Below w.heap.size w w'

theorem out4_below {B : Nat} {w w' : World} (h : Below B w w') {R : Nat} (hR : B ≤ R) (k r : Int) (m l : Value) : Below B w (out4 w' R k r m l) :=
  (((h.setCell hR _).setCell hR _).setCell hR _).setCell hR _

theorem runOut_nil {w w' : World} (h : Below w.heap.size w w') : RunOut w w' outZ (.slice none 0 0) (.slice none 0 0) :=
  ⟨World.ownsRow_nil _ _ _ _, World.ownsRow_nil _ _ _ _, fun g e => by simp [Value.ownBlock] at e, h⟩

theorem begins_sized {p : ProgD} {args mem spill : List Int} (hg : progGood p = true) (h : fits p args mem spill) : Sized (begins p args mem spill) p.regs p.data p.slots := by
  simp only [progGood, Bool.and_eq_true, decide_eq_true_eq] at hg
  obtain ⟨h1, h2, h3⟩ := h
  refine ⟨?_, h2, h3⟩
  show ((regs0 args (p.regs - args.length).toNat).length : Int) = p.regs
  rw [regs0_length]
  omega

end Go.Proofs.YtblhmeidbjigaaaGreatDoor

/- Run in package machine. -/
set_option linter.unusedSimpArgs false
set_option linter.unusedVariables false
namespace Go.Proofs.YtblhmeidbjigaaaGreatDoor
open Go.RowKit

set_option maxRecDepth 100000 in
set_option maxHeartbeats 2000000 in
theorem mRun_cps (s : ByteArray) (av mv sv : Value) (args mem spill : List Int) (fuel : Int) (w : World) (ha : RdWords w av args) (hm : RdWords w mv mem) (hsp : RdWords w sv spill) (hs : s.size ≤ maxLen) (Post : Ending → World → Prop)
    (hp : ∀ o e mv lv w', RunAns s args mem spill fuel o e → RunOut w w' o mv lv → Post (.returned (.tuple #[.agg #[.int .i64 o.kind, .int .i64 o.result, mv, lv], .int .i64 e])) w') :
    Calls Tryz.prog 47 #[.string s, .agg #[av, mv, sv], .int .i64 fuel] w Post := by
  obtain ⟨ao, ac, rfl, hal, _⟩ := id ha
  obtain ⟨mo, mc, rfl, hml, _⟩ := id hm
  obtain ⟨so, sc, rfl, hsl, _⟩ := id hsp
  have hc := cDecode_any s ((w.alloc (.cells #[.slice ao args.length ac, .slice mo mem.length mc, .slice so spill.length sc] 44)).alloc (.cells #[.int .i64 0, .int .i64 0, .slice none 0 0, .slice none 0 0] 47)) hs
  have rI : Row ((w.alloc (.cells #[.slice ao args.length ac, .slice mo mem.length mc, .slice so spill.length sc] 44)).alloc (.cells #[.int .i64 0, .int .i64 0, .slice none 0 0, .slice none 0 0] 47)) w.heap.size 44 [.slice ao args.length ac, .slice mo mem.length mc, .slice so spill.length sc] := by
    have q : Row (w.alloc (.cells #[.slice ao args.length ac, .slice mo mem.length mc, .slice so spill.length sc] 44)) w.heap.size 44 [.slice ao args.length ac, .slice mo mem.length mc, .slice so spill.length sc] := heap_alloc_new w _
    exact q.alloc _
  have rO : Row ((w.alloc (.cells #[.slice ao args.length ac, .slice mo mem.length mc, .slice so spill.length sc] 44)).alloc (.cells #[.int .i64 0, .int .i64 0, .slice none 0 0, .slice none 0 0] 47)) (w.heap.size + 1) 47 zOut := heap_alloc2_new w _ _
  have hbW : Below w.heap.size w ((w.alloc (.cells #[.slice ao args.length ac, .slice mo mem.length mc, .slice so spill.length sc] 44)).alloc (.cells #[.int .i64 0, .int .i64 0, .slice none 0 0, .slice none 0 0] 47)) := ((Below.refl w.heap.size w).alloc (Nat.le_refl _) _).alloc (by simp) _
  go_enter Tryz.func47, Tryz.ntmps47
  go_wp2_with fail
  refine hc.mono ?_
  clear hc
  rintro e w1 ⟨hor, hb1⟩
  have rI1 := rI.keep hb1
  have rO1 := rO.keep hb1
  have hb01 := hbW.trans (hb1.mono (by simp; omega))
  have hz1 : w.heap.size + 2 ≤ w1.heap.size := by have := hb1.size; simp at this; omega
  clear rI rO hbW
  rcases hor with ⟨⟨a0, a1, a2, a3, l⟩, v, bv, rfl, ho, hd, hg, ht⟩ | ⟨hn, rfl⟩
  · simp only at hd
    obtain ⟨bo, bc, rfl⟩ := owns_slice ho.row
    unfold progV
    simp only
    have ho2 := ho.alloc (.cells #[.int .i64 a0, .int .i64 a1, .int .i64 a2, .int .i64 a3, .slice bo bv.length bc] 33)
    have rI2 := rI1.alloc (.cells #[.int .i64 a0, .int .i64 a1, .int .i64 a2, .int .i64 a3, .slice bo bv.length bc] 33)
    have rO2 := rO1.alloc (.cells #[.int .i64 a0, .int .i64 a1, .int .i64 a2, .int .i64 a3, .slice bo bv.length bc] 33)
    have rP2 : Row (w1.alloc (.cells #[.int .i64 a0, .int .i64 a1, .int .i64 a2, .int .i64 a3, .slice bo bv.length bc] 33)) w1.heap.size 33 [.int .i64 a0, .int .i64 a1, .int .i64 a2, .int .i64 a3, .slice bo bv.length bc] := heap_alloc_new w1 _
    have hb02 := hb01.alloc (show w.heap.size ≤ w1.heap.size by omega) (.cells #[.int .i64 a0, .int .i64 a1, .int .i64 a2, .int .i64 a3, .slice bo bv.length bc] 33)
    clear ho rI1 rO1 hb01 hb1
    have i0 := rI2.cell (i := 0) rfl
    have i1 := rI2.cell (i := 1) rfl
    have i2 := rI2.cell (i := 2) rfl
    have p0 := rP2.cell (i := 0) rfl
    have p1 := rP2.cell (i := 1) rfl
    have p2 := rP2.cell (i := 2) rfl
    have p3 := rP2.cell (i := 3) rfl
    have p4 := rP2.cell (i := 4) rfl
    have y0 := rO2.cell (i := 0) rfl
    have y1 := rO2.cell (i := 1) rfl
    have y2 := rO2.cell (i := 2) rfl
    have y3 := rO2.cell (i := 3) rfl
    have f0 := rO2.frozen 0
    have f1 := rO2.frozen 1
    have f2 := rO2.frozen 2
    have f3 := rO2.frozen 3
    by_cases h0 : (args.length : Int) = a0
    case neg =>
      have e0 : ((args.length : Int) == a0) = false := by simp [h0]
      have hfin := hp outZ 3 (.slice none 0 0) (.slice none 0 0) (out4 (w1.alloc (.cells #[.int .i64 a0, .int .i64 a1, .int .i64 a2, .int .i64 a3, .slice bo bv.length bc] 33)) (w.heap.size + 1) 0 0 (.slice none 0 0) (.slice none 0 0)) (.inr ⟨⟨a0, a1, a2, a3, l⟩, hg, ht, .inl ⟨rfl, rfl, fun c => h0 c.1⟩⟩) (runOut_nil (out4_below hb02 (by omega) _ _ _ _))
      have HF : Hid (Post (.returned (.tuple #[.agg #[.int .i64 0, .int .i64 0, .slice none 0 0, .slice none 0 0], .int .i64 3])) (out4 (w1.alloc (.cells #[.int .i64 a0, .int .i64 a1, .int .i64 a2, .int .i64 a3, .slice bo bv.length bc] 33)) (w.heap.size + 1) 0 0 (.slice none 0 0) (.slice none 0 0))) := hfin
      clear hfin hp ho2 rI2 rO2 rP2 hb02
      unfold out4 at HF
      go_wp2
      (try simp only [Exit.inBlock, Exit.then])
      refine bodyPost_ret (v := .tuple #[.agg #[.int .i64 0, .int .i64 0, .slice none 0 0, .slice none 0 0], .int .i64 3]) ?_ rfl ?_
      · simp [results, Tryz.results47, go_sem, y0, y1, y2, y3]
      · exact HF.out
    by_cases h2 : (mem.length : Int) = a2
    case neg =>
      have e0 : ((args.length : Int) == a0) = true := by simp [h0]
      have e2 : ((mem.length : Int) == a2) = false := by simp [h2]
      have hfin := hp outZ 3 (.slice none 0 0) (.slice none 0 0) (out4 (w1.alloc (.cells #[.int .i64 a0, .int .i64 a1, .int .i64 a2, .int .i64 a3, .slice bo bv.length bc] 33)) (w.heap.size + 1) 0 0 (.slice none 0 0) (.slice none 0 0)) (.inr ⟨⟨a0, a1, a2, a3, l⟩, hg, ht, .inl ⟨rfl, rfl, fun c => h2 c.2.1⟩⟩) (runOut_nil (out4_below hb02 (by omega) _ _ _ _))
      have HF : Hid (Post (.returned (.tuple #[.agg #[.int .i64 0, .int .i64 0, .slice none 0 0, .slice none 0 0], .int .i64 3])) (out4 (w1.alloc (.cells #[.int .i64 a0, .int .i64 a1, .int .i64 a2, .int .i64 a3, .slice bo bv.length bc] 33)) (w.heap.size + 1) 0 0 (.slice none 0 0) (.slice none 0 0))) := hfin
      clear hfin hp ho2 rI2 rO2 rP2 hb02
      unfold out4 at HF
      go_wp2
      (try simp only [Exit.inBlock, Exit.then])
      refine bodyPost_ret (v := .tuple #[.agg #[.int .i64 0, .int .i64 0, .slice none 0 0, .slice none 0 0], .int .i64 3]) ?_ rfl ?_
      · simp [results, Tryz.results47, go_sem, y0, y1, y2, y3]
      · exact HF.out
    by_cases h3 : (spill.length : Int) = a3
    case neg =>
      have e0 : ((args.length : Int) == a0) = true := by simp [h0]
      have e2 : ((mem.length : Int) == a2) = true := by simp [h2]
      have e3 : ((spill.length : Int) == a3) = false := by simp [h3]
      have hfin := hp outZ 3 (.slice none 0 0) (.slice none 0 0) (out4 (w1.alloc (.cells #[.int .i64 a0, .int .i64 a1, .int .i64 a2, .int .i64 a3, .slice bo bv.length bc] 33)) (w.heap.size + 1) 0 0 (.slice none 0 0) (.slice none 0 0)) (.inr ⟨⟨a0, a1, a2, a3, l⟩, hg, ht, .inl ⟨rfl, rfl, fun c => h3 c.2.2⟩⟩) (runOut_nil (out4_below hb02 (by omega) _ _ _ _))
      have HF : Hid (Post (.returned (.tuple #[.agg #[.int .i64 0, .int .i64 0, .slice none 0 0, .slice none 0 0], .int .i64 3])) (out4 (w1.alloc (.cells #[.int .i64 a0, .int .i64 a1, .int .i64 a2, .int .i64 a3, .slice bo bv.length bc] 33)) (w.heap.size + 1) 0 0 (.slice none 0 0) (.slice none 0 0))) := hfin
      clear hfin hp ho2 rI2 rO2 rP2 hb02
      unfold out4 at HF
      go_wp2
      (try simp only [Exit.inBlock, Exit.then])
      refine bodyPost_ret (v := .tuple #[.agg #[.int .i64 0, .int .i64 0, .slice none 0 0, .slice none 0 0], .int .i64 3]) ?_ rfl ?_
      · simp [results, Tryz.results47, go_sem, y0, y1, y2, y3]
      · exact HF.out
    subst h0 h2 h3
    by_cases hf0 : fuel < 0
    · have hfin := hp outZ 4 (.slice none 0 0) (.slice none 0 0) (out4 (w1.alloc (.cells #[.int .i64 args.length, .int .i64 a1, .int .i64 mem.length, .int .i64 spill.length, .slice bo bv.length bc] 33)) (w.heap.size + 1) 0 0 (.slice none 0 0) (.slice none 0 0)) (.inr ⟨⟨args.length, a1, mem.length, spill.length, l⟩, hg, ht, .inr (.inl ⟨rfl, rfl, ⟨rfl, rfl, rfl⟩, fun c => by omega⟩)⟩) (runOut_nil (out4_below hb02 (by omega) _ _ _ _))
      have HF : Hid (Post (.returned (.tuple #[.agg #[.int .i64 0, .int .i64 0, .slice none 0 0, .slice none 0 0], .int .i64 4])) (out4 (w1.alloc (.cells #[.int .i64 args.length, .int .i64 a1, .int .i64 mem.length, .int .i64 spill.length, .slice bo bv.length bc] 33)) (w.heap.size + 1) 0 0 (.slice none 0 0) (.slice none 0 0))) := hfin
      clear hfin hp ho2 rI2 rO2 rP2 hb02
      unfold out4 at HF
      go_wp2
      (try simp only [Exit.inBlock, Exit.then])
      refine bodyPost_ret (v := .tuple #[.agg #[.int .i64 0, .int .i64 0, .slice none 0 0, .slice none 0 0], .int .i64 4]) ?_ rfl ?_
      · simp [results, Tryz.results47, go_sem, y0, y1, y2, y3]
      · exact HF.out
    by_cases hf1 : 300 < fuel
    · have hfin := hp outZ 4 (.slice none 0 0) (.slice none 0 0) (out4 (w1.alloc (.cells #[.int .i64 args.length, .int .i64 a1, .int .i64 mem.length, .int .i64 spill.length, .slice bo bv.length bc] 33)) (w.heap.size + 1) 0 0 (.slice none 0 0) (.slice none 0 0)) (.inr ⟨⟨args.length, a1, mem.length, spill.length, l⟩, hg, ht, .inr (.inl ⟨rfl, rfl, ⟨rfl, rfl, rfl⟩, fun c => by omega⟩)⟩) (runOut_nil (out4_below hb02 (by omega) _ _ _ _))
      have HF : Hid (Post (.returned (.tuple #[.agg #[.int .i64 0, .int .i64 0, .slice none 0 0, .slice none 0 0], .int .i64 4])) (out4 (w1.alloc (.cells #[.int .i64 args.length, .int .i64 a1, .int .i64 mem.length, .int .i64 spill.length, .slice bo bv.length bc] 33)) (w.heap.size + 1) 0 0 (.slice none 0 0) (.slice none 0 0))) := hfin
      clear hfin hp ho2 rI2 rO2 rP2 hb02
      unfold out4 at HF
      go_wp2
      (try simp only [Exit.inBlock, Exit.then])
      refine bodyPost_ret (v := .tuple #[.agg #[.int .i64 0, .int .i64 0, .slice none 0 0, .slice none 0 0], .int .i64 4]) ?_ rfl ?_
      · simp [results, Tryz.results47, go_sem, y0, y1, y2, y3]
      · exact HF.out
    obtain ⟨fu, rfl⟩ := Int.eq_ofNat_of_zero_le (show 0 ≤ fuel by omega)
    have hgg := hg
    simp only [progGood, Bool.and_eq_true, decide_eq_true_eq] at hgg
    obtain ⟨⟨⟨⟨⟨g1, g2⟩, g3⟩, g4⟩, g5⟩, g6⟩ := hgg
    have hans : RunAns s args mem spill fu (runN l fu 0 (begins ⟨args.length, a1, mem.length, spill.length, l⟩ args mem spill)) 0 := .inr ⟨⟨args.length, a1, mem.length, spill.length, l⟩, hg, ht, .inr (.inr ⟨rfl, ⟨rfl, rfl, rfl⟩, by omega, by simp⟩)⟩
    have hsz := begins_sized (args := args) (mem := mem) (spill := spill) hg ⟨rfl, rfl, rfl⟩
    have hal' := ha.keep hb02
    have hml' := hm.keep hb02
    have hsl' := hsp.keep hb02
    have hrd := OwnBlocks.rd ho2
    rw [hd] at hrd
    obtain ⟨W2, hW2⟩ : ∃ W2, W2 = w1.alloc (.cells #[.int .i64 args.length, .int .i64 a1, .int .i64 mem.length, .int .i64 spill.length, .slice bo bv.length bc] 33) := ⟨_, rfl⟩
    rw [← hW2] at hrd hal' hml' hsl' hb02 rI2 rO2 rP2
    have hz2 : w.heap.size + 3 ≤ W2.heap.size := by rw [hW2]; simp; omega
    clear hg ht ho2 ha hm hsp
    go_wp2_with fail
    rw [← hW2]
    clear hW2 i0 i1 i2 p0 p1 p2 p3 p4 y0 y1 y2 y3 f0 f1 f2 f3
    refine begin_cps a1 mem.length spill.length _ _ _ _ args mem spill W2 hal' hml' hsl' (by omega) (by omega) (by omega) (by omega) ⟨_, _, _, rfl⟩ _ ?_
    intro rv cv sv w3 hB hb3
    obtain ⟨ro, rc, rfl⟩ := owns_slice hB.regs
    obtain ⟨co, cc, rfl⟩ := owns_slice hB.cells
    obtain ⟨so', sc', rfl⟩ := owns_slice hB.slots
    have hz3 := hb3.size
    have hall := (Below.refl w3.heap.size w3).alloc (Nat.le_refl _) (.cells #[.slice ro (regs0 args (a1 - args.length).toNat).length rc, .slice co mem.length cc, .slice so' spill.length sc', .slice none 0 0, .int .i64 0] 135)
    have hM : Mach (fun g => g < W2.heap.size) (w3.alloc (.cells #[.slice ro (regs0 args (a1 - args.length).toNat).length rc, .slice co mem.length cc, .slice so' spill.length sc', .slice none 0 0, .int .i64 0] 135)) w3.heap.size (begins ⟨args.length, a1, mem.length, spill.length, l⟩ args mem spill) :=
      ⟨_, _, _, _, heap_alloc_new w3 _, hB.keep hall, fun c => by omega⟩
    have hb4 : Below W2.heap.size W2 (w3.alloc (.cells #[.slice ro (regs0 args (a1 - args.length).toNat).length rc, .slice co mem.length cc, .slice so' spill.length sc', .slice none 0 0, .int .i64 0] 135)) := hb3.trans (hall.mono (by omega))
    have p4 := (rP2.keep hb4).cell (i := 4) rfl
    have hlz : (begins ⟨args.length, a1, mem.length, spill.length, l⟩ args mem spill).leak = [] := rfl
    have htz : (begins ⟨args.length, a1, mem.length, spill.length, l⟩ args mem spill).trap = 0 := rfl
    generalize begins ⟨args.length, a1, mem.length, spill.length, l⟩ args mem spill = S0 at *
    generalize (regs0 args (a1 - args.length).toNat).length = nr at *
    clear hB hall hal' hml' hsl'
    obtain ⟨w4, hw4⟩ : ∃ w4, w4 = w3.alloc (.cells #[.slice ro nr rc, .slice co mem.length cc, .slice so' spill.length sc', .slice none 0 0, .int .i64 0] 135) := ⟨_, rfl⟩
    rw [← hw4] at hM hb4
    have hz4 := hb4.size
    go_wp2_with fail
    rw [← hw4]
    clear hw4 p4
    refine run_cps (fun g => g < W2.heap.size) w3.heap.size S0 l _ fu a1 mem.length spill.length W2 w4 hM (by omega) hlz htz hsz g6 (by omega) hrd (fun g h => h) hb4 _ ?_
    intro mv' lv' w5 own1 own2 ap k1 k2 hk5
    have hb5 := hb4.trans (hk5.toBelow hz4 (fun g hn => by omega))
    have rO5 := rO2.keep hb5
    have hb05 := hb02.trans (hb5.mono (by omega))
    have hz5 := hb5.size
    generalize runN l fu 0 S0 = G at *
    have hfin := hp G 0 mv' lv' (out4 w5 (w.heap.size + 1) G.kind G.result mv' lv') hans
      ⟨owns_rebase (OwnW.out4 own1 rO5 _ _ _ _) (fun g e => by have := k1 g e; omega), owns_rebase (OwnW.out4 own2 rO5 _ _ _ _) (fun g e => by have := k2 g e; omega), ap, out4_below hb05 (by omega) _ _ _ _⟩
    obtain ⟨mo', mc', rfl⟩ := owns_slice own1
    obtain ⟨lo', lc', rfl⟩ := owns_slice own2
    have HF : Hid (Post (.returned (.tuple #[.agg #[.int .i64 G.kind, .int .i64 G.result, .slice mo' G.mem.length mc', .slice lo' G.leak.length lc'], .int .i64 0])) (out4 w5 (w.heap.size + 1) G.kind G.result (.slice mo' G.mem.length mc') (.slice lo' G.leak.length lc'))) := hfin
    have y0 := rO5.cell (i := 0) rfl
    have y1 := rO5.cell (i := 1) rfl
    have y2 := rO5.cell (i := 2) rfl
    have y3 := rO5.cell (i := 3) rfl
    have f0 := rO5.frozen 0
    have f1 := rO5.frozen 1
    have f2 := rO5.frozen 2
    have f3 := rO5.frozen 3
    clear hfin hp own1 own2 ap k1 k2 hk5 hb5 rO5 hb05 hM hb4 rP2 rI2 rO2 hrd hans
    unfold out4 at HF
    go_wp2
    (try simp only [Exit.inBlock, Exit.then])
    refine bodyPost_ret (v := .tuple #[.agg #[.int .i64 G.kind, .int .i64 G.result, .slice mo' G.mem.length mc', .slice lo' G.leak.length lc'], .int .i64 0]) ?_ rfl ?_
    · simp [results, Tryz.results47, go_sem, y0, y1, y2, y3]
    · exact HF.out
  · clear hs
    have rO2 := rO1.alloc (.cells #[.int .i64 0, .int .i64 0, .int .i64 0, .int .i64 0, .slice none 0 0] 33)
    have hb02 := hb01.alloc (show w.heap.size ≤ w1.heap.size by omega) (.cells #[.int .i64 0, .int .i64 0, .int .i64 0, .int .i64 0, .slice none 0 0] 33)
    have y0 := rO2.cell (i := 0) rfl
    have y1 := rO2.cell (i := 1) rfl
    have y2 := rO2.cell (i := 2) rfl
    have y3 := rO2.cell (i := 3) rfl
    have f0 := rO2.frozen 0
    have f1 := rO2.frozen 1
    have f2 := rO2.frozen 2
    have f3 := rO2.frozen 3
    have hfin := hp outZ 1 (.slice none 0 0) (.slice none 0 0) (out4 (w1.alloc (.cells #[.int .i64 0, .int .i64 0, .int .i64 0, .int .i64 0, .slice none 0 0] 33)) (w.heap.size + 1) 0 0 (.slice none 0 0) (.slice none 0 0)) (.inl ⟨rfl, rfl, hn⟩) (runOut_nil (out4_below hb02 (by omega) _ _ _ _))
    have HF : Hid (Post (.returned (.tuple #[.agg #[.int .i64 0, .int .i64 0, .slice none 0 0, .slice none 0 0], .int .i64 1])) (out4 (w1.alloc (.cells #[.int .i64 0, .int .i64 0, .int .i64 0, .int .i64 0, .slice none 0 0] 33)) (w.heap.size + 1) 0 0 (.slice none 0 0) (.slice none 0 0))) := hfin
    clear hfin hp rI1 rO1 rO2 hb01 hb02 hb1 hn
    unfold out4 at HF
    go_wp2
    (try simp only [Exit.inBlock, Exit.then])
    refine bodyPost_ret (v := .tuple #[.agg #[.int .i64 0, .int .i64 0, .slice none 0 0, .slice none 0 0], .int .i64 1]) ?_ rfl ?_
    · simp [results, Tryz.results47, go_sem, y0, y1, y2, y3]
    · exact HF.out

end Go.Proofs.YtblhmeidbjigaaaGreatDoor

/- Run in package twin. -/
set_option linter.unusedSimpArgs false
set_option linter.unusedVariables false
namespace Go.Proofs.YtblhmeidbjigaaaGreatDoor
open Go.RowKit

theorem RunOut.set4 {w w0 w' : World} {o : OutD} {mv lv : Value} (h : RunOut w0 w' o mv lv) (hb : Below w.heap.size w w0) {R : Nat} {xs : List Value} (hr : Row w' R 47 xs) (hR : w.heap.size ≤ R) (k r : Int) (m l : Value) : RunOut w (out4 w' R k r m l) o mv lv :=
  ⟨owns_base (owns_rebase (OwnW.out4 (owns_base h.mem (Nat.zero_le _)) hr _ _ _ _) (fun g e => (h.mem.lt g e).1)) hb.size, owns_base (owns_rebase (OwnW.out4 (owns_base h.leak (Nat.zero_le _)) hr _ _ _ _) (fun g e => (h.leak.lt g e).1)) hb.size, h.apart,
    out4_below (hb.trans (h.below.mono hb.size)) hR _ _ _ _⟩

set_option maxRecDepth 100000 in
set_option maxHeartbeats 2000000 in
theorem tRun_cps (s : ByteArray) (av mv sv : Value) (args mem spill : List Int) (fuel : Int) (w : World) (ha : RdWords w av args) (hm : RdWords w mv mem) (hsp : RdWords w sv spill) (hs : s.size ≤ maxLen) (Post : Ending → World → Prop)
    (hp : ∀ o e mv lv w', RunAns s args mem spill fuel o e → RunOut w w' o mv lv → Post (.returned (.tuple #[.agg #[.int .i64 o.kind, .int .i64 o.result, mv, lv], .int .i64 e])) w') :
    Calls Tryz.prog 17 #[.string s, .agg #[av, mv, sv], .int .i64 fuel] w Post := by
  obtain ⟨ao, ac, rfl, hal, _⟩ := id ha
  obtain ⟨mo, mc, rfl, hml, _⟩ := id hm
  obtain ⟨so, sc, rfl, hsl, _⟩ := id hsp
  have rO : Row ((w.alloc (.cells #[.slice ao args.length ac, .slice mo mem.length mc, .slice so spill.length sc] 44)).alloc (.cells #[.int .i64 0, .int .i64 0, .slice none 0 0, .slice none 0 0] 47)) (w.heap.size + 1) 47 zOut := heap_alloc2_new w _ _
  have hbW : Below w.heap.size w ((w.alloc (.cells #[.slice ao args.length ac, .slice mo mem.length mc, .slice so spill.length sc] 44)).alloc (.cells #[.int .i64 0, .int .i64 0, .slice none 0 0, .slice none 0 0] 47)) := ((Below.refl w.heap.size w).alloc (Nat.le_refl _) _).alloc (by simp) _
  go_enter Tryz.func17, Tryz.ntmps17
  go_wp2_with fail
  refine mRun_cps s _ _ _ args mem spill fuel _ (ha.keep hbW) (hm.keep hbW) (hsp.keep hbW) hs _ ?_
  intro o e mv' lv' w1 hans hout
  have rO1 := rO.keep hout.below
  have ho := hout.set4 hbW rO1 (by omega) o.kind o.result mv' lv'
  have hfin := hp o e mv' lv' _ hans ho
  obtain ⟨mo', mc', rfl⟩ := owns_slice hout.mem
  obtain ⟨lo', lc', rfl⟩ := owns_slice hout.leak
  have HF : Hid (Post (.returned (.tuple #[.agg #[.int .i64 o.kind, .int .i64 o.result, .slice mo' o.mem.length mc', .slice lo' o.leak.length lc'], .int .i64 e])) (out4 w1 (w.heap.size + 1) o.kind o.result (.slice mo' o.mem.length mc') (.slice lo' o.leak.length lc'))) := hfin
  have y0 := rO1.cell (i := 0) rfl
  have y1 := rO1.cell (i := 1) rfl
  have y2 := rO1.cell (i := 2) rfl
  have y3 := rO1.cell (i := 3) rfl
  have f0 := rO1.frozen 0
  have f1 := rO1.frozen 1
  have f2 := rO1.frozen 2
  have f3 := rO1.frozen 3
  clear hfin hp hans hout ho rO rO1 hbW ha hm hsp
  unfold out4 at HF
  go_wp2
  (try simp only [Exit.inBlock, Exit.then])
  refine bodyPost_ret (v := .tuple #[.agg #[.int .i64 o.kind, .int .i64 o.result, .slice mo' o.mem.length mc', .slice lo' o.leak.length lc'], .int .i64 e]) ?_ rfl ?_
  · simp [results, Tryz.results17, go_sem, y0, y1, y2, y3]
  · exact HF.out

end Go.Proofs.YtblhmeidbjigaaaGreatDoor

/- Lists of words held against each other. -/
set_option linter.unusedSimpArgs false
set_option linter.unusedVariables false
namespace Go.Proofs.YtblhmeidbjigaaaGreatDoor
open Go.RowKit

/-- What lies in memory of one's own is read. -/
theorem owns_rd {w : World} {B : Nat} {v : Value} {l : List Int} (h : w.ownsRow B 3 1 v l.length (ints l)) : RdWords w v l := by
  obtain ⟨ao, cap, rfl⟩ := owns_slice h
  refine ⟨ao, cap, rfl, owns_le h, fun i hi => ?_⟩
  obtain ⟨b, rfl, _, hb, hc⟩ := owns_cell h rfl (i := i) (by rw [ints_length]; exact hi)
  refine ⟨b, 0, rfl, ?_⟩
  rw [Nat.zero_add, hc]
  simp [ints, List.getD, hi]

end Go.Proofs.YtblhmeidbjigaaaGreatDoor

/- Lists cut or filled up to a length; an input for a program. -/
set_option linter.unusedSimpArgs false
set_option linter.unusedVariables false
namespace Go.Proofs.YtblhmeidbjigaaaGreatDoor
open Go.RowKit

def padTo (l : List Int) (n : Nat) : List Int := (List.range n).map fun i => l.getD i 0

theorem padTo_length (l : List Int) (n : Nat) : (padTo l n).length = n := by simp [padTo]

theorem padTo_snoc (l : List Int) (n : Nat) : ints (padTo l (n + 1)) = ints (padTo l n) ++ [.int .i64 (l.getD n 0)] := by
  rw [← ints_snoc]
  simp [padTo, List.range_succ]

set_option maxRecDepth 100000 in
set_option maxHeartbeats 2000000 in
theorem kList_cps (v : Value) (l : List Int) (n : Nat) (w : World) (hr : RdWords w v l) (hn : n ≤ 1000) (Post : Ending → World → Prop)
    (hp : ∀ v' w', w'.ownsRow w.heap.size 3 1 v' (padTo l n).length (ints (padTo l n)) → Below w.heap.size w w' → Post (.returned v') w') :
    Calls Tryz.prog 46 #[v, .int .i64 n] w Post := by
  obtain ⟨ao, cap, rfl, hll, hc⟩ := hr
  obtain ⟨i0, ii, iz0, iz1, iz2⟩ := info_parts Tryz.infoInt
  go_enter Tryz.func46, Tryz.ntmps46
  go_wp2
  go_loopw [5, 6] (fun o i wr => ∃ (k : Nat), k ≤ n ∧ i = .int .i64 k ∧ wr.ownsRow w.heap.size 3 1 o k (ints (padTo l k)) ∧ Below w.heap.size w wr)
    (fun _ i _ => n - (intOf i).toNat)
  case atStart => exact ⟨0, Nat.zero_le _, rfl, World.ownsRow_nil _ _ _ _, Below.refl _ _⟩
  case round =>
    obtain ⟨k, hk, rfl, hown, hbel⟩ := hrel
    obtain ⟨lo, lc, rfl⟩ := owns_slice hown
    have hz := hbel.size
    by_cases hlt : k < n
    · have HT : Hid (ints (padTo l (k + 1)) = ints (padTo l k) ++ [.int .i64 (l.getD k 0)]) := padTo_snoc l k
      by_cases hin : k < l.length
      · obtain ⟨b, off, rfl, h1⟩ := hc k hin
        have h2 := cell_keep hbel h1
        clear h1
        generalize l.getD k 0 = x at *
        go_wp2_with (at_builtin; refine wpList_append_own _ rfl _ _ 30 rfl w.heap.size 3 i0 (.int .i64 0) 1 8 Tryz.underlying30 ii iz0 iz1 iz2 rfl (by decide) _ _ _ rfl (hown.alloc _) ⟨wr.heap.size, 0, none⟩ 1 1 [.int .i64 x] rfl rfl ?c1 (int_one _) ?c3 ?c4 ?c5 ?_)
        case c1 => exact one_new wr _ _
        case c3 => unfold maxLen; omega
        case c4 => omega
        case c5 => simp; omega
        intro v' w3 hown' hgrow _
        rw [← HT.out] at hown'
        have hb3 := (hbel.alloc hz (.cells #[.int .i64 x] 3)).grown hgrow (by simp; omega) (fun g hg => (hown.lt g hg).1)
        obtain ⟨lo', lc', rfl⟩ := owns_slice hown'
        clear hgrow hown h2 hbel HT
        go_wp2
        go_roundw
        case rel => exact ⟨k + 1, by omega, by go_num, hown', hb3⟩
        case measure => simp [intOf]; omega
      · have hx : l.getD k 0 = 0 := by simp [List.getD, hin]
        rw [hx] at HT
        go_wp2_with (at_builtin; refine wpList_append_own _ rfl _ _ 30 rfl w.heap.size 3 i0 (.int .i64 0) 1 8 Tryz.underlying30 ii iz0 iz1 iz2 rfl (by decide) _ _ _ rfl (hown.alloc _) ⟨wr.heap.size, 0, none⟩ 1 1 [.int .i64 0] rfl rfl ?d1 (int_one _) ?d3 ?d4 ?d5 ?_)
        case d1 => exact one_new wr _ _
        case d3 => unfold maxLen; omega
        case d4 => omega
        case d5 => simp; omega
        intro v' w3 hown' hgrow _
        rw [← HT.out] at hown'
        have hb3 := (hbel.alloc hz (.cells #[.int .i64 0] 3)).grown hgrow (by simp; omega) (fun g hg => (hown.lt g hg).1)
        obtain ⟨lo', lc', rfl⟩ := owns_slice hown'
        clear hgrow hown hbel HT
        go_wp2
        go_roundw
        case rel => exact ⟨k + 1, by omega, by go_num, hown', hb3⟩
        case measure => simp [intOf]; omega
    · obtain rfl : k = n := by omega
      have HF : Hid (Post (.returned (.slice lo k lc)) wr) := hp _ _ (by rw [padTo_length]; exact hown) hbel
      clear hp hown hbel hc
      go_wp2
      exact HF.out

/-- An input in memory of its own. -/
structure OwnIn (w w' : World) (av mv sv : Value) (a m s : List Int) : Prop where
  args : RdWords w' av a
  mem : RdWords w' mv m
  spill : RdWords w' sv s
  below : Below w.heap.size w w'

set_option maxRecDepth 100000 in
set_option maxHeartbeats 2000000 in
theorem suited_cps (a1 : Int) (a0 a2 a3 : Nat) (pv v0 v1 v2 : Value) (l0 l1 l2 : List Int) (w : World) (h0 : RdWords w v0 l0) (h1 : RdWords w v1 l1) (h2 : RdWords w v2 l2) (hn0 : a0 ≤ 8) (hn2 : a2 ≤ 8) (hn3 : a3 ≤ 8) (hpv : ∃ po pn pc, pv = .slice po pn pc) (Post : Ending → World → Prop)
    (hp : ∀ av mv sv w', OwnIn w w' av mv sv (padTo l0 a0) (padTo l1 a2) (padTo l2 a3) → Post (.returned (.agg #[av, mv, sv])) w') :
    Calls Tryz.prog 16 #[.agg #[.int .i64 a0, .int .i64 a1, .int .i64 a2, .int .i64 a3, pv], v0, v1, v2] w Post := by
  obtain ⟨po, pn, pc, rfl⟩ := hpv
  obtain ⟨o0, c0, rfl, _, _⟩ := id h0
  obtain ⟨o1, c1, rfl, _, _⟩ := id h1
  obtain ⟨o2, c2, rfl, _, _⟩ := id h2
  obtain ⟨W, hW⟩ : ∃ W, W = ((w.alloc (.cells #[.int .i64 a0, .int .i64 a1, .int .i64 a2, .int .i64 a3, .slice po pn pc] 33)).alloc (.cells #[.slice none 0 0, .slice none 0 0, .slice none 0 0] 44)).alloc (.cells #[.slice none 0 0, .slice none 0 0, .slice none 0 0] 44) := ⟨_, rfl⟩
  have hzW : w.heap.size + 3 ≤ W.heap.size := by rw [hW]; simp
  have rP : Row W w.heap.size 33 [.int .i64 a0, .int .i64 a1, .int .i64 a2, .int .i64 a3, .slice po pn pc] := by
    rw [hW]
    have q : Row (w.alloc (.cells #[.int .i64 a0, .int .i64 a1, .int .i64 a2, .int .i64 a3, .slice po pn pc] 33)) w.heap.size 33 [.int .i64 a0, .int .i64 a1, .int .i64 a2, .int .i64 a3, .slice po pn pc] := heap_alloc_new w _
    exact (q.alloc _).alloc _
  have rA : Row W (w.heap.size + 1) 44 [.slice none 0 0, .slice none 0 0, .slice none 0 0] := by
    rw [hW]
    have q : Row ((w.alloc (.cells #[.int .i64 a0, .int .i64 a1, .int .i64 a2, .int .i64 a3, .slice po pn pc] 33)).alloc (.cells #[.slice none 0 0, .slice none 0 0, .slice none 0 0] 44)) (w.heap.size + 1) 44 [.slice none 0 0, .slice none 0 0, .slice none 0 0] := heap_alloc2_new w _ _
    exact q.alloc _
  have rI : Row W (w.heap.size + 2) 44 [.slice none 0 0, .slice none 0 0, .slice none 0 0] := by
    rw [hW]
    have q := heap_alloc2_new (w.alloc (.cells #[.int .i64 a0, .int .i64 a1, .int .i64 a2, .int .i64 a3, .slice po pn pc] 33)) (.cells #[.slice none 0 0, .slice none 0 0, .slice none 0 0] 44) (.cells #[.slice none 0 0, .slice none 0 0, .slice none 0 0] 44)
    simp only [World.size_alloc] at q
    exact q
  have hbW : Below w.heap.size w W := by rw [hW]; exact (((Below.refl w.heap.size w).alloc (Nat.le_refl _) _).alloc (by simp) _).alloc (by simp; omega) _
  have p0 := rP.cell (i := 0) rfl
  rw [hW] at p0
  go_enter Tryz.func16, Tryz.ntmps16
  go_wp2_with fail
  rw [← hW]
  clear hW p0
  refine kList_cps _ l0 a0 W (h0.keep hbW) (by omega) _ ?_
  intro x1 w1 own1 hb1
  have hz1 : W.heap.size ≤ w1.heap.size := by have := hb1.size; (try simp at this); omega
  have rP1 := (rP.keep hb1).unset (a := ⟨w.heap.size + 2, 0, none⟩) (by show w.heap.size ≠ w.heap.size + 2; omega) x1
  have rA1 := (rA.keep hb1).unset (a := ⟨w.heap.size + 2, 0, none⟩) (by show w.heap.size + 1 ≠ w.heap.size + 2; omega) x1
  have rJ1 := rI.keep hb1
  have rI1 := rJ1.set 0 x1
  have hb01 := (hbW.trans (hb1.mono (by first | omega | (simp; omega)))).setCell (p := ⟨w.heap.size + 2, 0, none⟩) (by show w.heap.size ≤ w.heap.size + 2; omega) x1
  have own1t1 := ownsRow_setCell_below (owns_base own1 (show W.heap.size ≤ _ by first | exact Nat.le_refl _ | (simp; omega))) (a := ⟨w.heap.size + 2, 0, none⟩) (by show w.heap.size + 2 < W.heap.size; omega) x1
  have z1 := rJ1.cell (i := 0) rfl
  have zf1 := rJ1.frozen 0
  obtain ⟨xo1, xc1, hx1⟩ := owns_slice own1
  rw [padTo_length] at hx1
  subst hx1
  have p2 := rP1.cell (i := 2) rfl
  clear own1
  go_wp2_with fail
  refine kList_cps _ l1 a2 _ (h1.keep hb01) (by omega) _ ?_
  clear p2 z1 zf1 rJ1
  intro x2 w2 own2 hb2
  have hz2 : W.heap.size ≤ w2.heap.size := by have := hb2.size; (try simp at this); omega
  have rP2 := (rP1.keep hb2).unset (a := ⟨w.heap.size + 2, 1, none⟩) (by show w.heap.size ≠ w.heap.size + 2; omega) x2
  have rA2 := (rA1.keep hb2).unset (a := ⟨w.heap.size + 2, 1, none⟩) (by show w.heap.size + 1 ≠ w.heap.size + 2; omega) x2
  have rJ2 := rI1.keep hb2
  have rI2 := rJ2.set 1 x2
  have hb02 := (hb01.trans (hb2.mono (by first | omega | (simp; omega)))).setCell (p := ⟨w.heap.size + 2, 1, none⟩) (by show w.heap.size ≤ w.heap.size + 2; omega) x2
  have own1t2 := ownsRow_setCell_below (owns_below own1t1 hb2 (Nat.le_refl _)) (a := ⟨w.heap.size + 2, 1, none⟩) (by show w.heap.size + 2 < W.heap.size; omega) x2
  have own2t2 := ownsRow_setCell_below (owns_base own2 (show W.heap.size ≤ _ by first | exact Nat.le_refl _ | (simp; omega))) (a := ⟨w.heap.size + 2, 1, none⟩) (by show w.heap.size + 2 < W.heap.size; omega) x2
  have z2 := rJ2.cell (i := 1) rfl
  have zf2 := rJ2.frozen 1
  obtain ⟨xo2, xc2, hx2⟩ := owns_slice own2
  rw [padTo_length] at hx2
  subst hx2
  have p3 := rP2.cell (i := 3) rfl
  clear own2
  go_wp2_with fail
  refine kList_cps _ l2 a3 _ (h2.keep hb02) (by omega) _ ?_
  clear p3 z2 zf2 rJ2
  intro x3 w3 own3 hb3
  have hz3 : W.heap.size ≤ w3.heap.size := by have := hb3.size; (try simp at this); omega
  have rP3 := (rP2.keep hb3).unset (a := ⟨w.heap.size + 2, 2, none⟩) (by show w.heap.size ≠ w.heap.size + 2; omega) x3
  have rA3 := (rA2.keep hb3).unset (a := ⟨w.heap.size + 2, 2, none⟩) (by show w.heap.size + 1 ≠ w.heap.size + 2; omega) x3
  have rJ3 := rI2.keep hb3
  have rI3 := rJ3.set 2 x3
  have hb03 := (hb02.trans (hb3.mono (by first | omega | (simp; omega)))).setCell (p := ⟨w.heap.size + 2, 2, none⟩) (by show w.heap.size ≤ w.heap.size + 2; omega) x3
  have own1t3 := ownsRow_setCell_below (owns_below own1t2 hb3 (Nat.le_refl _)) (a := ⟨w.heap.size + 2, 2, none⟩) (by show w.heap.size + 2 < W.heap.size; omega) x3
  have own2t3 := ownsRow_setCell_below (owns_below own2t2 hb3 (Nat.le_refl _)) (a := ⟨w.heap.size + 2, 2, none⟩) (by show w.heap.size + 2 < W.heap.size; omega) x3
  have own3t3 := ownsRow_setCell_below (owns_base own3 (show W.heap.size ≤ _ by first | exact Nat.le_refl _ | (simp; omega))) (a := ⟨w.heap.size + 2, 2, none⟩) (by show w.heap.size + 2 < W.heap.size; omega) x3
  have z3 := rJ3.cell (i := 2) rfl
  have zf3 := rJ3.frozen 2
  obtain ⟨xo3, xc3, hx3⟩ := owns_slice own3
  rw [padTo_length] at hx3
  subst hx3
  have i0 := rI3.cell (i := 0) rfl
  have i1 := rI3.cell (i := 1) rfl
  have i2 := rI3.cell (i := 2) rfl
  have y0 := rA3.cell (i := 0) rfl
  have y1 := rA3.cell (i := 1) rfl
  have y2 := rA3.cell (i := 2) rfl
  have f0 := rA3.frozen 0
  have f1 := rA3.frozen 1
  have f2 := rA3.frozen 2
  have fin : ∀ {v : Value} {l : List Int} {W3 : World}, W3.ownsRow W.heap.size 3 1 v l.length (ints l) → RdWords (((W3.setCell ⟨w.heap.size + 1, 0, none⟩ (.slice xo1 a0 xc1)).setCell ⟨w.heap.size + 1, 1, none⟩ (.slice xo2 a2 xc2)).setCell ⟨w.heap.size + 1, 2, none⟩ (.slice xo3 a3 xc3)) v l := fun ho =>
    owns_rd (ownsRow_setCell_below (ownsRow_setCell_below (ownsRow_setCell_below ho (by show w.heap.size + 1 < W.heap.size; omega) _) (by show w.heap.size + 1 < W.heap.size; omega) _) (by show w.heap.size + 1 < W.heap.size; omega) _)
  have HF : Hid _ := hp _ _ _ _ ⟨fin own1t3, fin own2t3, fin own3t3, ((hb03.setCell (p := ⟨w.heap.size + 1, 0, none⟩) (by show w.heap.size ≤ w.heap.size + 1; omega) _).setCell (p := ⟨w.heap.size + 1, 1, none⟩) (by show w.heap.size ≤ w.heap.size + 1; omega) _).setCell (p := ⟨w.heap.size + 1, 2, none⟩) (by show w.heap.size ≤ w.heap.size + 1; omega) _⟩
  clear hp fin own1t1 own1t2 own2t2 own1t3 own2t3 own3t3 own3 rP rA rI rP1 rA1 rI1 rP2 rA2 rI2 rP3 rA3 rI3 hb01 hb02 hb03 hbW hb1 hb2 hb3 h0 h1 h2
  go_wp2
  (try simp only [Exit.inBlock, Exit.then])
  refine bodyPost_ret (v := .agg #[.slice xo1 a0 xc1, .slice xo2 a2 xc2, .slice xo3 a3 xc3]) ?_ rfl ?_
  · simp [results, Tryz.results16, go_sem, y0, y1, y2]
  · simp only [show w.heap.size + 1 + 1 = w.heap.size + 2 from rfl]
    with_reducible exact HF.out

end Go.Proofs.YtblhmeidbjigaaaGreatDoor

/- An operation out of raw numbers. -/
set_option linter.unusedSimpArgs false
set_option linter.unusedVariables false
namespace Go.Proofs.YtblhmeidbjigaaaGreatDoor
open Go.RowKit

set_option maxRecDepth 100000 in
set_option maxHeartbeats 4000000 in
theorem op_cps (R : Nat) (ao : Option Addr) (n cap k : Nat) (most regs slots : Int) (w : World) (h : Rolls w R ao n cap k) (hre : 1 ≤ regs ∧ regs ≤ 8) (hsl : 0 ≤ slots ∧ slots ≤ 8) (hmo : 1 ≤ most ∧ most ≤ 15) (hms : most ≤ 13 ∨ 1 ≤ slots) (Post : Ending → World → Prop)
    (hp : ∀ a b c d k' w', opGood regs slots ⟨a, b, c, d⟩ = true → Rolls w' R ao n cap k' → Keep (fun g => g = R) w w' → Post (.returned (.agg #[.int .i64 a, .int .i64 b, .int .i64 c, .int .i64 d])) w') :
    Calls Tryz.prog 94 #[.pointer (some ⟨R, 0, none⟩), .int .i64 most, .int .i64 regs, .int .i64 slots] w Post := by
  have hRw := h.row.lt
  have hA0 : Row (w.alloc (.cells #[.int .i64 0, .int .i64 0, .int .i64 0, .int .i64 0] 77)) w.heap.size 77 [.int .i64 0, .int .i64 0, .int .i64 0, .int .i64 0] := heap_alloc_new w _
  go_enter Tryz.func94, Tryz.ntmps94
  go_wp2_with fail
  refine next_cps R ao n cap k most _ (h.keep ((Below.refl _ _).alloc (Nat.le_refl _) _)) (by omega) _ ?_
  intro x k1 w1 hx0 hx3 hr1 hk1 hz1
  have hA := hA0.kept hk1 (by omega)
  simp only [World.size_alloc] at hz1
  have HZ : Hid (w1.heap.size = w.heap.size + 1) := hz1
  have hzl : w.heap.size < w1.heap.size := by omega
  have hRB : R < w1.heap.size := by omega
  clear hA0 hz1
  have hre' : 1 ≤ regs ∧ regs ≤ 1000 := by omega
  have hct : (1 : Int) ≤ 256 ∧ (256 : Int) ≤ 1000 := by omega
  obtain rfl | rfl | rfl | rfl | rfl | rfl | hxx : x = 0 ∨ x = 1 ∨ x = 11 ∨ x = 12 ∨ x = 13 ∨ x = 14 ∨ (2 ≤ x ∧ x ≤ 10) := by omega
  · have st : St w R ao n cap 77 w.heap.size w1.heap.size [.int .i64 1, .int .i64 0, .int .i64 0, .int .i64 0] (w1.alloc (.cells #[.int .i64 1, .int .i64 0, .int .i64 0, .int .i64 0] 77)) := St.start h hr1 hk1 hA HZ.out _
    obtain ⟨k0, hro0⟩ := st.rolls
    go_wp2_with fail
    refine next_cps R ao n cap k0 regs _ hro0 hre' _ ?_
    intro y0 kk0 v0 ya0 yb0 hr hk hzz
    have st := st.next hr hk
    have bc := st.rowB.cell (i := 1) rfl
    have bf := st.rowB.frozen 1
    have st' := st.store h 1 (.int .i64 y0)
    clear hr hk hzz
    replace st := st'
    obtain ⟨k1, hro1⟩ := st.rolls
    go_wp2_with fail
    refine next_cps R ao n cap k1 256 _ hro1 hct _ ?_
    intro y1 kk1 v1 ya1 yb1 hr hk hzz
    have st := st.next hr hk
    have bc := st.rowB.cell (i := 2) rfl
    have bf := st.rowB.frozen 2
    have st' := st.store h 2 (.int .i64 y1)
    clear hr hk hzz
    replace st := st'
    obtain ⟨k2, hro2⟩ := st.rolls
    go_wp2_with fail
    refine next_cps R ao n cap k2 256 _ hro2 hct _ ?_
    intro y2 kk2 v2 ya2 yb2 hr hk hzz
    have st := st.next hr hk
    have bc := st.rowB.cell (i := 3) rfl
    have bf := st.rowB.frozen 3
    have st' := st.store h 3 (.int .i64 y2)
    clear hr hk hzz
    have st2 := st'
    obtain ⟨kf, hrof⟩ := st2.rolls
    have hfin := hp 1 y0 y1 y2 kf (set4 (v2.setCell ⟨w1.heap.size, 3, none⟩ (.int .i64 y2)) w.heap.size 0 1 y0 y1 y2) (by simp [opGood, below]; omega) (((hrof.set h (Nat.le_refl _) _).set h (Nat.le_refl _) _ |>.set h (Nat.le_refl _) _).set h (Nat.le_refl _) _) (st2.keep.set4 (.inr (Nat.le_refl _)) _ _ _ _)
    have hne := st2.ne
    have a0 := st2.rowA.cell (i := 0) rfl
    have a1 := st2.rowA.cell (i := 1) rfl
    have a2 := st2.rowA.cell (i := 2) rfl
    have a3 := st2.rowA.cell (i := 3) rfl
    have f0 := st2.rowA.frozen 0
    have f1 := st2.rowA.frozen 1
    have f2 := st2.rowA.frozen 2
    have f3 := st2.rowA.frozen 3
    have q0 := st2.rowB.cell (i := 0) (u := .int .i64 1) rfl
    have q1 := st2.rowB.cell (i := 1) (u := .int .i64 y0) rfl
    have q2 := st2.rowB.cell (i := 2) (u := .int .i64 y1) rfl
    have q3 := st2.rowB.cell (i := 3) (u := .int .i64 y2) rfl
    clear st st' st2 hp h hr1 hk1 hA
    have HF : Hid (Post (.returned (.agg #[.int .i64 1, .int .i64 y0, .int .i64 y1, .int .i64 y2])) (set4 (v2.setCell ⟨w1.heap.size, 3, none⟩ (.int .i64 y2)) w.heap.size 0 1 y0 y1 y2)) := hfin
    clear hfin
    go_wp2
    exact bodyPost_ret (v := .agg #[.int .i64 1, .int .i64 y0, .int .i64 y1, .int .i64 y2]) (by simp [results, Tryz.results94, go_sem, a0, a1, a2, a3]) rfl HF.out
  · have st : St w R ao n cap 77 w.heap.size w1.heap.size [.int .i64 2, .int .i64 0, .int .i64 0, .int .i64 0] (w1.alloc (.cells #[.int .i64 2, .int .i64 0, .int .i64 0, .int .i64 0] 77)) := St.start h hr1 hk1 hA HZ.out _
    obtain ⟨k0, hro0⟩ := st.rolls
    go_wp2_with fail
    refine next_cps R ao n cap k0 regs _ hro0 hre' _ ?_
    intro y0 kk0 v0 ya0 yb0 hr hk hzz
    have st := st.next hr hk
    have bc := st.rowB.cell (i := 1) rfl
    have bf := st.rowB.frozen 1
    have st' := st.store h 1 (.int .i64 y0)
    clear hr hk hzz
    replace st := st'
    obtain ⟨k1, hro1⟩ := st.rolls
    go_wp2_with fail
    refine next_cps R ao n cap k1 regs _ hro1 hre' _ ?_
    intro y1 kk1 v1 ya1 yb1 hr hk hzz
    have st := st.next hr hk
    have bc := st.rowB.cell (i := 2) rfl
    have bf := st.rowB.frozen 2
    have st' := st.store h 2 (.int .i64 y1)
    clear hr hk hzz
    have st2 := st'
    obtain ⟨kf, hrof⟩ := st2.rolls
    have hfin := hp 2 y0 y1 0 kf (set4 (v1.setCell ⟨w1.heap.size, 2, none⟩ (.int .i64 y1)) w.heap.size 0 2 y0 y1 0) (by simp [opGood, below]; omega) (((hrof.set h (Nat.le_refl _) _).set h (Nat.le_refl _) _ |>.set h (Nat.le_refl _) _).set h (Nat.le_refl _) _) (st2.keep.set4 (.inr (Nat.le_refl _)) _ _ _ _)
    have hne := st2.ne
    have a0 := st2.rowA.cell (i := 0) rfl
    have a1 := st2.rowA.cell (i := 1) rfl
    have a2 := st2.rowA.cell (i := 2) rfl
    have a3 := st2.rowA.cell (i := 3) rfl
    have f0 := st2.rowA.frozen 0
    have f1 := st2.rowA.frozen 1
    have f2 := st2.rowA.frozen 2
    have f3 := st2.rowA.frozen 3
    have q0 := st2.rowB.cell (i := 0) (u := .int .i64 2) rfl
    have q1 := st2.rowB.cell (i := 1) (u := .int .i64 y0) rfl
    have q2 := st2.rowB.cell (i := 2) (u := .int .i64 y1) rfl
    have q3 := st2.rowB.cell (i := 3) (u := .int .i64 0) rfl
    clear st st' st2 hp h hr1 hk1 hA
    have HF : Hid (Post (.returned (.agg #[.int .i64 2, .int .i64 y0, .int .i64 y1, .int .i64 0])) (set4 (v1.setCell ⟨w1.heap.size, 2, none⟩ (.int .i64 y1)) w.heap.size 0 2 y0 y1 0)) := hfin
    clear hfin
    go_wp2
    exact bodyPost_ret (v := .agg #[.int .i64 2, .int .i64 y0, .int .i64 y1, .int .i64 0]) (by simp [results, Tryz.results94, go_sem, a0, a1, a2, a3]) rfl HF.out
  · have st : St w R ao n cap 77 w.heap.size w1.heap.size [.int .i64 12, .int .i64 0, .int .i64 0, .int .i64 0] (w1.alloc (.cells #[.int .i64 12, .int .i64 0, .int .i64 0, .int .i64 0] 77)) := St.start h hr1 hk1 hA HZ.out _
    obtain ⟨k0, hro0⟩ := st.rolls
    go_wp2_with fail
    refine next_cps R ao n cap k0 regs _ hro0 hre' _ ?_
    intro y0 kk0 v0 ya0 yb0 hr hk hzz
    have st := st.next hr hk
    have bc := st.rowB.cell (i := 1) rfl
    have bf := st.rowB.frozen 1
    have st' := st.store h 1 (.int .i64 y0)
    clear hr hk hzz
    replace st := st'
    obtain ⟨k1, hro1⟩ := st.rolls
    go_wp2_with fail
    refine next_cps R ao n cap k1 regs _ hro1 hre' _ ?_
    intro y1 kk1 v1 ya1 yb1 hr hk hzz
    have st := st.next hr hk
    have bc := st.rowB.cell (i := 2) rfl
    have bf := st.rowB.frozen 2
    have st' := st.store h 2 (.int .i64 y1)
    clear hr hk hzz
    have st2 := st'
    obtain ⟨kf, hrof⟩ := st2.rolls
    have hfin := hp 12 y0 y1 0 kf (set4 (v1.setCell ⟨w1.heap.size, 2, none⟩ (.int .i64 y1)) w.heap.size 0 12 y0 y1 0) (by simp [opGood, below]; omega) (((hrof.set h (Nat.le_refl _) _).set h (Nat.le_refl _) _ |>.set h (Nat.le_refl _) _).set h (Nat.le_refl _) _) (st2.keep.set4 (.inr (Nat.le_refl _)) _ _ _ _)
    have hne := st2.ne
    have a0 := st2.rowA.cell (i := 0) rfl
    have a1 := st2.rowA.cell (i := 1) rfl
    have a2 := st2.rowA.cell (i := 2) rfl
    have a3 := st2.rowA.cell (i := 3) rfl
    have f0 := st2.rowA.frozen 0
    have f1 := st2.rowA.frozen 1
    have f2 := st2.rowA.frozen 2
    have f3 := st2.rowA.frozen 3
    have q0 := st2.rowB.cell (i := 0) (u := .int .i64 12) rfl
    have q1 := st2.rowB.cell (i := 1) (u := .int .i64 y0) rfl
    have q2 := st2.rowB.cell (i := 2) (u := .int .i64 y1) rfl
    have q3 := st2.rowB.cell (i := 3) (u := .int .i64 0) rfl
    clear st st' st2 hp h hr1 hk1 hA
    have HF : Hid (Post (.returned (.agg #[.int .i64 12, .int .i64 y0, .int .i64 y1, .int .i64 0])) (set4 (v1.setCell ⟨w1.heap.size, 2, none⟩ (.int .i64 y1)) w.heap.size 0 12 y0 y1 0)) := hfin
    clear hfin
    go_wp2
    exact bodyPost_ret (v := .agg #[.int .i64 12, .int .i64 y0, .int .i64 y1, .int .i64 0]) (by simp [results, Tryz.results94, go_sem, a0, a1, a2, a3]) rfl HF.out
  · have st : St w R ao n cap 77 w.heap.size w1.heap.size [.int .i64 13, .int .i64 0, .int .i64 0, .int .i64 0] (w1.alloc (.cells #[.int .i64 13, .int .i64 0, .int .i64 0, .int .i64 0] 77)) := St.start h hr1 hk1 hA HZ.out _
    obtain ⟨k0, hro0⟩ := st.rolls
    go_wp2_with fail
    refine next_cps R ao n cap k0 regs _ hro0 hre' _ ?_
    intro y0 kk0 v0 ya0 yb0 hr hk hzz
    have st := st.next hr hk
    have bc := st.rowB.cell (i := 1) rfl
    have bf := st.rowB.frozen 1
    have st' := st.store h 1 (.int .i64 y0)
    clear hr hk hzz
    replace st := st'
    obtain ⟨k1, hro1⟩ := st.rolls
    go_wp2_with fail
    refine next_cps R ao n cap k1 regs _ hro1 hre' _ ?_
    intro y1 kk1 v1 ya1 yb1 hr hk hzz
    have st := st.next hr hk
    have bc := st.rowB.cell (i := 2) rfl
    have bf := st.rowB.frozen 2
    have st' := st.store h 2 (.int .i64 y1)
    clear hr hk hzz
    have st2 := st'
    obtain ⟨kf, hrof⟩ := st2.rolls
    have hfin := hp 13 y0 y1 0 kf (set4 (v1.setCell ⟨w1.heap.size, 2, none⟩ (.int .i64 y1)) w.heap.size 0 13 y0 y1 0) (by simp [opGood, below]; omega) (((hrof.set h (Nat.le_refl _) _).set h (Nat.le_refl _) _ |>.set h (Nat.le_refl _) _).set h (Nat.le_refl _) _) (st2.keep.set4 (.inr (Nat.le_refl _)) _ _ _ _)
    have hne := st2.ne
    have a0 := st2.rowA.cell (i := 0) rfl
    have a1 := st2.rowA.cell (i := 1) rfl
    have a2 := st2.rowA.cell (i := 2) rfl
    have a3 := st2.rowA.cell (i := 3) rfl
    have f0 := st2.rowA.frozen 0
    have f1 := st2.rowA.frozen 1
    have f2 := st2.rowA.frozen 2
    have f3 := st2.rowA.frozen 3
    have q0 := st2.rowB.cell (i := 0) (u := .int .i64 13) rfl
    have q1 := st2.rowB.cell (i := 1) (u := .int .i64 y0) rfl
    have q2 := st2.rowB.cell (i := 2) (u := .int .i64 y1) rfl
    have q3 := st2.rowB.cell (i := 3) (u := .int .i64 0) rfl
    clear st st' st2 hp h hr1 hk1 hA
    have HF : Hid (Post (.returned (.agg #[.int .i64 13, .int .i64 y0, .int .i64 y1, .int .i64 0])) (set4 (v1.setCell ⟨w1.heap.size, 2, none⟩ (.int .i64 y1)) w.heap.size 0 13 y0 y1 0)) := hfin
    clear hfin
    go_wp2
    exact bodyPost_ret (v := .agg #[.int .i64 13, .int .i64 y0, .int .i64 y1, .int .i64 0]) (by simp [results, Tryz.results94, go_sem, a0, a1, a2, a3]) rfl HF.out
  · have hsl' : 1 ≤ slots ∧ slots ≤ 1000 := by omega
    have st : St w R ao n cap 77 w.heap.size w1.heap.size [.int .i64 14, .int .i64 0, .int .i64 0, .int .i64 0] (w1.alloc (.cells #[.int .i64 14, .int .i64 0, .int .i64 0, .int .i64 0] 77)) := St.start h hr1 hk1 hA HZ.out _
    obtain ⟨k0, hro0⟩ := st.rolls
    go_wp2_with fail
    refine next_cps R ao n cap k0 slots _ hro0 hsl' _ ?_
    intro y0 kk0 v0 ya0 yb0 hr hk hzz
    have st := st.next hr hk
    have bc := st.rowB.cell (i := 1) rfl
    have bf := st.rowB.frozen 1
    have st' := st.store h 1 (.int .i64 y0)
    clear hr hk hzz
    replace st := st'
    obtain ⟨k1, hro1⟩ := st.rolls
    go_wp2_with fail
    refine next_cps R ao n cap k1 regs _ hro1 hre' _ ?_
    intro y1 kk1 v1 ya1 yb1 hr hk hzz
    have st := st.next hr hk
    have bc := st.rowB.cell (i := 2) rfl
    have bf := st.rowB.frozen 2
    have st' := st.store h 2 (.int .i64 y1)
    clear hr hk hzz
    have st2 := st'
    obtain ⟨kf, hrof⟩ := st2.rolls
    have hfin := hp 14 y0 y1 0 kf (set4 (v1.setCell ⟨w1.heap.size, 2, none⟩ (.int .i64 y1)) w.heap.size 0 14 y0 y1 0) (by simp [opGood, below]; omega) (((hrof.set h (Nat.le_refl _) _).set h (Nat.le_refl _) _ |>.set h (Nat.le_refl _) _).set h (Nat.le_refl _) _) (st2.keep.set4 (.inr (Nat.le_refl _)) _ _ _ _)
    have hne := st2.ne
    have a0 := st2.rowA.cell (i := 0) rfl
    have a1 := st2.rowA.cell (i := 1) rfl
    have a2 := st2.rowA.cell (i := 2) rfl
    have a3 := st2.rowA.cell (i := 3) rfl
    have f0 := st2.rowA.frozen 0
    have f1 := st2.rowA.frozen 1
    have f2 := st2.rowA.frozen 2
    have f3 := st2.rowA.frozen 3
    have q0 := st2.rowB.cell (i := 0) (u := .int .i64 14) rfl
    have q1 := st2.rowB.cell (i := 1) (u := .int .i64 y0) rfl
    have q2 := st2.rowB.cell (i := 2) (u := .int .i64 y1) rfl
    have q3 := st2.rowB.cell (i := 3) (u := .int .i64 0) rfl
    clear st st' st2 hp h hr1 hk1 hA
    have HF : Hid (Post (.returned (.agg #[.int .i64 14, .int .i64 y0, .int .i64 y1, .int .i64 0])) (set4 (v1.setCell ⟨w1.heap.size, 2, none⟩ (.int .i64 y1)) w.heap.size 0 14 y0 y1 0)) := hfin
    clear hfin
    go_wp2
    exact bodyPost_ret (v := .agg #[.int .i64 14, .int .i64 y0, .int .i64 y1, .int .i64 0]) (by simp [results, Tryz.results94, go_sem, a0, a1, a2, a3]) rfl HF.out
  · have hsl' : 1 ≤ slots ∧ slots ≤ 1000 := by omega
    have st : St w R ao n cap 77 w.heap.size w1.heap.size [.int .i64 15, .int .i64 0, .int .i64 0, .int .i64 0] (w1.alloc (.cells #[.int .i64 15, .int .i64 0, .int .i64 0, .int .i64 0] 77)) := St.start h hr1 hk1 hA HZ.out _
    obtain ⟨k0, hro0⟩ := st.rolls
    go_wp2_with fail
    refine next_cps R ao n cap k0 regs _ hro0 hre' _ ?_
    intro y0 kk0 v0 ya0 yb0 hr hk hzz
    have st := st.next hr hk
    have bc := st.rowB.cell (i := 1) rfl
    have bf := st.rowB.frozen 1
    have st' := st.store h 1 (.int .i64 y0)
    clear hr hk hzz
    replace st := st'
    obtain ⟨k1, hro1⟩ := st.rolls
    go_wp2_with fail
    refine next_cps R ao n cap k1 slots _ hro1 hsl' _ ?_
    intro y1 kk1 v1 ya1 yb1 hr hk hzz
    have st := st.next hr hk
    have bc := st.rowB.cell (i := 2) rfl
    have bf := st.rowB.frozen 2
    have st' := st.store h 2 (.int .i64 y1)
    clear hr hk hzz
    have st2 := st'
    obtain ⟨kf, hrof⟩ := st2.rolls
    have hfin := hp 15 y0 y1 0 kf (set4 (v1.setCell ⟨w1.heap.size, 2, none⟩ (.int .i64 y1)) w.heap.size 0 15 y0 y1 0) (by simp [opGood, below]; omega) (((hrof.set h (Nat.le_refl _) _).set h (Nat.le_refl _) _ |>.set h (Nat.le_refl _) _).set h (Nat.le_refl _) _) (st2.keep.set4 (.inr (Nat.le_refl _)) _ _ _ _)
    have hne := st2.ne
    have a0 := st2.rowA.cell (i := 0) rfl
    have a1 := st2.rowA.cell (i := 1) rfl
    have a2 := st2.rowA.cell (i := 2) rfl
    have a3 := st2.rowA.cell (i := 3) rfl
    have f0 := st2.rowA.frozen 0
    have f1 := st2.rowA.frozen 1
    have f2 := st2.rowA.frozen 2
    have f3 := st2.rowA.frozen 3
    have q0 := st2.rowB.cell (i := 0) (u := .int .i64 15) rfl
    have q1 := st2.rowB.cell (i := 1) (u := .int .i64 y0) rfl
    have q2 := st2.rowB.cell (i := 2) (u := .int .i64 y1) rfl
    have q3 := st2.rowB.cell (i := 3) (u := .int .i64 0) rfl
    clear st st' st2 hp h hr1 hk1 hA
    have HF : Hid (Post (.returned (.agg #[.int .i64 15, .int .i64 y0, .int .i64 y1, .int .i64 0])) (set4 (v1.setCell ⟨w1.heap.size, 2, none⟩ (.int .i64 y1)) w.heap.size 0 15 y0 y1 0)) := hfin
    clear hfin
    go_wp2
    exact bodyPost_ret (v := .agg #[.int .i64 15, .int .i64 y0, .int .i64 y1, .int .i64 0]) (by simp [results, Tryz.results94, go_sem, a0, a1, a2, a3]) rfl HF.out
  · have n1 : ((1 + x : Int) == 1) = false := by simp; omega
    have n2 : ((1 + x : Int) == 2) = false := by simp; omega
    have n12 : ((1 + x : Int) == 12) = false := by simp; omega
    have n13 : ((1 + x : Int) == 13) = false := by simp; omega
    have n14 : ((1 + x : Int) == 14) = false := by simp; omega
    have n15 : ((1 + x : Int) == 15) = false := by simp; omega
    have st : St w R ao n cap 77 w.heap.size w1.heap.size [.int .i64 (1 + x), .int .i64 0, .int .i64 0, .int .i64 0] (w1.alloc (.cells #[.int .i64 (1 + x), .int .i64 0, .int .i64 0, .int .i64 0] 77)) := St.start h hr1 hk1 hA HZ.out _
    obtain ⟨k0, hro0⟩ := st.rolls
    go_wp2_with fail
    refine next_cps R ao n cap k0 regs _ hro0 hre' _ ?_
    intro y0 kk0 v0 ya0 yb0 hr hk hzz
    have st := st.next hr hk
    have bc := st.rowB.cell (i := 1) rfl
    have bf := st.rowB.frozen 1
    have st' := st.store h 1 (.int .i64 y0)
    clear hr hk hzz
    replace st := st'
    obtain ⟨k1, hro1⟩ := st.rolls
    go_wp2_with fail
    refine next_cps R ao n cap k1 regs _ hro1 hre' _ ?_
    intro y1 kk1 v1 ya1 yb1 hr hk hzz
    have st := st.next hr hk
    have bc := st.rowB.cell (i := 2) rfl
    have bf := st.rowB.frozen 2
    have st' := st.store h 2 (.int .i64 y1)
    clear hr hk hzz
    replace st := st'
    obtain ⟨k2, hro2⟩ := st.rolls
    go_wp2_with fail
    refine next_cps R ao n cap k2 regs _ hro2 hre' _ ?_
    intro y2 kk2 v2 ya2 yb2 hr hk hzz
    have st := st.next hr hk
    have bc := st.rowB.cell (i := 3) rfl
    have bf := st.rowB.frozen 3
    have st' := st.store h 3 (.int .i64 y2)
    clear hr hk hzz
    have st2 := st'
    obtain ⟨kf, hrof⟩ := st2.rolls
    have hfin := hp (1 + x) y0 y1 y2 kf (set4 (v2.setCell ⟨w1.heap.size, 3, none⟩ (.int .i64 y2)) w.heap.size 0 (1 + x) y0 y1 y2) (by unfold opGood; rw [if_neg (by show ¬ (1 + x = 1); omega), if_pos (by show 3 ≤ 1 + x ∧ 1 + x ≤ 11; omega)]; simp [below]; omega) (((hrof.set h (Nat.le_refl _) _).set h (Nat.le_refl _) _ |>.set h (Nat.le_refl _) _).set h (Nat.le_refl _) _) (st2.keep.set4 (.inr (Nat.le_refl _)) _ _ _ _)
    have hne := st2.ne
    have a0 := st2.rowA.cell (i := 0) rfl
    have a1 := st2.rowA.cell (i := 1) rfl
    have a2 := st2.rowA.cell (i := 2) rfl
    have a3 := st2.rowA.cell (i := 3) rfl
    have f0 := st2.rowA.frozen 0
    have f1 := st2.rowA.frozen 1
    have f2 := st2.rowA.frozen 2
    have f3 := st2.rowA.frozen 3
    have q0 := st2.rowB.cell (i := 0) (u := .int .i64 (1 + x)) rfl
    have q1 := st2.rowB.cell (i := 1) (u := .int .i64 y0) rfl
    have q2 := st2.rowB.cell (i := 2) (u := .int .i64 y1) rfl
    have q3 := st2.rowB.cell (i := 3) (u := .int .i64 y2) rfl
    clear st st' st2 hp h hr1 hk1 hA
    have HF : Hid (Post (.returned (.agg #[.int .i64 (1 + x), .int .i64 y0, .int .i64 y1, .int .i64 y2])) (set4 (v2.setCell ⟨w1.heap.size, 3, none⟩ (.int .i64 y2)) w.heap.size 0 (1 + x) y0 y1 y2)) := hfin
    clear hfin
    go_wp2
    exact bodyPost_ret (v := .agg #[.int .i64 (1 + x), .int .i64 y0, .int .i64 y1, .int .i64 y2]) (by simp [results, Tryz.results94, go_sem, a0, a1, a2, a3]) rfl HF.out

end Go.Proofs.YtblhmeidbjigaaaGreatDoor
