/- The box of twinlaw.World: nine cells, eight lists of one's own; what they hold is read in blocks of other types. -/
import Derived.Test.YtblhmeidbjigaabGreatDoorRows
import Derived.WalkKit
import Derived.WalkSpells
import Derived.WalkLawsBesides
import Derived.Laws.BytesArg
import Derived.Deep.QuietTactic
import Derived.BigQuiet
import Derived.Deep.RegionHeld3
import Derived.Lib.ItoaNum
import Derived.Lib.ItoaLen
import Derived.OpenShut
import Derived.Maps.AppendAt
import Derived.Shelf.Strconv.Itoa3
import Derived.Shelf.Lay
import Derived.Ground.NamesProg
import Derived.Lib.SmallJoins
import Derived.Lib.Hide
import Derived.StillTailTactics
import Derived.Test.YtblhmeidbjigaabGreatDoorMBegToKBlockAll

set_option linter.unusedSimpArgs false
set_option linter.unusedVariables false
namespace Go.Proofs.YtblhmeidbjigaabGreatDoor
open Go.RowKit

/-- The types of the blocks that what came out is read in. -/
def goodT (t : TypeId) : Prop := t = 42 ∨ t = 36 ∨ t = 33 ∨ t = 38 ∨ t = 3 ∨ t = 9

/-- Blocks of these types stay. -/
def Same6 (w w' : World) : Prop := ∀ (b : Nat) (c : Array Value) (t : TypeId) (fz : Nat × Nat), goodT t → w.heap[b]? = some (Obj.cells c t fz) → w'.heap[b]? = some (Obj.cells c t fz)

theorem Same6.refl (w : World) : Same6 w w := fun _ _ _ _ _ h => h
theorem Same6.trans {a b c : World} (h : Same6 a b) (h2 : Same6 b c) : Same6 a c := fun g x t fz ht e => h2 g x t fz ht (h g x t fz ht e)

theorem Same6.of_keep {S : Nat → Prop} {w w' : World} (hk : Keep S w w') (hs : ∀ g c t fz, S g → w.heap[g]? = some (.cells c t fz) → ¬ goodT t) : Same6 w w' := by
  intro b c t fz ht e
  have hlt : b < w.heap.size := by
    by_cases h : b < w.heap.size
    · exact h
    · rw [Array.getElem?_eq_none (by omega)] at e; cases e
  rw [hk.block b hlt (fun h => hs b c t fz h e ht)]
  exact e

theorem Same6.of_below {w w' : World} (hb : Below w.heap.size w w') : Same6 w w' :=
  Same6.of_keep ((Keep.refl (fun _ => False) w).below hb (Nat.le_refl _)) (fun _ _ _ _ h => h.elim)

/-- It holds wherever these blocks are as they are in w. -/
def InT (w : World) (P : World → Prop) : Prop := ∀ w', Same6 w w' → P w'

theorem InT.here {w : World} {P : World → Prop} (h : InT w P) : P w := h w (Same6.refl w)
theorem InT.next {w w' : World} {P : World → Prop} (h : InT w P) (hs : Same6 w w') : InT w' P := fun w2 h2 => h w2 (hs.trans h2)

theorem owns_six {w w' : World} {base : Nat} {t : TypeId} {sz : Nat} {v : Value} {n : Nat} {xs : List Value} (h : w.ownsRow base t sz v n xs) (ht : goodT t) (hs : Same6 w w') : w'.ownsRow base t sz v n xs := by
  refine ⟨h.1, ?_⟩
  rcases h.2 with h2 | ⟨g, cap, cur, hv, hg, hh, r⟩
  · exact .inl h2
  · exact .inr ⟨g, cap, cur, hv, hg, hs _ _ _ _ ht hh, r⟩

theorem row_six {w w' : World} {g : Nat} {t : TypeId} {xs : List Value} (h : Row w g t xs) (ht : goodT t) (hs : Same6 w w') : Row w' g t xs := hs _ _ _ _ ht h

theorem blocks_in {w : World} {base : Nat} {v : Value} {bv : List (BlockD × Value)} (h : OwnBlocks w base v bv) : InT w (fun w' => RdBlocks w' v (bdat bv)) := fun w' hs =>
  OwnBlocks.rd (w := w') ⟨owns_six h.row (.inl rfl) hs, fun x hx => owns_six (h.each x hx) (.inr (.inl rfl)) hs, h.apart⟩

theorem hint_in {w : World} {base : Nat} {v : Value} {hv : List (PingD × Value)} (h : OwnHint w base v hv) : InT w (fun w' => RdHint w' v (hdat hv)) := fun w' hs =>
  OwnHint.rd (w := w') ⟨owns_six h.row (.inr (.inr (.inl rfl))) hs, fun x hx => owns_six (h.each x hx) (.inr (.inr (.inr (.inl rfl)))) hs, h.apart⟩

theorem roomyP_in {w : World} {lo : Nat} {bv : List (BlockD × Value)} {L cap : Nat} {t : List Value} (hl : LiesP w lo bv) (hL : Row w L 42 (blkCells bv ++ t)) (hn : bv.length ≤ 9223372036854775807) (hn2 : ∀ x ∈ bv, x.1.ops.length ≤ 9223372036854775807) :
    InT w (fun w' => RdBlocks w' (.slice (some ⟨L, 0, none⟩) bv.length cap) (bdat bv)) := fun w' hs =>
  rows_rdb (liesP_step hl fun p xs _ hp => row_six hp (.inr (.inl rfl)) hs) (row_six hL (.inl rfl) hs) hn hn2

theorem roomyH_in {w : World} {hv : List (PingD × Value)} {L cap : Nat} {t : List Value} (hl : Lies w hv) (hL : Row w L 33 (pingCells hv ++ t)) (hn : hv.length ≤ 9223372036854775807) (hn2 : ∀ x ∈ hv, x.1.pairs.length ≤ 9223372036854775807) :
    InT w (fun w' => RdHint w' (.slice (some ⟨L, 0, none⟩) hv.length cap) (hdat hv)) := fun w' hs =>
  rows_rd (lies_step hl fun p xs hp => row_six hp (.inr (.inr (.inr (.inl rfl)))) hs) (row_six hL (.inr (.inr (.inl rfl))) hs) hn hn2

theorem ownsI_rd {w : World} {B : Nat} {v : Value} {l : List Int} (h : w.ownsRow B 3 1 v l.length (ints l)) : RdWords w v l := by
  obtain ⟨ao, cap, rfl⟩ := owns_slice h
  refine ⟨ao, cap, rfl, owns_le h, fun i hi => ?_⟩
  obtain ⟨b, rfl, _, hb, hc⟩ := owns_cell h rfl (i := i) (by rw [ints_length]; exact hi)
  refine ⟨b, 0, rfl, ?_⟩
  rw [Nat.zero_add, hc]
  simp [ints, List.getD, hi]

theorem ints_in {w : World} {B : Nat} {v : Value} {l : List Int} (h : w.ownsRow B 3 1 v l.length (ints l)) : InT w (fun w' => RdWords w' v l) := fun w' hs =>
  ownsI_rd (owns_six h (.inr (.inr (.inr (.inr (.inl rfl))))) hs)

theorem texts_in {w : World} {B : Nat} {v : Value} {l : List (List UInt8)} (h : w.ownsRow B 9 1 v l.length (texts l)) : InT w (fun w' => RdTexts w' v l) := fun w' hs =>
  texts_rd (owns_six h (.inr (.inr (.inr (.inr (.inr rfl))))) hs)

/-- The eight lists: 0, 1 programs, 2, 3 hints, 4, 5 outcomes, 6, 7 lists of texts. -/
def ty8 (k : Nat) : TypeId := if k < 2 then 25 else if k < 4 then 30 else if k < 6 then 63 else 105
def sz8 (k : Nat) : Nat := if k < 2 then 5 else if k < 4 then 1 else if k < 6 then 4 else 1

theorem ty8_bad (k : Nat) : ¬ goodT (ty8 k) := by
  unfold ty8 goodT
  repeat' split
  all_goals decide

theorem world_bad : ¬ goodT 80 := by unfold goodT; decide

def upd {α : Type} (f : Nat → α) (k : Nat) (x : α) : Nat → α := fun j => if j = k then x else f j

/-- The box and its lists. -/
structure Mem8 (w : World) (B : Nat) (n : Int) (val : Nat → Value) (cnt : Nat → Nat) (cel : Nat → List Value) : Prop where
  row : Row w B 80 [.int .i64 n, val 0, val 1, val 2, val 3, val 4, val 5, val 6, val 7]
  own : ∀ k, k < 8 → w.ownsRow (B + 1) (ty8 k) (sz8 k) (val k) (cnt k) (cel k)
  ap : ∀ j k, j < 8 → k < 8 → j ≠ k → ∀ g, (val j).ownBlock = some g → (val k).ownBlock ≠ some g

section
variable {w w' : World} {B : Nat} {n : Int} {val : Nat → Value} {cnt : Nat → Nat} {cel : Nat → List Value}

theorem Mem8.below (h : Mem8 w B n val cnt cel) (hb : Below w.heap.size w w') : Mem8 w' B n val cnt cel :=
  ⟨h.row.keep hb, fun k hk => owns_keep (h.own k hk) ((Keep.refl (fun _ => False) w).below hb (Nat.le_refl _)) (fun g hg => hg.elim), h.ap⟩

theorem Mem8.count (h : Mem8 w B n val cnt cel) (m : Int) : Mem8 (w.setCell ⟨B, 0, none⟩ (.int .i64 m)) B m val cnt cel ∧ Same6 w (w.setCell ⟨B, 0, none⟩ (.int .i64 m)) := by
  have hk : Keep (fun g => g = B) w (w.setCell ⟨B, 0, none⟩ (.int .i64 m)) := (Keep.refl (fun g => g = B) w).setCell (p := ⟨B, 0, none⟩) (.inl rfl) _
  refine ⟨⟨h.row.set 0 _, fun k hk' => owns_keep (h.own k hk') hk (fun g hg => by rw [hg]; omega), h.ap⟩, Same6.of_keep hk ?_⟩
  intro g c t fz hg e
  rw [hg, h.row] at e
  simp only [Option.some.injEq, Obj.cells.injEq] at e
  obtain ⟨_, rfl, _⟩ := e
  exact world_bad

/-- A list has grown: it is put down. -/
theorem Mem8.grow {w1 w2 : World} (h : Mem8 w B n val cnt cel) (hb : Below w.heap.size w w1) {k : Nat} (hk : k < 8) {v' : Value} {news : List Value} (hgrow : w1.grownBy w2 (val k).ownBlock) (hown : w2.ownsRow (B + 1) (ty8 k) (sz8 k) v' (cnt k + 1) (cel k ++ news)) (hloc : v'.ownBlock = (val k).ownBlock ∨ v'.ownBlock = some w1.heap.size) :
    Mem8 (w2.setCell ⟨B, k + 1, none⟩ v') B n (upd val k v') (upd cnt k (cnt k + 1)) (upd cel k (cel k ++ news)) ∧ Same6 w (w2.setCell ⟨B, k + 1, none⟩ v') ∧ Keep (fun g => (val k).ownBlock = some g ∨ g = B) w (w2.setCell ⟨B, k + 1, none⟩ v') := by
  have h1 := h.below hb
  have hk1 : Keep (fun g => (val k).ownBlock = some g) w1 w2 := (Keep.refl _ _).grown hgrow (fun g e => .inl e)
  have hB1 : B < w1.heap.size := h1.row.lt
  have hBn : ¬ ((val k).ownBlock = some B) := fun e => by have := ((h1.own k hk).lt B e).1; omega
  have row2 : Row w2 B 80 [.int .i64 n, val 0, val 1, val 2, val 3, val 4, val 5, val 6, val 7] := h1.row.kept hk1 hBn
  have hk2 : Keep (fun g => g = B) w2 (w2.setCell ⟨B, k + 1, none⟩ v') := (Keep.refl (fun g => g = B) w2).setCell (p := ⟨B, k + 1, none⟩) (.inl rfl) _
  have hkA : Keep (fun g => (val k).ownBlock = some g ∨ g = B) w (w2.setCell ⟨B, k + 1, none⟩ v') :=
    ((((Keep.refl (fun g => (val k).ownBlock = some g ∨ g = B) w).below hb (Nat.le_refl _)).grown hgrow (fun g e => .inl (.inl e))).setCell (p := ⟨B, k + 1, none⟩) (.inl (.inr rfl)) _)
  refine ⟨⟨?_, ?_, ?_⟩, ?_, hkA⟩
  · have hs := row2.set (k + 1) v'
    have hcase : k = 0 ∨ k = 1 ∨ k = 2 ∨ k = 3 ∨ k = 4 ∨ k = 5 ∨ k = 6 ∨ k = 7 := by omega
    rcases hcase with rfl | rfl | rfl | rfl | rfl | rfl | rfl | rfl <;> exact hs
  · intro j hj
    by_cases e : j = k
    · subst e
      have : upd val j v' j = v' := by simp [upd]
      rw [this, show upd cnt j (cnt j + 1) j = cnt j + 1 by simp [upd], show upd cel j (cel j ++ news) j = cel j ++ news by simp [upd]]
      exact owns_keep hown hk2 (fun g hg => by rw [hg]; omega)
    · rw [show upd val k v' j = val j by simp [upd, e], show upd cnt k (cnt k + 1) j = cnt j by simp [upd, e], show upd cel k (cel k ++ news) j = cel j by simp [upd, e]]
      refine owns_keep ?_ hk2 (fun g hg => by rw [hg]; omega)
      have ho := h1.own j hj
      exact owns_same ho fun g hg => hk1.block g (ho.lt g hg).2 (fun q => h.ap k j hk hj (fun x => e x.symm) g q hg)
  · intro i j hi hj hij g hg
    by_cases ei : i = k
    · have e1 : upd val k v' i = v' := by simp [upd, ei]
      have e2 : upd val k v' j = val j := by simp [upd, show j ≠ k by omega]
      rw [e1] at hg
      rw [e2]
      rcases hloc with q | q
      · rw [q] at hg
        exact h.ap k j hk hj (by omega) g hg
      · rw [q] at hg
        intro c
        have := ((h1.own j hj).lt g c).2
        simp only [Option.some.injEq] at hg
        omega
    · by_cases ej : j = k
      · have e1 : upd val k v' i = val i := by simp [upd, ei]
        have e2 : upd val k v' j = v' := by simp [upd, ej]
        rw [e1] at hg
        rw [e2]
        rcases hloc with q | q
        · rw [q]
          exact h.ap i k hi hk ei g hg
        · rw [q]
          intro c
          have := ((h1.own i hi).lt g hg).2
          simp only [Option.some.injEq] at c
          omega
      · rw [show upd val k v' i = val i by simp [upd, ei]] at hg
        rw [show upd val k v' j = val j by simp [upd, ej]]
        exact h.ap i j hi hj hij g hg
  · refine ((Same6.of_below hb).trans (Same6.of_keep hk1 ?_)).trans (Same6.of_keep hk2 ?_)
    · intro g c t fz hg e
      rcases (h1.own k hk).2 with ⟨q, _⟩ | ⟨g', cap, cur, hv, _, hh, _⟩
      · rw [q] at hg; simp [Value.ownBlock] at hg
      · rw [hv] at hg
        simp only [Value.ownBlock, Option.some.injEq] at hg
        subst hg
        rw [hh] at e
        simp only [Option.some.injEq, Obj.cells.injEq] at e
        obtain ⟨_, rfl, _⟩ := e
        exact ty8_bad k
    · intro g c t fz hg e
      rw [hg, row2] at e
      simp only [Option.some.injEq, Obj.cells.injEq] at e
      obtain ⟨_, rfl, _⟩ := e
      exact world_bad

end

end Go.Proofs.YtblhmeidbjigaabGreatDoor

/- Run in package machine. -/
set_option linter.unusedSimpArgs false
set_option linter.unusedVariables false
namespace Go.Proofs.YtblhmeidbjigaabGreatDoor
open Go.RowKit

set_option maxRecDepth 100000 in
set_option maxHeartbeats 2000000 in
theorem mRun_cps (s : ByteArray) (av mv sv : Value) (args mem spill : List Int) (fuel : Int) (w : World) (ha : RdWords w av args) (hm : RdWords w mv mem) (hsp : RdWords w sv spill) (hs : s.size ≤ maxLen) (Post : Ending → World → Prop)
    (hp : ∀ o e mv lv w', RunAns s args mem spill fuel o e → RunOut w w' o mv lv → Post (.returned (.tuple #[.agg #[.int .i64 o.kind, .int .i64 o.result, mv, lv], .int .i64 e])) w') :
    Calls Tryz.prog 36 #[.string s, .agg #[av, mv, sv], .int .i64 fuel] w Post := by
  obtain ⟨ao, ac, rfl, hal, _⟩ := id ha
  obtain ⟨mo, mc, rfl, hml, _⟩ := id hm
  obtain ⟨so, sc, rfl, hsl, _⟩ := id hsp
  have hc := cDecode_any s ((w.alloc (.cells #[.slice ao args.length ac, .slice mo mem.length mc, .slice so spill.length sc] 67)).alloc (.cells #[.int .i64 0, .int .i64 0, .slice none 0 0, .slice none 0 0] 63)) hs
  have rI : Row ((w.alloc (.cells #[.slice ao args.length ac, .slice mo mem.length mc, .slice so spill.length sc] 67)).alloc (.cells #[.int .i64 0, .int .i64 0, .slice none 0 0, .slice none 0 0] 63)) w.heap.size 67 [.slice ao args.length ac, .slice mo mem.length mc, .slice so spill.length sc] := by
    have q : Row (w.alloc (.cells #[.slice ao args.length ac, .slice mo mem.length mc, .slice so spill.length sc] 67)) w.heap.size 67 [.slice ao args.length ac, .slice mo mem.length mc, .slice so spill.length sc] := heap_alloc_new w _
    exact q.alloc _
  have rO : Row ((w.alloc (.cells #[.slice ao args.length ac, .slice mo mem.length mc, .slice so spill.length sc] 67)).alloc (.cells #[.int .i64 0, .int .i64 0, .slice none 0 0, .slice none 0 0] 63)) (w.heap.size + 1) 63 zOut := heap_alloc2_new w _ _
  have hbW : Below w.heap.size w ((w.alloc (.cells #[.slice ao args.length ac, .slice mo mem.length mc, .slice so spill.length sc] 67)).alloc (.cells #[.int .i64 0, .int .i64 0, .slice none 0 0, .slice none 0 0] 63)) := ((Below.refl w.heap.size w).alloc (Nat.le_refl _) _).alloc (by simp) _
  go_enter Tryz.func36, Tryz.ntmps36
  go_wp2_with fail
  refine hc.mono ?_
  clear hc
  rintro e w1 ⟨hor, hb1⟩
  have rI1 := rI.keep hb1
  have rO1 := rO.keep hb1
  have hb01 := hbW.trans (hb1.mono (by simp; omega))
  have hz1 : w.heap.size + 2 ≤ w1.heap.size := by have := hb1.size; simp at this; omega
  clear rI rO hbW
  rcases hor with ⟨⟨a0, a1, a2, a3, l⟩, v, bv, rfl, ho, hd, hg, ht⟩ | ⟨hn, rfl⟩
  · simp only at hd
    obtain ⟨bo, bc, rfl⟩ := owns_slice ho.row
    unfold progV
    simp only
    have ho2 := ho.alloc (.cells #[.int .i64 a0, .int .i64 a1, .int .i64 a2, .int .i64 a3, .slice bo bv.length bc] 25)
    have rI2 := rI1.alloc (.cells #[.int .i64 a0, .int .i64 a1, .int .i64 a2, .int .i64 a3, .slice bo bv.length bc] 25)
    have rO2 := rO1.alloc (.cells #[.int .i64 a0, .int .i64 a1, .int .i64 a2, .int .i64 a3, .slice bo bv.length bc] 25)
    have rP2 : Row (w1.alloc (.cells #[.int .i64 a0, .int .i64 a1, .int .i64 a2, .int .i64 a3, .slice bo bv.length bc] 25)) w1.heap.size 25 [.int .i64 a0, .int .i64 a1, .int .i64 a2, .int .i64 a3, .slice bo bv.length bc] := heap_alloc_new w1 _
    have hb02 := hb01.alloc (show w.heap.size ≤ w1.heap.size by omega) (.cells #[.int .i64 a0, .int .i64 a1, .int .i64 a2, .int .i64 a3, .slice bo bv.length bc] 25)
    clear ho rI1 rO1 hb01 hb1
    have i0 := rI2.cell (i := 0) rfl
    have i1 := rI2.cell (i := 1) rfl
    have i2 := rI2.cell (i := 2) rfl
    have p0 := rP2.cell (i := 0) rfl
    have p1 := rP2.cell (i := 1) rfl
    have p2 := rP2.cell (i := 2) rfl
    have p3 := rP2.cell (i := 3) rfl
    have p4 := rP2.cell (i := 4) rfl
    have y0 := rO2.cell (i := 0) rfl
    have y1 := rO2.cell (i := 1) rfl
    have y2 := rO2.cell (i := 2) rfl
    have y3 := rO2.cell (i := 3) rfl
    have f0 := rO2.frozen 0
    have f1 := rO2.frozen 1
    have f2 := rO2.frozen 2
    have f3 := rO2.frozen 3
    by_cases h0 : (args.length : Int) = a0
    case neg =>
      have e0 : ((args.length : Int) == a0) = false := by simp [h0]
      have hfin := hp outZ 3 (.slice none 0 0) (.slice none 0 0) (out4 (w1.alloc (.cells #[.int .i64 a0, .int .i64 a1, .int .i64 a2, .int .i64 a3, .slice bo bv.length bc] 25)) (w.heap.size + 1) 0 0 (.slice none 0 0) (.slice none 0 0)) (.inr ⟨⟨a0, a1, a2, a3, l⟩, hg, ht, .inl ⟨rfl, rfl, fun c => h0 c.1⟩⟩) (runOut_nil (out4_below hb02 (by omega) _ _ _ _))
      have HF : Hid (Post (.returned (.tuple #[.agg #[.int .i64 0, .int .i64 0, .slice none 0 0, .slice none 0 0], .int .i64 3])) (out4 (w1.alloc (.cells #[.int .i64 a0, .int .i64 a1, .int .i64 a2, .int .i64 a3, .slice bo bv.length bc] 25)) (w.heap.size + 1) 0 0 (.slice none 0 0) (.slice none 0 0))) := hfin
      clear hfin hp ho2 rI2 rO2 rP2 hb02
      unfold out4 at HF
      go_wp2
      (try simp only [Exit.inBlock, Exit.then])
      refine bodyPost_ret (v := .tuple #[.agg #[.int .i64 0, .int .i64 0, .slice none 0 0, .slice none 0 0], .int .i64 3]) ?_ rfl ?_
      · simp [results, Tryz.results36, go_sem, y0, y1, y2, y3]
      · exact HF.out
    by_cases h2 : (mem.length : Int) = a2
    case neg =>
      have e0 : ((args.length : Int) == a0) = true := by simp [h0]
      have e2 : ((mem.length : Int) == a2) = false := by simp [h2]
      have hfin := hp outZ 3 (.slice none 0 0) (.slice none 0 0) (out4 (w1.alloc (.cells #[.int .i64 a0, .int .i64 a1, .int .i64 a2, .int .i64 a3, .slice bo bv.length bc] 25)) (w.heap.size + 1) 0 0 (.slice none 0 0) (.slice none 0 0)) (.inr ⟨⟨a0, a1, a2, a3, l⟩, hg, ht, .inl ⟨rfl, rfl, fun c => h2 c.2.1⟩⟩) (runOut_nil (out4_below hb02 (by omega) _ _ _ _))
      have HF : Hid (Post (.returned (.tuple #[.agg #[.int .i64 0, .int .i64 0, .slice none 0 0, .slice none 0 0], .int .i64 3])) (out4 (w1.alloc (.cells #[.int .i64 a0, .int .i64 a1, .int .i64 a2, .int .i64 a3, .slice bo bv.length bc] 25)) (w.heap.size + 1) 0 0 (.slice none 0 0) (.slice none 0 0))) := hfin
      clear hfin hp ho2 rI2 rO2 rP2 hb02
      unfold out4 at HF
      go_wp2
      (try simp only [Exit.inBlock, Exit.then])
      refine bodyPost_ret (v := .tuple #[.agg #[.int .i64 0, .int .i64 0, .slice none 0 0, .slice none 0 0], .int .i64 3]) ?_ rfl ?_
      · simp [results, Tryz.results36, go_sem, y0, y1, y2, y3]
      · exact HF.out
    by_cases h3 : (spill.length : Int) = a3
    case neg =>
      have e0 : ((args.length : Int) == a0) = true := by simp [h0]
      have e2 : ((mem.length : Int) == a2) = true := by simp [h2]
      have e3 : ((spill.length : Int) == a3) = false := by simp [h3]
      have hfin := hp outZ 3 (.slice none 0 0) (.slice none 0 0) (out4 (w1.alloc (.cells #[.int .i64 a0, .int .i64 a1, .int .i64 a2, .int .i64 a3, .slice bo bv.length bc] 25)) (w.heap.size + 1) 0 0 (.slice none 0 0) (.slice none 0 0)) (.inr ⟨⟨a0, a1, a2, a3, l⟩, hg, ht, .inl ⟨rfl, rfl, fun c => h3 c.2.2⟩⟩) (runOut_nil (out4_below hb02 (by omega) _ _ _ _))
      have HF : Hid (Post (.returned (.tuple #[.agg #[.int .i64 0, .int .i64 0, .slice none 0 0, .slice none 0 0], .int .i64 3])) (out4 (w1.alloc (.cells #[.int .i64 a0, .int .i64 a1, .int .i64 a2, .int .i64 a3, .slice bo bv.length bc] 25)) (w.heap.size + 1) 0 0 (.slice none 0 0) (.slice none 0 0))) := hfin
      clear hfin hp ho2 rI2 rO2 rP2 hb02
      unfold out4 at HF
      go_wp2
      (try simp only [Exit.inBlock, Exit.then])
      refine bodyPost_ret (v := .tuple #[.agg #[.int .i64 0, .int .i64 0, .slice none 0 0, .slice none 0 0], .int .i64 3]) ?_ rfl ?_
      · simp [results, Tryz.results36, go_sem, y0, y1, y2, y3]
      · exact HF.out
    subst h0 h2 h3
    by_cases hf0 : fuel < 0
    · have hfin := hp outZ 4 (.slice none 0 0) (.slice none 0 0) (out4 (w1.alloc (.cells #[.int .i64 args.length, .int .i64 a1, .int .i64 mem.length, .int .i64 spill.length, .slice bo bv.length bc] 25)) (w.heap.size + 1) 0 0 (.slice none 0 0) (.slice none 0 0)) (.inr ⟨⟨args.length, a1, mem.length, spill.length, l⟩, hg, ht, .inr (.inl ⟨rfl, rfl, ⟨rfl, rfl, rfl⟩, fun c => by omega⟩)⟩) (runOut_nil (out4_below hb02 (by omega) _ _ _ _))
      have HF : Hid (Post (.returned (.tuple #[.agg #[.int .i64 0, .int .i64 0, .slice none 0 0, .slice none 0 0], .int .i64 4])) (out4 (w1.alloc (.cells #[.int .i64 args.length, .int .i64 a1, .int .i64 mem.length, .int .i64 spill.length, .slice bo bv.length bc] 25)) (w.heap.size + 1) 0 0 (.slice none 0 0) (.slice none 0 0))) := hfin
      clear hfin hp ho2 rI2 rO2 rP2 hb02
      unfold out4 at HF
      go_wp2
      (try simp only [Exit.inBlock, Exit.then])
      refine bodyPost_ret (v := .tuple #[.agg #[.int .i64 0, .int .i64 0, .slice none 0 0, .slice none 0 0], .int .i64 4]) ?_ rfl ?_
      · simp [results, Tryz.results36, go_sem, y0, y1, y2, y3]
      · exact HF.out
    by_cases hf1 : 300 < fuel
    · have hfin := hp outZ 4 (.slice none 0 0) (.slice none 0 0) (out4 (w1.alloc (.cells #[.int .i64 args.length, .int .i64 a1, .int .i64 mem.length, .int .i64 spill.length, .slice bo bv.length bc] 25)) (w.heap.size + 1) 0 0 (.slice none 0 0) (.slice none 0 0)) (.inr ⟨⟨args.length, a1, mem.length, spill.length, l⟩, hg, ht, .inr (.inl ⟨rfl, rfl, ⟨rfl, rfl, rfl⟩, fun c => by omega⟩)⟩) (runOut_nil (out4_below hb02 (by omega) _ _ _ _))
      have HF : Hid (Post (.returned (.tuple #[.agg #[.int .i64 0, .int .i64 0, .slice none 0 0, .slice none 0 0], .int .i64 4])) (out4 (w1.alloc (.cells #[.int .i64 args.length, .int .i64 a1, .int .i64 mem.length, .int .i64 spill.length, .slice bo bv.length bc] 25)) (w.heap.size + 1) 0 0 (.slice none 0 0) (.slice none 0 0))) := hfin
      clear hfin hp ho2 rI2 rO2 rP2 hb02
      unfold out4 at HF
      go_wp2
      (try simp only [Exit.inBlock, Exit.then])
      refine bodyPost_ret (v := .tuple #[.agg #[.int .i64 0, .int .i64 0, .slice none 0 0, .slice none 0 0], .int .i64 4]) ?_ rfl ?_
      · simp [results, Tryz.results36, go_sem, y0, y1, y2, y3]
      · exact HF.out
    obtain ⟨fu, rfl⟩ := Int.eq_ofNat_of_zero_le (show 0 ≤ fuel by omega)
    have hgg := hg
    simp only [progGood, Bool.and_eq_true, decide_eq_true_eq] at hgg
    obtain ⟨⟨⟨⟨⟨g1, g2⟩, g3⟩, g4⟩, g5⟩, g6⟩ := hgg
    have hans : RunAns s args mem spill fu (runN l fu 0 (begins ⟨args.length, a1, mem.length, spill.length, l⟩ args mem spill)) 0 := .inr ⟨⟨args.length, a1, mem.length, spill.length, l⟩, hg, ht, .inr (.inr ⟨rfl, ⟨rfl, rfl, rfl⟩, by omega, by simp⟩)⟩
    have hsz := begins_sized (args := args) (mem := mem) (spill := spill) hg ⟨rfl, rfl, rfl⟩
    have hal' := ha.keep hb02
    have hml' := hm.keep hb02
    have hsl' := hsp.keep hb02
    have hrd := OwnBlocks.rd ho2
    rw [hd] at hrd
    obtain ⟨W2, hW2⟩ : ∃ W2, W2 = w1.alloc (.cells #[.int .i64 args.length, .int .i64 a1, .int .i64 mem.length, .int .i64 spill.length, .slice bo bv.length bc] 25) := ⟨_, rfl⟩
    rw [← hW2] at hrd hal' hml' hsl' hb02 rI2 rO2 rP2
    have hz2 : w.heap.size + 3 ≤ W2.heap.size := by rw [hW2]; simp; omega
    clear hg ht ho2 ha hm hsp
    go_wp2_with fail
    rw [← hW2]
    clear hW2 i0 i1 i2 p0 p1 p2 p3 p4 y0 y1 y2 y3 f0 f1 f2 f3
    refine begin_cps a1 mem.length spill.length _ _ _ _ args mem spill W2 hal' hml' hsl' (by omega) (by omega) (by omega) (by omega) ⟨_, _, _, rfl⟩ _ ?_
    intro rv cv sv w3 hB hb3
    obtain ⟨ro, rc, rfl⟩ := owns_slice hB.regs
    obtain ⟨co, cc, rfl⟩ := owns_slice hB.cells
    obtain ⟨so', sc', rfl⟩ := owns_slice hB.slots
    have hz3 := hb3.size
    have hall := (Below.refl w3.heap.size w3).alloc (Nat.le_refl _) (.cells #[.slice ro (regs0 args (a1 - args.length).toNat).length rc, .slice co mem.length cc, .slice so' spill.length sc', .slice none 0 0, .int .i64 0] 126)
    have hM : Mach (fun g => g < W2.heap.size) (w3.alloc (.cells #[.slice ro (regs0 args (a1 - args.length).toNat).length rc, .slice co mem.length cc, .slice so' spill.length sc', .slice none 0 0, .int .i64 0] 126)) w3.heap.size (begins ⟨args.length, a1, mem.length, spill.length, l⟩ args mem spill) :=
      ⟨_, _, _, _, heap_alloc_new w3 _, hB.keep hall, fun c => by omega⟩
    have hb4 : Below W2.heap.size W2 (w3.alloc (.cells #[.slice ro (regs0 args (a1 - args.length).toNat).length rc, .slice co mem.length cc, .slice so' spill.length sc', .slice none 0 0, .int .i64 0] 126)) := hb3.trans (hall.mono (by omega))
    have p4 := (rP2.keep hb4).cell (i := 4) rfl
    have hlz : (begins ⟨args.length, a1, mem.length, spill.length, l⟩ args mem spill).leak = [] := rfl
    have htz : (begins ⟨args.length, a1, mem.length, spill.length, l⟩ args mem spill).trap = 0 := rfl
    generalize begins ⟨args.length, a1, mem.length, spill.length, l⟩ args mem spill = S0 at *
    generalize (regs0 args (a1 - args.length).toNat).length = nr at *
    clear hB hall hal' hml' hsl'
    obtain ⟨w4, hw4⟩ : ∃ w4, w4 = w3.alloc (.cells #[.slice ro nr rc, .slice co mem.length cc, .slice so' spill.length sc', .slice none 0 0, .int .i64 0] 126) := ⟨_, rfl⟩
    rw [← hw4] at hM hb4
    have hz4 := hb4.size
    go_wp2_with fail
    rw [← hw4]
    clear hw4 p4
    refine run_cps (fun g => g < W2.heap.size) w3.heap.size S0 l _ fu a1 mem.length spill.length W2 w4 hM (by omega) hlz htz hsz g6 (by omega) hrd (fun g h => h) hb4 _ ?_
    intro mv' lv' w5 own1 own2 ap k1 k2 hk5
    have hb5 := hb4.trans (hk5.toBelow hz4 (fun g hn => by omega))
    have rO5 := rO2.keep hb5
    have hb05 := hb02.trans (hb5.mono (by omega))
    have hz5 := hb5.size
    generalize runN l fu 0 S0 = G at *
    have hfin := hp G 0 mv' lv' (out4 w5 (w.heap.size + 1) G.kind G.result mv' lv') hans
      ⟨owns_rebase (OwnW.out4 own1 rO5 _ _ _ _) (fun g e => by have := k1 g e; omega), owns_rebase (OwnW.out4 own2 rO5 _ _ _ _) (fun g e => by have := k2 g e; omega), ap, out4_below hb05 (by omega) _ _ _ _⟩
    obtain ⟨mo', mc', rfl⟩ := owns_slice own1
    obtain ⟨lo', lc', rfl⟩ := owns_slice own2
    have HF : Hid (Post (.returned (.tuple #[.agg #[.int .i64 G.kind, .int .i64 G.result, .slice mo' G.mem.length mc', .slice lo' G.leak.length lc'], .int .i64 0])) (out4 w5 (w.heap.size + 1) G.kind G.result (.slice mo' G.mem.length mc') (.slice lo' G.leak.length lc'))) := hfin
    have y0 := rO5.cell (i := 0) rfl
    have y1 := rO5.cell (i := 1) rfl
    have y2 := rO5.cell (i := 2) rfl
    have y3 := rO5.cell (i := 3) rfl
    have f0 := rO5.frozen 0
    have f1 := rO5.frozen 1
    have f2 := rO5.frozen 2
    have f3 := rO5.frozen 3
    clear hfin hp own1 own2 ap k1 k2 hk5 hb5 rO5 hb05 hM hb4 rP2 rI2 rO2 hrd hans
    unfold out4 at HF
    go_wp2
    (try simp only [Exit.inBlock, Exit.then])
    refine bodyPost_ret (v := .tuple #[.agg #[.int .i64 G.kind, .int .i64 G.result, .slice mo' G.mem.length mc', .slice lo' G.leak.length lc'], .int .i64 0]) ?_ rfl ?_
    · simp [results, Tryz.results36, go_sem, y0, y1, y2, y3]
    · exact HF.out
  · clear hs
    have rO2 := rO1.alloc (.cells #[.int .i64 0, .int .i64 0, .int .i64 0, .int .i64 0, .slice none 0 0] 25)
    have hb02 := hb01.alloc (show w.heap.size ≤ w1.heap.size by omega) (.cells #[.int .i64 0, .int .i64 0, .int .i64 0, .int .i64 0, .slice none 0 0] 25)
    have y0 := rO2.cell (i := 0) rfl
    have y1 := rO2.cell (i := 1) rfl
    have y2 := rO2.cell (i := 2) rfl
    have y3 := rO2.cell (i := 3) rfl
    have f0 := rO2.frozen 0
    have f1 := rO2.frozen 1
    have f2 := rO2.frozen 2
    have f3 := rO2.frozen 3
    have hfin := hp outZ 1 (.slice none 0 0) (.slice none 0 0) (out4 (w1.alloc (.cells #[.int .i64 0, .int .i64 0, .int .i64 0, .int .i64 0, .slice none 0 0] 25)) (w.heap.size + 1) 0 0 (.slice none 0 0) (.slice none 0 0)) (.inl ⟨rfl, rfl, hn⟩) (runOut_nil (out4_below hb02 (by omega) _ _ _ _))
    have HF : Hid (Post (.returned (.tuple #[.agg #[.int .i64 0, .int .i64 0, .slice none 0 0, .slice none 0 0], .int .i64 1])) (out4 (w1.alloc (.cells #[.int .i64 0, .int .i64 0, .int .i64 0, .int .i64 0, .slice none 0 0] 25)) (w.heap.size + 1) 0 0 (.slice none 0 0) (.slice none 0 0))) := hfin
    clear hfin hp rI1 rO1 rO2 hb01 hb02 hb1 hn
    unfold out4 at HF
    go_wp2
    (try simp only [Exit.inBlock, Exit.then])
    refine bodyPost_ret (v := .tuple #[.agg #[.int .i64 0, .int .i64 0, .slice none 0 0, .slice none 0 0], .int .i64 1]) ?_ rfl ?_
    · simp [results, Tryz.results36, go_sem, y0, y1, y2, y3]
    · exact HF.out

end Go.Proofs.YtblhmeidbjigaabGreatDoor

/- Run in package twin. -/
set_option linter.unusedSimpArgs false
set_option linter.unusedVariables false
namespace Go.Proofs.YtblhmeidbjigaabGreatDoor
open Go.RowKit

theorem RunOut.set4 {w w0 w' : World} {o : OutD} {mv lv : Value} (h : RunOut w0 w' o mv lv) (hb : Below w.heap.size w w0) {R : Nat} {xs : List Value} (hr : Row w' R 63 xs) (hR : w.heap.size ≤ R) (k r : Int) (m l : Value) : RunOut w (out4 w' R k r m l) o mv lv :=
  ⟨owns_base (owns_rebase (OwnW.out4 (owns_base h.mem (Nat.zero_le _)) hr _ _ _ _) (fun g e => (h.mem.lt g e).1)) hb.size, owns_base (owns_rebase (OwnW.out4 (owns_base h.leak (Nat.zero_le _)) hr _ _ _ _) (fun g e => (h.leak.lt g e).1)) hb.size, h.apart,
    out4_below (hb.trans (h.below.mono hb.size)) hR _ _ _ _⟩

set_option maxRecDepth 100000 in
set_option maxHeartbeats 2000000 in
theorem tRun_cps (s : ByteArray) (av mv sv : Value) (args mem spill : List Int) (fuel : Int) (w : World) (ha : RdWords w av args) (hm : RdWords w mv mem) (hsp : RdWords w sv spill) (hs : s.size ≤ maxLen) (Post : Ending → World → Prop)
    (hp : ∀ o e mv lv w', RunAns s args mem spill fuel o e → RunOut w w' o mv lv → Post (.returned (.tuple #[.agg #[.int .i64 o.kind, .int .i64 o.result, mv, lv], .int .i64 e])) w') :
    Calls Tryz.prog 24 #[.string s, .agg #[av, mv, sv], .int .i64 fuel] w Post := by
  obtain ⟨ao, ac, rfl, hal, _⟩ := id ha
  obtain ⟨mo, mc, rfl, hml, _⟩ := id hm
  obtain ⟨so, sc, rfl, hsl, _⟩ := id hsp
  have rO : Row ((w.alloc (.cells #[.slice ao args.length ac, .slice mo mem.length mc, .slice so spill.length sc] 67)).alloc (.cells #[.int .i64 0, .int .i64 0, .slice none 0 0, .slice none 0 0] 63)) (w.heap.size + 1) 63 zOut := heap_alloc2_new w _ _
  have hbW : Below w.heap.size w ((w.alloc (.cells #[.slice ao args.length ac, .slice mo mem.length mc, .slice so spill.length sc] 67)).alloc (.cells #[.int .i64 0, .int .i64 0, .slice none 0 0, .slice none 0 0] 63)) := ((Below.refl w.heap.size w).alloc (Nat.le_refl _) _).alloc (by simp) _
  go_enter Tryz.func24, Tryz.ntmps24
  go_wp2_with fail
  refine mRun_cps s _ _ _ args mem spill fuel _ (ha.keep hbW) (hm.keep hbW) (hsp.keep hbW) hs _ ?_
  intro o e mv' lv' w1 hans hout
  have rO1 := rO.keep hout.below
  have ho := hout.set4 hbW rO1 (by omega) o.kind o.result mv' lv'
  have hfin := hp o e mv' lv' _ hans ho
  obtain ⟨mo', mc', rfl⟩ := owns_slice hout.mem
  obtain ⟨lo', lc', rfl⟩ := owns_slice hout.leak
  have HF : Hid (Post (.returned (.tuple #[.agg #[.int .i64 o.kind, .int .i64 o.result, .slice mo' o.mem.length mc', .slice lo' o.leak.length lc'], .int .i64 e])) (out4 w1 (w.heap.size + 1) o.kind o.result (.slice mo' o.mem.length mc') (.slice lo' o.leak.length lc'))) := hfin
  have y0 := rO1.cell (i := 0) rfl
  have y1 := rO1.cell (i := 1) rfl
  have y2 := rO1.cell (i := 2) rfl
  have y3 := rO1.cell (i := 3) rfl
  have f0 := rO1.frozen 0
  have f1 := rO1.frozen 1
  have f2 := rO1.frozen 2
  have f3 := rO1.frozen 3
  clear hfin hp hans hout ho rO rO1 hbW ha hm hsp
  unfold out4 at HF
  go_wp2
  (try simp only [Exit.inBlock, Exit.then])
  refine bodyPost_ret (v := .tuple #[.agg #[.int .i64 o.kind, .int .i64 o.result, .slice mo' o.mem.length mc', .slice lo' o.leak.length lc'], .int .i64 e]) ?_ rfl ?_
  · simp [results, Tryz.results24, go_sem, y0, y1, y2, y3]
  · exact HF.out

end Go.Proofs.YtblhmeidbjigaabGreatDoor

/- Lists of words held against each other. -/
set_option linter.unusedSimpArgs false
set_option linter.unusedVariables false
namespace Go.Proofs.YtblhmeidbjigaabGreatDoor
open Go.RowKit

/-- What lies in memory of one's own is read. -/
theorem owns_rd {w : World} {B : Nat} {v : Value} {l : List Int} (h : w.ownsRow B 3 1 v l.length (ints l)) : RdWords w v l := by
  obtain ⟨ao, cap, rfl⟩ := owns_slice h
  refine ⟨ao, cap, rfl, owns_le h, fun i hi => ?_⟩
  obtain ⟨b, rfl, _, hb, hc⟩ := owns_cell h rfl (i := i) (by rw [ints_length]; exact hi)
  refine ⟨b, 0, rfl, ?_⟩
  rw [Nat.zero_add, hc]
  simp [ints, List.getD, hi]

set_option maxRecDepth 100000 in
set_option maxHeartbeats 1000000 in
theorem lSameInts_any (v u : Value) (l : List Int) (w : World) (hv : RdWords w v l) (hu : RdWords w u l) :
    Calls Tryz.prog 84 #[v, u] w fun e w' => e = .returned (.bool true) ∧ Below w.heap.size w w' := by
  obtain ⟨ao, cap, rfl, hl, hc⟩ := hv
  obtain ⟨bo, cap2, rfl, _, hd⟩ := hu
  go_enter Tryz.func84, Tryz.ntmps84
  go_wp2
  go_loopw [5] (fun i wr => ∃ (k : Nat), k ≤ l.length ∧ i = .int .i64 k ∧ Below w.heap.size w wr)
    (fun i _ => l.length - (intOf i).toNat)
  case atStart => exact ⟨0, Nat.zero_le _, rfl, Below.refl _ _⟩
  case round =>
    obtain ⟨k, hk, rfl, hbel⟩ := hrel
    by_cases hlt : k < l.length
    · obtain ⟨b, off, rfl, h1⟩ := hc k hlt
      obtain ⟨b2, off2, rfl, h2⟩ := hd k hlt
      have g1 := cell_keep hbel h1
      have g2 := cell_keep hbel h2
      have hki : (k : Int) < (l.length : Int) := by omega
      have hbd : ∀ d, Below w.heap.size w (wr.drewN d) := fun d => below_drewN hbel d
      clear h1 h2 hc hd
      generalize l.getD k 0 = x at *
      go_wp2
      go_quiet (fail)
      go_wp2
      go_roundw
      case rel => exact ⟨k + 1, by omega, by go_num, hbd _⟩
      case measure => simp [intOf]; omega
    · go_wp2
      go_ret
      exact ⟨rfl, hbel⟩

set_option maxRecDepth 100000 in
set_option maxHeartbeats 1000000 in
theorem lSameOutcome_any (k r : Int) (mv lv mv2 lv2 : Value) (m l : List Int) (w : World) (hm : RdWords w mv m) (hl : RdWords w lv l) (hm2 : RdWords w mv2 m) (hl2 : RdWords w lv2 l) :
    Calls Tryz.prog 51 #[.agg #[.int .i64 k, .int .i64 r, mv, lv], .agg #[.int .i64 k, .int .i64 r, mv2, lv2]] w fun e w' => e = .returned (.bool true) ∧ Below w.heap.size w w' := by
  obtain ⟨mo, mc, rfl, _, _⟩ := id hm
  obtain ⟨lo, lc, rfl, _, _⟩ := id hl
  obtain ⟨mo2, mc2, rfl, _, _⟩ := id hm2
  obtain ⟨lo2, lc2, rfl, _, _⟩ := id hl2
  have rA : Row ((w.alloc (.cells #[.int .i64 k, .int .i64 r, .slice mo m.length mc, .slice lo l.length lc] 63)).alloc (.cells #[.int .i64 k, .int .i64 r, .slice mo2 m.length mc2, .slice lo2 l.length lc2] 63)) w.heap.size 63 [.int .i64 k, .int .i64 r, .slice mo m.length mc, .slice lo l.length lc] := by
    have q : Row (w.alloc (.cells #[.int .i64 k, .int .i64 r, .slice mo m.length mc, .slice lo l.length lc] 63)) w.heap.size 63 [.int .i64 k, .int .i64 r, .slice mo m.length mc, .slice lo l.length lc] := heap_alloc_new w _
    exact q.alloc _
  have rB : Row ((w.alloc (.cells #[.int .i64 k, .int .i64 r, .slice mo m.length mc, .slice lo l.length lc] 63)).alloc (.cells #[.int .i64 k, .int .i64 r, .slice mo2 m.length mc2, .slice lo2 l.length lc2] 63)) (w.heap.size + 1) 63 [.int .i64 k, .int .i64 r, .slice mo2 m.length mc2, .slice lo2 l.length lc2] := heap_alloc2_new w _ _
  have hbW : Below w.heap.size w ((w.alloc (.cells #[.int .i64 k, .int .i64 r, .slice mo m.length mc, .slice lo l.length lc] 63)).alloc (.cells #[.int .i64 k, .int .i64 r, .slice mo2 m.length mc2, .slice lo2 l.length lc2] 63)) := ((Below.refl w.heap.size w).alloc (Nat.le_refl _) _).alloc (by simp) _
  have a2 := rA.cell (i := 2) rfl
  have b2 := rB.cell (i := 2) rfl
  go_enter Tryz.func51, Tryz.ntmps51
  go_wp2_with fail
  refine (lSameInts_any _ _ m _ (hm.keep hbW) (hm2.keep hbW)).mono ?_
  rintro e w1 ⟨rfl, hb1⟩
  have hb01 := hbW.trans (hb1.mono (by simp; omega))
  have a3 := (rA.keep hb1).cell (i := 3) rfl
  have b3 := (rB.keep hb1).cell (i := 3) rfl
  have rA1 := rA.keep hb1
  have rB1 := rB.keep hb1
  clear rA rB a2 b2 hb1 hbW
  go_wp2_with fail
  refine (lSameInts_any _ _ l _ (hl.keep hb01) (hl2.keep hb01)).mono ?_
  rintro e w2 ⟨rfl, hb2⟩
  have hb02 := hb01.trans (hb2.mono hb01.size)
  have a0 := (rA1.keep hb2).cell (i := 0) rfl
  have b0 := (rB1.keep hb2).cell (i := 0) rfl
  have a1 := (rA1.keep hb2).cell (i := 1) rfl
  have b1 := (rB1.keep hb2).cell (i := 1) rfl
  go_wp2
  go_ret
  exact ⟨by simp, hb02⟩

end Go.Proofs.YtblhmeidbjigaabGreatDoor

/- The reference's state of a run. -/
set_option linter.unusedSimpArgs false
set_option linter.unusedVariables false
namespace Go.Proofs.YtblhmeidbjigaabGreatDoor
open Go.RowKit

/-- The reference's state at block M: the block that it is at, the result. -/
def RefS (K : Nat → Prop) (t r : Int) (w : World) (M : Nat) (s : RunD) : Prop :=
  ∃ rv cv sv lv, Row w M 161 [.int .i64 t, rv, cv, sv, lv, .int .i64 s.trap, .int .i64 r] ∧ Bunch K w rv cv sv lv s ∧ ¬ K M

theorem RefS.keep {K : Nat → Prop} {w w' : World} {M : Nat} {t r : Int} {s : RunD} (h : RefS K t r w M s) (hb : Below w.heap.size w w') : RefS K t r w' M s := by
  obtain ⟨rv, cv, sv, lv, h1, h2, h3⟩ := h
  exact ⟨rv, cv, sv, lv, h1.keep hb, h2.keep hb, h3⟩

/-- Other blocks are kept: some of those, and new ones. -/
theorem RefS.kept {K K' : Nat → Prop} {w w' : World} {M : Nat} {t r : Int} {s : RunD} (h : RefS K t r w M s) (hk : ∀ g, K' g → K g ∨ w.heap.size ≤ g) (hl : ∀ g, K' g → g < w'.heap.size) (hb : Below w.heap.size w w') : RefS K' t r w' M s := by
  obtain ⟨rv, cv, sv, lv, h1, h2, h3⟩ := h
  refine ⟨rv, cv, sv, lv, h1.keep hb, h2.kept hk hl hb, fun e => ?_⟩
  rcases hk M e with q | q
  · exact h3 q
  · have := h1.lt; omega

theorem RefS.lt {K : Nat → Prop} {w : World} {M : Nat} {t r : Int} {s : RunD} (h : RefS K t r w M s) : ∀ g, K g → g < w.heap.size := by
  obtain ⟨rv, cv, sv, lv, h1, h2, h3⟩ := h
  exact h2.lt

/-- The state beside a boxed operation (or end) at block O. -/
structure RWith (K : Nat → Prop) (t r : Int) (w0 w : World) (M O : Nat) (ty : TypeId) (xs : List Value) (s : RunD) : Prop where
  mach : RefS (fun g => K g ∨ g = O) t r w M s
  row : Row w O ty xs
  keep : Keep (fun g => ¬ K g) w0 w
  lt : ∀ g, K g → g < w0.heap.size
  ge : w0.heap.size ≤ O

theorem RWith.start {K : Nat → Prop} {w : World} {M : Nat} {s : RunD} {t r : Int} (h : RefS K t r w M s) (ty : TypeId) (xs : List Value) : RWith K t r w (w.alloc (.cells xs.toArray ty)) M w.heap.size ty xs s :=
  ⟨h.kept (fun g hg => by rcases hg with hg | hg; exact .inl hg; exact .inr (by omega)) (fun g hg => by rcases hg with hg | hg; have := h.lt g hg; simp; omega; simp; omega) ((Below.refl _ _).alloc (Nat.le_refl _) _),
    heap_alloc_new w _, (Keep.refl _ _).alloc _, h.lt, Nat.le_refl _⟩

theorem RWith.below {K : Nat → Prop} {w0 w w' : World} {M O : Nat} {t r : Int} {ty : TypeId} {xs : List Value} {s : RunD} (h : RWith K t r w0 w M O ty xs s) (hb : Below w.heap.size w w') : RWith K t r w0 w' M O ty xs s :=
  ⟨h.mach.keep hb, h.row.keep hb, h.keep.below hb h.keep.size, h.lt, h.ge⟩

theorem RWith.next {K : Nat → Prop} {w0 w w' : World} {M O : Nat} {t r : Int} {ty : TypeId} {xs : List Value} {s s' : RunD} (h : RWith K t r w0 w M O ty xs s) (hm : RefS (fun g => K g ∨ g = O) t r w' M s') (hk : Keep (fun g => ¬ (K g ∨ g = O)) w w') : RWith K t r w0 w' M O ty xs s' :=
  ⟨hm, h.row.same (hk.block O h.row.lt (fun hn => hn (.inr rfl))), h.keep.trans (hk.mono (fun g hn e => hn (.inl e))), h.lt, h.ge⟩

theorem RWith.done {K : Nat → Prop} {w0 w : World} {M O : Nat} {t r : Int} {ty : TypeId} {xs : List Value} {s : RunD} (h : RWith K t r w0 w M O ty xs s) : RefS K t r w M s :=
  h.mach.kept (fun g hg => .inl (.inl hg)) (fun g hg => Nat.lt_of_lt_of_le (h.lt g hg) h.keep.size) (Below.refl _ _)

/-- A word becomes another: a register. -/
theorem RWith.setReg {K : Nat → Prop} {w0 w : World} {M O : Nat} {t r : Int} {ty : TypeId} {xs : List Value} {s : RunD} (h : RWith K t r w0 w M O ty xs s) {rv cv sv lv : Value} (hrow : Row w M 161 [.int .i64 t, rv, cv, sv, lv, .int .i64 s.trap, .int .i64 r]) (hb : Bunch (fun g => K g ∨ g = O) w rv cv sv lv s)
    {g i : Nat} (hg : rv.ownBlock = some g) (hi : i < s.regs.length) (u : Int) : RefS K t r (w.setCell ⟨g, i, none⟩ (.int .i64 u)) M (s.reg i u) ∧ Keep (fun g => ¬ K g) w0 (w.setCell ⟨g, i, none⟩ (.int .i64 u)) := by
  have hne : ¬ (rv.ownBlock = some M) := row_owns_apart hrow hb.regs (by decide)
  have hK : ¬ (K g ∨ g = O) := hb.kr g hg
  have hM : ¬ K M := by obtain ⟨_, _, _, _, _, _, h3⟩ := h.mach; exact fun e => h3 (.inl e)
  have b2 := hb.setReg hg hi u
  have r2 := hrow.unset (a := ⟨g, i, none⟩) (fun e => hne (by rw [hg]; exact congrArg some e.symm)) (.int .i64 u)
  have b3 := b2.kept (K' := K) (fun g hg => .inl (.inl hg)) (fun g hg => by have := h.lt g hg; have := h.keep.size; simp; omega) (Below.refl _ _)
  exact ⟨⟨rv, cv, sv, lv, r2, b3, hM⟩, h.keep.setCell (.inl (fun e => hK (.inl e))) _⟩

theorem RWith.setMem {K : Nat → Prop} {w0 w : World} {M O : Nat} {t r : Int} {ty : TypeId} {xs : List Value} {s : RunD} (h : RWith K t r w0 w M O ty xs s) {rv cv sv lv : Value} (hrow : Row w M 161 [.int .i64 t, rv, cv, sv, lv, .int .i64 s.trap, .int .i64 r]) (hb : Bunch (fun g => K g ∨ g = O) w rv cv sv lv s)
    {g i : Nat} (hg : cv.ownBlock = some g) (hi : i < s.cells.length) (u : Int) : RefS K t r (w.setCell ⟨g, i, none⟩ (.int .i64 u)) M (s.cell i u) ∧ Keep (fun g => ¬ K g) w0 (w.setCell ⟨g, i, none⟩ (.int .i64 u)) := by
  have hne : ¬ (cv.ownBlock = some M) := row_owns_apart hrow hb.cells (by decide)
  have hK : ¬ (K g ∨ g = O) := hb.kc g hg
  have hM : ¬ K M := by obtain ⟨_, _, _, _, _, _, h3⟩ := h.mach; exact fun e => h3 (.inl e)
  have b2 := hb.setMem hg hi u
  have r2 := hrow.unset (a := ⟨g, i, none⟩) (fun e => hne (by rw [hg]; exact congrArg some e.symm)) (.int .i64 u)
  have b3 := b2.kept (K' := K) (fun g hg => .inl (.inl hg)) (fun g hg => by have := h.lt g hg; have := h.keep.size; simp; omega) (Below.refl _ _)
  exact ⟨⟨rv, cv, sv, lv, r2, b3, hM⟩, h.keep.setCell (.inl (fun e => hK (.inl e))) _⟩

theorem RWith.setSlot {K : Nat → Prop} {w0 w : World} {M O : Nat} {t r : Int} {ty : TypeId} {xs : List Value} {s : RunD} (h : RWith K t r w0 w M O ty xs s) {rv cv sv lv : Value} (hrow : Row w M 161 [.int .i64 t, rv, cv, sv, lv, .int .i64 s.trap, .int .i64 r]) (hb : Bunch (fun g => K g ∨ g = O) w rv cv sv lv s)
    {g i : Nat} (hg : sv.ownBlock = some g) (hi : i < s.slots.length) (u : Int) : RefS K t r (w.setCell ⟨g, i, none⟩ (.int .i64 u)) M (s.slot i u) ∧ Keep (fun g => ¬ K g) w0 (w.setCell ⟨g, i, none⟩ (.int .i64 u)) := by
  have hne : ¬ (sv.ownBlock = some M) := row_owns_apart hrow hb.slots (by decide)
  have hK : ¬ (K g ∨ g = O) := hb.ks g hg
  have hM : ¬ K M := by obtain ⟨_, _, _, _, _, _, h3⟩ := h.mach; exact fun e => h3 (.inl e)
  have b2 := hb.setSlot hg hi u
  have r2 := hrow.unset (a := ⟨g, i, none⟩) (fun e => hne (by rw [hg]; exact congrArg some e.symm)) (.int .i64 u)
  have b3 := b2.kept (K' := K) (fun g hg => .inl (.inl hg)) (fun g hg => by have := h.lt g hg; have := h.keep.size; simp; omega) (Below.refl _ _)
  exact ⟨⟨rv, cv, sv, lv, r2, b3, hM⟩, h.keep.setCell (.inl (fun e => hK (.inl e))) _⟩

/-- The state traps. -/
theorem RWith.trap {K : Nat → Prop} {w0 w : World} {M O : Nat} {t r : Int} {ty : TypeId} {xs : List Value} {s : RunD} (h : RWith K t r w0 w M O ty xs s) {rv cv sv lv : Value} (hrow : Row w M 161 [.int .i64 t, rv, cv, sv, lv, .int .i64 s.trap, .int .i64 r]) (hb : Bunch (fun g => K g ∨ g = O) w rv cv sv lv s) (u : Int) :
    RefS K t r (w.setCell ⟨M, 5, none⟩ (.int .i64 u)) M (s.die u) ∧ Keep (fun g => ¬ K g) w0 (w.setCell ⟨M, 5, none⟩ (.int .i64 u)) := by
  have hM : ¬ K M := by obtain ⟨_, _, _, _, _, _, h3⟩ := h.mach; exact fun e => h3 (.inl e)
  have b2 := (hb.far hrow (by decide) 5 (.int .i64 u)).trapped u
  have b3 := b2.kept (K' := K) (fun g hg => .inl (.inl hg)) (fun g hg => by have := h.lt g hg; have := h.keep.size; simp; omega) (Below.refl _ _)
  exact ⟨⟨rv, cv, sv, lv, hrow.set 5 (.int .i64 u), b3, hM⟩, h.keep.setCell (.inl hM) _⟩

/-- A store into another field of the state. -/
theorem RWith.next' {K : Nat → Prop} {t r t' r' : Int} {w0 w w' : World} {M O : Nat} {ty : TypeId} {xs : List Value} {s s' : RunD} (h : RWith K t r w0 w M O ty xs s) (hm : RefS (fun g => K g ∨ g = O) t' r' w' M s') (hk : Keep (fun g => ¬ (K g ∨ g = O)) w w') : RWith K t' r' w0 w' M O ty xs s' :=
  ⟨hm, h.row.same (hk.block O h.row.lt (fun hn => hn (.inr rfl))), h.keep.trans (hk.mono (fun g hn e => hn (.inl e))), h.lt, h.ge⟩

end Go.Proofs.YtblhmeidbjigaabGreatDoor

/- The reference lets words out. -/
set_option linter.unusedSimpArgs false
set_option linter.unusedVariables false
namespace Go.Proofs.YtblhmeidbjigaabGreatDoor
open Go.RowKit

theorem int_one' (x : Int) : ∀ u ∈ [Value.int .i64 x], u.oneCell' = true := by
  intro u hu; simp at hu; subst hu; rfl

/-- A word is let out: behind the append, the store into the state. -/
theorem refs_app {K : Nat → Prop} {t r : Int} {w w1 : World} {M : Nat} {s : RunD} {rv cv sv lv v' : Value} {x : Int} (hrow : Row w M 161 [.int .i64 t, rv, cv, sv, lv, .int .i64 s.trap, .int .i64 r]) (hbu : Bunch K w rv cv sv lv s) (hK : ¬ K M)
    (hown : w1.ownsRow 0 3 1 v' (s.leak.length + 1) (ints s.leak ++ [.int .i64 x])) (hgrow : (w.alloc (.cells #[.int .i64 x] 3)).grownBy w1 lv.ownBlock) (hat : v'.ownBlock = lv.ownBlock ∨ v'.ownBlock = some (w.heap.size + 1)) :
    (RefS K t r (w1.setCell ⟨M, 4, none⟩ v') M (s.out x) ∧ Keep (fun g => ¬ K g) w (w1.setCell ⟨M, 4, none⟩ v')) ∧ w1.cell? ⟨M, 4, none⟩ = some lv ∧ w1.frozen? ⟨M, 4, none⟩ = false := by
  have hne := row_owns_apart hrow hbu.leak (by decide)
  have hal := (Below.refl w.heap.size w).alloc (Nat.le_refl _) (.cells #[.int .i64 x] 3)
  have hb0 := hbu.keep hal
  have hr0 := hrow.keep hal
  have hk0 : Keep (fun g => ¬ K g) w (w.alloc (.cells #[.int .i64 x] 3)) := (Keep.refl _ _).alloc _
  have hb1 := hb0.app hown hgrow (by simpa using hat)
  have hr1 := hr0.grown hgrow hne
  have hk1 := hk0.grown hgrow (fun g e => .inl (hbu.kl g e))
  have hb2 := hb1.far hr1 (by decide) 4 v'
  have hr2 := hr1.set 4 v'
  have hk2 := hk1.setCell (p := ⟨M, 4, none⟩) (.inl hK) v'
  exact ⟨⟨⟨rv, cv, sv, v', hr2, hb2, hK⟩, hk2⟩, hr1.cell (i := 4) rfl, hr1.frozen 4⟩

theorem refs_die {K : Nat → Prop} {t r : Int} {w : World} {M : Nat} {s : RunD} {rv cv sv lv : Value} (hrow : Row w M 161 [.int .i64 t, rv, cv, sv, lv, .int .i64 s.trap, .int .i64 r]) (hbu : Bunch K w rv cv sv lv s) (hK : ¬ K M) (u : Int) :
    RefS K t r (w.setCell ⟨M, 5, none⟩ (.int .i64 u)) M (s.die u) ∧ Keep (fun g => ¬ K g) w (w.setCell ⟨M, 5, none⟩ (.int .i64 u)) :=
  ⟨⟨rv, cv, sv, lv, hrow.set 5 (.int .i64 u), (hbu.far hrow (by decide) 5 _).trapped u, hK⟩, (Keep.refl _ _).setCell (.inl hK) _⟩

set_option maxRecDepth 100000 in
set_option maxHeartbeats 2000000 in
theorem rCell_cps (K : Nat → Prop) (t r : Int) (M : Nat) (s : RunD) (n : Int) (w : World) (h : RefS K t r w M s) (hl : s.leak.length ≤ 100000) (Post : Ending → World → Prop)
    (hyes : 0 ≤ n ∧ n < s.cells.length → ∀ w', RefS K t r w' M (s.out n) → Keep (fun g => ¬ K g) w w' → Post (.returned (.bool true)) w')
    (hno : ¬ (0 ≤ n ∧ n < s.cells.length) → ∀ w', RefS K t r w' M ((s.out n).die 2) → Keep (fun g => ¬ K g) w w' → Post (.returned (.bool false)) w') :
    Calls Tryz.prog 171 #[.pointer (some ⟨M, 0, none⟩), .int .i64 n] w Post := by
  obtain ⟨i0, ii, iz0, iz1, iz2⟩ := info_parts Tryz.infoInt
  obtain ⟨rv, cv, sv, lv, hrow, hbu, hK⟩ := h
  obtain ⟨lo, lc, rfl⟩ := owns_slice hbu.leak
  have m4 := hrow.cell (i := 4) rfl
  have hbl := (hbu.keep ((Below.refl w.heap.size w).alloc (Nat.le_refl _) (.cells #[.int .i64 n] 3))).leak
  go_enter Tryz.func171, Tryz.ntmps171
  go_wp2_with (at_builtin; refine wpList_append_own_at _ rfl _ _ 22 rfl 0 3 i0 (.int .i64 0) 1 8 Tryz.underlying22 ii iz0 iz1 iz2 rfl (by decide) _ _ _ rfl hbl ⟨w.heap.size, 0, none⟩ 1 1 [.int .i64 n] rfl rfl ?c1 (int_one' n) ?c3 ?c4 (by omega) ?_)
  case c1 => exact one_new w _ _
  case c3 => unfold maxLen; omega
  case c4 => omega
  intro v' w1 hown hgrow _ hat
  obtain ⟨⟨hm, hk⟩, y4, yf⟩ := refs_app hrow hbu hK hown hgrow (by simpa using hat)
  obtain ⟨lo', lc', rfl⟩ := owns_slice hown
  clear hrow hbu hown hgrow hat hbl m4
  generalize hW : w1.setCell ⟨M, 4, none⟩ (.slice lo' (s.leak.length + 1) lc') = w2 at *
  obtain ⟨rv, cv, sv, lv, hrow, hbu, hK⟩ := id hm
  obtain ⟨co, cc, rfl⟩ := owns_slice hbu.cells
  have x2 := hrow.cell (i := 2) rfl
  have hlc : (s.out n).cells.length = s.cells.length := rfl
  rw [hlc] at x2 hrow hbu
  have x5 := hrow.cell (i := 5) rfl
  have xf := hrow.frozen 5
  have hin : Hid (¬ (0 ≤ n ∧ n < s.cells.length) → Post (.returned (.bool false)) (w2.setCell ⟨M, 5, none⟩ (.int .i64 2))) := fun hc => by
    obtain ⟨q1, q2⟩ := refs_die hrow hbu hK 2
    exact hno hc _ q1 (hk.trans q2)
  have hit : Hid (0 ≤ n ∧ n < s.cells.length → Post (.returned (.bool true)) w2) := fun hc => hyes hc _ hm hk
  clear hyes hno hm hk hrow hbu
  rw [← hW] at x2 x5 xf hin hit
  by_cases h0 : n < 0
  · have HF : Hid (Post (.returned (.bool false)) _) := hin.out (by omega)
    clear hin hit hW
    go_wp2
    exact HF.out
  by_cases h1 : n < s.cells.length
  · have HF : Hid (Post (.returned (.bool true)) _) := hit.out ⟨by omega, h1⟩
    clear hin hit hW
    go_wp2
    exact HF.out
  · have HF : Hid (Post (.returned (.bool false)) _) := hin.out (by omega)
    clear hin hit hW
    go_wp2
    exact HF.out

end Go.Proofs.YtblhmeidbjigaabGreatDoor

/- Lists of words with spare room; what is behind a list's end. -/
set_option linter.unusedSimpArgs false
set_option linter.unusedVariables false
namespace Go.Proofs.YtblhmeidbjigaabGreatDoor
open Go.RowKit

/-- A list of words of its own with two marks behind its end. -/
def Room (w : World) (g : Nat) (l : List Int) : Prop := Row w g 3 (ints l ++ [.int .i64 77, .int .i64 77])

theorem Room.keep {w w' : World} {g : Nat} {l : List Int} (h : Room w g l) (hb : Below w.heap.size w w') : Room w' g l := Row.keep h hb

theorem Room.rd {w : World} {g cap : Nat} {l : List Int} (h : Room w g l) (hl : l.length ≤ 9223372036854775807) : RdWords w (.slice (some ⟨g, 0, none⟩) l.length cap) l := by
  refine ⟨_, _, rfl, hl, fun i hi => ⟨g, 0, rfl, ?_⟩⟩
  rw [Nat.zero_add]
  refine Row.cell h (i := i) ?_
  rw [List.getElem?_append_left (by rw [ints_length]; exact hi)]
  simp [ints, List.getD, hi]

theorem rdw_none {w : World} {n sc : Nat} {l : List Int} {so : Option Addr} (h : RdWords w (.slice so n sc) l) : so = none → ints l = [] := by
  rintro rfl
  obtain ⟨ao, cap, e, _, hc⟩ := h
  simp only [Value.slice.injEq] at e
  obtain ⟨rfl, _, _⟩ := e
  cases l with
  | nil => rfl
  | cons x r =>
    obtain ⟨b, off, e, _⟩ := hc 0 (by simp)
    cases e

theorem rdw_cells {w : World} {n sc : Nat} {l : List Int} {so : Option Addr} (h : RdWords w (.slice so n sc) l) : ∀ ad, so = some ad → ∀ j u, (ints l)[j]? = some u → w.cell? (ad.add j) = some u := by
  rintro ad rfl j u hj
  obtain ⟨ao, cap, e, _, hc⟩ := h
  simp only [Value.slice.injEq] at e
  obtain ⟨rfl, _, _⟩ := e
  have hlt : j < l.length := by
    have := (List.getElem?_eq_some_iff.1 hj).1
    rwa [ints_length] at this
  obtain ⟨b, off, e, h1⟩ := hc j hlt
  simp only [Option.some.injEq] at e
  subst e
  rw [Addr.add_lit, h1]
  simp [ints, hlt] at hj
  simp [List.getD, hlt, hj]

theorem intsw_one (l : List Int) : ∀ u ∈ ints l, u.oneCell' = true := by
  intro u hu
  simp only [ints, List.mem_map] at hu
  obtain ⟨x, _, rfl⟩ := hu
  rfl

theorem room_row (l : List Int) : ints l ++ (pad [Value.int .i64 0] (l.length + 2)).drop (ints l).length = ints l ++ [.int .i64 0, .int .i64 0] := by
  have h2 : (pad [Value.int .i64 0] (l.length + 2)).drop (ints l).length = [.int .i64 0, .int .i64 0] := by
    rw [ints_length]
    apply List.ext_getElem?
    intro i
    rw [List.getElem?_drop]
    by_cases hi : i < 2
    · rw [pad_get [Value.int .i64 0] _ _ (by simp; omega)]
      have : i = 0 ∨ i = 1 := by omega
      rcases this with rfl | rfl <;> simp [Nat.mod_one]
    · rw [List.getElem?_eq_none (by rw [pad_length]; simp; omega), List.getElem?_eq_none (by simp; omega)]
  rw [h2]

theorem room_set (l : List Int) : ((ints l ++ [Value.int .i64 0, .int .i64 0]).set l.length (.int .i64 77)).set (l.length + 1) (.int .i64 77) = ints l ++ [.int .i64 77, .int .i64 77] := by
  rw [List.set_append_right _ _ (by rw [ints_length]; omega), List.set_append_right _ _ (by rw [ints_length]; omega), ints_length]
  simp

theorem room_get (l : List Int) (a b : Value) : (ints l ++ [a, b])[l.length]? = some a ∧ (ints l ++ [a, b])[l.length + 1]? = some b := by
  constructor
  · rw [List.getElem?_append_right (by rw [ints_length]; omega), ints_length]; simp
  · rw [List.getElem?_append_right (by rw [ints_length]; omega), ints_length]; simp

set_option maxRecDepth 100000 in
set_option maxHeartbeats 2000000 in
theorem roomy_cps (v : Value) (l : List Int) (w : World) (hr : RdWords w v l) (hn : l.length ≤ 17592186044416) (Post : Ending → World → Prop)
    (hp : ∀ w', Room w' w.heap.size l → Below w.heap.size w w' → w.heap.size < w'.heap.size → Post (.returned (.slice (some ⟨w.heap.size, 0, none⟩) l.length (l.length + 2))) w') :
    Calls Tryz.prog 81 #[v] w Post := by
  obtain ⟨so, sc, rfl, hll, _⟩ := id hr
  obtain ⟨i0, ii, iz0, iz1, iz2⟩ := info_parts Tryz.infoInt
  go_enter Tryz.func81, Tryz.ntmps81
  go_wp2_with (at_make; refine wpList_make_row _ rfl _ _ 22 rfl 3 i0 _ [.int .i64 0] Tryz.underlying22 ii iz0 iz1 rfl (by decide) _ _ _ _ (l.length + 2) rfl rfl (by simp) (by simp) ?e1 ?e2 ?_)
  case e1 => first | omega | (rw [iz2]; omega)
  case e2 => unfold maxLen; omega
  intro w1 hP hb1 hz1
  have hr1 := hr.keep hb1
  have hDw : w.heap.size < w1.heap.size := hP.lt
  clear hz1
  go_wp2_with (refine wpList_copy_row _ rfl (.tmp 10) (.tmp 11) 22 rfl 3 i0 Tryz.underlying22 ii 1 iz1 w.heap.size _ _ so _ _ rfl rfl _ hP (ints l) ?g1 (rdw_none hr1) (rdw_cells hr1) ?g2 (intsw_one _) ?_)
  case g1 => rw [ints_length]; simp [Nat.min_def]
  case g2 => rw [ints_length, pad_length]; simp
  intro w2 hR hU
  rw [room_row] at hR
  have hb2 := hU.below hb1 (Nat.le_refl _)
  have hDw2 : w.heap.size < w2.heap.size := hR.lt
  have c0 := hR.cell (room_get l _ _).1
  have f0 := hR.frozen l.length
  have hR2 := hR.set l.length (.int .i64 77)
  have c1 : (w2.setCell ⟨w.heap.size, l.length, none⟩ (.int .i64 77)).cell? ⟨w.heap.size, l.length + 1, none⟩ = some (.int .i64 0) := cell_unset (by simp) (hR.cell (room_get l _ _).2)
  have f1 := hR2.frozen (l.length + 1)
  have hR3 := hR2.set (l.length + 1) (.int .i64 77)
  rw [room_set] at hR3
  have hb3 := (hb2.setCell (p := ⟨w.heap.size, l.length, none⟩) (Nat.le_refl _) (.int .i64 77)).setCell (p := ⟨w.heap.size, l.length + 1, none⟩) (Nat.le_refl _) (.int .i64 77)
  have hli : (0 : Int) ≤ (l.length : Int) := by omega
  have HF : Hid (Post (.returned (.slice (some ⟨w.heap.size, 0, none⟩) l.length (l.length + 2))) ((w2.setCell ⟨w.heap.size, l.length, none⟩ (.int .i64 77)).setCell ⟨w.heap.size, l.length + 1, none⟩ (.int .i64 77))) := hp _ hR3 hb3 (by simpa using hDw2)
  clear hp hR hR2 hR3 hU hb1 hb2 hb3 hP hr hr1
  go_wp2
  exact HF.out

set_option maxRecDepth 100000 in
set_option maxHeartbeats 2000000 in
theorem whole_any (g : Nat) (v : Value) (l : List Int) (w : World) (h : Room w g l) (hv : RdWords w v l) (hn : l.length ≤ 17592186044416) :
    Calls Tryz.prog 85 #[.slice (some ⟨g, 0, none⟩) l.length (l.length + 2), v] w fun e w' => e = .returned (.bool true) ∧ Below w.heap.size w w' := by
  go_enter Tryz.func85, Tryz.ntmps85
  go_wp2_with fail
  refine (lSameInts_any _ _ l w (h.rd (by omega)) hv).mono ?_
  rintro e w1 ⟨rfl, hb1⟩
  have h1 := h.keep hb1
  have c0 := Row.cell h1 (room_get l _ _).1
  have c1 := Row.cell h1 (room_get l _ _).2
  have hli : (0 : Int) ≤ (l.length : Int) := by omega
  clear h h1
  go_wp2
  go_ret
  exact ⟨by simp, hb1⟩

set_option maxRecDepth 100000 in
set_option maxHeartbeats 2000000 in
theorem behind_any (base : Nat) (v : Value) (l : List Int) (w : World) (hown : w.ownsRow base 3 1 v l.length (ints l)) (hbs : base ≤ w.heap.size) (hl : l.length ≤ 100000) :
    Calls Tryz.prog 83 #[v] w fun e w' => e = .returned (.tuple #[]) ∧ w'.ownsRow base 3 1 v l.length (ints l) ∧ Keep (fun g => v.ownBlock = some g) w w' := by
  obtain ⟨i0, ii, iz0, iz1, iz2⟩ := info_parts Tryz.infoInt
  obtain ⟨vo, vc, rfl⟩ := owns_slice hown
  go_enter Tryz.func83, Tryz.ntmps83
  go_wp2
  go_loopw [0, 2] (fun x i wr => ∃ (j : Nat), j ≤ 9 ∧ i = .int .i64 j ∧ wr.ownsRow base 3 1 (.slice vo l.length vc) l.length (ints l) ∧ wr.ownsRow base 3 1 x (l.length + j) (ints l ++ pad [.int .i64 77] j) ∧ Hid (∀ g, x.ownBlock = some g → (Value.slice vo l.length vc).ownBlock = some g ∨ w.heap.size ≤ g) ∧ Keep (fun g => (Value.slice vo l.length vc).ownBlock = some g) w wr)
    (fun _ i _ => 9 - (intOf i).toNat)
  case atStart => exact ⟨0, Nat.zero_le _, rfl, hown, by simpa [pad] using hown, (fun g e => .inl e), Keep.refl _ _⟩
  case round =>
    obtain ⟨j, hj, rfl, hv, hx, hne, hk⟩ := hrel
    obtain ⟨xo, xc, rfl⟩ := owns_slice hx
    have hz := hk.size
    by_cases hlt : j < 9
    · have HP : Hid (pad [Value.int .i64 77] (j + 1) = pad [.int .i64 77] j ++ [.int .i64 77]) := rfl
      go_wp2_with (at_builtin; refine wpList_append_stay _ rfl _ _ 22 rfl base 3 i0 (.int .i64 0) 1 8 Tryz.underlying22 ii iz0 iz1 iz2 rfl (by decide) _ _ _ rfl (hx.alloc _) ⟨wr.heap.size, 0, none⟩ 1 1 [.int .i64 77] rfl rfl ?c1 (int_one' 77) ?c3 ?c4 ?c5 (by decide) ?_)
      case c1 => exact one_new wr _ _
      case c3 => unfold maxLen; omega
      case c4 => omega
      case c5 => simp; omega
      intro v' w2 hrow' hgrow hstay hfr
      have hv2 : w2.ownsRow base 3 1 (.slice vo l.length vc) l.length (ints l) := by
        have hva := hv.alloc (.cells #[.int .i64 77] 3)
        have hxa := hx.alloc (.cells #[.int .i64 77] 3)
        by_cases hs : ∃ g, (Value.slice vo l.length vc).ownBlock = some g ∧ (Value.slice xo (l.length + j) xc).ownBlock = some g
        · obtain ⟨g, e1, e2⟩ := hs
          exact owns_pre (by decide) hva hxa e1 e2 hstay rfl
        · refine hva.kept hgrow ?_
          cases hb : (Value.slice vo l.length vc).ownBlock with
          | none => exact .inl rfl
          | some g => exact .inr (fun e => hs ⟨g, hb, e.symm⟩)
      have hk2 : Keep (fun g => (Value.slice vo l.length vc).ownBlock = some g) w w2 := (hk.alloc _).grown hgrow (fun g e => hne.out g e)
      have hne2 : Hid (∀ g, v'.ownBlock = some g → (Value.slice vo l.length vc).ownBlock = some g ∨ w.heap.size ≤ g) := fun g e => by
        rcases hfr g e with q | q
        · exact hne.out g q
        · right; (try simp at q); omega
      (try rw [List.append_assoc] at hrow')
      rw [← HP.out] at hrow'
      obtain ⟨xo', xc', rfl⟩ := owns_slice hrow'
      clear hgrow hstay hfr hx hv hk hne HP
      go_wp2
      go_roundw
      case rel => exact ⟨j + 1, by omega, by go_num, hv2, hrow', hne2, hk2⟩
      case measure => simp [intOf]; omega
    · go_wp2
      go_end0
      exact ⟨rfl, hv, hk⟩

end Go.Proofs.YtblhmeidbjigaabGreatDoor
