/- The law on programs: reading. -/
import Derived.Test.YtdjdjkgoelbbdaaPLawJToPLawM
import Derived.Test.YtdjdjkgoelbbdaaLawNToPDat
set_option linter.unusedSimpArgs false
set_option linter.unusedVariables false
namespace Go.Proofs.Ytdjdjkgoelbbdaa
open Go.RowKit

theorem Row.kept {S : Nat → Prop} {w w' : World} {g : Nat} {e : TypeId} {xs : List Value} (h : Row w g e xs) (hk : Keep S w w') (hn : ¬ S g) : Row w' g e xs := h.same (hk.block g h.lt hn)

theorem OwnBlocks.apartFrom {S : Nat → Prop} {w w' : World} {base : Nat} {v : Value} {bv : List (BlockD × Value)} (h : OwnBlocks w base v bv) (hk : Keep S w w') (hS : ∀ g, S g → g < base) : OwnBlocks w' base v bv := by
  have key : ∀ (e : TypeId) (sz : Nat) (u : Value) (n : Nat) (xs : List Value), w.ownsRow base e sz u n xs → w'.ownsRow base e sz u n xs := by
    intro e sz u n xs hu
    refine owns_same hu fun g hg => hk.block g (hu.lt g hg).2 (fun hs => ?_)
    have := hS g hs
    have := (hu.lt g hg).1
    omega
  exact ⟨key _ _ _ _ _ h.row, fun x hx => key _ _ _ _ _ (h.each x hx), h.apart⟩

/-- The blocks of memory that a program's lists lie in. -/
def bblk (v : Value) (bv : List (BlockD × Value)) (g : Nat) : Prop := v.ownBlock = some g ∨ ∃ x ∈ bv, x.2.ownBlock = some g

theorem bblk_lt {w : World} {base : Nat} {v : Value} {bv : List (BlockD × Value)} (h : OwnBlocks w base v bv) : ∀ g, bblk v bv g → base ≤ g ∧ g < w.heap.size := by
  rintro g (hg | ⟨x, hx, hg⟩)
  · exact h.row.lt g hg
  · exact (h.each x hx).lt g hg

theorem good_smallP {bv : List (BlockD × Value)} {p : ProgD} (hd : bdat bv = p.blocks) (hg : progGood p = true) : bv.length ≤ 1000 ∧ ∀ x ∈ bv, x.1.ops.length ≤ 1000 := by
  have h1 := progGood_len hg
  rw [← hd, bdat_length] at h1
  refine ⟨by omega, fun x hx => ?_⟩
  have := progGood_block hg x.1 (by rw [← hd]; exact List.mem_map.2 ⟨x, hx, rfl⟩)
  simp [blockGood] at this
  omega

set_option maxRecDepth 100000 in
set_option maxHeartbeats 8000000 in
theorem decoded_cps (s : ByteArray) (k : Int) (w : World) (hs : s.size ≤ maxLen) (hk : 0 ≤ k ∧ k ≤ 4611686018427387) (Post : Ending → World → Prop)
    (hpost : ∀ a0 a1 a2 a3 v bv w', OwnBlocks w' w.heap.size v bv → Below w.heap.size w w' → Post (.returned (.tuple #[.agg #[.int .i64 a0, .int .i64 a1, .int .i64 a2, .int .i64 a3, v], .bool true])) w') :
    Calls Try.prog 11 #[.string s, .int .i64 k] w Post := by
  have HP : Hid (∀ a0 a1 a2 a3 v bv w', OwnBlocks w' w.heap.size v bv → Below w.heap.size w w' → Post (.returned (.tuple #[.agg #[.int .i64 a0, .int .i64 a1, .int .i64 a2, .int .i64 a3, v], .bool true])) w') := hpost
  clear hpost
  have R0 : Row (w.alloc (.cells #[.int .i64 0, .int .i64 0, .int .i64 0, .int .i64 0, .slice none 0 0] 24)) w.heap.size 24 [.int .i64 0, .int .i64 0, .int .i64 0, .int .i64 0, .slice none 0 0] := heap_alloc_new w _
  go_enter Try.func11, Try.ntmps11
  go_wp2_with fail
  refine tDecode_cps s _ hs _ ?_ ?_
  · intro a0 a1 a2 a3 l v1 bv1 w1 own1 hd1 g1 ht1 hb1
    have hsm1 := good_smallP (p := ⟨a0, a1, a2, a3, l⟩) hd1 g1
    have hb1' : Below (w.heap.size + 1) (w.alloc (.cells #[.int .i64 0, .int .i64 0, .int .i64 0, .int .i64 0, .slice none 0 0] 24)) w1 := by simpa using hb1
    have hz1 := hb1'.size
    simp at hz1
    have R1 := R0.keep hb1
    have hb01 := Below.under hb1'
    have hzl : w.heap.size < w1.heap.size := by omega
    clear hb1
    obtain ⟨ao1, c1, rfl⟩ := owns_slice own1.row
    have own1 : OwnBlocks w1 (w.heap.size + 1) (.slice ao1 bv1.length c1) bv1 := by simpa using own1
    have V1 : Row (w1.alloc (.cells #[.int .i64 a0, .int .i64 a1, .int .i64 a2, .int .i64 a3, .slice ao1 bv1.length c1] 24)) w1.heap.size 24 [.int .i64 a0, .int .i64 a1, .int .i64 a2, .int .i64 a3, .slice ao1 bv1.length c1] := heap_alloc_new w1 _
    have hc := rDecode_any s (w1.alloc (.cells #[.int .i64 a0, .int .i64 a1, .int .i64 a2, .int .i64 a3, .slice ao1 bv1.length c1] 24)) hs
    go_wp2_with fail
    refine hc.mono ?_
    clear hc
    rintro e w2 ⟨hor, hb2⟩
    have V1 := V1.keep hb2
    have hb2' : Below (w1.heap.size + 1) (w1.alloc (.cells #[.int .i64 a0, .int .i64 a1, .int .i64 a2, .int .i64 a3, .slice ao1 bv1.length c1] 24)) w2 := by simpa using hb2
    clear hb2
    rcases hor with ⟨⟨b0, b1, b2, b3, l2⟩, v2, bv2, rfl, own2, hd2, g2, ht2⟩ | ⟨hno2, rfl⟩
    case inr => exact absurd ht1 (hno2 _ g1)
    obtain ⟨ao2, c2, rfl⟩ := owns_slice own2.row
    have own2 : OwnBlocks w2 (w1.heap.size + 1) (.slice ao2 bv2.length c2) bv2 := by simpa using own2
    have hsame := prog_one g1 g2 (ht1.trans ht2.symm)
    simp only [ProgD.mk.injEq] at hsame
    obtain ⟨rfl, rfl, rfl, rfl, rfl⟩ := hsame
    simp only at hd2
    clear ht1 ht2 g1 g2
    have hz2 := hb2'.size
    simp at hz2
    have hb12 := Below.under hb2'
    have R2 := R1.keep hb12
    have own1' := own1.below hb12 (Nat.le_refl _)
    have hzl2 : w1.heap.size < w2.heap.size := by omega
    have hzl3 : w.heap.size < w2.heap.size := by omega
    have hbA : Below w2.heap.size w2 (w2.alloc (.cells #[.int .i64 a0, .int .i64 a1, .int .i64 a2, .int .i64 a3, .slice ao2 bv2.length c2] 24)) := (Below.refl _ _).alloc (Nat.le_refl _) _
    have V2 : Row (w2.alloc (.cells #[.int .i64 a0, .int .i64 a1, .int .i64 a2, .int .i64 a3, .slice ao2 bv2.length c2] 24)) w2.heap.size 24 [.int .i64 a0, .int .i64 a1, .int .i64 a2, .int .i64 a3, .slice ao2 bv2.length c2] := heap_alloc_new w2 _
    have rd1 := (own1'.alloc (.cells #[.int .i64 a0, .int .i64 a1, .int .i64 a2, .int .i64 a3, .slice ao2 bv2.length c2] 24)).rd
    have rd2 := (own2.alloc (.cells #[.int .i64 a0, .int .i64 a1, .int .i64 a2, .int .i64 a3, .slice ao2 bv2.length c2] 24)).rd
    rw [hd1] at rd1
    rw [hd2] at rd2
    have x0 := V1.cell (i := 0) rfl
    have x1 := V1.cell (i := 1) rfl
    have x2 := V1.cell (i := 2) rfl
    have x3 := V1.cell (i := 3) rfl
    have x4 := V1.cell (i := 4) rfl
    unfold progV
    go_wp2_with fail
    refine (sameProg_any a0 a1 a2 a3 _ _ _ _ rd1 rd2).mono ?_
    rintro e w3 ⟨rfl, hb3⟩
    have V2 := V2.keep hb3
    have hb3' : Below (w2.heap.size + 1) (w2.alloc (.cells #[.int .i64 a0, .int .i64 a1, .int .i64 a2, .int .i64 a3, .slice ao2 bv2.length c2] 24)) w3 := by simpa using hb3
    clear hb3 rd1 rd2 hbA x0 x1 x2 x3 x4
    have hb23 := Below.under hb3'
    have hz3 := hb3'.size
    simp at hz3
    have V1 := V1.keep hb23
    have R3 := R2.keep hb23
    have o31 := own1'.below hb23 (Nat.le_refl _)
    have o32 := own2.below hb23 (Nat.le_refl _)
    have hS : ∀ g, bblk (.slice ao1 bv1.length c1) bv1 g → w.heap.size + 1 ≤ g ∧ g < w1.heap.size := fun g hg => bblk_lt own1 g hg
    have hSv : ∀ g, (Value.slice ao1 bv1.length c1).ownBlock = some g → bblk (.slice ao1 bv1.length c1) bv1 g := fun g hg => .inl hg
    have hSx : ∀ x ∈ (bv1 : List (BlockD × Value)), ∀ g, x.2.ownBlock = some g → bblk (.slice ao1 bv1.length c1) bv1 g := fun x hx g hg => .inr ⟨x, hx, hg⟩
    have hn1 : ¬ bblk (.slice ao1 bv1.length c1) bv1 w1.heap.size := fun h => by have := hS _ h; omega
    have hn2 : ¬ bblk (.slice ao1 bv1.length c1) bv1 w2.heap.size := fun h => by have := hS _ h; omega
    have hn0 : ¬ bblk (.slice ao1 bv1.length c1) bv1 w.heap.size := fun h => by have := hS _ h; omega
    have hbh := behindProg_any a0 a1 a2 a3 (.slice ao1 bv1.length c1) bv1 w3 (w.heap.size + 1) o31 (by omega) hsm1.1 hsm1.2 (bblk (.slice ao1 bv1.length c1) bv1) hSv hSx
    have x0 := V1.cell (i := 0) rfl
    have x1 := V1.cell (i := 1) rfl
    have x2 := V1.cell (i := 2) rfl
    have x3 := V1.cell (i := 3) rfl
    have x4 := V1.cell (i := 4) rfl
    go_wp2_with fail
    refine hbh.mono ?_
    clear hbh
    rintro e w4 ⟨rfl, o41, hk4⟩
    have V1 := V1.kept hk4 hn1
    have V2 := V2.kept hk4 hn2
    have R4 := R3.kept hk4 hn0
    have o42 := o32.apartFrom hk4 (fun g hg => by have := hS g hg; omega)
    have hz4 := hk4.size
    have rd1 := o41.rd
    have rd2 := o42.rd
    rw [hd1] at rd1
    rw [hd2] at rd2
    clear x0 x1 x2 x3 x4
    have x0 := V1.cell (i := 0) rfl
    have x1 := V1.cell (i := 1) rfl
    have x2 := V1.cell (i := 2) rfl
    have x3 := V1.cell (i := 3) rfl
    have x4 := V1.cell (i := 4) rfl
    have y0 := V2.cell (i := 0) rfl
    have y1 := V2.cell (i := 1) rfl
    have y2 := V2.cell (i := 2) rfl
    have y3 := V2.cell (i := 3) rfl
    have y4 := V2.cell (i := 4) rfl
    go_wp2_with fail
    refine (sameProg_any a0 a1 a2 a3 _ _ _ _ rd1 rd2).mono ?_
    rintro e w5 ⟨rfl, hb5⟩
    have V1 := V1.keep hb5
    have R5 := R4.keep hb5
    have o51 := o41.below hb5 (Nat.le_refl _)
    have hz5 := hb5.size
    have hoh := ownProg_any a0 a1 a2 a3 (.slice ao1 bv1.length c1) bv1 w5 (w.heap.size + 1) (77 + 100 * k) o51 (by omega) hsm1.1 hsm1.2 (by omega) (bblk (.slice ao1 bv1.length c1) bv1) hSv hSx
    clear rd1 rd2 x0 x1 x2 x3 x4 y0 y1 y2 y3 y4
    have x0 := V1.cell (i := 0) rfl
    have x1 := V1.cell (i := 1) rfl
    have x2 := V1.cell (i := 2) rfl
    have x3 := V1.cell (i := 3) rfl
    have x4 := V1.cell (i := 4) rfl
    go_wp2_with fail
    refine hoh.mono ?_
    clear hoh
    rintro e w6 ⟨rfl, ⟨bv6, o61⟩, hk6⟩
    have V1 := V1.kept hk6 hn1
    have R6 := R5.kept hk6 hn0
    have B3 := hb01.trans (hb12.mono (by omega)) |>.trans (hb23.mono (by omega))
    have B4 := B3.trans ((hk4.toBelow (B := w.heap.size) (by omega) (fun g hg => by have := hS g hg; omega)))
    have B6 := (B4.trans (hb5.mono (by omega))).trans ((hk6.toBelow (B := w.heap.size) (by omega) (fun g hg => by have := hS g hg; omega)))
    have hfin := HP.out a0 a1 a2 a3 (.slice ao1 bv1.length c1) bv6 (((((w6.setCell ⟨w.heap.size, 0, none⟩ (.int .i64 a0)).setCell ⟨w.heap.size, 1, none⟩ (.int .i64 a1)).setCell ⟨w.heap.size, 2, none⟩ (.int .i64 a2)).setCell ⟨w.heap.size, 3, none⟩ (.int .i64 a3)).setCell ⟨w.heap.size, 4, none⟩ (.slice ao1 bv1.length c1))
      ((((((o61.set (by simp) _).set (by simp) _).set (by simp) _).set (by simp) _).set (by simp) _).base (by omega)) (((((B6.setCell (by simp) _).setCell (by simp) _).setCell (by simp) _).setCell (by simp) _).setCell (by simp) _)
    clear hk6 hk4 o41 o42 o51 o61 o31 o32 own1 own2 own1' B3 B4 B6 HP hSv hSx x0 x1 x2 x3 x4
    have x0 := V1.cell (i := 0) rfl
    have x1 := V1.cell (i := 1) rfl
    have x2 := V1.cell (i := 2) rfl
    have x3 := V1.cell (i := 3) rfl
    have x4 := V1.cell (i := 4) rfl
    have r0 := R6.cell (i := 0) rfl
    have r1 := R6.cell (i := 1) rfl
    have r2 := R6.cell (i := 2) rfl
    have r3 := R6.cell (i := 3) rfl
    have r4 := R6.cell (i := 4) rfl
    have f0 := R6.frozen 0
    have f1 := R6.frozen 1
    have f2 := R6.frozen 2
    have f3 := R6.frozen 3
    have f4 := R6.frozen 4
    go_wp2
    exact bodyPost_ret (v := .tuple #[.agg #[.int .i64 a0, .int .i64 a1, .int .i64 a2, .int .i64 a3, .slice ao1 bv1.length c1], .bool true]) (by simp [results, Try.results11, go_sem, r0, r1, r2, r3, r4]) rfl hfin
  · intro w1 hno1 hb1
    have hsm1 : ([] : List (BlockD × Value)).length ≤ 1000 ∧ ∀ x ∈ ([] : List (BlockD × Value)), x.1.ops.length ≤ 1000 := ⟨by simp, fun x hx => by cases hx⟩
    have hd1 : bdat [] = [] := rfl
    have hb1' : Below (w.heap.size + 1) (w.alloc (.cells #[.int .i64 0, .int .i64 0, .int .i64 0, .int .i64 0, .slice none 0 0] 24)) w1 := by simpa using hb1
    have hz1 := hb1'.size
    simp at hz1
    have R1 := R0.keep hb1
    have hb01 := Below.under hb1'
    have hzl : w.heap.size < w1.heap.size := by omega
    clear hb1
    have own1 : OwnBlocks w1 (w.heap.size + 1) (.slice none 0 0) [] := ownBlocks_nil _ _
    have V1 : Row (w1.alloc (.cells #[.int .i64 0, .int .i64 0, .int .i64 0, .int .i64 0, .slice none 0 0] 24)) w1.heap.size 24 [.int .i64 0, .int .i64 0, .int .i64 0, .int .i64 0, .slice none 0 0] := heap_alloc_new w1 _
    have hc := rDecode_any s (w1.alloc (.cells #[.int .i64 0, .int .i64 0, .int .i64 0, .int .i64 0, .slice none 0 0] 24)) hs
    go_wp2_with fail
    refine hc.mono ?_
    clear hc
    rintro e w2 ⟨hor, hb2⟩
    have V1 := V1.keep hb2
    have hb2' : Below (w1.heap.size + 1) (w1.alloc (.cells #[.int .i64 0, .int .i64 0, .int .i64 0, .int .i64 0, .slice none 0 0] 24)) w2 := by simpa using hb2
    clear hb2
    rcases hor with ⟨p2, v2, bv2, rfl, own2, hd2, g2, ht2⟩ | ⟨hno2, rfl⟩
    case inl => exact absurd ht2 (hno1 _ g2)
    have own2 : OwnBlocks w2 (w1.heap.size + 1) (.slice none 0 0) [] := ownBlocks_nil _ _
    have hd2 : bdat [] = [] := rfl
    clear hno1 hno2
    have hz2 := hb2'.size
    simp at hz2
    have hb12 := Below.under hb2'
    have R2 := R1.keep hb12
    have own1' := own1.below hb12 (Nat.le_refl _)
    have hzl2 : w1.heap.size < w2.heap.size := by omega
    have hzl3 : w.heap.size < w2.heap.size := by omega
    have hbA : Below w2.heap.size w2 (w2.alloc (.cells #[.int .i64 0, .int .i64 0, .int .i64 0, .int .i64 0, .slice none 0 0] 24)) := (Below.refl _ _).alloc (Nat.le_refl _) _
    have V2 : Row (w2.alloc (.cells #[.int .i64 0, .int .i64 0, .int .i64 0, .int .i64 0, .slice none 0 0] 24)) w2.heap.size 24 [.int .i64 0, .int .i64 0, .int .i64 0, .int .i64 0, .slice none 0 0] := heap_alloc_new w2 _
    have rd1 := (own1'.alloc (.cells #[.int .i64 0, .int .i64 0, .int .i64 0, .int .i64 0, .slice none 0 0] 24)).rd
    have rd2 := (own2.alloc (.cells #[.int .i64 0, .int .i64 0, .int .i64 0, .int .i64 0, .slice none 0 0] 24)).rd
    have x0 := V1.cell (i := 0) rfl
    have x1 := V1.cell (i := 1) rfl
    have x2 := V1.cell (i := 2) rfl
    have x3 := V1.cell (i := 3) rfl
    have x4 := V1.cell (i := 4) rfl
    go_wp2_with fail
    refine (sameProg_any 0 0 0 0 _ _ _ _ rd1 rd2).mono ?_
    rintro e w3 ⟨rfl, hb3⟩
    have V2 := V2.keep hb3
    have hb3' : Below (w2.heap.size + 1) (w2.alloc (.cells #[.int .i64 0, .int .i64 0, .int .i64 0, .int .i64 0, .slice none 0 0] 24)) w3 := by simpa using hb3
    clear hb3 rd1 rd2 hbA x0 x1 x2 x3 x4
    have hb23 := Below.under hb3'
    have hz3 := hb3'.size
    simp at hz3
    have V1 := V1.keep hb23
    have R3 := R2.keep hb23
    have o31 := own1'.below hb23 (Nat.le_refl _)
    have o32 := own2.below hb23 (Nat.le_refl _)
    have hS : ∀ g, bblk (.slice none 0 0) [] g → w.heap.size + 1 ≤ g ∧ g < w1.heap.size := fun g hg => bblk_lt own1 g hg
    have hSv : ∀ g, (Value.slice none 0 0).ownBlock = some g → bblk (.slice none 0 0) [] g := fun g hg => .inl hg
    have hSx : ∀ x ∈ ([] : List (BlockD × Value)), ∀ g, x.2.ownBlock = some g → bblk (.slice none 0 0) [] g := fun x hx g hg => .inr ⟨x, hx, hg⟩
    have hn1 : ¬ bblk (.slice none 0 0) [] w1.heap.size := fun h => by have := hS _ h; omega
    have hn2 : ¬ bblk (.slice none 0 0) [] w2.heap.size := fun h => by have := hS _ h; omega
    have hn0 : ¬ bblk (.slice none 0 0) [] w.heap.size := fun h => by have := hS _ h; omega
    have hbh := behindProg_any 0 0 0 0 (.slice none 0 0) [] w3 (w.heap.size + 1) o31 (by omega) hsm1.1 hsm1.2 (bblk (.slice none 0 0) []) hSv hSx
    have x0 := V1.cell (i := 0) rfl
    have x1 := V1.cell (i := 1) rfl
    have x2 := V1.cell (i := 2) rfl
    have x3 := V1.cell (i := 3) rfl
    have x4 := V1.cell (i := 4) rfl
    go_wp2_with fail
    refine hbh.mono ?_
    clear hbh
    rintro e w4 ⟨rfl, o41, hk4⟩
    have V1 := V1.kept hk4 hn1
    have V2 := V2.kept hk4 hn2
    have R4 := R3.kept hk4 hn0
    have o42 := o32.apartFrom hk4 (fun g hg => by have := hS g hg; omega)
    have hz4 := hk4.size
    have rd1 := o41.rd
    have rd2 := o42.rd
    clear x0 x1 x2 x3 x4
    have x0 := V1.cell (i := 0) rfl
    have x1 := V1.cell (i := 1) rfl
    have x2 := V1.cell (i := 2) rfl
    have x3 := V1.cell (i := 3) rfl
    have x4 := V1.cell (i := 4) rfl
    have y0 := V2.cell (i := 0) rfl
    have y1 := V2.cell (i := 1) rfl
    have y2 := V2.cell (i := 2) rfl
    have y3 := V2.cell (i := 3) rfl
    have y4 := V2.cell (i := 4) rfl
    go_wp2_with fail
    refine (sameProg_any 0 0 0 0 _ _ _ _ rd1 rd2).mono ?_
    rintro e w5 ⟨rfl, hb5⟩
    have V1 := V1.keep hb5
    have R5 := R4.keep hb5
    have o51 := o41.below hb5 (Nat.le_refl _)
    have hz5 := hb5.size
    have hoh := ownProg_any 0 0 0 0 (.slice none 0 0) [] w5 (w.heap.size + 1) (77 + 100 * k) o51 (by omega) hsm1.1 hsm1.2 (by omega) (bblk (.slice none 0 0) []) hSv hSx
    clear rd1 rd2 x0 x1 x2 x3 x4 y0 y1 y2 y3 y4
    have x0 := V1.cell (i := 0) rfl
    have x1 := V1.cell (i := 1) rfl
    have x2 := V1.cell (i := 2) rfl
    have x3 := V1.cell (i := 3) rfl
    have x4 := V1.cell (i := 4) rfl
    go_wp2_with fail
    refine hoh.mono ?_
    clear hoh
    rintro e w6 ⟨rfl, ⟨bv6, o61⟩, hk6⟩
    have V1 := V1.kept hk6 hn1
    have R6 := R5.kept hk6 hn0
    have B3 := hb01.trans (hb12.mono (by omega)) |>.trans (hb23.mono (by omega))
    have B4 := B3.trans ((hk4.toBelow (B := w.heap.size) (by omega) (fun g hg => by have := hS g hg; omega)))
    have B6 := (B4.trans (hb5.mono (by omega))).trans ((hk6.toBelow (B := w.heap.size) (by omega) (fun g hg => by have := hS g hg; omega)))
    have hfin := HP.out 0 0 0 0 (.slice none 0 0) bv6 (((((w6.setCell ⟨w.heap.size, 0, none⟩ (.int .i64 0)).setCell ⟨w.heap.size, 1, none⟩ (.int .i64 0)).setCell ⟨w.heap.size, 2, none⟩ (.int .i64 0)).setCell ⟨w.heap.size, 3, none⟩ (.int .i64 0)).setCell ⟨w.heap.size, 4, none⟩ (.slice none 0 0))
      ((((((o61.set (by simp) _).set (by simp) _).set (by simp) _).set (by simp) _).set (by simp) _).base (by omega)) (((((B6.setCell (by simp) _).setCell (by simp) _).setCell (by simp) _).setCell (by simp) _).setCell (by simp) _)
    clear hk6 hk4 o41 o42 o51 o61 o31 o32 own1 own2 own1' B3 B4 B6 HP hSv hSx x0 x1 x2 x3 x4
    have x0 := V1.cell (i := 0) rfl
    have x1 := V1.cell (i := 1) rfl
    have x2 := V1.cell (i := 2) rfl
    have x3 := V1.cell (i := 3) rfl
    have x4 := V1.cell (i := 4) rfl
    have r0 := R6.cell (i := 0) rfl
    have r1 := R6.cell (i := 1) rfl
    have r2 := R6.cell (i := 2) rfl
    have r3 := R6.cell (i := 3) rfl
    have r4 := R6.cell (i := 4) rfl
    have f0 := R6.frozen 0
    have f1 := R6.frozen 1
    have f2 := R6.frozen 2
    have f3 := R6.frozen 3
    have f4 := R6.frozen 4
    go_wp2
    exact bodyPost_ret (v := .tuple #[.agg #[.int .i64 0, .int .i64 0, .int .i64 0, .int .i64 0, .slice none 0 0], .bool true]) (by simp [results, Try.results11, go_sem, r0, r1, r2, r3, r4]) rfl hfin

end Go.Proofs.Ytdjdjkgoelbbdaa
