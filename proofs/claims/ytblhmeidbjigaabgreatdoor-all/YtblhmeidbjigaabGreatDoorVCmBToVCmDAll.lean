/- Package compare: jumpTo, exitOf. -/
import Derived.Test.YtblhmeidbjigaabGreatDoorRows
import Derived.WalkKit
import Derived.WalkSpells
import Derived.WalkLawsBesides
import Derived.Laws.BytesArg
import Derived.Deep.QuietTactic
import Derived.BigQuiet
import Derived.Deep.RegionHeld3
import Derived.Lib.ItoaNum
import Derived.Lib.ItoaLen
import Derived.OpenShut
import Derived.Maps.AppendAt
import Derived.Shelf.Strconv.Itoa3
import Derived.Shelf.Lay
import Derived.Ground.NamesProg
import Derived.Lib.SmallJoins
import Derived.Lib.Hide
import Derived.StillTailTactics
import Derived.Test.YtblhmeidbjigaabGreatDoorCTrmToVCmAAll

set_option linter.unusedSimpArgs false
set_option linter.unusedVariables false
namespace Go.Proofs.YtblhmeidbjigaabGreatDoor
open Go.RowKit

/-- Seven cells of a block are set. -/
def sevn (w : World) (g : Nat) (a b c d e f h : Value) : World :=
  ((((((w.setCell ⟨g, 0, none⟩ a).setCell ⟨g, 1, none⟩ b).setCell ⟨g, 2, none⟩ c).setCell ⟨g, 3, none⟩ d).setCell ⟨g, 4, none⟩ e).setCell ⟨g, 5, none⟩ f).setCell ⟨g, 6, none⟩ h

theorem sevn_below {w0 w : World} (h : Below w0.heap.size w0 w) {g : Nat} (hg : w0.heap.size ≤ g) (a b c d e f i : Value) : Below w0.heap.size w0 (sevn w g a b c d e f i) :=
  cbelow_set (cbelow_set (cbelow_set (cbelow_set (cbelow_set (cbelow_set (cbelow_set h hg _) hg _) hg _) hg _) hg _) hg _) hg _

theorem cell_sevn {w : World} {g b o : Nat} (hb : b ≠ g) {v : Value} (h : w.cell? ⟨b, o, none⟩ = some v) (x0 x1 x2 x3 x4 x5 x6 : Value) : (sevn w g x0 x1 x2 x3 x4 x5 x6).cell? ⟨b, o, none⟩ = some v := by
  have one : ∀ {V : World} (i : Nat) (u : Value), V.cell? ⟨b, o, none⟩ = some v → (V.setCell ⟨g, i, none⟩ u).cell? ⟨b, o, none⟩ = some v := fun i u h => by
    exact ((Keep.refl (fun k => k = g) _).setCell (p := ⟨g, i, none⟩) (.inl rfl) u).cell hb h
  exact one _ _ (one _ _ (one _ _ (one _ _ (one _ _ (one _ _ (one _ _ h))))))

set_option maxRecDepth 100000 in
set_option maxHeartbeats 2000000 in
theorem vJump_cps (x : Int) (w : World) (Post : Ending → World → Prop)
    (hp : ∀ g w', w.heap.size ≤ g → w'.cell? ⟨g, 0, none⟩ = some (.int .i64 x) → Below w.heap.size w w' → Post (.returned (.agg #[.int .i64 1, .int .i64 0, .int .i64 0, .slice none 0 0, .int .i64 0, .string ⟨#[]⟩, .slice (some ⟨g, 0, none⟩) 1 1])) w') :
    Calls Tryz.prog 165 #[.int .i64 x] w Post := by
  have rn : Row ((w.alloc (.cells #[.int .i64 1, .int .i64 0, .int .i64 0, .slice none 0 0, .int .i64 0, .string ⟨#[]⟩, .slice (some ⟨w.heap.size + 1, 0, none⟩) 1 1] 186)).alloc (.cells #[.int .i64 x] 3)) (w.heap.size + 1) 3 [.int .i64 x] := heap_alloc2_new w _ _
  have hb : Below w.heap.size w ((w.alloc (.cells #[.int .i64 1, .int .i64 0, .int .i64 0, .slice none 0 0, .int .i64 0, .string ⟨#[]⟩, .slice (some ⟨w.heap.size + 1, 0, none⟩) 1 1] 186)).alloc (.cells #[.int .i64 x] 3)) := ((Below.refl _ _).alloc (Nat.le_refl _) _).alloc (by simp) _
  have HF := Lib.hid (hp (w.heap.size + 1) _ (by omega) (rn.cell (i := 0) rfl) hb)
  clear hp rn hb
  go_enter Tryz.func165, Tryz.ntmps165
  go_wp2
  (try simp only [Exit.inBlock, Exit.then])
  refine bodyPost_ret (v := .agg #[.int .i64 1, .int .i64 0, .int .i64 0, .slice none 0 0, .int .i64 0, .string ⟨#[]⟩, .slice (some ⟨w.heap.size + 1, 0, none⟩) 1 1]) ?_ rfl ?_
  · simp [results, Tryz.results165, go_sem]
  · exact HF.out

set_option maxRecDepth 100000 in
set_option maxHeartbeats 4000000 in
theorem vExit_cps {P n : Nat} {f : Nat → TD} {ps : Nat → Value} (cap : Nat) (ck cv cs rg dt : Int) (co mo : Option Addr) (cn cc mn mc : Nat) (ct : ByteArray) (big : Bool) (e : EndD) (r : Nat) (hr : e.r = r) (hrn : r < n) (hk : e.kind = 1 ∨ e.kind = 2 ∨ e.kind = 3) (hn : n ≤ 1000) (was : Int → TD) (hw : f r = was r) (hf : (was r).fine) (w : World) (hpl : PlAt w P n f ps) (hps : ∃ o a c, ps r = .slice o a c) (Post : Ending → World → Prop)
    (hp : ∀ v w', ExAt w.heap.size w' v (exitD was e) → Below w.heap.size w w' → Post (.returned v) w') :
    Calls Tryz.prog 135 #[.agg #[.slice (some ⟨P, 0, none⟩) n cap, .int .i64 ck, .int .i64 cv, .slice co cn cc, .int .i64 cs, .string ct, .slice mo mn mc, .bool big, .int .i64 rg, .int .i64 dt], .agg #[.int .i64 e.kind, .int .i64 e.r, .int .i64 e.x, .int .i64 e.y]] w Post := by
  obtain ⟨to, tn, tc, hpt⟩ := hps
  obtain ⟨t, ht⟩ : ∃ t, was r = t := ⟨_, rfl⟩
  obtain ⟨ek, er, ex, ey⟩ := e
  simp only at hr hk
  subst hr
  have hb3 : Below w.heap.size w (((w.alloc (.cells #[.slice (some ⟨P, 0, none⟩) n cap, .int .i64 ck, .int .i64 cv, .slice co cn cc, .int .i64 cs, .string ct, .slice mo mn mc, .bool big, .int .i64 rg, .int .i64 dt] 181)).alloc (.cells #[.int .i64 ek, .int .i64 (r : Int), .int .i64 ex, .int .i64 ey] 40)).alloc (.cells #[.int .i64 0, .int .i64 0, .int .i64 0, .slice none 0 0, .int .i64 0, .string ⟨#[]⟩, .slice none 0 0] 186)) := (((Below.refl _ _).alloc (Nat.le_refl _) _).alloc (by simp) _).alloc (by simp; omega) _
  have rs : Row (((w.alloc (.cells #[.slice (some ⟨P, 0, none⟩) n cap, .int .i64 ck, .int .i64 cv, .slice co cn cc, .int .i64 cs, .string ct, .slice mo mn mc, .bool big, .int .i64 rg, .int .i64 dt] 181)).alloc (.cells #[.int .i64 ek, .int .i64 (r : Int), .int .i64 ex, .int .i64 ey] 40)).alloc (.cells #[.int .i64 0, .int .i64 0, .int .i64 0, .slice none 0 0, .int .i64 0, .string ⟨#[]⟩, .slice none 0 0] 186)) w.heap.size 181 [.slice (some ⟨P, 0, none⟩) n cap, .int .i64 ck, .int .i64 cv, .slice co cn cc, .int .i64 cs, .string ct, .slice mo mn mc, .bool big, .int .i64 rg, .int .i64 dt] := Row.alloc (Row.alloc (heap_alloc_new w _) _) _
  have re : Row (((w.alloc (.cells #[.slice (some ⟨P, 0, none⟩) n cap, .int .i64 ck, .int .i64 cv, .slice co cn cc, .int .i64 cs, .string ct, .slice mo mn mc, .bool big, .int .i64 rg, .int .i64 dt] 181)).alloc (.cells #[.int .i64 ek, .int .i64 (r : Int), .int .i64 ex, .int .i64 ey] 40)).alloc (.cells #[.int .i64 0, .int .i64 0, .int .i64 0, .slice none 0 0, .int .i64 0, .string ⟨#[]⟩, .slice none 0 0] 186)) (w.heap.size + 1) 40 [.int .i64 ek, .int .i64 (r : Int), .int .i64 ex, .int .i64 ey] := Row.alloc (heap_alloc2_new w _ _) _
  have rG : Row (((w.alloc (.cells #[.slice (some ⟨P, 0, none⟩) n cap, .int .i64 ck, .int .i64 cv, .slice co cn cc, .int .i64 cs, .string ct, .slice mo mn mc, .bool big, .int .i64 rg, .int .i64 dt] 181)).alloc (.cells #[.int .i64 ek, .int .i64 (r : Int), .int .i64 ex, .int .i64 ey] 40)).alloc (.cells #[.int .i64 0, .int .i64 0, .int .i64 0, .slice none 0 0, .int .i64 0, .string ⟨#[]⟩, .slice none 0 0] 186)) (w.heap.size + 1 + 1) 186 [.int .i64 0, .int .i64 0, .int .i64 0, .slice none 0 0, .int .i64 0, .string ⟨#[]⟩, .slice none 0 0] := by
    have := heap_alloc_new ((w.alloc (.cells #[.slice (some ⟨P, 0, none⟩) n cap, .int .i64 ck, .int .i64 cv, .slice co cn cc, .int .i64 cs, .string ct, .slice mo mn mc, .bool big, .int .i64 rg, .int .i64 dt] 181)).alloc (.cells #[.int .i64 ek, .int .i64 (r : Int), .int .i64 ex, .int .i64 ey] 40)) (.cells #[.int .i64 0, .int .i64 0, .int .i64 0, .slice none 0 0, .int .i64 0, .string ⟨#[]⟩, .slice none 0 0] 186)
    simp only [World.size_alloc] at this
    exact this
  have pl3 := hpl.keep hb3
  have plc : ∀ j u, (tcells t (.slice to tn tc))[j]? = some u → (((w.alloc (.cells #[.slice (some ⟨P, 0, none⟩) n cap, .int .i64 ck, .int .i64 cv, .slice co cn cc, .int .i64 cs, .string ct, .slice mo mn mc, .bool big, .int .i64 rg, .int .i64 dt] 181)).alloc (.cells #[.int .i64 ek, .int .i64 (r : Int), .int .i64 ex, .int .i64 ey] 40)).alloc (.cells #[.int .i64 0, .int .i64 0, .int .i64 0, .slice none 0 0, .int .i64 0, .string ⟨#[]⟩, .slice none 0 0] 186)).cell? ⟨P, r * 5 + j, none⟩ = some u := fun j u hj => pl3.cell hrn (by rw [hpt, hw, ht]; exact hj)
  have s0 := plc 0 _ rfl
  have s1 := plc 1 _ rfl
  have s2 := plc 2 _ rfl
  have s3 := plc 3 _ rfl
  have s4 := plc 4 _ rfl
  rw [Nat.add_zero] at s0
  have hri : (0 : Int) ≤ (r : Int) := by omega
  have hrj : (r : Int) < (n : Int) := by omega
  obtain ⟨W, hW⟩ : ∃ W, W = (((w.alloc (.cells #[.slice (some ⟨P, 0, none⟩) n cap, .int .i64 ck, .int .i64 cv, .slice co cn cc, .int .i64 cs, .string ct, .slice mo mn mc, .bool big, .int .i64 rg, .int .i64 dt] 181)).alloc (.cells #[.int .i64 ek, .int .i64 (r : Int), .int .i64 ex, .int .i64 ey] 40)).alloc (.cells #[.int .i64 0, .int .i64 0, .int .i64 0, .slice none 0 0, .int .i64 0, .string ⟨#[]⟩, .slice none 0 0] 186)) := ⟨_, rfl⟩
  have hz : W.heap.size = w.heap.size + 3 := by rw [hW]; simp
  have b4 : Below W.heap.size W (W.alloc (.cells #[.int .i64 (ckind t), .int .i64 (cval t), (.slice to tn tc), .int .i64 (t).size, .string (str (showT t))] 179)) := (Below.refl _ _).alloc (Nat.le_refl _) _
  have q1 := cNum_any (by rw [← ht]; exact hf : t.fine) (.slice to tn tc) (W.alloc (.cells #[.int .i64 (ckind t), .int .i64 (cval t), (.slice to tn tc), .int .i64 (t).size, .string (str (showT t))] 179))
  have HB3 := Lib.hid hb3
  have HRE := Lib.hid re
  have HRG := Lib.hid rG
  rw [← hW] at HB3 HRE HRG
  have ru : Row (W.alloc (.cells #[.int .i64 (ckind t), .int .i64 (cval t), (.slice to tn tc), .int .i64 (t).size, .string (str (showT t))] 179)) W.heap.size 179 (tcells t (.slice to tn tc)) := heap_alloc_new W _
  have HRU := Lib.hid ru
  have HB4 := Lib.hid b4
  rw [hW] at q1
  have HWE := Lib.hid hW
  have HZ := Lib.hid hz
  have HX : Hid (∀ v w', ExAt w.heap.size w' v (exitD was ⟨ek, r, ex, ey⟩) → Below w.heap.size w w' → Post (.returned v) w') := hp
  have HD : Hid (exitD was ⟨ek, r, ex, ey⟩ = if ek = 3 then ⟨3, some t, []⟩ else if ek = 1 then ⟨1, none, [ex]⟩ else match t.isNum with | none => ⟨2, some t, [ex, ey]⟩ | some n => if n = 0 then ⟨1, none, [ey]⟩ else ⟨1, none, [ex]⟩) := by
    show exitD was ⟨ek, r, ex, ey⟩ = _
    subst ht
    rfl
  have HT := Lib.hid ht
  have hnum : t.isNum = if t.isNum.isSome then some (numOf t) else none := by
    unfold numOf; cases t.isNum <;> simp
  have HNUM := Lib.hid hnum
  unfold termV at q1
  clear hp hb3 rs re rG pl3 plc hW hz b4 ru hpl hpt hw hf ht hnum
  have e1 : (((w.alloc (.cells #[.slice (some ⟨P, 0, none⟩) n cap, .int .i64 ck, .int .i64 cv, .slice co cn cc, .int .i64 cs, .string ct, .slice mo mn mc, .bool big, .int .i64 rg, .int .i64 dt] 181)).alloc (.cells #[.int .i64 ek, .int .i64 (r : Int), .int .i64 ex, .int .i64 ey] 40)).alloc (.cells #[.int .i64 0, .int .i64 0, .int .i64 0, .slice none 0 0, .int .i64 0, .string ⟨#[]⟩, .slice none 0 0] 186)).cell? ⟨w.heap.size, 0, none⟩ = some (.slice (some ⟨P, 0, none⟩) n cap) := by
    rw [← HWE.out, HWE.out]
    exact (Row.alloc (Row.alloc (heap_alloc_new w (.cells #[.slice (some ⟨P, 0, none⟩) n cap, .int .i64 ck, .int .i64 cv, .slice co cn cc, .int .i64 cs, .string ct, .slice mo mn mc, .bool big, .int .i64 rg, .int .i64 dt] 181)) _) _).cell (xs := [.slice (some ⟨P, 0, none⟩) n cap, .int .i64 ck, .int .i64 cv, .slice co cn cc, .int .i64 cs, .string ct, .slice mo mn mc, .bool big, .int .i64 rg, .int .i64 dt]) (i := 0) rfl
  have e2 := HRE.out.cell (i := 1) rfl
  rw [HWE.out] at e2
  go_enter Tryz.func135, Tryz.ntmps135
  go_wp2_with fail
  refine q1.mono ?_
  rintro e w1 ⟨rfl, b1⟩
  rw [← HWE.out] at b1
  have b2 : Below W.heap.size W w1 := HB4.out.trans (b1.mono HB4.out.size)
  have hb1 : Below w.heap.size w w1 := HB3.out.trans (b2.mono HB3.out.size)
  have re1 := HRE.out.keep b2
  have rg1 := HRG.out.keep b2
  have ru1 := HRU.out.keep b1
  have hzz := HZ.out
  have x0 := re1.cell (i := 0) rfl
  have x2 := re1.cell (i := 2) rfl
  have x3 := re1.cell (i := 3) rfl
  rw [hzz, show w.heap.size + 3 = w.heap.size + 1 + 1 + 1 from rfl] at ru1
  have u0 := ru1.cell (i := 0) rfl
  have u1 := ru1.cell (i := 1) rfl
  have u2 := ru1.cell (i := 2) rfl
  have u3 := ru1.cell (i := 3) rfl
  have u4 := ru1.cell (i := 4) rfl
  rcases hk with rfl | rfl | rfl
  · have qj := fun P' => vJump_cps ex w1 P'
    have HY : Hid (∀ g w', w1.heap.size ≤ g → w'.cell? ⟨g, 0, none⟩ = some (.int .i64 ex) → Below w1.heap.size w1 w' → Post (.returned (.agg #[.int .i64 1, .int .i64 0, .int .i64 0, .slice none 0 0, .int .i64 0, .string ⟨#[]⟩, .slice (some ⟨g, 0, none⟩) 1 1])) (sevn w' (w.heap.size + 1 + 1) (.int .i64 1) (.int .i64 0) (.int .i64 0) (.slice none 0 0) (.int .i64 0) (.string ⟨#[]⟩) (.slice (some ⟨g, 0, none⟩) 1 1))) := by
      intro g w' hg hc hb'
      refine HX.out _ _ ?_ (sevn_below (hb1.trans (hb'.mono hb1.size)) (by omega) _ _ _ _ _ _ _)
      rw [HD.out]
      rw [if_neg (show ¬ (1 : Int) = 3 by omega), if_pos rfl]
      exact ⟨_, _, _, _, _, _, _, rfl, words_one (cell_sevn (by have := b2.size; omega) hc _ _ _ _ _ _ _), fun o n c e => by
        simp only [Value.slice.injEq, Option.some.injEq] at e
        obtain ⟨rfl, _⟩ := e
        exact Nat.le_trans hb1.size hg⟩
    have HRG1 := Lib.hid rg1
    clear HX HD rg1 re1 ru1 b1 hb1 HRU HB4 q1
    go_wp2_with fail
    refine qj _ ?_
    intro g w2 hg hc hb2
    have rg2 := HRG1.out.keep hb2
    have HF := Lib.hid (HY.out g w2 hg hc hb2)
    unfold sevn at HF
    have z0 := rg2.cell (i := 0) rfl
    have f0 := rg2.frozen 0
    have z1 := rg2.cell (i := 1) rfl
    have f1 := rg2.frozen 1
    have z2 := rg2.cell (i := 2) rfl
    have f2 := rg2.frozen 2
    have z3 := rg2.cell (i := 3) rfl
    have f3 := rg2.frozen 3
    have z4 := rg2.cell (i := 4) rfl
    have f4 := rg2.frozen 4
    have z5 := rg2.cell (i := 5) rfl
    have f5 := rg2.frozen 5
    have z6 := rg2.cell (i := 6) rfl
    have f6 := rg2.frozen 6
    clear qj hg hc hb2 rg2 HY HRG1
    go_wp2
    (try simp only [Exit.inBlock, Exit.then])
    refine bodyPost_ret (v := .agg #[.int .i64 1, .int .i64 0, .int .i64 0, .slice none 0 0, .int .i64 0, .string ⟨#[]⟩, .slice (some ⟨g, 0, none⟩) 1 1]) ?_ rfl ?_
    · simp [results, Tryz.results135, go_sem, z0, z1, z2, z3, z4, z5, z6]
    · exact HF.out
  · cases hz : t.isNum.isSome with
    | false =>
      have hnone : t.isNum = none := by cases hq : t.isNum <;> simp [hq] at hz ⊢
      have bN : Below w1.heap.size w1 (w1.alloc (.cells #[.int .i64 ex, .int .i64 ey] 3)) := (Below.refl _ _).alloc (Nat.le_refl _) _
      have rN : Row (w1.alloc (.cells #[.int .i64 ex, .int .i64 ey] 3)) w1.heap.size 3 [.int .i64 ex, .int .i64 ey] := heap_alloc_new w1 _
      have rg2 := rg1.keep bN
      have HF : Hid (Post (.returned (.agg #[.int .i64 2, .int .i64 (ckind t), .int .i64 (cval t), (.slice to tn tc), .int .i64 t.size, .string (str (showT t)), .slice (some ⟨w1.heap.size, 0, none⟩) 2 2])) (sevn (w1.alloc (.cells #[.int .i64 ex, .int .i64 ey] 3)) (w.heap.size + 1 + 1) (.int .i64 2) (.int .i64 (ckind t)) (.int .i64 (cval t)) (.slice to tn tc) (.int .i64 t.size) (.string (str (showT t))) (.slice (some ⟨w1.heap.size, 0, none⟩) 2 2))) := by
        refine HX.out _ _ ?_ (sevn_below (hb1.trans (bN.mono hb1.size)) (by omega) _ _ _ _ _ _ _)
        rw [HD.out, if_neg (show ¬ (2 : Int) = 3 by omega), if_neg (show ¬ (2 : Int) = 1 by omega), hnone]
        have hne : w1.heap.size ≠ w.heap.size + 1 + 1 := by have := b2.size; omega
        exact ⟨_, _, _, _, _, _, _, rfl, words_two (cell_sevn hne (rN.cell (i := 0) rfl) _ _ _ _ _ _ _) (cell_sevn hne (rN.cell (i := 1) rfl) _ _ _ _ _ _ _), fun o n c e => by
          simp only [Value.slice.injEq, Option.some.injEq] at e
          obtain ⟨rfl, _⟩ := e
          exact hb1.size⟩
      unfold sevn at HF
      have z0 := rg2.cell (i := 0) rfl
      have f0 := rg2.frozen 0
      have z1 := rg2.cell (i := 1) rfl
      have f1 := rg2.frozen 1
      have z2 := rg2.cell (i := 2) rfl
      have f2 := rg2.frozen 2
      have z3 := rg2.cell (i := 3) rfl
      have f3 := rg2.frozen 3
      have z4 := rg2.cell (i := 4) rfl
      have f4 := rg2.frozen 4
      have z5 := rg2.cell (i := 5) rfl
      have f5 := rg2.frozen 5
      have z6 := rg2.cell (i := 6) rfl
      have f6 := rg2.frozen 6
      clear HX HD rg1 rg2 re1 ru1 b1 hb1 HRU HB4 q1 bN rN hnone
      go_wp2
      (try simp only [Exit.inBlock, Exit.then])
      refine bodyPost_ret (v := .agg #[.int .i64 2, .int .i64 (ckind t), .int .i64 (cval t), (.slice to tn tc), .int .i64 t.size, .string (str (showT t)), .slice (some ⟨w1.heap.size, 0, none⟩) 2 2]) ?_ rfl ?_
      · simp [results, Tryz.results135, go_sem, z0, z1, z2, z3, z4, z5, z6]
      · exact HF.out
    | true =>
      have hsome : t.isNum = some (numOf t) := by
        have := HNUM.out
        rw [hz, if_pos rfl] at this
        exact this
      by_cases hn0 : numOf t = 0
      · have hq0 : (numOf t == 0) = true := by simp [hn0]
        have qj := fun P' => vJump_cps ey w1 P'
        have HY : Hid (∀ g w', w1.heap.size ≤ g → w'.cell? ⟨g, 0, none⟩ = some (.int .i64 ey) → Below w1.heap.size w1 w' → Post (.returned (.agg #[.int .i64 1, .int .i64 0, .int .i64 0, .slice none 0 0, .int .i64 0, .string ⟨#[]⟩, .slice (some ⟨g, 0, none⟩) 1 1])) (sevn w' (w.heap.size + 1 + 1) (.int .i64 1) (.int .i64 0) (.int .i64 0) (.slice none 0 0) (.int .i64 0) (.string ⟨#[]⟩) (.slice (some ⟨g, 0, none⟩) 1 1))) := by
          intro g w' hg hc hb'
          refine HX.out _ _ ?_ (sevn_below (hb1.trans (hb'.mono hb1.size)) (by omega) _ _ _ _ _ _ _)
          rw [HD.out]
          rw [if_neg (show ¬ (2 : Int) = 3 by omega), if_neg (show ¬ (2 : Int) = 1 by omega), hsome]; simp only; rw [if_pos hn0]
          exact ⟨_, _, _, _, _, _, _, rfl, words_one (cell_sevn (by have := b2.size; omega) hc _ _ _ _ _ _ _), fun o n c e => by
            simp only [Value.slice.injEq, Option.some.injEq] at e
            obtain ⟨rfl, _⟩ := e
            exact Nat.le_trans hb1.size hg⟩
        have HRG1 := Lib.hid rg1
        clear HX HD rg1 re1 ru1 b1 hb1 HRU HB4 q1
        go_wp2_with fail
        refine qj _ ?_
        intro g w2 hg hc hb2
        have rg2 := HRG1.out.keep hb2
        have HF := Lib.hid (HY.out g w2 hg hc hb2)
        unfold sevn at HF
        have z0 := rg2.cell (i := 0) rfl
        have f0 := rg2.frozen 0
        have z1 := rg2.cell (i := 1) rfl
        have f1 := rg2.frozen 1
        have z2 := rg2.cell (i := 2) rfl
        have f2 := rg2.frozen 2
        have z3 := rg2.cell (i := 3) rfl
        have f3 := rg2.frozen 3
        have z4 := rg2.cell (i := 4) rfl
        have f4 := rg2.frozen 4
        have z5 := rg2.cell (i := 5) rfl
        have f5 := rg2.frozen 5
        have z6 := rg2.cell (i := 6) rfl
        have f6 := rg2.frozen 6
        clear qj hg hc hb2 rg2 HY HRG1
        go_wp2
        (try simp only [Exit.inBlock, Exit.then])
        refine bodyPost_ret (v := .agg #[.int .i64 1, .int .i64 0, .int .i64 0, .slice none 0 0, .int .i64 0, .string ⟨#[]⟩, .slice (some ⟨g, 0, none⟩) 1 1]) ?_ rfl ?_
        · simp [results, Tryz.results135, go_sem, z0, z1, z2, z3, z4, z5, z6]
        · exact HF.out
      · have hq0 : (numOf t == 0) = false := by simp [hn0]
        have qj := fun P' => vJump_cps ex w1 P'
        have HY : Hid (∀ g w', w1.heap.size ≤ g → w'.cell? ⟨g, 0, none⟩ = some (.int .i64 ex) → Below w1.heap.size w1 w' → Post (.returned (.agg #[.int .i64 1, .int .i64 0, .int .i64 0, .slice none 0 0, .int .i64 0, .string ⟨#[]⟩, .slice (some ⟨g, 0, none⟩) 1 1])) (sevn w' (w.heap.size + 1 + 1) (.int .i64 1) (.int .i64 0) (.int .i64 0) (.slice none 0 0) (.int .i64 0) (.string ⟨#[]⟩) (.slice (some ⟨g, 0, none⟩) 1 1))) := by
          intro g w' hg hc hb'
          refine HX.out _ _ ?_ (sevn_below (hb1.trans (hb'.mono hb1.size)) (by omega) _ _ _ _ _ _ _)
          rw [HD.out]
          rw [if_neg (show ¬ (2 : Int) = 3 by omega), if_neg (show ¬ (2 : Int) = 1 by omega), hsome]; simp only; rw [if_neg hn0]
          exact ⟨_, _, _, _, _, _, _, rfl, words_one (cell_sevn (by have := b2.size; omega) hc _ _ _ _ _ _ _), fun o n c e => by
            simp only [Value.slice.injEq, Option.some.injEq] at e
            obtain ⟨rfl, _⟩ := e
            exact Nat.le_trans hb1.size hg⟩
        have HRG1 := Lib.hid rg1
        clear HX HD rg1 re1 ru1 b1 hb1 HRU HB4 q1
        go_wp2_with fail
        refine qj _ ?_
        intro g w2 hg hc hb2
        have rg2 := HRG1.out.keep hb2
        have HF := Lib.hid (HY.out g w2 hg hc hb2)
        unfold sevn at HF
        have z0 := rg2.cell (i := 0) rfl
        have f0 := rg2.frozen 0
        have z1 := rg2.cell (i := 1) rfl
        have f1 := rg2.frozen 1
        have z2 := rg2.cell (i := 2) rfl
        have f2 := rg2.frozen 2
        have z3 := rg2.cell (i := 3) rfl
        have f3 := rg2.frozen 3
        have z4 := rg2.cell (i := 4) rfl
        have f4 := rg2.frozen 4
        have z5 := rg2.cell (i := 5) rfl
        have f5 := rg2.frozen 5
        have z6 := rg2.cell (i := 6) rfl
        have f6 := rg2.frozen 6
        clear qj hg hc hb2 rg2 HY HRG1
        go_wp2
        (try simp only [Exit.inBlock, Exit.then])
        refine bodyPost_ret (v := .agg #[.int .i64 1, .int .i64 0, .int .i64 0, .slice none 0 0, .int .i64 0, .string ⟨#[]⟩, .slice (some ⟨g, 0, none⟩) 1 1]) ?_ rfl ?_
        · simp [results, Tryz.results135, go_sem, z0, z1, z2, z3, z4, z5, z6]
        · exact HF.out
  · have HF : Hid (Post (.returned (.agg #[.int .i64 3, .int .i64 (ckind t), .int .i64 (cval t), (.slice to tn tc), .int .i64 t.size, .string (str (showT t)), .slice none 0 0])) (sevn w1 (w.heap.size + 1 + 1) (.int .i64 3) (.int .i64 (ckind t)) (.int .i64 (cval t)) (.slice to tn tc) (.int .i64 t.size) (.string (str (showT t))) (.slice none 0 0))) := by
      refine HX.out _ _ ?_ (sevn_below hb1 (by omega) _ _ _ _ _ _ _)
      rw [HD.out, if_pos rfl]
      exact ⟨_, _, _, _, _, _, _, rfl, words_nil _, fun o n c e => by simp at e⟩
    unfold sevn at HF
    have z0 := rg1.cell (i := 0) rfl
    have f0 := rg1.frozen 0
    have z1 := rg1.cell (i := 1) rfl
    have f1 := rg1.frozen 1
    have z2 := rg1.cell (i := 2) rfl
    have f2 := rg1.frozen 2
    have z3 := rg1.cell (i := 3) rfl
    have f3 := rg1.frozen 3
    have z4 := rg1.cell (i := 4) rfl
    have f4 := rg1.frozen 4
    have z5 := rg1.cell (i := 5) rfl
    have f5 := rg1.frozen 5
    have z6 := rg1.cell (i := 6) rfl
    have f6 := rg1.frozen 6
    clear HX HD rg1 re1 ru1 b1 hb1 HRU HB4 q1
    go_wp2
    (try simp only [Exit.inBlock, Exit.then])
    refine bodyPost_ret (v := .agg #[.int .i64 3, .int .i64 (ckind t), .int .i64 (cval t), (.slice to tn tc), .int .i64 t.size, .string (str (showT t)), .slice none 0 0]) ?_ rfl ?_
    · simp [results, Tryz.results135, go_sem, z0, z1, z2, z3, z4, z5, z6]
    · exact HF.out

end Go.Proofs.YtblhmeidbjigaabGreatDoor

/- Package compare: do the pairs hold? -/
set_option linter.unusedSimpArgs false
set_option linter.unusedVariables false
namespace Go.Proofs.YtblhmeidbjigaabGreatDoor
open Go.RowKit

/-- Terms side by side that are read: by place a term, its parts' list a slice. -/
structure Tms (w : World) (P n : Nat) (was : Int → TD) : Prop where
  ex : ∃ f ps, PlAt w P n f ps ∧ (∀ i, i < n → f i = was (i : Int)) ∧ (∀ i, i < n → ∃ o a c, ps i = .slice o a c)

theorem Tms.keep {w w' : World} {P n : Nat} {was : Int → TD} (h : Tms w P n was) (hb : Below w.heap.size w w') : Tms w' P n was :=
  let ⟨f, ps, h1, h2, h3⟩ := h.ex
  ⟨f, ps, h1.keep hb, h2, h3⟩

theorem Tms.at {w : World} {P n : Nat} {was : Int → TD} (h : Tms w P n was) {i : Nat} (hi : i < n) : ∃ o a c, ∀ j u, (tcells (was (i : Int)) (.slice o a c))[j]? = some u → w.cell? ⟨P, i * 5 + j, none⟩ = some u := by
  obtain ⟨f, ps, h1, h2, h3⟩ := h.ex
  obtain ⟨o, a, c, hp⟩ := h3 i hi
  exact ⟨o, a, c, fun j u hj => h1.cell hi (by rw [h2 i hi, hp]; exact hj)⟩

set_option maxRecDepth 100000 in
set_option maxHeartbeats 4000000 in
theorem vKept_any {P1 n1 P2 n2 : Nat} {was1 was2 : Int → TD} (cap1 : Nat) (ck1 cv1 cs1 rg1 dt1 : Int) (co1 mo1 : Option Addr) (cn1 cc1 mn1 mc1 : Nat) (ct1 : ByteArray) (big1 : Bool) (cap2 : Nat) (ck2 cv2 cs2 rg2 dt2 : Int) (co2 mo2 : Option Addr) (cn2 cc2 mn2 mc2 : Nat) (ct2 : ByteArray) (big2 : Bool) (qv : Value) (qs : List PairD) (w : World) (h1 : Tms w P1 n1 was1) (h2 : Tms w P2 n2 was2) (hq : RdPairs w qv qs) (hn1 : n1 ≤ 1000) (hn2 : n2 ≤ 1000)
    (hb : ∀ x ∈ qs, (0 ≤ x.reg ∧ x.reg < n1) ∧ (0 ≤ x.place ∧ x.place < n2)) (hf1 : ∀ i : Int, 0 ≤ i → i < n1 → (was1 i).fine) (hf2 : ∀ i : Int, 0 ≤ i → i < n2 → (was2 i).fine) :
    Calls Tryz.prog 166 #[.agg #[.slice (some ⟨P1, 0, none⟩) n1 cap1, .int .i64 ck1, .int .i64 cv1, .slice co1 cn1 cc1, .int .i64 cs1, .string ct1, .slice mo1 mn1 mc1, .bool big1, .int .i64 rg1, .int .i64 dt1], .agg #[.slice (some ⟨P2, 0, none⟩) n2 cap2, .int .i64 ck2, .int .i64 cv2, .slice co2 cn2 cc2, .int .i64 cs2, .string ct2, .slice mo2 mn2 mc2, .bool big2, .int .i64 rg2, .int .i64 dt2], qv] w fun e w' => ∃ z, e = .returned (.bool z) ∧ (z = true ↔ ∀ x ∈ qs, was1 x.reg = was2 x.place) ∧ Below w.heap.size w w' := by
  obtain ⟨qo, qc, rfl, hql, hqs⟩ := id hq
  have b0 : Below w.heap.size w ((w.alloc (.cells #[.slice (some ⟨P1, 0, none⟩) n1 cap1, .int .i64 ck1, .int .i64 cv1, .slice co1 cn1 cc1, .int .i64 cs1, .string ct1, .slice mo1 mn1 mc1, .bool big1, .int .i64 rg1, .int .i64 dt1] 181)).alloc (.cells #[.slice (some ⟨P2, 0, none⟩) n2 cap2, .int .i64 ck2, .int .i64 cv2, .slice co2 cn2 cc2, .int .i64 cs2, .string ct2, .slice mo2 mn2 mc2, .bool big2, .int .i64 rg2, .int .i64 dt2] 181)) := ((Below.refl _ _).alloc (Nat.le_refl _) _).alloc (by simp) _
  have r1 : Row ((w.alloc (.cells #[.slice (some ⟨P1, 0, none⟩) n1 cap1, .int .i64 ck1, .int .i64 cv1, .slice co1 cn1 cc1, .int .i64 cs1, .string ct1, .slice mo1 mn1 mc1, .bool big1, .int .i64 rg1, .int .i64 dt1] 181)).alloc (.cells #[.slice (some ⟨P2, 0, none⟩) n2 cap2, .int .i64 ck2, .int .i64 cv2, .slice co2 cn2 cc2, .int .i64 cs2, .string ct2, .slice mo2 mn2 mc2, .bool big2, .int .i64 rg2, .int .i64 dt2] 181)) w.heap.size 181 [.slice (some ⟨P1, 0, none⟩) n1 cap1, .int .i64 ck1, .int .i64 cv1, .slice co1 cn1 cc1, .int .i64 cs1, .string ct1, .slice mo1 mn1 mc1, .bool big1, .int .i64 rg1, .int .i64 dt1] := Row.alloc (heap_alloc_new w _) _
  have r2 : Row ((w.alloc (.cells #[.slice (some ⟨P1, 0, none⟩) n1 cap1, .int .i64 ck1, .int .i64 cv1, .slice co1 cn1 cc1, .int .i64 cs1, .string ct1, .slice mo1 mn1 mc1, .bool big1, .int .i64 rg1, .int .i64 dt1] 181)).alloc (.cells #[.slice (some ⟨P2, 0, none⟩) n2 cap2, .int .i64 ck2, .int .i64 cv2, .slice co2 cn2 cc2, .int .i64 cs2, .string ct2, .slice mo2 mn2 mc2, .bool big2, .int .i64 rg2, .int .i64 dt2] 181)) (w.heap.size + 1) 181 [.slice (some ⟨P2, 0, none⟩) n2 cap2, .int .i64 ck2, .int .i64 cv2, .slice co2 cn2 cc2, .int .i64 cs2, .string ct2, .slice mo2 mn2 mc2, .bool big2, .int .i64 rg2, .int .i64 dt2] := heap_alloc2_new w _ _
  obtain ⟨W, hW⟩ : ∃ W, W = ((w.alloc (.cells #[.slice (some ⟨P1, 0, none⟩) n1 cap1, .int .i64 ck1, .int .i64 cv1, .slice co1 cn1 cc1, .int .i64 cs1, .string ct1, .slice mo1 mn1 mc1, .bool big1, .int .i64 rg1, .int .i64 dt1] 181)).alloc (.cells #[.slice (some ⟨P2, 0, none⟩) n2 cap2, .int .i64 ck2, .int .i64 cv2, .slice co2 cn2 cc2, .int .i64 cs2, .string ct2, .slice mo2 mn2 mc2, .bool big2, .int .i64 rg2, .int .i64 dt2] 181)) := ⟨_, rfl⟩
  rw [← hW] at b0 r1 r2
  have HWE := Lib.hid hW
  clear hW
  go_enter Tryz.func166, Tryz.ntmps166
  go_wp2
  rw [← HWE.out]
  clear HWE
  go_loopw [7] (fun i wr => ∃ (k : Nat), k ≤ qs.length ∧ i = .int .i64 k ∧ Below W.heap.size W wr ∧ Hid (∀ j, j < k → was1 (preg qs j) = was2 (pplace qs j)))
    (fun i _ => qs.length - (intOf i).toNat)
  case atStart => exact ⟨0, Nat.zero_le _, rfl, Below.refl _ _, fun j hj => by omega⟩
  case round =>
    obtain ⟨k, hk, rfl, hbel, hall⟩ := hrel
    have hbw : Below w.heap.size w wr := b0.trans (hbel.mono b0.size)
    by_cases hlt : k < qs.length
    · obtain ⟨⟨hr0, hr1⟩, hp0, hp1⟩ := hb (qs.getD k pz) (getD_mem' hlt)
      obtain ⟨a, hra⟩ := Int.eq_ofNat_of_zero_le hr0
      obtain ⟨d, hpd⟩ := Int.eq_ofNat_of_zero_le hp0
      have ha : a < n1 := by omega
      have hd : d < n2 := by omega
      have hra' : preg qs k = (a : Int) := hra
      have hpd' : pplace qs k = (d : Int) := hpd
      obtain ⟨b, off, rfl, g0, g1⟩ := hqs k hlt
      rw [hra'] at g0
      rw [hpd'] at g1
      obtain ⟨uo, un, uc, hu⟩ := h1.at ha
      obtain ⟨vo, vn, vc, hv⟩ := h2.at hd
      obtain ⟨u, hue⟩ : ∃ u, was1 (a : Int) = u := ⟨_, rfl⟩
      obtain ⟨v, hve⟩ : ∃ v, was2 (d : Int) = v := ⟨_, rfl⟩
      have fu : u.fine := by rw [← hue]; exact hf1 a (by omega) (by omega)
      have fv : v.fine := by rw [← hve]; exact hf2 d (by omega) (by omega)
      rw [hue] at hu
      rw [hve] at hv
      have y1 : ∀ V, Below wr.heap.size wr V → V.cell? ⟨w.heap.size, 0, none⟩ = some (.slice (some ⟨P1, 0, none⟩) n1 cap1) := fun V hV => cell_keep hV (cell_keep hbel (r1.cell (i := 0) rfl))
      have y2 : ∀ V, Below wr.heap.size wr V → V.cell? ⟨w.heap.size + 1, 0, none⟩ = some (.slice (some ⟨P2, 0, none⟩) n2 cap2) := fun V hV => cell_keep hV (cell_keep hbel (r2.cell (i := 0) rfl))
      have y3 : ∀ V, Below wr.heap.size wr V → V.cell? ⟨b, off + k * 2, none⟩ = some (.int .i64 a) := fun V hV => cell_keep hV (cell_keep hbw g0)
      have y4 : ∀ V, Below wr.heap.size wr V → V.cell? ⟨b, off + k * 2 + 1, none⟩ = some (.int .i64 d) := fun V hV => cell_keep hV (cell_keep hbw g1)
      have u0 : ∀ V, Below wr.heap.size wr V → V.cell? ⟨P1, a * 5, none⟩ = some (.int .i64 (ckind u)) := fun V hV => cell_keep hV (cell_keep hbw (hu 0 _ rfl))
      have u1 : ∀ V, Below wr.heap.size wr V → V.cell? ⟨P1, a * 5 + 1, none⟩ = some (.int .i64 (cval u)) := fun V hV => cell_keep hV (cell_keep hbw (hu 1 _ rfl))
      have u2 : ∀ V, Below wr.heap.size wr V → V.cell? ⟨P1, a * 5 + 2, none⟩ = some (.slice uo un uc) := fun V hV => cell_keep hV (cell_keep hbw (hu 2 _ rfl))
      have u3 : ∀ V, Below wr.heap.size wr V → V.cell? ⟨P1, a * 5 + 3, none⟩ = some (.int .i64 (u).size) := fun V hV => cell_keep hV (cell_keep hbw (hu 3 _ rfl))
      have u4 : ∀ V, Below wr.heap.size wr V → V.cell? ⟨P1, a * 5 + 4, none⟩ = some (.string (str (showT u))) := fun V hV => cell_keep hV (cell_keep hbw (hu 4 _ rfl))
      have v0 : ∀ V, Below wr.heap.size wr V → V.cell? ⟨P2, d * 5, none⟩ = some (.int .i64 (ckind v)) := fun V hV => cell_keep hV (cell_keep hbw (hv 0 _ rfl))
      have v1 : ∀ V, Below wr.heap.size wr V → V.cell? ⟨P2, d * 5 + 1, none⟩ = some (.int .i64 (cval v)) := fun V hV => cell_keep hV (cell_keep hbw (hv 1 _ rfl))
      have v2 : ∀ V, Below wr.heap.size wr V → V.cell? ⟨P2, d * 5 + 2, none⟩ = some (.slice vo vn vc) := fun V hV => cell_keep hV (cell_keep hbw (hv 2 _ rfl))
      have v3 : ∀ V, Below wr.heap.size wr V → V.cell? ⟨P2, d * 5 + 3, none⟩ = some (.int .i64 (v).size) := fun V hV => cell_keep hV (cell_keep hbw (hv 3 _ rfl))
      have v4 : ∀ V, Below wr.heap.size wr V → V.cell? ⟨P2, d * 5 + 4, none⟩ = some (.string (str (showT v))) := fun V hV => cell_keep hV (cell_keep hbw (hv 4 _ rfl))
      have hki : (0 : Int) ≤ (k : Int) := by omega
      have hkj : (k : Int) < (qs.length : Int) := by omega
      have hai : (0 : Int) ≤ (a : Int) := by omega
      have haj : (a : Int) < (n1 : Int) := by omega
      have hdi : (0 : Int) ≤ (d : Int) := by omega
      have hdj : (d : Int) < (n2 : Int) := by omega
      have k0 : Below wr.heap.size wr wr.drew := (Below.refl _ _).drew
      have q := cSame_any u v (.slice uo un uc) (.slice vo vn vc) fu fv wr.drew
      unfold termV at q
      have HBEL := Lib.hid hbel
      have HBW := Lib.hid hbw
      clear g0 g1 hu hv hqs hr0 hr1 hp0 hp1 hra hpd hbel hbw
      by_cases he : u = v
      · have hz : sameT u v = true := (sameT_iff u v).2 he
        have hall2 : Hid (∀ j, j < k + 1 → was1 (preg qs j) = was2 (pplace qs j)) := fun j hj => by
          by_cases e : j = k
          · rw [e, hra', hpd', hue, hve]; exact he
          · exact hall.out j (by omega)
        rw [hz] at q
        clear he hz hall hra' hpd' hue hve
        go_wp2
        go_region_held3 (fun V => Below wr.heap.size wr V) (first | with_reducible exact k0 | with_reducible exact b3) (first | (go_at_call 134; refine q.mono ?_; rintro e w2 ⟨rfl, b2⟩; have b3 : Below wr.heap.size wr w2 := k0.trans (b2.mono k0.size)))
        go_wp2
        go_roundw
        case rel => exact ⟨k + 1, by omega, by go_num, HBEL.out.trans (b3.mono HBEL.out.size), hall2⟩
        case measure => simp [intOf]; omega
      · have hz : sameT u v = false := sameT_ne he
        have HNO : Hid (¬ ∀ x ∈ qs, was1 x.reg = was2 x.place) := fun hA => he (by
          have := hA (qs.getD k pz) (getD_mem' hlt)
          rw [show (qs.getD k pz).reg = (a : Int) from hra', show (qs.getD k pz).place = (d : Int) from hpd', hue, hve] at this
          exact this)
        rw [hz] at q
        clear he hz hall hra' hpd' hue hve
        go_wp2
        go_region_held3 (fun V => Below wr.heap.size wr V) (first | with_reducible exact k0 | with_reducible exact b3) (first | (go_at_call 134; refine q.mono ?_; rintro e w2 ⟨rfl, b2⟩; have b3 : Below wr.heap.size wr w2 := k0.trans (b2.mono k0.size)))
        have HF := Lib.hid (HBW.out.trans (b3.mono HBW.out.size))
        clear q b2
        go_wp2
        (try simp only [Exit.inBlock, Exit.then])
        refine bodyPost_ret (v := .bool false) ?_ rfl ?_
        · simp [results, Tryz.results166, go_sem]
        · exact ⟨false, rfl, ⟨fun hq => (by cases hq), fun hA => absurd hA HNO.out⟩, HF.out⟩
    · obtain rfl : k = qs.length := by omega
      have HY : Hid (∀ x ∈ qs, was1 x.reg = was2 x.place) := fun x hx => by
        obtain ⟨j, hj, rfl⟩ := List.getElem_of_mem hx
        have := hall.out j hj
        simpa [preg, pplace, List.getD, hj] using this
      have HB := Lib.hid hbw
      clear hqs hall hbel hbw
      go_wp2
      go_ret
      exact ⟨true, rfl, ⟨fun _ => HY.out, fun _ => rfl⟩, HB.out⟩

end Go.Proofs.YtblhmeidbjigaabGreatDoor

/- Package compare: keepPairs, goTogether. -/
set_option linter.unusedSimpArgs false
set_option linter.unusedVariables false
namespace Go.Proofs.YtblhmeidbjigaabGreatDoor
open Go.RowKit

theorem getD_memI {l : List Int} {k : Nat} (h : k < l.length) : l.getD k 0 ∈ l := by simp [List.getD, h]

set_option maxRecDepth 100000 in
set_option maxHeartbeats 4000000 in
theorem vTogether_cps (a1 a2 a3 a4 b1 b2 b3 b4 : Int) (po qo ho : Option Addr) (pn pc qn qc hc : Nat) (h : List PingD) (lv rv : Value) (l m : List Int) (w : World) (hh : RdHint w (.slice ho h.length hc) h) (hl : RdWords w lv l) (hm : RdWords w rv m) (hb : ∀ d ∈ m, 0 ≤ d ∧ d < h.length) (Post : Ending → World → Prop)
    (hp : ∀ z w', (z = true ↔ ∀ i, i < l.length → i < m.length → hsrc h (m.getD i 0).toNat = l.getD i 0) → Below w.heap.size w w' → Post (.returned (.bool z)) w') :
    Calls Tryz.prog 136 #[.agg #[.int .i64 a1, .int .i64 a2, .int .i64 a3, .int .i64 a4, .slice po pn pc, .int .i64 b1, .int .i64 b2, .int .i64 b3, .int .i64 b4, .slice qo qn qc, .slice ho h.length hc], lv, rv] w Post := by
  obtain ⟨lo, lc, rfl, hll, hls⟩ := hl
  obtain ⟨ro, rc, rfl, hrl, hrs⟩ := hm
  obtain ⟨ho', hc', e0, hhl, hhs⟩ := hh
  simp only [Value.slice.injEq, true_and] at e0
  obtain ⟨rfl, rfl⟩ := e0
  have b0 : Below w.heap.size w (w.alloc (.cells #[.int .i64 a1, .int .i64 a2, .int .i64 a3, .int .i64 a4, .slice po pn pc, .int .i64 b1, .int .i64 b2, .int .i64 b3, .int .i64 b4, .slice qo qn qc, .slice ho h.length hc] 120)) := (Below.refl _ _).alloc (Nat.le_refl _) _
  have r1 : Row (w.alloc (.cells #[.int .i64 a1, .int .i64 a2, .int .i64 a3, .int .i64 a4, .slice po pn pc, .int .i64 b1, .int .i64 b2, .int .i64 b3, .int .i64 b4, .slice qo qn qc, .slice ho h.length hc] 120)) w.heap.size 120 [.int .i64 a1, .int .i64 a2, .int .i64 a3, .int .i64 a4, .slice po pn pc, .int .i64 b1, .int .i64 b2, .int .i64 b3, .int .i64 b4, .slice qo qn qc, .slice ho h.length hc] := heap_alloc_new w _
  obtain ⟨W, hW⟩ : ∃ W, W = (w.alloc (.cells #[.int .i64 a1, .int .i64 a2, .int .i64 a3, .int .i64 a4, .slice po pn pc, .int .i64 b1, .int .i64 b2, .int .i64 b3, .int .i64 b4, .slice qo qn qc, .slice ho h.length hc] 120)) := ⟨_, rfl⟩
  rw [← hW] at b0 r1
  have HWE := Lib.hid hW
  have HP := Lib.hid hp
  clear hW hp
  go_enter Tryz.func136, Tryz.ntmps136
  go_wp2
  rw [← HWE.out]
  clear HWE
  go_loopw [7] (fun i wr => ∃ (k : Nat), k ≤ l.length ∧ k ≤ m.length ∧ i = .int .i64 k ∧ Below W.heap.size W wr ∧ Hid (∀ j, j < k → hsrc h (m.getD j 0).toNat = l.getD j 0))
    (fun i _ => l.length - (intOf i).toNat)
  case atStart => exact ⟨0, Nat.zero_le _, Nat.zero_le _, rfl, Below.refl _ _, fun j hj => by omega⟩
  case round =>
    obtain ⟨k, hk, hk2, rfl, hbel, hall⟩ := hrel
    have hbw : Below w.heap.size w wr := b0.trans (hbel.mono b0.size)
    by_cases hlt : k < l.length
    · by_cases hlt2 : k < m.length
      · obtain ⟨hd0, hd1⟩ := hb (m.getD k 0) (getD_memI hlt2)
        obtain ⟨d, hd⟩ := Int.eq_ofNat_of_zero_le hd0
        obtain ⟨lb, loff, rfl, g0⟩ := hls k hlt
        obtain ⟨rb, roff, rfl, g1⟩ := hrs k hlt2
        rw [hd] at g1
        obtain ⟨hb', hoff, sv, rfl, g2, g3, _⟩ := hhs d (by omega)
        have y0 := cell_keep hbw g0
        have y1 := cell_keep hbw g1
        have y2 := cell_keep hbw g2
        have y3 := cell_keep hbel (r1.cell (i := 10) rfl)
        have hki : (0 : Int) ≤ (k : Int) := by omega
        have hkj : (k : Int) < (l.length : Int) := by omega
        have hkm : (k : Int) < (m.length : Int) := by omega
        have hdi : (0 : Int) ≤ (d : Int) := by omega
        have hdj : (d : Int) < (h.length : Int) := by omega
        have hbd := Lib.hid (fun n => below_drewN hbel n)
        have hbd2 := Lib.hid (fun n => below_drewN hbw n)
        have HS : Hid (hsrc h (m.getD k 0).toNat = hsrc h d) := by show _ = _; rw [hd]; rfl
        clear g0 g1 g2 g3 hls hrs hhs hd hd0 hd1 hbel hbw
        by_cases he : hsrc h d = l.getD k 0
        · have hall2 : Hid (∀ j, j < k + 1 → hsrc h (m.getD j 0).toNat = l.getD j 0) := fun j hj => by
            by_cases q : j = k
            · rw [q, HS.out]; exact he
            · exact hall.out j (by omega)
          have hq : (hsrc h d == l.getD k 0) = true := by simp [he]
          have HE := Lib.hid he
          clear he hall HS
          generalize l.getD k 0 = lx at *
          generalize hsrc h d = hx at *
          go_wp2
          go_quiet (fail)
          go_wp2
          go_roundw
          case rel => exact ⟨k + 1, by omega, by omega, by go_num, hbd.out _, hall2⟩
          case measure => simp [intOf]; omega
        · have HNO : Hid (¬ ∀ i, i < l.length → i < m.length → hsrc h (m.getD i 0).toNat = l.getD i 0) := fun hA => he (by rw [← HS.out]; exact hA k hlt hlt2)
          have hq : (hsrc h d == l.getD k 0) = false := by rw [beq_eq_false_iff_ne]; exact he
          clear he hall HS
          generalize l.getD k 0 = lx at *
          generalize hsrc h d = hx at *
          go_wp2
          go_quiet (fail)
          go_wp2
          exact HP.out false _ ⟨fun hq => (by cases hq), fun hA => absurd hA HNO.out⟩ (hbd2.out _)
      · have HY : Hid (∀ i, i < l.length → i < m.length → hsrc h (m.getD i 0).toNat = l.getD i 0) := fun i h1 h2 => hall.out i (by omega)
        have HF := Lib.hid (HP.out true _ ⟨fun _ => HY.out, fun _ => rfl⟩ hbw)
        have hkj : (k : Int) < (l.length : Int) := by omega
        have hkm : ¬ ((k : Int) < (m.length : Int)) := by omega
        clear hls hrs hhs hall hbel hbw
        go_wp2
        exact HF.out
    · have HY : Hid (∀ i, i < l.length → i < m.length → hsrc h (m.getD i 0).toNat = l.getD i 0) := fun i h1 h2 => hall.out i (by omega)
      have HF := Lib.hid (HP.out true _ ⟨fun _ => HY.out, fun _ => rfl⟩ hbw)
      have hkj : ¬ ((k : Int) < (l.length : Int)) := by omega
      clear hls hrs hhs hall hbel hbw
      go_wp2
      exact HF.out

set_option maxRecDepth 100000 in
set_option maxHeartbeats 4000000 in
theorem vKeeps_any (a1 a2 a3 a4 b1 b2 b3 b4 : Int) (po qo ho : Option Addr) (pn pc qn qc hc : Nat) {P1 n1 P2 n2 : Nat} {was1 was2 : Int → TD} (cap1 : Nat) (ck1 cv1 cs1 rg1 dt1 : Int) (co1 mo1 : Option Addr) (cn1 cc1 mn1 mc1 : Nat) (ct1 : ByteArray) (big1 : Bool) (cap2 : Nat) (ck2 cv2 cs2 rg2 dt2 : Int) (co2 mo2 : Option Addr) (cn2 cc2 mn2 mc2 : Nat) (ct2 : ByteArray) (big2 : Bool) (h : List PingD) (rv : Value) (m : List Int) (w : World) (hh : RdHint w (.slice ho h.length hc) h) (hm : RdWords w rv m) (hb : ∀ d ∈ m, 0 ≤ d ∧ d < h.length)
    (h1 : Tms w P1 n1 was1) (h2 : Tms w P2 n2 was2) (hn1 : n1 ≤ 1000) (hn2 : n2 ≤ 1000) (hbp : ∀ b, b < h.length → ∀ x ∈ hpairs h b, (0 ≤ x.reg ∧ x.reg < n1) ∧ (0 ≤ x.place ∧ x.place < n2)) (hf1 : ∀ i : Int, 0 ≤ i → i < n1 → (was1 i).fine) (hf2 : ∀ i : Int, 0 ≤ i → i < n2 → (was2 i).fine) :
    Calls Tryz.prog 137 #[.agg #[.int .i64 a1, .int .i64 a2, .int .i64 a3, .int .i64 a4, .slice po pn pc, .int .i64 b1, .int .i64 b2, .int .i64 b3, .int .i64 b4, .slice qo qn qc, .slice ho h.length hc], .agg #[.slice (some ⟨P1, 0, none⟩) n1 cap1, .int .i64 ck1, .int .i64 cv1, .slice co1 cn1 cc1, .int .i64 cs1, .string ct1, .slice mo1 mn1 mc1, .bool big1, .int .i64 rg1, .int .i64 dt1], .agg #[.slice (some ⟨P2, 0, none⟩) n2 cap2, .int .i64 ck2, .int .i64 cv2, .slice co2 cn2 cc2, .int .i64 cs2, .string ct2, .slice mo2 mn2 mc2, .bool big2, .int .i64 rg2, .int .i64 dt2], rv] w fun e w' => ∃ z, e = .returned (.bool z) ∧ (z = true ↔ ∀ d ∈ m, ∀ x ∈ hpairs h d.toNat, was1 x.reg = was2 x.place) ∧ Below w.heap.size w w' := by
  obtain ⟨ro, rc, rfl, hrl, hrs⟩ := hm
  obtain ⟨ho', hc', e0, hhl, hhs⟩ := hh
  simp only [Value.slice.injEq, true_and] at e0
  obtain ⟨rfl, rfl⟩ := e0
  have b0 : Below w.heap.size w (((w.alloc (.cells #[.int .i64 a1, .int .i64 a2, .int .i64 a3, .int .i64 a4, .slice po pn pc, .int .i64 b1, .int .i64 b2, .int .i64 b3, .int .i64 b4, .slice qo qn qc, .slice ho h.length hc] 120)).alloc (.cells #[.slice (some ⟨P1, 0, none⟩) n1 cap1, .int .i64 ck1, .int .i64 cv1, .slice co1 cn1 cc1, .int .i64 cs1, .string ct1, .slice mo1 mn1 mc1, .bool big1, .int .i64 rg1, .int .i64 dt1] 181)).alloc (.cells #[.slice (some ⟨P2, 0, none⟩) n2 cap2, .int .i64 ck2, .int .i64 cv2, .slice co2 cn2 cc2, .int .i64 cs2, .string ct2, .slice mo2 mn2 mc2, .bool big2, .int .i64 rg2, .int .i64 dt2] 181)) := (((Below.refl _ _).alloc (Nat.le_refl _) _).alloc (by simp) _).alloc (by simp; omega) _
  have r0 : Row (((w.alloc (.cells #[.int .i64 a1, .int .i64 a2, .int .i64 a3, .int .i64 a4, .slice po pn pc, .int .i64 b1, .int .i64 b2, .int .i64 b3, .int .i64 b4, .slice qo qn qc, .slice ho h.length hc] 120)).alloc (.cells #[.slice (some ⟨P1, 0, none⟩) n1 cap1, .int .i64 ck1, .int .i64 cv1, .slice co1 cn1 cc1, .int .i64 cs1, .string ct1, .slice mo1 mn1 mc1, .bool big1, .int .i64 rg1, .int .i64 dt1] 181)).alloc (.cells #[.slice (some ⟨P2, 0, none⟩) n2 cap2, .int .i64 ck2, .int .i64 cv2, .slice co2 cn2 cc2, .int .i64 cs2, .string ct2, .slice mo2 mn2 mc2, .bool big2, .int .i64 rg2, .int .i64 dt2] 181)) w.heap.size 120 [.int .i64 a1, .int .i64 a2, .int .i64 a3, .int .i64 a4, .slice po pn pc, .int .i64 b1, .int .i64 b2, .int .i64 b3, .int .i64 b4, .slice qo qn qc, .slice ho h.length hc] := Row.alloc (Row.alloc (heap_alloc_new w _) _) _
  have r1 : Row (((w.alloc (.cells #[.int .i64 a1, .int .i64 a2, .int .i64 a3, .int .i64 a4, .slice po pn pc, .int .i64 b1, .int .i64 b2, .int .i64 b3, .int .i64 b4, .slice qo qn qc, .slice ho h.length hc] 120)).alloc (.cells #[.slice (some ⟨P1, 0, none⟩) n1 cap1, .int .i64 ck1, .int .i64 cv1, .slice co1 cn1 cc1, .int .i64 cs1, .string ct1, .slice mo1 mn1 mc1, .bool big1, .int .i64 rg1, .int .i64 dt1] 181)).alloc (.cells #[.slice (some ⟨P2, 0, none⟩) n2 cap2, .int .i64 ck2, .int .i64 cv2, .slice co2 cn2 cc2, .int .i64 cs2, .string ct2, .slice mo2 mn2 mc2, .bool big2, .int .i64 rg2, .int .i64 dt2] 181)) (w.heap.size + 1) 181 [.slice (some ⟨P1, 0, none⟩) n1 cap1, .int .i64 ck1, .int .i64 cv1, .slice co1 cn1 cc1, .int .i64 cs1, .string ct1, .slice mo1 mn1 mc1, .bool big1, .int .i64 rg1, .int .i64 dt1] := Row.alloc (heap_alloc2_new w _ _) _
  have r2 : Row (((w.alloc (.cells #[.int .i64 a1, .int .i64 a2, .int .i64 a3, .int .i64 a4, .slice po pn pc, .int .i64 b1, .int .i64 b2, .int .i64 b3, .int .i64 b4, .slice qo qn qc, .slice ho h.length hc] 120)).alloc (.cells #[.slice (some ⟨P1, 0, none⟩) n1 cap1, .int .i64 ck1, .int .i64 cv1, .slice co1 cn1 cc1, .int .i64 cs1, .string ct1, .slice mo1 mn1 mc1, .bool big1, .int .i64 rg1, .int .i64 dt1] 181)).alloc (.cells #[.slice (some ⟨P2, 0, none⟩) n2 cap2, .int .i64 ck2, .int .i64 cv2, .slice co2 cn2 cc2, .int .i64 cs2, .string ct2, .slice mo2 mn2 mc2, .bool big2, .int .i64 rg2, .int .i64 dt2] 181)) (w.heap.size + 1 + 1) 181 [.slice (some ⟨P2, 0, none⟩) n2 cap2, .int .i64 ck2, .int .i64 cv2, .slice co2 cn2 cc2, .int .i64 cs2, .string ct2, .slice mo2 mn2 mc2, .bool big2, .int .i64 rg2, .int .i64 dt2] := by
    have := heap_alloc_new ((w.alloc (.cells #[.int .i64 a1, .int .i64 a2, .int .i64 a3, .int .i64 a4, .slice po pn pc, .int .i64 b1, .int .i64 b2, .int .i64 b3, .int .i64 b4, .slice qo qn qc, .slice ho h.length hc] 120)).alloc (.cells #[.slice (some ⟨P1, 0, none⟩) n1 cap1, .int .i64 ck1, .int .i64 cv1, .slice co1 cn1 cc1, .int .i64 cs1, .string ct1, .slice mo1 mn1 mc1, .bool big1, .int .i64 rg1, .int .i64 dt1] 181)) (.cells #[.slice (some ⟨P2, 0, none⟩) n2 cap2, .int .i64 ck2, .int .i64 cv2, .slice co2 cn2 cc2, .int .i64 cs2, .string ct2, .slice mo2 mn2 mc2, .bool big2, .int .i64 rg2, .int .i64 dt2] 181)
    simp only [World.size_alloc] at this
    exact this
  obtain ⟨W, hW⟩ : ∃ W, W = (((w.alloc (.cells #[.int .i64 a1, .int .i64 a2, .int .i64 a3, .int .i64 a4, .slice po pn pc, .int .i64 b1, .int .i64 b2, .int .i64 b3, .int .i64 b4, .slice qo qn qc, .slice ho h.length hc] 120)).alloc (.cells #[.slice (some ⟨P1, 0, none⟩) n1 cap1, .int .i64 ck1, .int .i64 cv1, .slice co1 cn1 cc1, .int .i64 cs1, .string ct1, .slice mo1 mn1 mc1, .bool big1, .int .i64 rg1, .int .i64 dt1] 181)).alloc (.cells #[.slice (some ⟨P2, 0, none⟩) n2 cap2, .int .i64 ck2, .int .i64 cv2, .slice co2 cn2 cc2, .int .i64 cs2, .string ct2, .slice mo2 mn2 mc2, .bool big2, .int .i64 rg2, .int .i64 dt2] 181)) := ⟨_, rfl⟩
  rw [← hW] at b0 r0 r1 r2
  have HWE := Lib.hid hW
  clear hW
  go_enter Tryz.func137, Tryz.ntmps137
  go_wp2
  rw [← HWE.out]
  clear HWE
  go_loopw [9] (fun i wr => ∃ (k : Nat), k ≤ m.length ∧ i = .int .i64 k ∧ Below W.heap.size W wr ∧ Hid (∀ j, j < k → ∀ x ∈ hpairs h (m.getD j 0).toNat, was1 x.reg = was2 x.place))
    (fun i _ => m.length - (intOf i).toNat)
  case atStart => exact ⟨0, Nat.zero_le _, rfl, Below.refl _ _, fun j hj => by omega⟩
  case round =>
    obtain ⟨k, hk, rfl, hbel, hall⟩ := hrel
    have hbw : Below w.heap.size w wr := b0.trans (hbel.mono b0.size)
    by_cases hlt : k < m.length
    · obtain ⟨hd0, hd1⟩ := hb (m.getD k 0) (getD_memI hlt)
      obtain ⟨d, hd⟩ := Int.eq_ofNat_of_zero_le hd0
      obtain ⟨rb, roff, rfl, g1⟩ := hrs k hlt
      rw [hd] at g1
      obtain ⟨hb', hoff, sv, rfl, g2, g3, g4⟩ := hhs d (by omega)
      obtain ⟨so, sc, hsv, _, _⟩ := id g4
      have k0 : Below wr.heap.size wr wr.drew := (Below.refl _ _).drew
      have hbd : Below w.heap.size w wr.drew := hbw.trans (k0.mono hbw.size)
      have q := vKept_any (was1 := was1) (was2 := was2) cap1 ck1 cv1 cs1 rg1 dt1 co1 mo1 cn1 cc1 mn1 mc1 ct1 big1 cap2 ck2 cv2 cs2 rg2 dt2 co2 mo2 cn2 cc2 mn2 mc2 ct2 big2 sv (hpairs h d) wr.drew (h1.keep hbd) (h2.keep hbd) (g4.keep hbd) hn1 hn2 (hbp d (by omega)) hf1 hf2
      have y1 : ∀ V, Below wr.heap.size wr V → V.cell? ⟨rb, roff + k, none⟩ = some (.int .i64 d) := fun V hV => cell_keep hV (cell_keep hbw g1)
      have y3 : ∀ V, Below wr.heap.size wr V → V.cell? ⟨hb', hoff + d * 2 + 1, none⟩ = some sv := fun V hV => cell_keep hV (cell_keep hbw g3)
      have y4 : ∀ V, Below wr.heap.size wr V → V.cell? ⟨w.heap.size, 10, none⟩ = some (.slice (some ⟨hb', hoff, none⟩) h.length hc) := fun V hV => cell_keep hV (cell_keep hbel (r0.cell (i := 10) rfl))
      subst hsv
      have c0 := fun V (hV : Below wr.heap.size wr V) => cell_keep hV (cell_keep hbel (r1.cell (i := 0) rfl))
      have d0 := fun V (hV : Below wr.heap.size wr V) => cell_keep hV (cell_keep hbel (r2.cell (i := 0) rfl))
      have c1 := fun V (hV : Below wr.heap.size wr V) => cell_keep hV (cell_keep hbel (r1.cell (i := 1) rfl))
      have d1 := fun V (hV : Below wr.heap.size wr V) => cell_keep hV (cell_keep hbel (r2.cell (i := 1) rfl))
      have c2 := fun V (hV : Below wr.heap.size wr V) => cell_keep hV (cell_keep hbel (r1.cell (i := 2) rfl))
      have d2 := fun V (hV : Below wr.heap.size wr V) => cell_keep hV (cell_keep hbel (r2.cell (i := 2) rfl))
      have c3 := fun V (hV : Below wr.heap.size wr V) => cell_keep hV (cell_keep hbel (r1.cell (i := 3) rfl))
      have d3 := fun V (hV : Below wr.heap.size wr V) => cell_keep hV (cell_keep hbel (r2.cell (i := 3) rfl))
      have c4 := fun V (hV : Below wr.heap.size wr V) => cell_keep hV (cell_keep hbel (r1.cell (i := 4) rfl))
      have d4 := fun V (hV : Below wr.heap.size wr V) => cell_keep hV (cell_keep hbel (r2.cell (i := 4) rfl))
      have c5 := fun V (hV : Below wr.heap.size wr V) => cell_keep hV (cell_keep hbel (r1.cell (i := 5) rfl))
      have d5 := fun V (hV : Below wr.heap.size wr V) => cell_keep hV (cell_keep hbel (r2.cell (i := 5) rfl))
      have c6 := fun V (hV : Below wr.heap.size wr V) => cell_keep hV (cell_keep hbel (r1.cell (i := 6) rfl))
      have d6 := fun V (hV : Below wr.heap.size wr V) => cell_keep hV (cell_keep hbel (r2.cell (i := 6) rfl))
      have c7 := fun V (hV : Below wr.heap.size wr V) => cell_keep hV (cell_keep hbel (r1.cell (i := 7) rfl))
      have d7 := fun V (hV : Below wr.heap.size wr V) => cell_keep hV (cell_keep hbel (r2.cell (i := 7) rfl))
      have c8 := fun V (hV : Below wr.heap.size wr V) => cell_keep hV (cell_keep hbel (r1.cell (i := 8) rfl))
      have d8 := fun V (hV : Below wr.heap.size wr V) => cell_keep hV (cell_keep hbel (r2.cell (i := 8) rfl))
      have c9 := fun V (hV : Below wr.heap.size wr V) => cell_keep hV (cell_keep hbel (r1.cell (i := 9) rfl))
      have d9 := fun V (hV : Below wr.heap.size wr V) => cell_keep hV (cell_keep hbel (r2.cell (i := 9) rfl))
      have hki : (0 : Int) ≤ (k : Int) := by omega
      have hkm : (k : Int) < (m.length : Int) := by omega
      have hdi : (0 : Int) ≤ (d : Int) := by omega
      have hdj : (d : Int) < (h.length : Int) := by omega
      have HBEL := Lib.hid hbel
      have HBW := Lib.hid hbw
      have HS : Hid (hpairs h (m.getD k 0).toNat = hpairs h d) := by show _ = _; rw [hd]; rfl
      clear g1 g2 g3 g4 hrs hhs hd hd0 hd1 hbel hbw hbd
      generalize (hpairs h d).length = sn at *
      go_wp2
      go_region_held3 (fun V => Below wr.heap.size wr V) (first | with_reducible exact k0 | with_reducible exact b3) (first | (go_at_call 166; refine q.mono ?_; rintro e w2 ⟨z, rfl, hz, b2⟩; have b3 : Below wr.heap.size wr w2 := k0.trans (b2.mono k0.size)))
      have HZ := Lib.hid hz
      clear q b2 hz
      cases z with
      | true =>
        have hall2 : Hid (∀ j, j < k + 1 → ∀ x ∈ hpairs h (m.getD j 0).toNat, was1 x.reg = was2 x.place) := fun j hj => by
          by_cases e : j = k
          · rw [e, HS.out]; exact HZ.out.1 rfl
          · exact hall.out j (by omega)
        clear hall HS
        go_wp2
        go_roundw
        case rel => exact ⟨k + 1, by omega, by go_num, HBEL.out.trans (b3.mono HBEL.out.size), hall2⟩
        case measure => simp [intOf]; omega
      | false =>
        have HNO : Hid (¬ ∀ d ∈ m, ∀ x ∈ hpairs h d.toNat, was1 x.reg = was2 x.place) := fun hA => by
          have := hA (m.getD k 0) (getD_memI hlt)
          rw [HS.out] at this
          have := HZ.out.2 this
          cases this
        have HF := Lib.hid (HBW.out.trans (b3.mono HBW.out.size))
        clear hall HS
        go_wp2
        (try simp only [Exit.inBlock, Exit.then])
        refine bodyPost_ret (v := .bool false) ?_ rfl ?_
        · simp [results, Tryz.results137, go_sem]
        · exact ⟨false, rfl, ⟨fun hq => (by cases hq), fun hA => absurd hA HNO.out⟩, HF.out⟩
    · obtain rfl : k = m.length := by omega
      have HY : Hid (∀ d ∈ m, ∀ x ∈ hpairs h d.toNat, was1 x.reg = was2 x.place) := fun d hd => by
        obtain ⟨j, hj, rfl⟩ := List.getElem_of_mem hd
        have := hall.out j hj
        simpa [List.getD, hj] using this
      have HB := Lib.hid hbw
      clear hrs hhs hall hbel hbw
      go_wp2
      go_ret
      exact ⟨true, rfl, ⟨fun _ => HY.out, fun _ => rfl⟩, HB.out⟩

end Go.Proofs.YtblhmeidbjigaabGreatDoor
