/- Does a program with spare room read as it did? The calls of the program itself. -/
import Derived.Test.YtdjdjkgoelbbdaaPLawK
set_option linter.unusedSimpArgs false
set_option linter.unusedVariables false
namespace Go.Proofs.Ytdjdjkgoelbbdaa
open Go.RowKit

theorem rows_rdb {w : World} {lo : Nat} {bv : List (BlockD × Value)} {L cap : Nat} {t : List Value} (hl : LiesP w lo bv) (hL : Row w L 76 (blkCells bv ++ t)) (hn : bv.length ≤ 9223372036854775807) (hn2 : ∀ x ∈ bv, x.1.ops.length ≤ 9223372036854775807) :
    RdBlocks w (.slice (some ⟨L, 0, none⟩) bv.length cap) (bdat bv) := by
  refine ⟨_, _, by rw [bdat_length], by rw [bdat_length]; exact hn, fun i hi => ?_⟩
  rw [bdat_length] at hi
  have hpl := blkCells_length bv
  obtain ⟨g0, g1, g2, g3, g4⟩ := blkCells_get bv i hi
  obtain ⟨e1, e2⟩ := bdat_get bv hi
  obtain ⟨p, _, ep, hp⟩ := hl _ (List.getElem_mem hi)
  have key : ∀ i u, i < bv.length * 5 → (blkCells bv)[i]? = some u → w.cell? ⟨L, i, none⟩ = some u := fun i u hi hu => hL.cell (by rw [List.getElem?_append_left (by omega)]; exact hu)
  refine ⟨L, 0, bv[i].2, rfl, ?_, ?_, ?_, ?_, ?_, ?_⟩
  · rw [Nat.zero_add]; exact key _ _ (by omega) g0
  · rw [Nat.zero_add]; unfold bek; rw [e2]; exact key _ _ (by omega) g1
  · rw [Nat.zero_add]; unfold ber; rw [e2]; exact key _ _ (by omega) g2
  · rw [Nat.zero_add]; unfold bex; rw [e2]; exact key _ _ (by omega) g3
  · rw [Nat.zero_add]; unfold bey; rw [e2]; exact key _ _ (by omega) g4
  · rw [e1, ep]
    refine ⟨_, _, rfl, hn2 _ (List.getElem_mem hi), fun j hj => ?_⟩
    have hql := opCells_length bv[i].1.ops
    obtain ⟨k1, k2, k3, k4⟩ := opCells_get bv[i].1.ops j hj
    have key2 : ∀ i' u, i' < bv[i].1.ops.length * 4 → (opCells bv[i].1.ops)[i']? = some u → w.cell? ⟨p, i', none⟩ = some u := fun i' u hi hu => hp.cell (by rw [List.getElem?_append_left (by omega)]; exact hu)
    refine ⟨p, 0, rfl, ?_, ?_, ?_, ?_⟩
    · rw [Nat.zero_add]; exact key2 _ _ (by omega) k1
    · rw [Nat.zero_add]; exact key2 _ _ (by omega) k2
    · rw [Nat.zero_add]; exact key2 _ _ (by omega) k3
    · rw [Nat.zero_add]; exact key2 _ _ (by omega) k4

theorem LiesP.keep {w w' : World} {lo : Nat} {bv : List (BlockD × Value)} (h : LiesP w lo bv) (hb : Below w.heap.size w w') : LiesP w' lo bv := liesP_step h fun _ _ _ hp => hp.keep hb

set_option maxRecDepth 100000 in
set_option maxHeartbeats 4000000 in
theorem wholeProg_any (a0 a1 a2 a3 : Int) (bv : List (BlockD × Value)) (L D lo : Nat) (u : Value) (w : World) (hl : LiesP w lo bv) (hL : Row w L 76 (blkCells bv ++ [.slice none 0 0, .int .i64 77, .int .i64 0, .int .i64 0, .int .i64 0])) (hD : Row w D 76 (blkCells bv)) (hu : RdBlocks w u (bdat bv))
    (hn : bv.length ≤ 2513169434916) (hn2 : ∀ x ∈ bv, x.1.ops.length ≤ 4398046511104) :
    Calls Try.prog 37 #[.agg #[.int .i64 a0, .int .i64 a1, .int .i64 a2, .int .i64 a3, .slice (some ⟨L, 0, none⟩) bv.length (bv.length + 1)], .slice (some ⟨D, 0, none⟩) bv.length bv.length, .agg #[.int .i64 a0, .int .i64 a1, .int .i64 a2, .int .i64 a3, u]] w fun e w' => e = .returned (.bool true) ∧ Below w.heap.size w w' := by
  have n1 : bv.length ≤ 9223372036854775807 := by omega
  have n2 : ∀ x ∈ bv, x.1.ops.length ≤ 9223372036854775807 := fun x hx => by have := hn2 x hx; omega
  have r1 := rows_rdb (cap := bv.length + 1) hl hL n1 n2
  have r2 := rows_rdb (t := []) (cap := bv.length) hl (by simpa using hD) n1 n2
  obtain ⟨uo, uc, ue, _, _⟩ := id hu
  subst ue
  rw [bdat_length] at hu ⊢
  have hnq := fun (w : World) => run_neq_slice_nil_any (P := Try.prog) w 72 78 none 0 0 0 0 Try.underlying72
  have HL := hL.lt
  have HD := hD.lt
  have hbX : Below w.heap.size w (((w.alloc (.cells #[.int .i64 a0, .int .i64 a1, .int .i64 a2, .int .i64 a3, .slice (some ⟨L, 0, none⟩) bv.length (bv.length + 1)] 24)).alloc (.cells #[.int .i64 a0, .int .i64 a1, .int .i64 a2, .int .i64 a3, .slice uo bv.length uc] 24)).alloc (.cells #[.int .i64 a0, .int .i64 a1, .int .i64 a2, .int .i64 a3, .slice (some ⟨D, 0, none⟩) bv.length bv.length] 24)) :=
    (((Below.refl w.heap.size w).alloc (Nat.le_refl _) _).alloc (by simp) _).alloc (by simp; omega) _
  have W0 : Row (((w.alloc (.cells #[.int .i64 a0, .int .i64 a1, .int .i64 a2, .int .i64 a3, .slice (some ⟨L, 0, none⟩) bv.length (bv.length + 1)] 24)).alloc (.cells #[.int .i64 a0, .int .i64 a1, .int .i64 a2, .int .i64 a3, .slice uo bv.length uc] 24)).alloc (.cells #[.int .i64 a0, .int .i64 a1, .int .i64 a2, .int .i64 a3, .slice (some ⟨D, 0, none⟩) bv.length bv.length] 24)) w.heap.size 24 [.int .i64 a0, .int .i64 a1, .int .i64 a2, .int .i64 a3, .slice (some ⟨L, 0, none⟩) bv.length (bv.length + 1)] := by
    have h : Row (w.alloc (.cells #[.int .i64 a0, .int .i64 a1, .int .i64 a2, .int .i64 a3, .slice (some ⟨L, 0, none⟩) bv.length (bv.length + 1)] 24)) w.heap.size 24 [.int .i64 a0, .int .i64 a1, .int .i64 a2, .int .i64 a3, .slice (some ⟨L, 0, none⟩) bv.length (bv.length + 1)] := heap_alloc_new w _
    exact (h.alloc _).alloc _
  have W1 : Row (((w.alloc (.cells #[.int .i64 a0, .int .i64 a1, .int .i64 a2, .int .i64 a3, .slice (some ⟨L, 0, none⟩) bv.length (bv.length + 1)] 24)).alloc (.cells #[.int .i64 a0, .int .i64 a1, .int .i64 a2, .int .i64 a3, .slice uo bv.length uc] 24)).alloc (.cells #[.int .i64 a0, .int .i64 a1, .int .i64 a2, .int .i64 a3, .slice (some ⟨D, 0, none⟩) bv.length bv.length] 24)) (w.heap.size + 1) 24 [.int .i64 a0, .int .i64 a1, .int .i64 a2, .int .i64 a3, .slice uo bv.length uc] := by
    have h : Row ((w.alloc (.cells #[.int .i64 a0, .int .i64 a1, .int .i64 a2, .int .i64 a3, .slice (some ⟨L, 0, none⟩) bv.length (bv.length + 1)] 24)).alloc (.cells #[.int .i64 a0, .int .i64 a1, .int .i64 a2, .int .i64 a3, .slice uo bv.length uc] 24)) (w.heap.size + 1) 24 [.int .i64 a0, .int .i64 a1, .int .i64 a2, .int .i64 a3, .slice uo bv.length uc] := heap_alloc2_new w _ _
    exact h.alloc _
  have W2 : Row (((w.alloc (.cells #[.int .i64 a0, .int .i64 a1, .int .i64 a2, .int .i64 a3, .slice (some ⟨L, 0, none⟩) bv.length (bv.length + 1)] 24)).alloc (.cells #[.int .i64 a0, .int .i64 a1, .int .i64 a2, .int .i64 a3, .slice uo bv.length uc] 24)).alloc (.cells #[.int .i64 a0, .int .i64 a1, .int .i64 a2, .int .i64 a3, .slice (some ⟨D, 0, none⟩) bv.length bv.length] 24)) (w.heap.size + 2) 24 [.int .i64 a0, .int .i64 a1, .int .i64 a2, .int .i64 a3, .slice (some ⟨D, 0, none⟩) bv.length bv.length] := by
    have h := heap_alloc2_new (w.alloc (.cells #[.int .i64 a0, .int .i64 a1, .int .i64 a2, .int .i64 a3, .slice (some ⟨L, 0, none⟩) bv.length (bv.length + 1)] 24)) (.cells #[.int .i64 a0, .int .i64 a1, .int .i64 a2, .int .i64 a3, .slice uo bv.length uc] 24) (.cells #[.int .i64 a0, .int .i64 a1, .int .i64 a2, .int .i64 a3, .slice (some ⟨D, 0, none⟩) bv.length bv.length] 24)
    simp only [World.size_alloc] at h
    exact h
  have hzX : (((w.alloc (.cells #[.int .i64 a0, .int .i64 a1, .int .i64 a2, .int .i64 a3, .slice (some ⟨L, 0, none⟩) bv.length (bv.length + 1)] 24)).alloc (.cells #[.int .i64 a0, .int .i64 a1, .int .i64 a2, .int .i64 a3, .slice uo bv.length uc] 24)).alloc (.cells #[.int .i64 a0, .int .i64 a1, .int .i64 a2, .int .i64 a3, .slice (some ⟨D, 0, none⟩) bv.length bv.length] 24)).heap.size = w.heap.size + 3 := by simp
  go_enter Try.func37, Try.ntmps37
  go_wp2_with fail
  refine (sameProg_any _ _ _ _ _ _ _ _ (r1.keep hbX) (hu.keep hbX)).mono ?_
  rintro e w1 ⟨rfl, hb1⟩
  have V0 := W0.keep hb1
  have V1 := W1.keep hb1
  have V2 := W2.keep hb1
  have hb01 : Below w.heap.size w w1 := hbX.trans (hb1.mono (by rw [hzX]; omega))
  have hz1 := hb1.size
  rw [hzX] at hz1
  clear hb1 W0 W1 W2 hbX hzX
  have x4 := V0.cell (i := 4) rfl
  have y0 := V1.cell (i := 0) rfl
  have y1 := V1.cell (i := 1) rfl
  have y2 := V1.cell (i := 2) rfl
  have y3 := V1.cell (i := 3) rfl
  have y4 := V1.cell (i := 4) rfl
  have z0 := V2.cell (i := 0) rfl
  have z1 := V2.cell (i := 1) rfl
  have z2 := V2.cell (i := 2) rfl
  have z3 := V2.cell (i := 3) rfl
  have z4 := V2.cell (i := 4) rfl
  go_wp2_with fail
  refine (sameProg_any _ _ _ _ _ _ _ _ (r2.keep hb01) (hu.keep hb01)).mono ?_
  rintro e w2 ⟨rfl, hb2⟩
  have hb02 := hb01.trans (hb2.mono (by omega))
  have yy := cell_keep hb2 x4
  have hL2 := hL.keep hb02
  have hD2 := hD.keep hb02
  have hl2 := hl.keep hb02
  have hpl := blkCells_length bv
  have l0 := hL2.cell (i := bv.length * 5) (u := .slice none 0 0) (by rw [List.getElem?_append_right (by omega), hpl, Nat.sub_self]; rfl)
  have l1 := hL2.cell (i := bv.length * 5 + 1) (u := .int .i64 77) (by rw [List.getElem?_append_right (by omega), hpl, Nat.add_sub_cancel_left]; rfl)
  clear x4 y0 y1 y2 y3 y4 z0 z1 z2 z3 z4 V0 V1 V2 r1 r2 hb01 hb2 hL hD hl
  go_wp2
  go_loop [12] (fun i => ∃ (k : Nat), k ≤ bv.length ∧ i = .int .i64 k) (fun i => bv.length - (intOf i).toNat)
  case atStart => exact ⟨0, Nat.zero_le _, rfl⟩
  case round =>
    obtain ⟨k, hk, rfl⟩ := hrel
    by_cases hlt : k < bv.length
    · obtain ⟨g0, _⟩ := blkCells_get bv k hlt
      obtain ⟨p, _, ep, hp⟩ := hl2 _ (List.getElem_mem hlt)
      have hm := hn2 _ (List.getElem_mem hlt)
      have d2 := hD2.cell g0
      rw [ep] at d2
      have hql := opCells_length bv[k].1.ops
      have p0 := hp.cell (i := bv[k].1.ops.length * 4) (u := .int .i64 77) (by rw [List.getElem?_append_right (by omega), hql, Nat.sub_self]; rfl)
      clear ep g0 hql hp
      generalize bv[k].1.ops.length = m at *
      go_wp2
      go_round
      case rel => exact ⟨k + 1, by omega, by go_num⟩
      case measure => simp [intOf]; omega
    · go_wp2
      go_ret
      exact ⟨rfl, hb02⟩

/-! ### The calls themselves -/

set_option maxRecDepth 100000 in
set_option maxHeartbeats 1000000 in
theorem tEncode_any (p : ProgD) (v : Value) (w : World) (hr : RdBlocks w v p.blocks) :
    Calls Try.prog 19 #[progV p v] w fun e w' => e = .returned (.tuple (if progGood p then #[.string (str (progText p)), .int .i64 0] else #[.string ⟨#[]⟩, .int .i64 1])) ∧ Below w.heap.size w w' := by
  obtain ⟨a0, a1, a2, a3, l⟩ := p
  unfold progV
  simp only at hr ⊢
  obtain ⟨ao, cap, e0, _, _⟩ := id hr
  subst e0
  have hc := cEncode_any a0 a1 a2 a3 _ l (w.alloc (.cells #[.int .i64 a0, .int .i64 a1, .int .i64 a2, .int .i64 a3, .slice ao l.length cap] 24)) (hr.keep ((Below.refl _ _).alloc (Nat.le_refl _) _))
  cases hg : progGood ⟨a0, a1, a2, a3, l⟩
  · simp only [hg] at hc
    go_enter Try.func19, Try.ntmps19
    go_wp2_with fail
    refine hc.mono ?_
    rintro e w1 ⟨rfl, hb1⟩
    clear hc
    go_wp2
    go_ret2
    exact ⟨by simp [hg], ((Below.refl _ _).alloc (Nat.le_refl _) _).trans (hb1.mono (by simp))⟩
  · simp only [hg] at hc
    go_enter Try.func19, Try.ntmps19
    go_wp2_with fail
    refine hc.mono ?_
    rintro e w1 ⟨rfl, hb1⟩
    clear hc
    go_wp2
    go_ret2
    exact ⟨by simp [hg], ((Below.refl _ _).alloc (Nat.le_refl _) _).trans (hb1.mono (by simp))⟩

def zProg : Value := .agg #[.int .i64 0, .int .i64 0, .int .i64 0, .int .i64 0, .slice none 0 0]

set_option maxRecDepth 100000 in
set_option maxHeartbeats 1000000 in
theorem tDecode_cps (s : ByteArray) (w : World) (hs : s.size ≤ maxLen) (Post : Ending → World → Prop)
    (hyes : ∀ a0 a1 a2 a3 l v bv w', OwnBlocks w' w.heap.size v bv → bdat bv = l → progGood ⟨a0, a1, a2, a3, l⟩ = true → str (progText ⟨a0, a1, a2, a3, l⟩) = s → Below w.heap.size w w' → Post (.returned (.tuple #[.agg #[.int .i64 a0, .int .i64 a1, .int .i64 a2, .int .i64 a3, v], .int .i64 0])) w')
    (hno : ∀ w', (∀ p, progGood p = true → str (progText p) ≠ s) → Below w.heap.size w w' → Post (.returned (.tuple #[.agg #[.int .i64 0, .int .i64 0, .int .i64 0, .int .i64 0, .slice none 0 0], .int .i64 1])) w') :
    Calls Try.prog 18 #[.string s] w Post := by
  have hc := cDecode_any s (w.alloc (.cells #[.int .i64 0, .int .i64 0, .int .i64 0, .int .i64 0, .slice none 0 0] 24)) hs
  have hW : Row (w.alloc (.cells #[.int .i64 0, .int .i64 0, .int .i64 0, .int .i64 0, .slice none 0 0] 24)) w.heap.size 24 [.int .i64 0, .int .i64 0, .int .i64 0, .int .i64 0, .slice none 0 0] := heap_alloc_new w _
  go_enter Try.func18, Try.ntmps18
  go_wp2_with fail
  refine hc.mono ?_
  clear hc
  rintro e w1 ⟨hor, hb1⟩
  have hz1 := hb1.size
  simp at hz1
  have V := hW.keep hb1
  have x0 := V.cell (i := 0) rfl
  have x1 := V.cell (i := 1) rfl
  have x2 := V.cell (i := 2) rfl
  have x3 := V.cell (i := 3) rfl
  have x4 := V.cell (i := 4) rfl
  have f0 := V.frozen 0
  have f1 := V.frozen 1
  have f2 := V.frozen 2
  have f3 := V.frozen 3
  have f4 := V.frozen 4
  have hb2 : Below w.heap.size w w1 := ((Below.refl _ _).alloc (Nat.le_refl _) _).trans (hb1.mono (by simp))
  rcases hor with ⟨⟨a0, a1, a2, a3, l⟩, v, bv, rfl, ho, hd, hg, ht⟩ | ⟨hn, rfl⟩
  · obtain ⟨ao, cap, rfl⟩ := owns_slice ho.row
    have ho' : OwnBlocks w1 (w.heap.size + 1) (.slice ao bv.length cap) bv := by simpa using ho
    have hfin := hyes a0 a1 a2 a3 l (.slice ao bv.length cap) bv (((((w1.setCell ⟨w.heap.size, 0, none⟩ (.int .i64 a0)).setCell ⟨w.heap.size, 1, none⟩ (.int .i64 a1)).setCell ⟨w.heap.size, 2, none⟩ (.int .i64 a2)).setCell ⟨w.heap.size, 3, none⟩ (.int .i64 a3)).setCell ⟨w.heap.size, 4, none⟩ (.slice ao bv.length cap))
      ((((((ho'.set (by simp) _).set (by simp) _).set (by simp) _).set (by simp) _).set (by simp) _).base (by omega)) hd hg ht
      (((((hb2.setCell (by simp) _).setCell (by simp) _).setCell (by simp) _).setCell (by simp) _).setCell (by simp) _)
    clear hyes hno ho ho' hg ht
    unfold progV
    go_wp2
    exact bodyPost_ret (v := .tuple #[.agg #[.int .i64 a0, .int .i64 a1, .int .i64 a2, .int .i64 a3, .slice ao bv.length cap], .int .i64 0]) (by simp [results, Try.results18, go_sem, x0, x1, x2, x3, x4]) rfl hfin
  · have hfin := hno (((((w1.setCell ⟨w.heap.size, 0, none⟩ (.int .i64 0)).setCell ⟨w.heap.size, 1, none⟩ (.int .i64 0)).setCell ⟨w.heap.size, 2, none⟩ (.int .i64 0)).setCell ⟨w.heap.size, 3, none⟩ (.int .i64 0)).setCell ⟨w.heap.size, 4, none⟩ (.slice none 0 0)) hn
      (((((hb2.setCell (by simp) _).setCell (by simp) _).setCell (by simp) _).setCell (by simp) _).setCell (by simp) _)
    clear hyes hno hn
    go_wp2
    exact bodyPost_ret (v := .tuple #[.agg #[.int .i64 0, .int .i64 0, .int .i64 0, .int .i64 0, .slice none 0 0], .int .i64 1]) (by simp [results, Try.results18, go_sem, x0, x1, x2, x3, x4]) rfl hfin

end Go.Proofs.Ytdjdjkgoelbbdaa
