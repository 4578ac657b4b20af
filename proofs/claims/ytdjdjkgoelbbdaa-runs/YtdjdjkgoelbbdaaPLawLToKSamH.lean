/- Does a program with spare room read as it did? The calls of the program itself. -/
import Derived.Test.YtdjdjkgoelbbdaaPLawKJoined
set_option linter.unusedSimpArgs false
set_option linter.unusedVariables false
namespace Go.Proofs.Ytdjdjkgoelbbdaa
open Go.RowKit

theorem rows_rdb {w : World} {lo : Nat} {bv : List (BlockD × Value)} {L cap : Nat} {t : List Value} (hl : LiesP w lo bv) (hL : Row w L 76 (blkCells bv ++ t)) (hn : bv.length ≤ 9223372036854775807) (hn2 : ∀ x ∈ bv, x.1.ops.length ≤ 9223372036854775807) :
    RdBlocks w (.slice (some ⟨L, 0, none⟩) bv.length cap) (bdat bv) := by
  refine ⟨_, _, by rw [bdat_length], by rw [bdat_length]; exact hn, fun i hi => ?_⟩
  rw [bdat_length] at hi
  have hpl := blkCells_length bv
  obtain ⟨g0, g1, g2, g3, g4⟩ := blkCells_get bv i hi
  obtain ⟨e1, e2⟩ := bdat_get bv hi
  obtain ⟨p, _, ep, hp⟩ := hl _ (List.getElem_mem hi)
  have key : ∀ i u, i < bv.length * 5 → (blkCells bv)[i]? = some u → w.cell? ⟨L, i, none⟩ = some u := fun i u hi hu => hL.cell (by rw [List.getElem?_append_left (by omega)]; exact hu)
  refine ⟨L, 0, bv[i].2, rfl, ?_, ?_, ?_, ?_, ?_, ?_⟩
  · rw [Nat.zero_add]; exact key _ _ (by omega) g0
  · rw [Nat.zero_add]; unfold bek; rw [e2]; exact key _ _ (by omega) g1
  · rw [Nat.zero_add]; unfold ber; rw [e2]; exact key _ _ (by omega) g2
  · rw [Nat.zero_add]; unfold bex; rw [e2]; exact key _ _ (by omega) g3
  · rw [Nat.zero_add]; unfold bey; rw [e2]; exact key _ _ (by omega) g4
  · rw [e1, ep]
    refine ⟨_, _, rfl, hn2 _ (List.getElem_mem hi), fun j hj => ?_⟩
    have hql := opCells_length bv[i].1.ops
    obtain ⟨k1, k2, k3, k4⟩ := opCells_get bv[i].1.ops j hj
    have key2 : ∀ i' u, i' < bv[i].1.ops.length * 4 → (opCells bv[i].1.ops)[i']? = some u → w.cell? ⟨p, i', none⟩ = some u := fun i' u hi hu => hp.cell (by rw [List.getElem?_append_left (by omega)]; exact hu)
    refine ⟨p, 0, rfl, ?_, ?_, ?_, ?_⟩
    · rw [Nat.zero_add]; exact key2 _ _ (by omega) k1
    · rw [Nat.zero_add]; exact key2 _ _ (by omega) k2
    · rw [Nat.zero_add]; exact key2 _ _ (by omega) k3
    · rw [Nat.zero_add]; exact key2 _ _ (by omega) k4

theorem LiesP.keep {w w' : World} {lo : Nat} {bv : List (BlockD × Value)} (h : LiesP w lo bv) (hb : Below w.heap.size w w') : LiesP w' lo bv := liesP_step h fun _ _ _ hp => hp.keep hb

set_option maxRecDepth 100000 in
set_option maxHeartbeats 4000000 in
theorem wholeProg_any (a0 a1 a2 a3 : Int) (bv : List (BlockD × Value)) (L D lo : Nat) (u : Value) (w : World) (hl : LiesP w lo bv) (hL : Row w L 76 (blkCells bv ++ [.slice none 0 0, .int .i64 77, .int .i64 0, .int .i64 0, .int .i64 0])) (hD : Row w D 76 (blkCells bv)) (hu : RdBlocks w u (bdat bv))
    (hn : bv.length ≤ 2513169434916) (hn2 : ∀ x ∈ bv, x.1.ops.length ≤ 4398046511104) :
    Calls Try.prog 37 #[.agg #[.int .i64 a0, .int .i64 a1, .int .i64 a2, .int .i64 a3, .slice (some ⟨L, 0, none⟩) bv.length (bv.length + 1)], .slice (some ⟨D, 0, none⟩) bv.length bv.length, .agg #[.int .i64 a0, .int .i64 a1, .int .i64 a2, .int .i64 a3, u]] w fun e w' => e = .returned (.bool true) ∧ Below w.heap.size w w' := by
  have n1 : bv.length ≤ 9223372036854775807 := by omega
  have n2 : ∀ x ∈ bv, x.1.ops.length ≤ 9223372036854775807 := fun x hx => by have := hn2 x hx; omega
  have r1 := rows_rdb (cap := bv.length + 1) hl hL n1 n2
  have r2 := rows_rdb (t := []) (cap := bv.length) hl (by simpa using hD) n1 n2
  obtain ⟨uo, uc, ue, _, _⟩ := id hu
  subst ue
  rw [bdat_length] at hu ⊢
  have hnq := fun (w : World) => run_neq_slice_nil_any (P := Try.prog) w 72 78 none 0 0 0 0 Try.underlying72
  have HL := hL.lt
  have HD := hD.lt
  have hbX : Below w.heap.size w (((w.alloc (.cells #[.int .i64 a0, .int .i64 a1, .int .i64 a2, .int .i64 a3, .slice (some ⟨L, 0, none⟩) bv.length (bv.length + 1)] 24)).alloc (.cells #[.int .i64 a0, .int .i64 a1, .int .i64 a2, .int .i64 a3, .slice uo bv.length uc] 24)).alloc (.cells #[.int .i64 a0, .int .i64 a1, .int .i64 a2, .int .i64 a3, .slice (some ⟨D, 0, none⟩) bv.length bv.length] 24)) :=
    (((Below.refl w.heap.size w).alloc (Nat.le_refl _) _).alloc (by simp) _).alloc (by simp; omega) _
  have W0 : Row (((w.alloc (.cells #[.int .i64 a0, .int .i64 a1, .int .i64 a2, .int .i64 a3, .slice (some ⟨L, 0, none⟩) bv.length (bv.length + 1)] 24)).alloc (.cells #[.int .i64 a0, .int .i64 a1, .int .i64 a2, .int .i64 a3, .slice uo bv.length uc] 24)).alloc (.cells #[.int .i64 a0, .int .i64 a1, .int .i64 a2, .int .i64 a3, .slice (some ⟨D, 0, none⟩) bv.length bv.length] 24)) w.heap.size 24 [.int .i64 a0, .int .i64 a1, .int .i64 a2, .int .i64 a3, .slice (some ⟨L, 0, none⟩) bv.length (bv.length + 1)] := by
    have h : Row (w.alloc (.cells #[.int .i64 a0, .int .i64 a1, .int .i64 a2, .int .i64 a3, .slice (some ⟨L, 0, none⟩) bv.length (bv.length + 1)] 24)) w.heap.size 24 [.int .i64 a0, .int .i64 a1, .int .i64 a2, .int .i64 a3, .slice (some ⟨L, 0, none⟩) bv.length (bv.length + 1)] := heap_alloc_new w _
    exact (h.alloc _).alloc _
  have W1 : Row (((w.alloc (.cells #[.int .i64 a0, .int .i64 a1, .int .i64 a2, .int .i64 a3, .slice (some ⟨L, 0, none⟩) bv.length (bv.length + 1)] 24)).alloc (.cells #[.int .i64 a0, .int .i64 a1, .int .i64 a2, .int .i64 a3, .slice uo bv.length uc] 24)).alloc (.cells #[.int .i64 a0, .int .i64 a1, .int .i64 a2, .int .i64 a3, .slice (some ⟨D, 0, none⟩) bv.length bv.length] 24)) (w.heap.size + 1) 24 [.int .i64 a0, .int .i64 a1, .int .i64 a2, .int .i64 a3, .slice uo bv.length uc] := by
    have h : Row ((w.alloc (.cells #[.int .i64 a0, .int .i64 a1, .int .i64 a2, .int .i64 a3, .slice (some ⟨L, 0, none⟩) bv.length (bv.length + 1)] 24)).alloc (.cells #[.int .i64 a0, .int .i64 a1, .int .i64 a2, .int .i64 a3, .slice uo bv.length uc] 24)) (w.heap.size + 1) 24 [.int .i64 a0, .int .i64 a1, .int .i64 a2, .int .i64 a3, .slice uo bv.length uc] := heap_alloc2_new w _ _
    exact h.alloc _
  have W2 : Row (((w.alloc (.cells #[.int .i64 a0, .int .i64 a1, .int .i64 a2, .int .i64 a3, .slice (some ⟨L, 0, none⟩) bv.length (bv.length + 1)] 24)).alloc (.cells #[.int .i64 a0, .int .i64 a1, .int .i64 a2, .int .i64 a3, .slice uo bv.length uc] 24)).alloc (.cells #[.int .i64 a0, .int .i64 a1, .int .i64 a2, .int .i64 a3, .slice (some ⟨D, 0, none⟩) bv.length bv.length] 24)) (w.heap.size + 2) 24 [.int .i64 a0, .int .i64 a1, .int .i64 a2, .int .i64 a3, .slice (some ⟨D, 0, none⟩) bv.length bv.length] := by
    have h := heap_alloc2_new (w.alloc (.cells #[.int .i64 a0, .int .i64 a1, .int .i64 a2, .int .i64 a3, .slice (some ⟨L, 0, none⟩) bv.length (bv.length + 1)] 24)) (.cells #[.int .i64 a0, .int .i64 a1, .int .i64 a2, .int .i64 a3, .slice uo bv.length uc] 24) (.cells #[.int .i64 a0, .int .i64 a1, .int .i64 a2, .int .i64 a3, .slice (some ⟨D, 0, none⟩) bv.length bv.length] 24)
    simp only [World.size_alloc] at h
    exact h
  have hzX : (((w.alloc (.cells #[.int .i64 a0, .int .i64 a1, .int .i64 a2, .int .i64 a3, .slice (some ⟨L, 0, none⟩) bv.length (bv.length + 1)] 24)).alloc (.cells #[.int .i64 a0, .int .i64 a1, .int .i64 a2, .int .i64 a3, .slice uo bv.length uc] 24)).alloc (.cells #[.int .i64 a0, .int .i64 a1, .int .i64 a2, .int .i64 a3, .slice (some ⟨D, 0, none⟩) bv.length bv.length] 24)).heap.size = w.heap.size + 3 := by simp
  go_enter Try.func37, Try.ntmps37
  go_wp2_with fail
  refine (sameProg_any _ _ _ _ _ _ _ _ (r1.keep hbX) (hu.keep hbX)).mono ?_
  rintro e w1 ⟨rfl, hb1⟩
  have V0 := W0.keep hb1
  have V1 := W1.keep hb1
  have V2 := W2.keep hb1
  have hb01 : Below w.heap.size w w1 := hbX.trans (hb1.mono (by rw [hzX]; omega))
  have hz1 := hb1.size
  rw [hzX] at hz1
  clear hb1 W0 W1 W2 hbX hzX
  have x4 := V0.cell (i := 4) rfl
  have y0 := V1.cell (i := 0) rfl
  have y1 := V1.cell (i := 1) rfl
  have y2 := V1.cell (i := 2) rfl
  have y3 := V1.cell (i := 3) rfl
  have y4 := V1.cell (i := 4) rfl
  have z0 := V2.cell (i := 0) rfl
  have z1 := V2.cell (i := 1) rfl
  have z2 := V2.cell (i := 2) rfl
  have z3 := V2.cell (i := 3) rfl
  have z4 := V2.cell (i := 4) rfl
  go_wp2_with fail
  refine (sameProg_any _ _ _ _ _ _ _ _ (r2.keep hb01) (hu.keep hb01)).mono ?_
  rintro e w2 ⟨rfl, hb2⟩
  have hb02 := hb01.trans (hb2.mono (by omega))
  have yy := cell_keep hb2 x4
  have hL2 := hL.keep hb02
  have hD2 := hD.keep hb02
  have hl2 := hl.keep hb02
  have hpl := blkCells_length bv
  have l0 := hL2.cell (i := bv.length * 5) (u := .slice none 0 0) (by rw [List.getElem?_append_right (by omega), hpl, Nat.sub_self]; rfl)
  have l1 := hL2.cell (i := bv.length * 5 + 1) (u := .int .i64 77) (by rw [List.getElem?_append_right (by omega), hpl, Nat.add_sub_cancel_left]; rfl)
  clear x4 y0 y1 y2 y3 y4 z0 z1 z2 z3 z4 V0 V1 V2 r1 r2 hb01 hb2 hL hD hl
  go_wp2
  go_loop [12] (fun i => ∃ (k : Nat), k ≤ bv.length ∧ i = .int .i64 k) (fun i => bv.length - (intOf i).toNat)
  case atStart => exact ⟨0, Nat.zero_le _, rfl⟩
  case round =>
    obtain ⟨k, hk, rfl⟩ := hrel
    by_cases hlt : k < bv.length
    · obtain ⟨g0, _⟩ := blkCells_get bv k hlt
      obtain ⟨p, _, ep, hp⟩ := hl2 _ (List.getElem_mem hlt)
      have hm := hn2 _ (List.getElem_mem hlt)
      have d2 := hD2.cell g0
      rw [ep] at d2
      have hql := opCells_length bv[k].1.ops
      have p0 := hp.cell (i := bv[k].1.ops.length * 4) (u := .int .i64 77) (by rw [List.getElem?_append_right (by omega), hql, Nat.sub_self]; rfl)
      clear ep g0 hql hp
      generalize bv[k].1.ops.length = m at *
      go_wp2
      go_round
      case rel => exact ⟨k + 1, by omega, by go_num⟩
      case measure => simp [intOf]; omega
    · go_wp2
      go_ret
      exact ⟨rfl, hb02⟩

/-! ### The calls themselves -/

set_option maxRecDepth 100000 in
set_option maxHeartbeats 1000000 in
theorem tEncode_any (p : ProgD) (v : Value) (w : World) (hr : RdBlocks w v p.blocks) :
    Calls Try.prog 19 #[progV p v] w fun e w' => e = .returned (.tuple (if progGood p then #[.string (str (progText p)), .int .i64 0] else #[.string ⟨#[]⟩, .int .i64 1])) ∧ Below w.heap.size w w' := by
  obtain ⟨a0, a1, a2, a3, l⟩ := p
  unfold progV
  simp only at hr ⊢
  obtain ⟨ao, cap, e0, _, _⟩ := id hr
  subst e0
  have hc := cEncode_any a0 a1 a2 a3 _ l (w.alloc (.cells #[.int .i64 a0, .int .i64 a1, .int .i64 a2, .int .i64 a3, .slice ao l.length cap] 24)) (hr.keep ((Below.refl _ _).alloc (Nat.le_refl _) _))
  cases hg : progGood ⟨a0, a1, a2, a3, l⟩
  · simp only [hg] at hc
    go_enter Try.func19, Try.ntmps19
    go_wp2_with fail
    refine hc.mono ?_
    rintro e w1 ⟨rfl, hb1⟩
    clear hc
    go_wp2
    go_ret2
    exact ⟨by simp [hg], ((Below.refl _ _).alloc (Nat.le_refl _) _).trans (hb1.mono (by simp))⟩
  · simp only [hg] at hc
    go_enter Try.func19, Try.ntmps19
    go_wp2_with fail
    refine hc.mono ?_
    rintro e w1 ⟨rfl, hb1⟩
    clear hc
    go_wp2
    go_ret2
    exact ⟨by simp [hg], ((Below.refl _ _).alloc (Nat.le_refl _) _).trans (hb1.mono (by simp))⟩

def zProg : Value := .agg #[.int .i64 0, .int .i64 0, .int .i64 0, .int .i64 0, .slice none 0 0]

set_option maxRecDepth 100000 in
set_option maxHeartbeats 1000000 in
theorem tDecode_cps (s : ByteArray) (w : World) (hs : s.size ≤ maxLen) (Post : Ending → World → Prop)
    (hyes : ∀ a0 a1 a2 a3 l v bv w', OwnBlocks w' w.heap.size v bv → bdat bv = l → progGood ⟨a0, a1, a2, a3, l⟩ = true → str (progText ⟨a0, a1, a2, a3, l⟩) = s → Below w.heap.size w w' → Post (.returned (.tuple #[.agg #[.int .i64 a0, .int .i64 a1, .int .i64 a2, .int .i64 a3, v], .int .i64 0])) w')
    (hno : ∀ w', (∀ p, progGood p = true → str (progText p) ≠ s) → Below w.heap.size w w' → Post (.returned (.tuple #[.agg #[.int .i64 0, .int .i64 0, .int .i64 0, .int .i64 0, .slice none 0 0], .int .i64 1])) w') :
    Calls Try.prog 18 #[.string s] w Post := by
  have hc := cDecode_any s (w.alloc (.cells #[.int .i64 0, .int .i64 0, .int .i64 0, .int .i64 0, .slice none 0 0] 24)) hs
  have hW : Row (w.alloc (.cells #[.int .i64 0, .int .i64 0, .int .i64 0, .int .i64 0, .slice none 0 0] 24)) w.heap.size 24 [.int .i64 0, .int .i64 0, .int .i64 0, .int .i64 0, .slice none 0 0] := heap_alloc_new w _
  go_enter Try.func18, Try.ntmps18
  go_wp2_with fail
  refine hc.mono ?_
  clear hc
  rintro e w1 ⟨hor, hb1⟩
  have hz1 := hb1.size
  simp at hz1
  have V := hW.keep hb1
  have x0 := V.cell (i := 0) rfl
  have x1 := V.cell (i := 1) rfl
  have x2 := V.cell (i := 2) rfl
  have x3 := V.cell (i := 3) rfl
  have x4 := V.cell (i := 4) rfl
  have f0 := V.frozen 0
  have f1 := V.frozen 1
  have f2 := V.frozen 2
  have f3 := V.frozen 3
  have f4 := V.frozen 4
  have hb2 : Below w.heap.size w w1 := ((Below.refl _ _).alloc (Nat.le_refl _) _).trans (hb1.mono (by simp))
  rcases hor with ⟨⟨a0, a1, a2, a3, l⟩, v, bv, rfl, ho, hd, hg, ht⟩ | ⟨hn, rfl⟩
  · obtain ⟨ao, cap, rfl⟩ := owns_slice ho.row
    have ho' : OwnBlocks w1 (w.heap.size + 1) (.slice ao bv.length cap) bv := by simpa using ho
    have hfin := hyes a0 a1 a2 a3 l (.slice ao bv.length cap) bv (((((w1.setCell ⟨w.heap.size, 0, none⟩ (.int .i64 a0)).setCell ⟨w.heap.size, 1, none⟩ (.int .i64 a1)).setCell ⟨w.heap.size, 2, none⟩ (.int .i64 a2)).setCell ⟨w.heap.size, 3, none⟩ (.int .i64 a3)).setCell ⟨w.heap.size, 4, none⟩ (.slice ao bv.length cap))
      ((((((ho'.set (by simp) _).set (by simp) _).set (by simp) _).set (by simp) _).set (by simp) _).base (by omega)) hd hg ht
      (((((hb2.setCell (by simp) _).setCell (by simp) _).setCell (by simp) _).setCell (by simp) _).setCell (by simp) _)
    clear hyes hno ho ho' hg ht
    unfold progV
    go_wp2
    exact bodyPost_ret (v := .tuple #[.agg #[.int .i64 a0, .int .i64 a1, .int .i64 a2, .int .i64 a3, .slice ao bv.length cap], .int .i64 0]) (by simp [results, Try.results18, go_sem, x0, x1, x2, x3, x4]) rfl hfin
  · have hfin := hno (((((w1.setCell ⟨w.heap.size, 0, none⟩ (.int .i64 0)).setCell ⟨w.heap.size, 1, none⟩ (.int .i64 0)).setCell ⟨w.heap.size, 2, none⟩ (.int .i64 0)).setCell ⟨w.heap.size, 3, none⟩ (.int .i64 0)).setCell ⟨w.heap.size, 4, none⟩ (.slice none 0 0)) hn
      (((((hb2.setCell (by simp) _).setCell (by simp) _).setCell (by simp) _).setCell (by simp) _).setCell (by simp) _)
    clear hyes hno hn
    go_wp2
    exact bodyPost_ret (v := .tuple #[.agg #[.int .i64 0, .int .i64 0, .int .i64 0, .int .i64 0, .slice none 0 0], .int .i64 1]) (by simp [results, Try.results18, go_sem, x0, x1, x2, x3, x4]) rfl hfin

end Go.Proofs.Ytdjdjkgoelbbdaa

/- Comparing programs, in twinkeep. -/
set_option linter.unusedSimpArgs false
set_option linter.unusedVariables false
namespace Go.Proofs.Ytdjdjkgoelbbdaa
open Go.RowKit

set_option maxRecDepth 100000 in
set_option maxHeartbeats 1000000 in
theorem kSameOps_any (v u : Value) (ps : List OpD) (w : World) (hv : RdOps w v ps) (hu : RdOps w u ps) :
    Calls Try.prog 78 #[v, u] w fun e w' => e = .returned (.bool true) ∧ Below w.heap.size w w' := by
  obtain ⟨ao, cap, rfl, hl, hc⟩ := hv
  obtain ⟨bo, cap2, rfl, _, hd⟩ := hu
  go_enter Try.func78, Try.ntmps78
  go_wp2
  go_loopw [5] (fun i wr => ∃ (k : Nat), k ≤ ps.length ∧ i = .int .i64 k ∧ Below w.heap.size w wr)
    (fun i _ => ps.length - (intOf i).toNat)
  case atStart => exact ⟨0, Nat.zero_le _, rfl, Below.refl _ _⟩
  case round =>
    obtain ⟨k, hk, rfl, hbel⟩ := hrel
    by_cases hlt : k < ps.length
    · obtain ⟨b, off, rfl, c1, c2, c3, c4⟩ := hc k hlt
      obtain ⟨b', off', rfl, d1, d2, d3, d4⟩ := hd k hlt
      have e1 := cell_keep hbel c1
      have e2 := cell_keep hbel c2
      have e3 := cell_keep hbel c3
      have e4 := cell_keep hbel c4
      have f1 := cell_keep hbel d1
      have f2 := cell_keep hbel d2
      have f3 := cell_keep hbel d3
      have f4 := cell_keep hbel d4
      go_wp2
      go_quiet (fail)
      go_wp2
      go_roundw
      case rel => exact ⟨k + 1, by omega, by go_num, below_drewN hbel _⟩
      case measure => simp [intOf]; omega
    · go_wp2
      go_ret
      exact ⟨rfl, hbel⟩

set_option maxRecDepth 100000 in
set_option maxHeartbeats 2000000 in
theorem kSameProg_any (a0 a1 a2 a3 : Int) (v u : Value) (l : List BlockD) (w : World) (hv : RdBlocks w v l) (hu : RdBlocks w u l) :
    Calls Try.prog 54 #[.agg #[.int .i64 a0, .int .i64 a1, .int .i64 a2, .int .i64 a3, v], .agg #[.int .i64 a0, .int .i64 a1, .int .i64 a2, .int .i64 a3, u]] w fun e w' => e = .returned (.bool true) ∧ Below w.heap.size w w' := by
  obtain ⟨ao, cap, rfl, hl, hc⟩ := hv
  obtain ⟨bo, cap2, rfl, _, hd⟩ := hu
  go_enter Try.func54, Try.ntmps54
  go_wp2
  go_loopw [5] (fun i wr => ∃ (k : Nat), k ≤ l.length ∧ i = .int .i64 k ∧ Below (w.heap.size + 2) ((w.alloc (.cells #[.int .i64 a0, .int .i64 a1, .int .i64 a2, .int .i64 a3, .slice ao l.length cap] 24)).alloc (.cells #[.int .i64 a0, .int .i64 a1, .int .i64 a2, .int .i64 a3, .slice bo l.length cap2] 24)) wr)
    (fun i _ => l.length - (intOf i).toNat)
  case atStart => exact ⟨0, Nat.zero_le _, rfl, Below.refl _ _⟩
  case round =>
    obtain ⟨k, hk, rfl, hbel⟩ := hrel
    have hb0 : Below w.heap.size w wr := (((Below.refl w.heap.size w).alloc (Nat.le_refl _) _).alloc (by simp) _).trans (hbel.mono (by omega))
    have x0 : wr.cell? ⟨w.heap.size, 4, none⟩ = some (.slice ao l.length cap) := (hbel.cell (by simp)).trans (by simp)
    have x1 : wr.cell? ⟨w.heap.size + 1, 4, none⟩ = some (.slice bo l.length cap2) := (hbel.cell (by simp)).trans (by simp)
    have hzz := hbel.size
    simp at hzz
    by_cases hlt : k < l.length
    · obtain ⟨b, off, sv, rfl, c1, c2, c3, c4, c5, c6⟩ := hc k hlt
      obtain ⟨b', off', tv, rfl, d1, d2, d3, d4, d5, d6⟩ := hd k hlt
      have e1 := cell_keep hb0 c1
      have e2 := cell_keep hb0 c2
      have e3 := cell_keep hb0 c3
      have e4 := cell_keep hb0 c4
      have e5 := cell_keep hb0 c5
      have f1 := cell_keep hb0 d1
      have f2 := cell_keep hb0 d2
      have f3 := cell_keep hb0 d3
      have f4 := cell_keep hb0 d4
      have f5 := cell_keep hb0 d5
      have r1 := c6.keep hb0
      have r2 := d6.keep hb0
      have q0 := fun x : Past wr.heap.size wr => x.cell x0
      have q1 := fun x : Past wr.heap.size wr => x.cell x1
      have q2 := fun x : Past wr.heap.size wr => x.cell e1
      have q3 := fun x : Past wr.heap.size wr => x.cell f1
      have np := Past.any wr.heap.size wr
      go_wp2
      refine wp_region_past wr.heap.size (by kernel_rfl) (by kernel_rfl) ?_
      repeat (go_big_quiet_step (exact Calls.past_of (Nat.le_refl _) (kSameOps_any _ _ _ _ (r1.keep (Past.ok _)) (r2.keep (Past.ok _)))))
      refine wpQuiet_nil ?_
      rintro _ ⟨x, rfl⟩
      have y0 := x.cell x0
      have y1 := x.cell x1
      have g2 := x.cell e2
      have g3 := x.cell e3
      have g4 := x.cell e4
      have g5 := x.cell e5
      have h2 := x.cell f2
      have h3 := x.cell f3
      have h4 := x.cell f4
      have h5 := x.cell f5
      have hb1 := hbel.trans (x.ok.mono (by omega))
      generalize x.wd = w1 at *
      clear q0 q1 q2 q3 np
      go_wp2
      go_quiet (fail)
      go_wp2
      go_roundw
      case rel => exact ⟨k + 1, by omega, by go_num, below_drewN hb1 _⟩
      case measure => simp [intOf]; omega
    · go_wp2
      go_ret
      exact ⟨rfl, hb0⟩

end Go.Proofs.Ytdjdjkgoelbbdaa

/- Comparing hints, in twinkeep. -/
set_option linter.unusedSimpArgs false
set_option linter.unusedVariables false
namespace Go.Proofs.Ytdjdjkgoelbbdaa
open Go.RowKit

set_option maxRecDepth 100000 in
set_option maxHeartbeats 2000000 in
theorem kSameHint_any (v u : Value) (h : List PingD) (w : World) (hv : RdHint w v h) (hu : RdHint w u h) :
    Calls Try.prog 55 #[.agg #[v], .agg #[u]] w fun e w' => e = .returned (.bool true) ∧ Below w.heap.size w w' := by
  obtain ⟨ao, cap, rfl, hl, hc⟩ := hv
  obtain ⟨bo, cap2, rfl, _, hd⟩ := hu
  go_enter Try.func55, Try.ntmps55
  go_wp2
  go_loopw [5] (fun i wr => ∃ (k : Nat), k ≤ h.length ∧ i = .int .i64 k ∧ Below (w.heap.size + 2) ((w.alloc (.cells #[.slice ao h.length cap] 31)).alloc (.cells #[.slice bo h.length cap2] 31)) wr)
    (fun i _ => h.length - (intOf i).toNat)
  case atStart => exact ⟨0, Nat.zero_le _, rfl, Below.refl _ _⟩
  case round =>
    obtain ⟨k, hk, rfl, hbel⟩ := hrel
    have hb0 : Below w.heap.size w wr := (((Below.refl w.heap.size w).alloc (Nat.le_refl _) _).alloc (by simp) _).trans (hbel.mono (by omega))
    have x0 : wr.cell? ⟨w.heap.size, 0, none⟩ = some (.slice ao h.length cap) := (hbel.cell (by simp)).trans (by simp)
    have x1 : wr.cell? ⟨w.heap.size + 1, 0, none⟩ = some (.slice bo h.length cap2) := (hbel.cell (by simp)).trans (by simp)
    by_cases hlt : k < h.length
    · obtain ⟨b, off, sv, rfl, c1, c2, c3⟩ := hc k hlt
      obtain ⟨b', off', tv, rfl, d1, d2, d3⟩ := hd k hlt
      have e1 := cell_keep hb0 c1
      have e2 := cell_keep hb0 c2
      have e3 := cell_keep hb0 d1
      have e4 := cell_keep hb0 d2
      obtain ⟨so, sc, es, hsl, hps⟩ := c3.keep hb0
      obtain ⟨to, tc, et, _, hpt⟩ := d3.keep hb0
      subst es
      subst et
      obtain ⟨wo, hwo⟩ : ∃ wo, wo = wr := ⟨_, rfl⟩
      subst hwo
      go_wp2
      go_quiet (fail)
      go_wp2
      go_loopw [8] (fun i w2 => ∃ (j : Nat), j ≤ (hpairs h k).length ∧ i = .int .i64 j ∧ Below wo.heap.size wo w2)
        (fun i _ => (hpairs h k).length - (intOf i).toNat)
      case atStart => exact ⟨0, Nat.zero_le _, rfl, below_drewN (Below.refl _ _) _⟩
      case round =>
        obtain ⟨j, hj, rfl, hbin⟩ := hrel
        by_cases hjl : j < (hpairs h k).length
        · obtain ⟨b2, off2, rfl, f1, f2⟩ := hps j hjl
          obtain ⟨b3, off3, rfl, g1, g2⟩ := hpt j hjl
          have k1 := cell_keep hbin f1
          have k2 := cell_keep hbin f2
          have k3 := cell_keep hbin g1
          have k4 := cell_keep hbin g2
          clear x0 x1 e1 e2 e3 e4
          go_wp2
          go_quiet (fail)
          go_wp2
          go_roundw
          case rel => exact ⟨j + 1, by omega, by go_num, below_drewN hbin _⟩
          case measure => simp [intOf]; omega
        · have hzz := hbel.size
          simp at hzz
          have hb2 := hbel.trans (hbin.mono (by omega))
          clear x0 x1 e1 e2 e3 e4
          go_wp2
          go_roundw
          case rel => exact ⟨k + 1, by omega, by go_num, hb2⟩
          case measure => simp [intOf]; omega
    · go_wp2
      go_ret
      exact ⟨rfl, hb0⟩

end Go.Proofs.Ytdjdjkgoelbbdaa
